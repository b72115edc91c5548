import PyProof.Rows.All
import Wide.All
import OpenK.AllK
import Wide.FinOn
import Lean
import PyProof.EqAt
import PyProof.EqKinds
import PyProof.TupleCall
import PySem.Sem
import PyProof.P3Statements
import PyProof.SliceList
import PyProof.Dict
import PyProof.TupleKey
import PyProof.P3In
import PyProof.NeData
import KE.KRevIter
import PyProof.CollectIter
import PyProof.TupleOfGen
import PyProof.DictRoadsH
import PyProof.P3Eq
import PyProof.FactsAll.NoneType_1
import PyProof.FString2
import KE.KDictOf
import PyProof.DictDisplay
import PyProof.ListRange
import PyProof.MinMaxWalk
import PyProof.WalkInts
import PyProof.DictItems
import PyProof.Draws
import PyProof.EnumMake
import PyProof.Rows.TupIter
import KE.KPairComp
import PyProof.Rows.SetFrom
import PyProof.Rows.SortWalk
import KE.KSortedM
import PyProof.IsRules
import PyProof.ListMulRoad
import PyProof.AutoSeq1
import PyProof.FactsAll.tuple_2
import KE.KTryMore
import OpenK.KOwn
import PyProof.NsDelKeeps
import PyProof.ExcAttrAll.ValueError
import PyProof.Rows.SortRuns
import PyProof.Rows.SortShell
import KE.KDictSum
import PySem.Challenge.RW_losspact_k51_parts_of_weathers
set_option hygiene false
local macro_rules|`(!0)=>`(⟨rfl,rfl,rfl,by decide+kernel,rfl,by decide+kernel,by decide+kernel⟩)
local macro_rules|`(!1)=>`((by omega))
local macro_rules|`(!2)=>`((List.range h))
local macro_rules|`(!3)=>`((model prog w))
local macro_rules|`(!4)=>`((Or.inl rfl))
local macro_rules|`(!5)=>`((by decide+kernel))
local macro_rules|`(!6)=>`((model X.prog X.w))
local macro_rules|`(!7)=>`((.ref s.heap.objs.size))
def K9:=@List.mem_cons_of_mem
def K8:=@List.mem_cons_self
def K7:=@PySem.Heap.get?_push_of_some
def K6:=@List.mem_singleton
def K5:=@Bool.false_ne_true
def K4:=@List.length_map
def K3:=@List.getElem?_eq_getElem
def K2:=@Nat.le_refl
def K1:=@List.length_append
def K0:=@List.mem_cons
def Kk:=@List.mem_append
def Kx:=@List.mem_append_right
def Ku:=@Int.toNat_natCast
def Ky:=@PySem.Heap.get?_push_size
def Kj:=@List.size_toArray
def Kz:=@List.length_cons
def Kw:=@List.mem_map
def Kv:=@PySem.Heap.lt_size
def Kq:=@Array.length_toList
def KU:=@List.nodup_cons
def KY:=@List.getElem?_map
def KJ:=@Nat.le_trans
def KZ:=@List.map_cons
def KW:=@List.mem_append_left
def KQ:=@List.map_map
def X9:=@Bool.and_eq_true
def X8:=@List.length_range
def X7:=@List.getD_eq_getElem?_getD
def X6:=@Nat.lt_of_lt_of_le
def X5:=@List.append_assoc
def X4:=@Nat.ne_of_lt
def X3:=@List.length_singleton
def X2:=@List.nodup_nil
def X1:=@List.getElem?_eq_some_iff
def X0:=@List.map_append
def Xk:=@List.length_take
def Xx:=@List.getElem?_append_left
def Xu:=@List.getElem?_append_right
def Xy:=@Nat.zero_le
def Xj:=@List.append_nil
def Xz:=@Nat.lt_of_le_of_lt
def Xw:=@List.getElem?_set_ne
def Xv:=@List.nodup_append
def Xq:=@List.getElem?_eq_none
def XX:=@PySem.Heap.get?_update_self
def XU:=@List.mem_range
def XY:=@PySem.Heap.size_push
def XJ:=@Bool.false_eq_true
def XZ:=@Bool.and_self
def XW:=@List.length_set
def XQ:=@List.length_drop
def U9:=@List.take_of_length_le
def U8:=@List.getElem?_set_self
def U7:=@List.length_filter_le
def U6:=@List.cons_append
def U5:=@List.drop_eq_getElem_cons
def U4:=@List.find?_cons
def U3:=@Nat.lt_irrefl
def U2:=@List.mem_of_mem_take
def U1:=@List.mem_of_mem_drop
def U0:=@Option.map_some
def Uk:=@List.replicate_succ
def Ux:=@List.take_append_drop
def Uu:=@List.length_replicate
def Uy:=@Array.getElem?_toList
def Uj:=@Nat.lt_succ_self
def Uz:=@List.mem_reverse
def Uw:=@List.all_eq_true
def Uv:=@Nat.ne_of_gt
def Uq:=@List.map_congr_left
def UK:=@List.length_reverse
def UX:=@List.getElem_mem
def UU:=@Nat.lt_succ_of_lt
def UY:=@Array.toList_append
def UJ:=@List.mem_filter
def UZ:=@List.foldl_cons
def UW:=@List.pairwise_append
def UQ:=@List.flatten_cons
def Y9:=@List.getElem?_range
def Y8:=@List.mem_flatMap
def Y7:=@List.filter_cons
def Y6:=@List.drop_zero
def Y5:=@Nat.le_succ
def Y4:=@Nat.succ_mul
def Y3:=@Int.emod_lt_of_pos
def Y2:=@List.length_nil
def Y1:=@List.mem_of_getElem?
def Y0:=@Nat.le_of_lt
def Yk:=@List.lookup_cons
def Yx:=@Int.le_of_lt
def Yu:=@List.pairwise_iff_getElem
def Yy:=@Array.getElem?_eq_getElem
def Yj:=@List.mem_map_of_mem
def Yz:=@List.range_succ
def Yw:=@Int.emod_nonneg
def Yv:=@Bool.eq_iff_iff
def Yq:=@List.length_eq_zero_iff
def YK:=@List.getElem_take
def YX:=@List.drop_sublist
def YU:=@Int.le_trans
def YY:=@Array.toList_push
def YJ:=@List.any_cons
def YZ:=@List.nil_append
def YW:=@List.take_zero
def YV:=@List.drop_drop
def YQ:=@Bool.false_and
def J9:=@List.take_sublist
def J8:=@List.take_add_one
def J7:=@List.reverse_cons
def J6:=@List.getElem_drop
def J5:=@Bool.true_and
def J4:=@List.take_length
def J3:=@List.getElem_map
def J2:=@List.getElem?_replicate
def J1:=@List.getElem?_cons_succ
def J0:=@List.flatMap_nil
def Jk:=@List.ext_getElem
def Jx:=@Nat.mul_comm
def Ju:=@List.map_nil
def Jy:=@List.drop_eq_nil_of_le
def Jj:=@PySem.Heap.get?_update_other
def Jz:=@Nat.le_antisymm
def Jw:=@List.forIn_cons
def Jv:=@List.filter_nil
def Jq:=@List.perm_append_comm
set_option linter.all false
section
open PySem PySem.Spec PyProof PyProof.Rows
def JK:=@wpS_bind
def JX:=@wpS_pure
def JU:=@wpS_get
def JY:=@beq_iff_eq
def JJ:=@decide_eq_true_eq
def JZ:=@wpAny_bind
def JW:=@wpAny_pure
def JV:=@if_neg
def JQ:=@if_pos
def Z9:=@decide_eq_true
def Z8:=@decide_eq_false
def Z7:=@wpAny_holding
def Z6:=@wpAny_call_entry
def Z5:=@wpAny_newObj_type
def Z4:=@wpAny_specialOf
abbrev Z3:=Value->Shared->Prop
abbrev Z2:=PyData
end
set_option maxHeartbeats 0
open PySem.W (nsIn codeIn keepIn fnOf mg_of Frag OpenLaw)
set_option Elab.async false
set_option linter.all false
set_option maxRecDepth 100000
noncomputable section
namespace L2
open PySem PySem.Spec PyProof.Rows
abbrev Key:=Sum Int Str
def Gi:Key->Value->Bool
 | .inl k,v=>Value.isInt k v
 | .inr x,v=>Value.isStrOf x v
def Mu (w:World):Key->Int
 | .inl k=>hashInt k
 | .inr x=>hashStr w x
theorem bP:∀{k:Key} {v:Value},Gi k v=true->(∃i t,k=Sum.inl i/\v=Value.int i t)∨(∃x t,k=Sum.inr x/\v=Value.str x t)
 | .inl i,v,h=>by
  obtain⟨t,e⟩:=Value.isInt_shape (k:=i) (v:=v) h
  exact .inl ⟨i,t,rfl,e⟩
 | .inr x,v,h=>by
  obtain⟨t,e⟩:=Value.isStrOf_shape (x:=x) (v:=v) h
  exact .inr ⟨x,t,rfl,e⟩
theorem G2 (a b:Int):decide ((Sum.inl a:Key)=Sum.inl b)=(a==b):=by
 by_cases e:a=b
 ·subst e;simp
 ·have h:¬ (Sum.inl a:Key)=Sum.inl b:=λq=>e (Sum.inl.inj q)
  rw[Z8 h]
  exact(beq_eq_false_iff_ne.mpr e).symm
theorem G3 (a b:Str):decide ((Sum.inr a:Key)=Sum.inr b)=decide (a=b):=by
 by_cases e:a=b
 ·subst e;simp
 ·have h:¬ (Sum.inr a:Key)=Sum.inr b:=λq=>e (Sum.inr.inj q)
  rw[Z8 h,Z8 e]
theorem G4 (a:Int)(b:Str):decide ((Sum.inl a:Key)=Sum.inr b)=false:=Z8 (λq=>nomatch q)
theorem G5 (a:Str)(b:Int):decide ((Sum.inr a:Key)=Sum.inl b)=false:=Z8 (λq=>nomatch q)
def yR (prog:Program)(w:World):PySem.KeyKind prog w Key where
 is:=Gi
 hash:=Mu w
 inj:=λv a b ha hb=>by
  rcases bP ha with⟨i,t,rfl,rfl⟩ | ⟨x,t,rfl,rfl⟩
  ·rcases bP hb with⟨j,u,rfl,e⟩ | ⟨y,u,rfl,e⟩
   ·injection e with e1 _;rw[e1]
   ·exact nomatch e
  ·rcases bP hb with⟨j,u,rfl,e⟩ | ⟨y,u,rfl,e⟩
   ·exact nomatch e
   ·injection e with e1 _;rw[e1]
 byValue:=λk v h=>by
  rcases bP h with⟨i,t,rfl,rfl⟩ | ⟨x,t,rfl,rfl⟩ <;> rfl
 pyHash:=λhv h=>by
  rcases bP hv with⟨i,t,rfl,rfl⟩ | ⟨x,t,rfl,rfl⟩
  ·exact wpAny_pyHash_int h
  ·exact wpAny_pyHash_str h
 eqBool:=λhu hv h=>by
  rcases bP hu with⟨i,t,rfl,rfl⟩ | ⟨x,t,rfl,rfl⟩
  ·rcases bP hv with⟨j,u,rfl,rfl⟩ | ⟨y,u,rfl,rfl⟩
   ·rw[G2] at h;exact wpAny_eqBool_int h
   ·rw[G4] at h;exact SeqAt.EqAt.int_str i t y u _ _ _ _ h
  ·rcases bP hv with⟨j,u,rfl,rfl⟩ | ⟨y,u,rfl,rfl⟩
   ·rw[G5] at h;exact SeqAt.EqAt.str_int x t j u _ _ _ _ h
   ·rw[G3] at h;exact wpAny_eqBool_str h
 «strs»:=λk x t v h=>by
  rcases bP h with⟨i,u,rfl,e⟩ | ⟨y,u,rfl,e⟩
  ·exact nomatch e
  ·injection e with e1 _
   subst e1
   cases v <;> rfl
inductive V where
 | non | bl (b:Bool) | int (i:Int) | str (x:Str) | Mv (b:Array UInt8) | flt (b:UInt64) | ref (a:Addr) | ty (n:String)
 deriving DecidableEq
def RelV:V->Value->Prop
 | .non,u=>u=Value.none
 | .bl b,u=>u=Value.bool b
 | .int i,u=>∃t,u=Value.int i t
 | .str x,u=>∃t,u=Value.str x t
 | .Mv b,u=>∃t,u=Value.bytes b t
 | .flt b,u=>∃t,u=Value.float b t
 | .ref a,u=>u=Value.ref a
 | .ty n,u=>u=Value.type n
abbrev Vals:List V->List Value->Prop:=Paired RelV
theorem Vals.length {xs:List V}{us:List Value}(r:Vals xs us):xs.length=us.length:=Paired.length r
theorem Vals.get:∀{xs:List V} {us:List Value} {i:Nat} {x:V},Vals xs us->xs[i]? =some x->∃u,us[i]? =some u/\RelV x u
 | _,_,_,_,.nil,e=>by simp at e
 | _,_,0,_,.cons r _,e=>by simp at e;subst e;exact⟨_,rfl,r⟩
 | _,_,i+1,x,.cons _ t,e=>by
  obtain⟨u,h1,h2⟩:=Vals.get (i:=i) (x:=x) t (by simpa using e)
  exact⟨u,by simpa using h1,h2⟩
theorem Vals.set {x:V}{u:Value}(r:RelV x u):∀{xs:List V} {us:List Value} (i:Nat),Vals xs us->Vals (xs.set i x) (us.set i u)
 | _,_,_,.nil=> .nil
 | _,_,0,.cons _ t=> .cons r t
 | _,_,i+1,.cons q t=> .cons q (Vals.set r i t)
theorem Vals.append:∀{xs ys:List V} {us ws:List Value},Vals xs us->Vals ys ws->Vals (xs++ys) (us++ws)
 | _,_,_,_,.nil,s=>s
 | _,_,_,_,.cons r t,s=> .cons r (Vals.append t s)
theorem Vals.take:∀{xs:List V} {us:List Value} (n:Nat),Vals xs us->Vals (xs.take n) (us.take n)
 | _,_,0,_=> .nil
 | _,_,_+1,.nil=> .nil
 | _,_,n+1,.cons r t=> .cons r (Vals.take n t)
theorem Vals.drop:∀{xs:List V} {us:List Value} (n:Nat),Vals xs us->Vals (xs.drop n) (us.drop n)
 | _,_,0,r=>r
 | _,_,_+1,.nil=> .nil
 | _,_,n+1,.cons _ t=>Vals.drop n t
def Ka:Option V->Option Value->Prop
 | some v,some u=>RelV v u
 | none,none=>True
 | _,_=>False
def KV {κ:Type}:List (κ×V)->List (κ×Value)->Prop:=Paired λ(p:κ×V) (q:κ×Value)=>p.1=q.1/\RelV p.2 q.2
def kV:Key->V
 | .inl i=> .int i
 | .inr x=> .str x
inductive HO where
  | lst (xs:List V)
  | tup (xs:List V)
  | dK (kvs:List (Key×V)) | dT (kvs:List (List Key×V))
  | set (S:Int->Bool) (n:Nat)
  | ins (C dx:Addr) (fs:List (Str×V))
  | own (x:Addr)
  | xd (fs:List (Str×V))
  | met (f x:Addr)
  | rng (lo hi:Int)
  | Bm (o:Obj) (u:HO)
  | Ea (ps:Array Value)
  | ext (φ:Heap->Prop)
abbrev Hp:=Addr->Option HO
noncomputable def upd (H:Hp)(a:Addr)(o:HO):Hp:=λb=>if b=a then some o else H b
theorem aw {H:Hp}{a:Addr}{o:HO}:upd H a o a=some o:=by unfold upd;rw[JQ rfl]
theorem aO {H:Hp}{a b:Addr}{o:HO}(h:b≠a):upd H a o b=H b:=by unfold upd;rw[JV h]
theorem Gj {H:Hp}{a b:Addr}{o u:HO}(h:H a=some o)(h':H b=some u)(d:o≠u):a≠b:=by
 intro e;subst e;rw[h] at h';exact d (Option.some.inj h')
theorem cX {H:Hp}{a b:Addr}{o:HO}(h:H a=some o)(h':H b=none):a≠b:=by
 intro e;subst e;rw[h] at h';cases h'
section
variable (P:Program)(w:World)
def dH (H:Hp)(h:Heap)(a:Addr):HO->Prop
 | .lst xs=>xs.length<=sizeLine/\∃(its:List Value) (n:Nat),Vals xs its/\h.get? a=some {cls:=.type "list",data:=.seq its.toArray n}
 | .tup xs=>xs.length<=sizeLine/\∃its:List Value,Vals xs its/\IsTup h a its.toArray
 | .dK kvs=>kvs.length<=sizeLine/\(a==sysModules)=false/\∃vs,KV kvs vs/\h.DictOf (yR P w) a vs
 | .dT kvs=>kvs.length<=sizeLine/\(a==sysModules)=false/\∃xs:List (List Key×Addr×Value),
   Paired (λ(p:List Key×V) (q:List Key×Addr×Value)=>p.1=q.1/\H q.2.1=some (.tup (p.1.map kV))/\RelV p.2 q.2.2) kvs xs/\
   ∃o es ep,h.get? a=some o/\o.ExactDict/\o.data= .dict es ep/\es.toList=xs.map (entryOfKey (tupleKind (yR P w)))/\(xs.map (·.1)).Nodup
 | .set S n=>h.SetOf (intKind P w) a S n
 | .ins C dx fs=>H dx=some (.own a)/\fs.length<=1000/\dx≠a/\h.get? a=some (PySem.W.instObj C dx)/\
   ∃mA,h.Ns1 dx mA/\(∀f,Ka (fs.lookup f) (mA f))/\PySem.Within mA (fs.map (·.1))
 | .own _=>∃o,h.get? a=some o
 | .xd fs=>∃mA,h.Ns1 a mA/\∀f,Ka (fs.lookup f) (mA f)
 | .rng lo hi=>∃t u v,h.get? a=some {cls:=.type "range",data:=.fields #[.int lo t,.int hi u,.int 1 v]}
 | .Bm o u=>h.get? a=some o/\dH H h a u
 | .Ea ps=>h.get? a=some {cls:=.none,data:=.fields ps}
 | .met f x=>h.get? a=some (PySem.W.methodObj (.ref f) (.ref x))
 | .ext φ=>φ h/\(∃o,h.get? a=some o)/\∀h1 h2:Heap,φ h1->(∀o,h1.get? a=some o->h2.get? a=some o)->φ h2
def oQ (H:Hp)(h:Heap):Prop:=∀a o,H a=some o->dH P w H h a o
end
section
variable {P:Program}{w:World}{H H':Hp}{h h':Heap}{a:Addr}{o:HO}
theorem dH.lt (x:dH P w H h a o):a < h.objs.size:=by
 cases o with
 | lst xs=>obtain⟨_,_,_,_,e⟩:=x;exact Kv e
 | tup xs=>obtain⟨_,_,_,p⟩:=x;exact p.lt
 | dK kvs=>obtain⟨_,_,_,_,o,_,_,e,_⟩:=x;exact Kv e
 | dT kvs=>obtain⟨_,_,_,_,o,_,_,e,_⟩:=x;exact Kv e
 | set S n=>obtain⟨o,_,_,_,e,_⟩:=x;exact Kv e
 | ins C dx fs=>obtain⟨_,_,_,e,_⟩:=x;exact Kv e
 | own y=>obtain⟨_,e⟩:=x;exact Kv e
 | xd fs=>obtain⟨_,⟨_,_,_,e,_⟩,_⟩:=x;exact Kv e
 | rng lo hi=>obtain⟨_,_,_,e⟩:=x;exact Kv e
 | Bm ob u=>obtain⟨e,_⟩:=x;exact Kv e
 | Ea ps=>exact Kv (show h.get? a=some _ from x)
 | met f y=>exact Kv (show h.get? a=some _ from x)
 | ext φ=>obtain⟨_,⟨_,e⟩,_⟩:=x;exact Kv e
theorem Paired.Kb {α β:Type}{F G:α->β->Prop}:∀{l₁:List α} {l₂:List β},Paired F l₁ l₂->(∀a b,F a b->G a b)->Paired G l₁ l₂
 | _,_,.nil,_=> .nil
 | _,_,.cons r t,f=> .cons (f _ _ r) (Paired.Kb t f)
theorem dH.stay (x:dH P w H h a o)(k:∀b u,(b=a∨H b=some (.own a))->h.get? b=some u->h'.get? b=some u)
  (ho:∀b,H b=some (.own a)->H' b=some (.own a)) (ht:∀b xs,H b=some (.tup xs)->H' b=some (.tup xs)):dH P w H' h' a o:=by
 induction o with
 | lst xs=>obtain⟨z,its,n,r,e⟩:=x;exact⟨z,its,n,r,k _ _ (.inl rfl) e⟩
 | tup xs=>obtain⟨z,its,r,ob,e,c⟩:=x;exact⟨z,its,r,ob,k _ _ (.inl rfl) e,c⟩
 | dK kvs=>obtain⟨z,y,vs,r,ob,es,ep,e,c⟩:=x;exact⟨z,y,vs,r,ob,es,ep,k _ _ (.inl rfl) e,c⟩
 | dT kvs=>
  obtain⟨z,y,xs,r,ob,es,ep,e,c⟩:=x
  exact⟨z,y,xs,Paired.Kb r λp q z=>⟨z.1,ht _ _ z.2.1,z.2.2⟩,ob,es,ep,k _ _ (.inl rfl) e,c⟩
 | set S n=>obtain⟨ob,es,ep,t,e,c⟩:=x;exact⟨ob,es,ep,t,k _ _ (.inl rfl) e,c⟩
 | ins C dx fs=>
  obtain⟨d,z,ne,e,mA,⟨od,es,ep,e2,c⟩,r⟩:=x
  exact⟨ho _ d,z,ne,k _ _ (.inl rfl) e,mA,⟨od,es,ep,k _ _ (.inr d) e2,c⟩,r⟩
 | own y=>obtain⟨ob,e⟩:=x;exact⟨ob,k _ _ (.inl rfl) e⟩
 | xd fs=>obtain⟨mA,⟨od,es,ep,e,c⟩,r⟩:=x;exact⟨mA,⟨od,es,ep,k _ _ (.inl rfl) e,c⟩,r⟩
 | rng lo hi=>obtain⟨t,u,v,e⟩:=x;exact⟨t,u,v,k _ _ (.inl rfl) e⟩
 | Bm ob u ih=>obtain⟨e,q⟩:=x;exact⟨k _ _ (.inl rfl) e,ih q⟩
 | Ea ps=>
  have e:h.get? a=some {cls:=.none,data:=.fields ps}:=x
  show h'.get? a=some {cls:=.none,data:=.fields ps}
  exact k a _ (.inl rfl) e
 | met f y=>
  have e:h.get? a=some (PySem.W.methodObj (.ref f) (.ref y)):=x
  show h'.get? a=some (PySem.W.methodObj (.ref f) (.ref y))
  exact k a _ (.inl rfl) e
 | ext φ=>obtain⟨p,⟨o,e⟩,st⟩:=x;exact⟨st _ _ p λo q=>k _ _ (.inl rfl) q,⟨o,k _ _ (.inl rfl) e⟩,st⟩
theorem oQ.lt (x:oQ P w H h)(e:H a=some o):a < h.objs.size:=(x a o e).lt
theorem oQ.fresh (x:oQ P w H h)(e:h.objs.size<=a):H a=none:=by
 cases q:H a with
 | none=>rfl
 | some u=>exact absurd (X6 (x.lt q) e) (U3 _)
theorem oQ.kept (x:oQ P w H h)(k:∀b u,h.get? b=some u->h'.get? b=some u):oQ P w H h':=λa o e=>
 (x a o e).stay (λb u _ q=>k b u q) (λ_ q=>q) λ_ _ q=>q
theorem oQ.laid (x:oQ P w H h)(k:∀b u,h.get? b=some u->h'.get? b=some u)(hp:h.objs.size<=a)(new:dH P w (upd H a o) h' a o):oQ P w (upd H a o) h':=λb u e=>by
 have hn:=x.fresh hp
 by_cases hb:b=a
 ·subst hb;rw[aw] at e;cases e;exact new
 ·rw[aO hb] at e
  exact(x b u e).stay (λc v _ q=>k c v q) (λc q=>by rw[aO (cX q hn)];exact q) λc xs q=>by rw[aO (cX q hn)];exact q
end
def Rd (H:Hp)(a:Addr)(u:HO):Prop:=H a=some u∨∃o,H a=some (.Bm o u)
theorem Rd.of {H:Hp}{a:Addr}{u:HO}(h:H a=some u):Rd H a u:=.inl h
theorem Rd.ok {P:Program}{w:World}{H:Hp}{h:Heap}{a:Addr}{u:HO}(r:Rd H a u)(x:oQ P w H h):dH P w H h a u:=by
 rcases r with r | ⟨o,r⟩
 ·exact x a u r
 ·obtain⟨_,q⟩:=x a _ r
  exact q
def L5:Option HO->Prop
 | some (.lst _)=>True
 | some (.dK _)=>True
 | some (.dT _)=>True
 | some (.set _ _)=>True
 | some (.ins _ _ _)=>True
 | some (.ext _)=>True
 | _=>False
section
variable {P:Program}{w:World}{H:Hp}{h h':Heap}{x e:Addr}{o':HO}
theorem oQ.write (ok:oQ P w H h)(mu:L5 (H x))(he:e=x∨H e=some (.own x))(k:∀b u,b≠e->h.get? b=some u->h'.get? b=some u)(heo:∃u,h'.get? e=some u)
  (new:dH P w (upd H x o') h' x o'):oQ P w (upd H x o') h':=λb u q=>by
 have Kc:∀c y,H c=some (.own y)->c≠x:=λc y r z=>by subst z;rw[r] at mu;exact mu
 have Mw:∀c xs,H c=some (.tup xs)->c≠x:=λc xs r z=>by subst z;rw[r] at mu;exact mu
 by_cases hb:b=x
 ·subst hb;rw[aw] at q;cases q;exact new
 ·rw[aO hb] at q
  by_cases hbe:b=e
  ·have q':H b=some (.own x):=by
    rcases he with z | z
    ·exact absurd (hbe.trans z) hb
    ·rw[hbe];exact z
   rw[q] at q';cases q'
   obtain⟨v,hv⟩:=heo
   exact⟨v,by rw[hbe];exact hv⟩
  ·refine(ok b u q).stay (λc v hc r=>k c v ?_ r) (λc r=>by rw[aO (Kc c b r)];exact r) λc xs r=>by rw[aO (Mw c xs r)];exact r
   rcases hc with rfl | hc
   ·exact hbe
   ·rintro rfl
    rcases he with z | z
    ·exact Kc c b hc z
    ·rw[hc] at z;cases z;exact hb rfl
end
structure Un (fs ex:List Addr)(H H':Hp)(h h':Heap):Prop where
 keep:∀b o,h.get? b=some o->H b=none->b∉fs->b∉ex->h'.get? b=some o
 slot:∀b o,h.get? b=some o->H b=none->b∈fs->b∉ex->∃sl,h'.get? b=some {o with slots:=sl}
 free:∀b o,h.get? b=some o->H b=none->b∉ex->H' b=none
 there:∀b o,h.get? b=some o->b∉ex->∃o',h'.get? b=some o'
 tups:∀b xs,H b=some (.tup xs)->H' b=some (.tup xs)
 lf:∀b o u,H b=some (.Bm o u)->H' b=some (.Bm o u)
 lI:∀b ps,H b=some (.Ea ps)->∃more,H' b=some (.Ea (ps++more))
section
variable {fs fs' ex ex':List Addr}{H H1 H2:Hp}{h h1 h2 h':Heap}{a x e:Addr}{o:HO}
theorem Un.any (u:Un fs ex H H1 h h1){b:Addr}{ob:Obj}(q:h.get? b=some ob)(n:H b=none)(hx:b∉ex):∃sl,h1.get? b=some {ob with slots:=sl}:=by
 by_cases hb:b∈fs
 ·exact u.slot b ob q n hb hx
 ·exact⟨ob.slots,u.keep b ob q n hb hx⟩
theorem Un.trans (a:Un fs ex H H1 h h1)(b:Un fs ex H1 H2 h1 h2):Un fs ex H H2 h h2 where
 keep:=λc ob q n hc hx=>b.keep c ob (a.keep c ob q n hc hx) (a.free c ob q n hx) hc hx
 slot:=λc ob q n hc hx=>by
  obtain⟨sl,e1⟩:=a.slot c ob q n hc hx
  obtain⟨sl',e2⟩:=b.slot c _ e1 (a.free c ob q n hx) hc hx
  exact⟨sl',e2⟩
 free:=λc ob q n hx=>by
  obtain⟨o',e1⟩:=a.there c ob q hx
  exact b.free c o' e1 (a.free c ob q n hx) hx
 there:=λc ob q hx=>by
  obtain⟨o',e1⟩:=a.there c ob q hx
  exact b.there c o' e1 hx
 tups:=λc xs q=>b.tups c xs (a.tups c xs q)
 lf:=λc ob xs q=>b.lf c ob xs (a.lf c ob xs q)
 lI:=λc ps q=>by
  obtain⟨m1,e1⟩:=a.lI c ps q
  obtain⟨m2,e2⟩:=b.lI c _ e1
  exact⟨m1++m2,by rw[e2,Array.append_assoc]⟩
theorem Un.kept (k:∀b u,h.get? b=some u->h'.get? b=some u):Un fs ex H H h h' :=
 ⟨λb ob q _ _ _=>k b ob q,λb ob q _ _ _=>⟨ob.slots,k b ob q⟩,λ_ _ _ n _=>n,λb ob q _=>⟨ob,k b ob q⟩,λ_ _ q=>q,λ_ _ _ q=>q,λ_ ps q=>⟨#[],by rw[q];simp⟩⟩
theorem Un.refl:Un fs ex H H h h:=Un.kept λ_ _ q=>q
theorem Un.laid (k:∀b u,h.get? b=some u->h'.get? b=some u)(hp:h.objs.size<=a)(hn:H a=none):Un fs ex H (upd H a o) h h' where
 keep:=λb u q _ _ _=>k b u q
 slot:=λb u q _ _ _=>⟨u.slots,k b u q⟩
 free:=λb u q n _=>by rw[aO (X4 (X6 (Kv q) hp))];exact n
 there:=λb u q _=>⟨u,k b u q⟩
 tups:=λb xs q=>by rw[aO (cX q hn)];exact q
 lf:=λb u xs q=>by rw[aO (cX q hn)];exact q
 lI:=λb ps q=>⟨#[],by rw[aO (cX q hn),q];simp⟩
theorem Un.write (mu:L5 (H x))(he:e=x∨H e=some (.own x))(k:∀b u,b≠e->h.get? b=some u->h'.get? b=some u)(heo:∃u,h'.get? e=some u):Un fs ex H (upd H x o) h h':=by
 have hx:∀b,H b=none->b≠x:=λb n z=>by subst z;rw[n] at mu;exact mu
 have hb:∀b,H b=none->b≠e:=λb n z=>by
  subst z
  rcases he with r | r
  ·exact hx b n r
  ·rw[n] at r;cases r
 have hm:∀b u,H b=some u->¬ L5 (some u)->b≠x:=λb u q nm z=>by subst z;rw[q] at mu;exact nm mu
 refine⟨λb u q n _ _=>k b u (hb b n) q,λb u q n _ _=>⟨u.slots,k b u (hb b n) q⟩,λb u q n _=>by rw[aO (hx b n)];exact n,λb u q _=> ?_,
  λb xs q=>by rw[aO (hm b _ q λz=>z)];exact q,λb u xs q=>by rw[aO (hm b _ q λz=>z)];exact q,λb ps q=>⟨#[],by rw[aO (hm b _ q λz=>z),q];simp⟩⟩
 by_cases hbe:b=e
 ·subst hbe;exact heo
 ·exact⟨u,k b u hbe q⟩
theorem Un.mono (u:Un fs ex H H1 h h1)(hs:∀b∈fs,b∈fs')(hx:∀b∈ex,b∈ex'):Un fs' ex' H H1 h h1 :=
 ⟨λb ob q n hb he=>u.keep b ob q n (λz=>hb (hs b z)) λz=>he (hx b z),λ_ _ q n _ he=>u.any q n λz=>he (hx _ z),λb ob q n he=>u.free b ob q n λz=>he (hx b z),λb ob q he=>u.there b ob q λz=>he (hx b z),u.tups,u.lf,u.lI⟩
end
def L6 (h:Heap)(H:Hp):List Addr:=(List.range h.objs.size).filter λa=>(H a).isSome
def tq (h:Heap)(H:Hp):Heap:=PySem.W.hideAll h (L6 h H)
theorem z9 (h:Heap)(H:Hp):(tq h H).objs.size=h.objs.size:=PySem.W.hideAll_size _ _
theorem Bs {h:Heap}{H:Hp}{b:Addr}{o:Obj}(e:h.get? b=some o)(n:H b=none):(tq h H).get? b=some o :=
 PySem.W.hideAll_get _ e λhm=>by
  have q:(H b).isSome=true:=(UJ.mp hm).2
  rw[n] at q;simp at q
theorem Eb {h:Heap}{H:Hp}{b:Addr}{o:Obj}(e:(tq h H).get? b=some o):h.get? b=some o/\H b=none:=by
 have e':h.get? b=some o:=PySem.W.of_hideAll (L6 h H) e
 refine⟨e',?_⟩
 cases q:H b with
 | none=>rfl
 | some x=>
  have hm:b∈L6 h H:=UJ.mpr ⟨XU.mpr (Kv e'),by simp[q]⟩
  have z:(tq h H).get? b=none:=PySem.W.hideAll_none (L6 h H) hm
  rw[z] at e;cases e
def Ec (g h:Heap)(L:Addr):List (Addr×Obj):=(List.range h.objs.size).filterMap λa=>if a=L∨(g.get? a).isSome=true then none else (h.get? a).map λo=>(a,o)
def rest (g h:Heap)(L d:Addr):List (Addr×Obj):=(Ec g h L).filter λp=>decide (p.1≠d)
structure Mod (K:Frag)(mg:Str->Option Value)(base:Heap):Prop where
 L7:K.In base
 glob:base.Ns mainGlobals mg
 blt:∃mb,base.Ns builtinsNs mb/\∀x:Str,x≠ "__name__" ->mb x=bootBuiltins x
 nolimit:base.NoLimit
structure Cx where
 prog:Program
 w:World
 K:Frag
 mg:Str->Option Value
 base:Heap
 A:Around
 N:List Str
 s₀:Shared
 H₀:Hp
 env:Env
 outer:List Env
 stack:List Env
 ex:List Addr
 fn:Str->Bool
 calm:Bool
 pn:List (Addr×Obj)
 xe:Value->Shared->Prop
def frs (l:List Env):List Addr:=l.filterMap (·.frame)
abbrev Cx.fs (X:Cx):List Addr:=frs X.outer
def L8 (sc:Scope)(x:Str):Prop:=sc.names.lookup x=some .local∨sc.names.lookup x=some .cell∨sc.names.lookup x=some .free
def Loc (sc:Scope)(x:Str):Prop:=sc.names.lookup x=some .local∨sc.names.lookup x=some .cell
def Look (env:Env)(h:Heap)(m:Str->Option Value)(x:Str)(u:Value):Prop :=
 (env.kindOf x=some .local/\m x=some u)∨((env.kindOf x=some .cell∨env.kindOf x=some .free)/\∃c,env.cells.lookup x=some c/\h.IsCell c (some u))
structure Cx.Ok (X:Cx):Prop where
 mod:Mod X.K X.mg X.base
 kind:X.env.scope.kind= .function
 glob:X.env.globals=mainGlobals
 blt:X.env.builtins=builtinsNs
 above:X.s₀.heap.objs.size<=X.env.locals
 inj:∀x y c,X.env.cells.lookup x=some c->X.env.cells.lookup y=some c->x=y
 has:∀x,(X.env.kindOf x=some .cell∨X.env.kindOf x=some .free)->∃c,X.env.cells.lookup x=some c
 cab:∀x c,X.fn x=true->X.env.cells.lookup x=some c->X.s₀.heap.objs.size<=c
 hd:X.calm=true->X.A.handled=none
 frames:X.A.frames=some X.stack
 stk:X.stack=X.outer∨(X.stack=X.env :: X.outer/\X.env.frame=some X.env.locals)
 G6:∀b∈X.ex,b≠X.env.locals/\∀x c,X.env.cells.lookup x=some c->c≠b
 bs:∀b o,X.base.get? b=some o->X.s₀.heap.get? b=some o/\X.H₀ b=none
 xA:X.base.objs.size<=X.s₀.heap.objs.size
 tu:∀b o,X.base.get? b=some o->b∉X.ex
 u_:∀b∈X.ex,b∉X.fs
 kS:X.s₀.heap.FunFrames X.base X.outer
 Bt:∀b∈X.fs,X.H₀ b=none
structure Inv (X:Cx)(pins:List (Addr×Obj))(σ:List (Option V))(H:Hp)(s:Shared):Prop where
 ok:X.Ok
 os:s.os=X.s₀.os
 bare:AllBare s.gens
 base:Un X.fs X.ex X.H₀ H X.s₀.heap s.heap
 loc:∃m,s.heap.Ns X.env.locals m/\∀(i:Nat) (x:Str) (v:V),X.N[i]? =some x->σ[i]? =some (some v)->L8 X.env.scope x->∃u,RelV v u/\Look X.env s.heap m x u
 cell:∀x c,X.env.cells.lookup x=some c->∃v,s.heap.IsCell c v
 free:H X.env.locals=none
 iY:∀x c,X.env.cells.lookup x=some c->H c=none
 pin:∀p∈X.pn++pins,s.heap.get? p.1=some p.2/\H p.1=none/\p.1≠X.env.locals/\p.1∉X.fs/\∀v,p.2.data≠ .cell v
 hok:oQ X.prog X.w H s.heap
 len:σ.length=X.N.length
section
variable {X:Cx}{pins:List (Addr×Obj)}{σ:List (Option V)}{H H':Hp}{s:Shared}{h':Heap}
theorem Cx.Ok.Mx (ok:X.Ok){b:Addr}{o:Obj}(e:X.base.get? b=some o):b∉X.fs:=λhb=>by
 have:=(ok.kS.mem hb).1
 rw[e] at this;cases this
theorem Inv.bs (I:Inv X pins σ H s):∀b o,X.base.get? b=some o->s.heap.get? b=some o/\H b=none:=λb o e=>
 ⟨I.base.keep b o (I.ok.bs b o e).1 (I.ok.bs b o e).2 (I.ok.Mx e) (I.ok.tu b o e),I.base.free b o (I.ok.bs b o e).1 (I.ok.bs b o e).2 (I.ok.tu b o e)⟩
theorem Inv.bk (I:Inv X pins σ H s):∀b o,X.base.get? b=some o->s.heap.get? b=some o:=λb o e=>(I.bs b o e).1
theorem Inv.mod (I:Inv X pins σ H s):Mod X.K X.mg X.base:=I.ok.mod
theorem Inv.z_ (I:Inv X pins σ H s):X.K.In s.heap:=I.ok.mod.L7.keeps I.bk
theorem Inv.nolimit (I:Inv X pins σ H s):s.heap.NoLimit:=I.ok.mod.nolimit.keeps I.bk
theorem Inv.fr (I:Inv X pins σ H s):∃m,Fr X.base X.env.locals s.heap m :=
 let ⟨m,hn,_⟩:=I.loc
 ⟨m,hn,I.bk,KJ I.ok.xA I.ok.above⟩
theorem Inv.lt (I:Inv X pins σ H s):X.env.locals < s.heap.objs.size:=let ⟨_,hn,_⟩:=I.loc;hn.lt
theorem Inv.sz (I:Inv X pins σ H s):X.s₀.heap.objs.size<=s.heap.objs.size:=KJ I.ok.above (Y0 I.lt)
theorem Inv.Mz (I:Inv X pins σ H s){a:Addr}(h:s.heap.objs.size<=a):a∉X.fs:=λhb=>by
 obtain⟨_,o,ho,_⟩:=I.ok.kS.mem hb
 exact absurd (X6 (Kv ho) (KJ I.sz h)) (U3 _)
theorem Inv.G7 (I:Inv X pins σ H s):∀x c,X.env.cells.lookup x=some c->c≠X.env.locals:=λx c e z=>by
 obtain⟨v,o,ho,hd⟩:=I.cell x c e
 obtain⟨m,⟨o',es,ep,ho',hd',_⟩,_⟩:=I.loc
 rw[z,ho'] at ho;cases ho;rw[hd'] at hd;cases hd
theorem Inv.kS (I:Inv X pins σ H s):s.heap.FunFrames X.base X.outer:=by
 have all:∀(l:List Env),(∀b∈frs l,b∈X.fs)->X.s₀.heap.FunFrames X.base l->s.heap.FunFrames X.base l:=by
  intro l
  induction l with
  | nil=>intro _ _;trivial
  | cons env r ih=>
   intro hs hl
   obtain⟨hk,⟨L,o,hf,hn,ho,hd⟩,hr⟩:=hl
   have hL:L∈X.fs:=hs L (by unfold frs;rw[List.filterMap_cons,hf];exact K8)
   obtain⟨sl,e⟩:=I.base.slot L o ho (I.ok.Bt L hL) hL λz=>I.ok.u_ L z hL
   exact⟨hk,⟨L,_,hf,hn,e,hd⟩,ih (λb hb=>hs b (by unfold frs;rw[List.filterMap_cons,hf];exact K9 _ hb)) hr⟩
 exact all X.outer (λ_ hb=>hb) I.ok.kS
theorem Inv.stack (I:Inv X pins σ H s):s.heap.FunFrames X.base X.stack:=by
 rcases I.ok.stk with e | ⟨e,hf⟩
 ·rw[e];exact I.kS
 ·rw[e]
  obtain⟨m,hn,_⟩:=I.loc
  refine .cons (by rw[I.ok.kind];decide) hf hn ?_ I.kS
  exact Heap.get?_none_of_le (KJ I.ok.xA I.ok.above)
theorem Inv.tv (I:Inv X pins σ H s):∀b∈frs X.stack,b∈X.env.locals :: X.fs:=λb hb=>by
 rcases I.ok.stk with e | ⟨e,hf⟩
 ·rw[e] at hb;exact K9 _ hb
 ·rw[e] at hb
  unfold frs at hb
  rw[List.filterMap_cons,hf] at hb
  exact hb
theorem Inv.tw (I:Inv X pins σ H s):∀b∈frs X.stack,H b=none:=λb hb=>by
 rcases K0.mp (I.tv b hb) with e | hb
 ·rw[e];exact I.free
 ·obtain⟨_,o,ho,_⟩:=I.ok.kS.mem hb
  exact I.base.free b o ho (I.ok.Bt b hb) λz=>I.ok.u_ b z hb
theorem Inv.step {g':Array GenState}{t':Nat}{d':Drawn}{ch:List Addr}(I:Inv X pins σ H s)
  (hch:∀b∈ch,(b∈X.ex∨X.s₀.heap.objs.size<=b)/\b≠X.env.locals/\(∀x c,X.env.cells.lookup x=some c->c≠b)/\∀p∈X.pn++pins,p.1≠b)
  (keep:∀b o,b≠X.env.locals->b∉X.fs->b∉ch->s.heap.get? b=some o->H b=none->h'.get? b=some o)
  (slot:∀b o,b≠X.env.locals->b∈X.fs->b∉ch->s.heap.get? b=some o->H b=none->∃sl,h'.get? b=some {o with slots:=sl}) (free:∀b o,b∉ch->s.heap.get? b=some o->H b=none->H' b=none)
  (there:∀b o,b∉ch->s.heap.get? b=some o->∃o',h'.get? b=some o')
  (tups:∀b xs,H b=some (.tup xs)->H' b=some (.tup xs)) (lf:∀b o u,H b=some (.Bm o u)->H' b=some (.Bm o u)) (lI:∀b ps,H b=some (.Ea ps)->∃more,H' b=some (.Ea (ps++more)))
  (ns:∀m,s.heap.Ns X.env.locals m->h'.Ns X.env.locals m) (hok:oQ X.prog X.w H' h') (hg:AllBare g') :
  Inv X pins σ H' {s with heap:=h',gens:=g',drawn:=d',toks:=t'}:=by
 have NR:∀b o,X.s₀.heap.get? b=some o->b≠X.env.locals:=λb o e=>X4 (X6 (Kv e) I.ok.above)
 have L9:∀b o,X.s₀.heap.get? b=some o->b∉X.ex->b∉ch:=λb o e hx hb=>by
  rcases(hch b hb).1 with z | z
  ·exact hx z
  ·exact absurd (X6 (Kv e) z) (U3 _)
 have cellK:∀x c,X.env.cells.lookup x=some c->∀v,s.heap.IsCell c v->h'.IsCell c v:=λx c e v ⟨o,ho,hd⟩=>by
  have Ke:c∉ch:=λz=>(hch c z).2.2.1 x c e rfl
  by_cases hc:c∈X.fs
  ·obtain⟨sl,q⟩:=slot c o (I.G7 x c e) hc Ke ho (I.iY x c e)
   exact⟨_,q,hd⟩
  ·exact⟨o,keep c o (I.G7 x c e) hc Ke ho (I.iY x c e),hd⟩
 refine⟨I.ok,I.os,hg,⟨λb o e n hb hx=> ?_,λb o e n hb hx=> ?_,λb o e n hx=> ?_,λb o e hx=> ?_,λb xs e=>tups b xs (I.base.tups b xs e),λb o xs e=>lf b o xs (I.base.lf b o xs e),λb ps e=> ?_⟩,?_,λx c e=> ?_,?_,λx c e=> ?_,λp hp=> ?_,hok,I.len⟩
 ·exact keep b o (NR b o e) hb (L9 b o e hx) (I.base.keep b o e n hb hx) (I.base.free b o e n hx)
 ·obtain⟨sl,e1⟩:=I.base.slot b o e n hb hx
  obtain⟨sl',e2⟩:=slot b _ (NR b o e) hb (L9 b o e hx) e1 (I.base.free b o e n hx)
  exact⟨sl',e2⟩
 ·obtain⟨o',e1⟩:=I.base.there b o e hx
  exact free b o' (L9 b o e hx) e1 (I.base.free b o e n hx)
 ·obtain⟨o',e1⟩:=I.base.there b o e hx
  exact there b o' (L9 b o e hx) e1
 ·obtain⟨m1,e1⟩:=I.base.lI b ps e
  obtain⟨m2,e2⟩:=lI b _ e1
  exact⟨m1++m2,by rw[e2,Array.append_assoc]⟩
 ·obtain⟨m,hn,hl⟩:=I.loc
  refine⟨m,ns m hn,λi x v e1 e2 e3=> ?_⟩
  obtain⟨u,r,l⟩:=hl i x v e1 e2 e3
  refine⟨u,r,?_⟩
  rcases l with l | ⟨k,c,e,z⟩
  ·exact .inl l
  ·exact .inr ⟨k,c,e,cellK x c e _ z⟩
 ·obtain⟨v,z⟩:=I.cell x c e
  exact⟨v,cellK x c e v z⟩
 ·obtain⟨m,⟨o,_,_,ho,_⟩,_⟩:=I.loc
  exact free _ o (λz=>(hch _ z).2.1 rfl) ho I.free
 ·obtain⟨v,o,ho,hd⟩:=I.cell x c e
  exact free c o (λz=>(hch c z).2.2.1 x c e rfl) ho (I.iY x c e)
 ·obtain⟨e,n,ne,nf,d⟩:=I.pin p hp
  have Ke:p.1∉ch:=λz=>(hch p.1 z).2.2.2 p hp rfl
  exact⟨keep p.1 p.2 ne nf Ke e n,free p.1 p.2 Ke e n,ne,nf,d⟩
theorem Inv.un {t':Nat}(I:Inv X pins σ H s)(u:Un X.fs [] H H' s.heap h')(hok:oQ X.prog X.w H' h'):Inv X pins σ H' {s with heap:=h',toks:=t'}:=by
 obtain⟨m,⟨o,es,ep,ho,r⟩,_⟩:=id I.loc
 obtain⟨sl,hL⟩:=u.any ho I.free (by simp)
 exact I.step (g':=s.gens) (d':=s.drawn) (ch:=[]) (λ_ z=>nomatch z) (λb o _ hb _ e n=>u.keep b o e n hb (by simp)) (λb o _ hb _ e n=>u.slot b o e n hb (by simp)) (λb o _ e n=>u.free b o e n (by simp)) (λb o _ e=>u.there b o e (by simp)) u.tups u.lf u.lI (λm' hm=>by
  obtain⟨o',es',ep',ho',r'⟩:=hm
  rw[ho] at ho';cases ho'
  exact⟨_,es',ep',hL,r'⟩) hok I.bare
theorem Inv.call {g':Array GenState}{t':Nat}{d':Drawn}{ch:List Addr}(I:Inv X pins σ H s)(u:Un (frs X.stack) ch H H' s.heap h')(hok:oQ X.prog X.w H' h')(hg:AllBare g')
  (hch:∀b∈ch,(b∈X.ex∨X.s₀.heap.objs.size<=b)/\b≠X.env.locals/\(∀x c,X.env.cells.lookup x=some c->c≠b)/\∀p∈X.pn++pins,p.1≠b) :
  Inv X pins σ H' {s with heap:=h',gens:=g',drawn:=d',toks:=t'}:=by
 obtain⟨m,⟨o,es,ep,ho,r⟩,_⟩:=id I.loc
 obtain⟨sl,hL⟩:=u.any ho I.free λz=>(hch _ z).2.1 rfl
 exact I.step (ch:=ch) hch (λb o hL hb hc e n=>u.keep b o e n (λz=>(K0.mp (I.tv b z)).elim hL hb) hc) (λb o _ _ hc e n=>u.any e n hc) (λb o hc e n=>u.free b o e n hc) (λb o hc e=>u.there b o e hc) u.tups u.lf u.lI (λm' hm=>by
  obtain⟨o',es',ep',ho',r'⟩:=hm
  rw[ho] at ho';cases ho'
  exact⟨_,es',ep',hL,r'⟩) hok hg
theorem Inv.turned {t':Nat}{it:Addr}(I:Inv X pins σ H s)(k:∀b o,b≠it->s.heap.get? b=some o->h'.get? b=some o)(hn:H it=none)(hL:it≠X.env.locals)
  (h1:it∈X.ex∨X.s₀.heap.objs.size<=it) (h2:∀x c,X.env.cells.lookup x=some c->c≠it) (h3:∀p∈X.pn++pins,p.1≠it):Inv X pins σ H {s with heap:=h',toks:=t'}:=by
 have NS:∀b u,H b=some u->b≠it:=λb u e z=>by rw[z,hn] at e;cases e
 refine I.step (g':=s.gens) (d':=s.drawn) (ch:=[it]) (λb hb=> ?_) (λb o _ _ hc e _=>k b o (λz=>hc (by simp[z])) e) (λb o _ _ hc e _=>⟨o.slots,k b o (λz=>hc (by simp[z])) e⟩) (λ_ _ _ _ n=>n)
  (λb o hc e=>⟨o,k b o (λz=>hc (by simp[z])) e⟩) (λ_ _ e=>e) (λ_ _ _ e=>e) (λb ps e=>⟨#[],by rw[e];simp⟩) (λm hm=> ?_) (λb u e=> ?_) I.bare
 ·have e:b=it:=by simpa using hb
  subst e
  exact⟨h1,hL,h2,h3⟩
 ·obtain⟨o,es,ep,ho,r⟩:=hm
  exact⟨o,es,ep,k _ o (Ne.symm hL) ho,r⟩
 ·refine(I.hok b u e).stay (λc v hc q=>k c v ?_ q) (λ_ q=>q) λ_ _ q=>q
  rcases hc with z | z
  ·rw[z];exact NS b u e
  ·exact NS c _ z
theorem Inv.tok (I:Inv X pins σ H s)(t:Nat):Inv X pins σ H {s with toks:=t}:=I.un (h':=s.heap) (t':=t) Un.refl I.hok
theorem Inv.kept {t':Nat}(I:Inv X pins σ H s)(k:∀b u,s.heap.get? b=some u->h'.get? b=some u):Inv X pins σ H {s with heap:=h',toks:=t'}:=I.un (Un.kept k) (I.hok.kept k)
theorem Inv.laid {a:Addr}{o:HO}{t':Nat}(I:Inv X pins σ H s)(k:∀b u,s.heap.get? b=some u->h'.get? b=some u)(hp:s.heap.objs.size<=a)(new:dH X.prog X.w (upd H a o) h' a o) :
  Inv X pins σ (upd H a o) {s with heap:=h',toks:=t'}:=I.un (Un.laid k hp (I.hok.fresh hp)) (I.hok.laid k hp new)
theorem Inv.write {x e:Addr}{o:HO}{t':Nat}(I:Inv X pins σ H s)(mu:L5 (H x))(he:e=x∨H e=some (.own x))(k:∀b u,b≠e->s.heap.get? b=some u->h'.get? b=some u)(heo:∃u,h'.get? e=some u)
  (new:dH X.prog X.w (upd H x o) h' x o):Inv X pins σ (upd H x o) {s with heap:=h',toks:=t'}:=I.un (Un.write mu he k heo) (I.hok.write mu he k heo new)
theorem Inv.weak {σ':List (Option V)}(I:Inv X pins σ H s)(hl:σ'.length=σ.length)(w:∀(i:Nat) v,σ'[i]? =some (some v)->σ[i]? =some (some v)):Inv X pins σ' H s :=
 ⟨I.ok,I.os,I.bare,I.base,let ⟨m,hn,hl'⟩:=I.loc;⟨m,hn,λi x v e1 e2 e3=>hl' i x v e1 (w i v e2) e3⟩,I.cell,I.free,I.iY,I.pin,I.hok,hl.trans I.len⟩
theorem Inv.yS {Gk:List (Addr×Obj)}(I:Inv X pins σ H s)(h:∀p∈Gk,s.heap.get? p.1=some p.2/\H p.1=none/\p.1≠X.env.locals/\p.1∉X.fs/\∀v,p.2.data≠ .cell v):Inv X Gk σ H s :=
 ⟨I.ok,I.os,I.bare,I.base,I.loc,I.cell,I.free,I.iY,λp hp=>(Kk.mp hp).elim (λz=>I.pin p (KW _ z)) (h p),I.hok,I.len⟩
theorem va {N:List Str}(hN:N.Nodup){i j:Nat}{x:Str}(a:N[i]? =some x)(b:N[j]? =some x):i=j:=by
 obtain⟨h1,e1⟩:=X1.mp a
 obtain⟨h2,e2⟩:=X1.mp b
 exact(List.getElem_inj hN).mp (e1.trans e2.symm)
theorem rM {M:Model}{A:Around}{E:Z3}{i:Nat}{x:Str}{v:V}{u:Value}{Q:Unit->Shared->Prop}(I:Inv X pins σ H s)(hN:X.N.Nodup)(hi:X.N[i]? =some x)(hx:Loc X.env.scope x)(r:RelV v u)
  (h:∀s',Inv X pins (σ.set i (some v)) H s'->(∃a,Heap.SameBut a s.heap s'.heap/\(a=X.env.locals∨X.env.cells.lookup x=some a))->Q () s') (hf:X.fn x=true∨X.env.scope.names.lookup x=some .local:=by first | exact .inl rfl | exact .inr rfl | assumption):wpAny M A (storeName X.env x u) Q E s:=by
 obtain⟨m,hn,hl⟩:=id I.loc
 have hcls:(X.env.scope.kind== .class || (X.env.scope.kind== .module && X.env.locals !=X.env.globals))=false:=by rw[I.ok.kind];rfl
 have hiσ:i < σ.length:=by rw[I.len];exact(X1.mp hi).1
 have G7:=I.G7
 have tracked:∀{a:Addr} {h':Heap},(∃o,s.heap.get? a=some o/\H a=none)->Heap.SameBut a s.heap h'->oQ X.prog X.w H h':=λ{a h'} ha hs b ob e=>by
  obtain⟨_,_,hfree⟩:=ha
  refine(I.hok b ob e).stay (λc w' hc q=>(hs.2 c ?_).trans q) (λ_ q=>q) λ_ _ q=>q
  rintro rfl
  rcases hc with rfl | hc
  ·rw[hfree] at e;cases e
  ·rw[hfree] at hc;cases hc
 rcases hx with hk | hk
 ·refine wpAny_storeName_local hk hn (λh' hn' hs=> ?_) hcls
  obtain⟨oL,_,_,hoL,_⟩:=id hn
  refine h _ ⟨I.ok,I.os,I.bare,⟨λb o e n hb hx=> ?_,λb o e n hb hx=> ?_,I.base.free,λb o e hx=> ?_,I.base.tups,I.base.lf,I.base.lI⟩,⟨_,hn',λj y v' e1 e2 e3=> ?_⟩,λy c e=> ?_,I.free,I.iY,λp hp=> ?_,tracked ⟨oL,hoL,I.free⟩ hs,by simpa using I.len⟩ ⟨_,hs,.inl rfl⟩
  ·exact(hs.2 b (X4 (X6 (Kv e) I.ok.above))).trans (I.base.keep b o e n hb hx)
  ·obtain⟨sl,e1⟩:=I.base.slot b o e n hb hx
   exact⟨sl,(hs.2 b (X4 (X6 (Kv e) I.ok.above))).trans e1⟩
  ·obtain⟨o',e1⟩:=I.base.there b o e hx
   exact⟨o',(hs.2 b (X4 (X6 (Kv e) I.ok.above))).trans e1⟩
  ·by_cases hj:j=i
   ·subst hj
    rw[hi] at e1;cases e1
    rw[U8 hiσ] at e2
    cases e2
    exact⟨u,r,.inl ⟨hk,by simp⟩⟩
   ·rw[Xw (Ne.symm hj)] at e2
    obtain⟨u',r',q⟩:=hl j y v' e1 e2 e3
    refine⟨u',r',?_⟩
    rcases q with⟨k,e⟩ | ⟨k,c,e,z⟩
    ·refine .inl ⟨k,?_⟩
     have:y≠x:=λe=>hj (va hN e1 (e ▸ hi))
     simp[this,e]
    ·exact .inr ⟨k,c,e,z.sameBut hs (G7 y c e)⟩
  ·obtain⟨w',z⟩:=I.cell y c e
   exact⟨w',z.sameBut hs (G7 y c e)⟩
  ·obtain⟨e,n,ne,nf,d⟩:=I.pin p hp
   exact⟨(hs.2 p.1 ne).trans e,n,ne,nf,d⟩
 ·have hfn:X.fn x=true:=by
   rcases hf with z | z
   ·exact z
   ·rw[z] at hk;cases hk
  obtain⟨c,hc⟩:=I.ok.has x (.inl hk)
  obtain⟨w',z⟩:=I.cell x c hc
  refine wpAny_storeName_cell I.ok.kind hk hc z (λh' hc' hs=> ?_)
  obtain⟨oc,hoc,MA⟩:=id z
  refine h {s with heap:=h'} ⟨I.ok,I.os,I.bare,⟨λb o e n hb hx=> ?_,λb o e n hb hx=> ?_,I.base.free,λb o e hx=> ?_,I.base.tups,I.base.lf,I.base.lI⟩,⟨m,hn.sameBut hs (Ne.symm (G7 x c hc)),λj y v' e1 e2 e3=> ?_⟩,λy c' e=> ?_,I.free,I.iY,λp hp=> ?_,tracked ⟨oc,hoc,I.iY x c hc⟩ hs,by simpa using I.len⟩ ⟨c,hs,.inr hc⟩
  ·exact(hs.2 b (X4 (X6 (Kv e) (I.ok.cab x c hfn hc)))).trans (I.base.keep b o e n hb hx)
  ·obtain⟨sl,e1⟩:=I.base.slot b o e n hb hx
   exact⟨sl,(hs.2 b (X4 (X6 (Kv e) (I.ok.cab x c hfn hc)))).trans e1⟩
  ·obtain⟨o',e1⟩:=I.base.there b o e hx
   exact⟨o',(hs.2 b (X4 (X6 (Kv e) (I.ok.cab x c hfn hc)))).trans e1⟩
  ·by_cases hj:j=i
   ·subst hj
    rw[hi] at e1;cases e1
    rw[U8 hiσ] at e2
    cases e2
    exact⟨u,r,.inr ⟨.inl hk,c,hc,hc'⟩⟩
   ·rw[Xw (Ne.symm hj)] at e2
    obtain⟨u',r',q⟩:=hl j y v' e1 e2 e3
    refine⟨u',r',?_⟩
    rcases q with q | ⟨k,c',e,z'⟩
    ·exact .inl q
    ·refine .inr ⟨k,c',e,z'.sameBut hs ?_⟩
     rintro rfl
     exact hj (va hN e1 (I.ok.inj _ _ _ e hc ▸ hi))
  ·by_cases hcc:c'=c
   ·subst hcc;exact⟨_,hc'⟩
   ·obtain⟨w2,z2⟩:=I.cell y c' e
    exact⟨w2,z2.sameBut hs hcc⟩
  ·obtain⟨e,n,ne,nf,d⟩:=I.pin p hp
   refine⟨(hs.2 p.1 ?_).trans e,n,ne,nf,d⟩
   intro q
   rw[q,hoc] at e
   have q':oc=p.2:=Option.some.inj e
   exact d w' (by rw[←q'];exact MA)
theorem vb {M:Model}{A:Around}{E:Z3}{i:Nat}{x:Str}{v:V}{u:Value}{Q:Unit->Shared->Prop}(I:Inv X pins σ H s)(hN:X.N.Nodup)(hi:X.N[i]? =some x)(hx:Loc X.env.scope x)(r:RelV v u)
  (h:∀s',Inv X pins (σ.set i (some v)) H s'->Q () s') (hf:X.fn x=true∨X.env.scope.names.lookup x=some .local:=by first | exact .inl rfl | exact .inr rfl | assumption):wpAny M A (storeName X.env x u) Q E s :=
 rM I hN hi hx r (λs' I' _=>h s' I') hf
theorem Inv.call' {s':Shared}{ch:List Addr}(I:Inv X pins σ H s)(ho:s'.os=s.os)(u:Un (frs X.stack) ch H H' s.heap s'.heap)(hok:oQ X.prog X.w H' s'.heap)(hg:AllBare s'.gens)
  (hch:∀b∈ch,(b∈X.ex∨X.s₀.heap.objs.size<=b)/\b≠X.env.locals/\(∀x c,X.env.cells.lookup x=some c->c≠b)/\∀p∈X.pn++pins,p.1≠b):Inv X pins σ H' s':=by
 obtain⟨h',g',d',t',o'⟩:=s'
 have e:o'=s.os:=ho
 subst e
 exact I.call (g':=g') (t':=t') (d':=d') u hok hg hch
end
abbrev XK:=Value->Option Addr->Hp->Prop
abbrev St:=List (Option V)
abbrev VK:=V->Hp->Prop
abbrev TE:=St->Hp->VK->Prop
abbrev TT:=St->Hp->(Bool->Hp->Prop)->Prop
abbrev TA:=St->Hp->(List V->Hp->Prop)->Prop
structure Ends where
 nx:St->Hp->Prop
 rt:VK
 bk:St->Hp->Prop:=λ_ _=>False
 ct:St->Hp->Prop:=λ_ _=>False
abbrev TS:=Ends->St->Hp->Prop
def EP (X:Cx)(pins:List (Addr×Obj))(σ:St)(Q:VK)(u:Value)(s':Shared):Prop:=∃v H',Inv X pins σ H' s'/\RelV v u/\Q v H'
def TP (X:Cx)(pins:List (Addr×Obj))(σ:St)(Q:Bool->Hp->Prop)(b:Bool)(s':Shared):Prop:=∃H',Inv X pins σ H' s'/\Q b H'
def AP (X:Cx)(pins:List (Addr×Obj))(σ:St)(Q:List V->Hp->Prop)(us:List Value)(s':Shared):Prop:=∃vs H',Inv X pins σ H' s'/\Vals vs us/\Q vs H'
def SP (X:Cx)(pins:List (Addr×Obj))(D:Ends)(f:Flow)(s':Shared):Prop :=
 match f with
 | .next=>∃σ' H',Inv X pins σ' H' s'/\D.nx σ' H'
 | .brk=>∃σ' H',Inv X pins σ' H' s'/\D.bk σ' H'
 | .cont=>∃σ' H',Inv X pins σ' H' s'/\D.ct σ' H'
 | .ret u=>∃v σ' H',Inv X pins σ' H' s'/\RelV v u/\D.rt v H'
def PE (X:Cx)(e:Expr)(t:TE):Prop :=
 ∀(pins:List (Addr×Obj)) (s:Shared) (σ:St) (H:Hp) (Q:VK),Inv X pins σ H s->t σ H Q->wpAny (!6) X.A (eval e X.env) (EP X pins σ Q) X.xe s
def PT (X:Cx)(e:Expr)(t:TT):Prop :=
 ∀(pins:List (Addr×Obj)) (s:Shared) (σ:St) (H:Hp) (Q:Bool->Hp->Prop),Inv X pins σ H s->t σ H Q->wpAny (!6) X.A (isTrue e X.env (eval e X.env)) (TP X pins σ Q) X.xe s
def PW (X:Cx)(e:Expr)(t:TT):Prop :=
 ∀(whole:Sem Value) (pins:List (Addr×Obj)) (s:Shared) (σ:St) (H:Hp) (Q:Bool->Hp->Prop),Inv X pins σ H s->t σ H Q->wpAny (!6) X.A (isTrue e X.env whole) (TP X pins σ Q) X.xe s
theorem PW.pt {X:Cx}{e:Expr}{t:TT}(h:PW X e t):PT X e t:=h _
def PA (X:Cx)(es:List Expr)(t:TA):Prop :=
 ∀(pos:Pos) (pins:List (Addr×Obj)) (s:Shared) (σ:St) (H:Hp) (Q:List V->Hp->Prop),Inv X pins σ H s->t σ H Q->wpAny (!6) X.A (spliced (backTo pos (starEach es X.env))) (AP X pins σ Q) X.xe s
def PS (X:Cx)(st:Stmt)(t:TS):Prop :=
 ∀(pins:List (Addr×Obj)) (s:Shared) (σ:St) (H:Hp) (D:Ends),Inv X pins σ H s->t D σ H->wpAny (!6) X.A (exec st X.env) (SP X pins D) X.xe s
def pd (X:Cx)(st:List Stmt)(t:TS):Prop :=
 ∀(pins:List (Addr×Obj)) (s:Shared) (σ:St) (H:Hp) (D:Ends),Inv X pins σ H s->t D σ H->wpAny (!6) X.A (execs st X.env) (SP X pins D) X.xe s
theorem cW {α:Type}{t:Sem α}{Q Q':α->Shared->Prop}{M:Model}{A:Around}{E:Z3}{s:Shared}(h:wpAny M A t Q E s)(hQ:∀a s,Q a s->Q' a s):wpAny M A t Q' E s:=wpAny_mono h hQ λ_ _ x=>x
section
variable {X:Cx}
def kT (i:Nat):TE:=λσ H Q=>∃v,σ[i]? =some (some v)/\Q v H
def tC (v:V):TE:=λ_ H Q=>Q v H
theorem Bu {i:Nat}{x:Str}{pos:Pos}(hN:X.N[i]? =some x)(hv:L8 X.env.scope x)(hd:(x==("__debug__":Str))=false:=by decide)(hcd:(x==("__classdict__":Str))=false:=by decide):PE X (.Name x pos) (kT i):=by
 intro pins s σ H Q I h
 obtain⟨v,e,h⟩:=h
 obtain⟨m,hn,hl⟩:=I.loc
 obtain⟨u,r,l⟩:=hl i x v hN e hv
 have fin:EP X pins σ Q u s:=⟨v,H,I,r,h⟩
 rcases l with⟨hk,hm⟩ | ⟨hk,c,hc,hcell⟩
 ·exact wpAny_Name (wpAny_loadName_local I.ok.kind hk hn hm fin) hd
 ·rcases hk with hk | hk
  ·exact wpAny_Name (wpAny_loadName_cell I.ok.kind hk hc hcell fin) hd
  ·exact wpAny_Name (wpAny_loadName_free I.ok.kind hk hc hcell fin hcd) hd
theorem G8 {i j pos}:PE X (.Constant (.int i) j pos) (tC (.int i)):=λ_ _ _ H _ I h=>wpAny_Constant_int ⟨.int i,H,I.tok _,⟨_,rfl⟩,h⟩
theorem Kf {b j pos}:PE X (.Constant (.bool b) j pos) (tC (.bl b)):=λ_ _ _ H _ I h=>Constant_bool ⟨.bl b,H,I,rfl,h⟩
theorem G9 {j pos}:PE X (.Constant .none j pos) (tC .non):=λ_ _ _ H _ I h=>Constant_none ⟨.non,H,I,rfl,h⟩
def Gl (X:Cx)(x:Str):Prop:=X.env.kindOf x=some .globalImplicit
theorem yT {E:Z3}{pins:List (Addr×Obj)}{s:Shared}{σ:St}{H:Hp}{x:Str}{u:Value}{pos:Pos}{Q:Z3}(I:Inv X pins σ H s)(hg:Gl X x)(hm:X.mg x=some u)(h:Q u s)
  (hd:(x==("__debug__":Str))=false:=by decide):wpAny (!6) X.A (eval (.Name x pos) X.env) Q E s :=
 Calls.Name_function_global I.ok.kind hg (Calls.loadGlobal_global (by rw[I.ok.glob];exact I.mod.glob.keeps I.bk) hm h) hd
theorem fK {E:Z3}{pins:List (Addr×Obj)}{s:Shared}{σ:St}{H:Hp}{x:Str}{u:Value}{pos:Pos}{Q:Z3}(I:Inv X pins σ H s)(hg:Gl X x)(hm:X.mg x=none)(hv:bootBuiltins x=some u)(h:Q u s)
  (hn:x≠ "__name__":=by decide) (hd:(x==("__debug__":Str))=false:=by decide):wpAny (!6) X.A (eval (.Name x pos) X.env) Q E s:=by
 obtain⟨mb,h1,h2⟩:=I.mod.blt
 exact Calls.Name_function_global I.ok.kind hg (Calls.loadGlobal_builtin (by rw[I.ok.glob];exact I.mod.glob.keeps I.bk) hm (by rw[I.ok.blt];exact h1.keeps I.bk) ((h2 x hn).trans hv) h) hd
theorem Ed {x:Str}{v:V}{u:Value}{pos:Pos}(hg:Gl X x)(hm:X.mg x=some u)(r:RelV v u)(hd:(x==("__debug__":Str))=false:=by decide):PE X (.Name x pos) (tC v) :=
 λ_ _ _ H _ I h=>yT I hg hm ⟨v,H,I,r,h⟩ hd
theorem oR {x:Str}{v:V}{u:Value}{pos:Pos}(hg:Gl X x)(hm:X.mg x=none)(hv:bootBuiltins x=some u)(r:RelV v u)(hn:x≠ "__name__":=by decide)(hd:(x==("__debug__":Str))=false:=by decide):PE X (.Name x pos) (tC v) :=
 λ_ _ _ H _ I h=>fK I hg hm hv ⟨v,H,I,r,h⟩ hn hd
variable {a b:Expr}{ta tb:TE}{pos:Pos}
def tB (t:TE):TT:=λσ H Q=>t σ H λx H1=>∃c,x= .bl c/\Q c H1
theorem G_ {e:Expr}{t:TE}(h:PE X e t)(he:∀whole,isTrue e X.env whole=(do let v←whole;standAt e.pos;holding [v] (truthy v)):=by intro _;rfl):PT X e (tB t):=by
 intro pins s σ H Q I hw
 refine isTrue_plain (cW (h pins s σ H _ I hw) λv s1 ⟨x,H1,I1,r1,q1⟩=> ?_) (he _)
 obtain⟨d,rfl,q⟩:=q1
 cases r1
 exact wpAny_truthy_bool ⟨H1,I1,q⟩
variable {tA L_:TT}{rest:List Expr}
def MB (t u:TT):TT:=λσ H Q=>t σ H λc H1=>if c=true then u σ H1 Q else Q false H1
def Ox (t u:TT):TT:=λσ H Q=>t σ H λc H1=>if c=true then Q true H1 else u σ H1 Q
def MC (t:TT):TT:=λσ H Q=>t σ H λc H1=>Q (!c) H1
theorem Ee (ha:PT X a tA):PW X (.BoolOp .And [a] pos) tA:=by
 intro wh pins s σ H Q I h
 refine isTrue_and (cW (ha pins s σ H Q I h) λc s1 e=> ?_)
 cases c with
 | true=>exact isTrue_and_nil e
 | false=>exact e
theorem Ha (ha:PT X a tA):PW X (.BoolOp .Or [a] pos) tA:=by
 intro wh pins s σ H Q I h
 refine isTrue_or (cW (ha pins s σ H Q I h) λc s1 e=> ?_)
 cases c with
 | false=>exact isTrue_or_nil e
 | true=>exact e
theorem Hb (ha:PT X a tA)(hb:PW X (.BoolOp .And (b :: rest) pos) L_):PW X (.BoolOp .And (a :: b :: rest) pos) (MB tA L_):=by
 intro wh pins s σ H Q I h
 refine isTrue_and (cW (ha pins s σ H _ I h) λc s1 ⟨H1,I1,q1⟩=> ?_)
 cases c with
 | true=>exact hb wh pins s1 σ H1 Q I1 q1
 | false=>exact⟨H1,I1,q1⟩
theorem Kg (ha:PT X a tA)(hb:PW X (.BoolOp .Or (b :: rest) pos) L_):PW X (.BoolOp .Or (a :: b :: rest) pos) (Ox tA L_):=by
 intro wh pins s σ H Q I h
 refine isTrue_or (cW (ha pins s σ H _ I h) λc s1 ⟨H1,I1,q1⟩=> ?_)
 cases c with
 | true=>exact⟨H1,I1,q1⟩
 | false=>exact hb wh pins s1 σ H1 Q I1 q1
theorem Hd (ha:PT X a tA):PT X (.UnaryOp .Not a pos) (MC tA):=by
 intro pins s σ H Q I h
 exact isTrue_not (ha pins s σ H (λc H1=>Q (!c) H1) I h)
def Kh (ta tb:TE):TE:=λσ H Q=>ta σ H λx H1=>∃c,x= .bl c/\if c=true then tb σ H1 Q else Q (.bl false) H1
def Ki (ta:TE):TE:=λσ H Q=>ta σ H λx H1=>∃c,x= .bl c/\Q (.bl (!c)) H1
theorem He {op}{t:TE}(h:PE X a t):PE X (.BoolOp op [a] pos) t:=λpins s σ H Q I hw=>BoolOp_one (h pins s σ H Q I hw)
theorem Hf (ha:PE X a ta)(hb:PE X (.BoolOp .And (b :: rest) pos) tb):PE X (.BoolOp .And (a :: b :: rest) pos) (Kh ta tb):=by
 intro pins s σ H Q I h
 refine BoolOp_and (cW (ha pins s σ H _ I h) λv s1 ⟨x,H1,I1,r1,q1⟩=> ?_)
 obtain⟨c,rfl,q1⟩:=q1
 cases r1
 refine wpAny_truthy_bool ?_
 cases c with
 | true=>exact hb pins s1 σ H1 Q I1 q1
 | false=>exact⟨.bl false,H1,I1,rfl,q1⟩
theorem Hg (ha:PE X a ta):PE X (.UnaryOp .Not a pos) (Ki ta):=by
 intro pins s σ H Q I h
 refine UnaryOp_ (cW (ha pins s σ H _ I h) λv s1 ⟨x,H1,I1,r1,q1⟩=> ?_)
 obtain⟨c,rfl,q1⟩:=q1
 cases r1
 exact not_of (wpAny_truthy_bool ⟨.bl (!c),H1,I1,rfl,q1⟩)
def Oy (t:TT)(ta tb:TE):TE:=λσ H Q=>t σ H λc H1=>if c=true then ta σ H1 Q else tb σ H1 Q
theorem Bv {c:Expr}(hc:PT X c tA)(ha:PE X a ta)(hb:PE X b tb):PE X (.IfExp c a b pos) (Oy tA ta tb):=by
 intro pins s σ H Q I h
 refine wpAny_IfExp (cW (hc pins s σ H _ I h) λd s1 ⟨H1,I1,q1⟩=> ?_)
 cases d with
 | true=>exact ha pins s1 σ H1 Q I1 q1
 | false=>exact hb pins s1 σ H1 Q I1 q1
end
def fV (K:Frag)(H:Hp)(a:Addr)(xs:List V):Prop :=
 Rd H a (.lst xs)∨
  ∃(o:Obj) (its:Array Value) (n:Nat),K.lookup a=some o/\o.cls= .type "list" /\o.dict=none/\o.data= .seq its n/\its.size<=sizeLine/\Vals xs its.toList
def dJ (K:Frag)(H:Hp)(a:Addr)(xs:List V):Prop :=
 Rd H a (.tup xs)∨
  ∃(o:Obj) (its:Array Value) (n:Nat),K.lookup a=some o/\o.cls= .type "tuple" /\o.data= .seq its n/\its.size<=sizeLine/\Vals xs its.toList
def MD:Value->Option V
 | .none=>some .non
 | .bool b=>some (.bl b)
 | .int i _=>some (.int i)
 | .str x _=>some (.str x)
 | .bytes b _=>some (.Mv b)
 | .float b _=>some (.flt b)
 | .ref a=>some (.ref a)
 | .type n=>some (.ty n)
 | _=>none
theorem RelV.abs {x:V}{u:Value}(r:RelV x u):MD u=some x:=by
 cases x with
 | non=>cases r;rfl
 | bl _=>cases r;rfl
 | int _=>obtain⟨t,rfl⟩:=r;rfl
 | str _=>obtain⟨t,rfl⟩:=r;rfl
 | Mv _=>obtain⟨t,rfl⟩:=r;rfl
 | flt _=>obtain⟨t,rfl⟩:=r;rfl
 | ref _=>cases r;rfl
 | ty _=>cases r;rfl
theorem RelV.inj {x y:V}{u:Value}(r:RelV x u)(q:RelV y u):x=y:=Option.some.inj (r.abs.symm.trans q.abs)
theorem Vals.inj:∀{xs ys:List V} {us:List Value},Vals xs us->Vals ys us->xs=ys
 | _,_,_,.nil,.nil=>rfl
 | _,_,_,.cons r t,.cons r' t'=>by rw[r.inj r',Vals.inj t t']
section
variable {X:Cx}{pins:List (Addr×Obj)}{σ:St}{H:Hp}{s:Shared}{a:Addr}{xs ys:List V}
theorem fV.of {K:Frag}(h:H a=some (.lst xs)):fV K H a xs:=.inl (.inl h)
theorem dJ.of {K:Frag}(h:H a=some (.tup xs)):dJ K H a xs:=.inl (.inl h)
theorem Inv.list (I:Inv X pins σ H s)(h:fV X.K H a xs):∃its:List Value,Vals xs its/\PlainL s.heap a its.toArray/\xs.length<=sizeLine:=by
 rcases h with h | ⟨o,its,n,hk,hc,hd,hs,hz,r⟩
 ·obtain⟨z,its,n,r,e⟩:=h.ok I.hok
  exact⟨its,r,⟨_,n,e,rfl,rfl,rfl⟩,z⟩
 ·refine⟨its.toList,r,⟨o,n,I.z_ a o hk,hc,hd,by simpa using hs⟩,?_⟩
  have e:=r.length
  simp only[Kq] at e
  omega
theorem Inv.tuple (I:Inv X pins σ H s)(h:dJ X.K H a xs):∃its:List Value,Vals xs its/\IsTup s.heap a its.toArray/\xs.length<=sizeLine:=by
 rcases h with h | ⟨o,its,n,hk,hc,hs,hz,r⟩
 ·obtain⟨z,its,r,p⟩:=h.ok I.hok
  exact⟨its,r,p,z⟩
 ·refine⟨its.toList,r,⟨o,I.z_ a o hk,hc,n,by simpa using hs⟩,?_⟩
  have e:=r.length
  simp only[Kq] at e
  omega
theorem Inv.vc (I:Inv X pins σ H s)(h:fV X.K H a xs)(h':fV X.K H a ys):xs=ys:=by
 obtain⟨its,r,⟨o,n,e,_,_,d⟩,_⟩:=I.list h
 obtain⟨its',r',⟨o',n',e',_,_,d'⟩,_⟩:=I.list h'
 rw[e] at e';cases e'
 rw[d] at d'
 injection d' with d1 _
 have:its=its':=by simpa using congrArg Array.toList d1
 subst this
 exact r.inj r'
theorem Inv.mU (I:Inv X pins σ H s)(h:dJ X.K H a xs)(h':dJ X.K H a ys):xs=ys:=by
 obtain⟨its,r,⟨o,e,_,n,d⟩,_⟩:=I.tuple h
 obtain⟨its',r',⟨o',e',_,n',d'⟩,_⟩:=I.tuple h'
 rw[e] at e';cases e'
 rw[d] at d'
 injection d' with d1 _
 have:its=its':=by simpa using congrArg Array.toList d1
 subst this
 exact r.inj r'
end
abbrev Cx.wish (X:Cx)(E:Z3):Cx:={X with xe:=E}
abbrev Cx.Bn (X:Cx):Cx:=X.wish λ_ _=>False
theorem Cx.Ok.wish {X:Cx}(ok:X.Ok)(E:Z3):(X.wish E).Ok :=
 ⟨ok.mod,ok.kind,ok.glob,ok.blt,ok.above,ok.inj,ok.has,ok.cab,ok.hd,ok.frames,ok.stk,ok.G6,ok.bs,ok.xA,ok.tu,ok.u_,ok.kS,ok.Bt⟩
theorem Cx.Ok.iQ {X:Cx}{E:Z3}(ok:(X.wish E).Ok):X.Ok :=
 ⟨ok.mod,ok.kind,ok.glob,ok.blt,ok.above,ok.inj,ok.has,ok.cab,ok.hd,ok.frames,ok.stk,ok.G6,ok.bs,ok.xA,ok.tu,ok.u_,ok.kS,ok.Bt⟩
section
variable {X:Cx}{pins:List (Addr×Obj)}{σ:St}{H:Hp}{s:Shared}{E:Z3}
theorem Inv.wish (I:Inv X pins σ H s)(E:Z3):Inv (X.wish E) pins σ H s:=⟨I.ok.wish E,I.os,I.bare,I.base,I.loc,I.cell,I.free,I.iY,I.pin,I.hok,I.len⟩
theorem Inv.iQ (I:Inv (X.wish E) pins σ H s):Inv X pins σ H s:=⟨I.ok.iQ,I.os,I.bare,I.base,I.loc,I.cell,I.free,I.iY,I.pin,I.hok,I.len⟩
theorem SP.iQ {D:Ends}{f:Flow}{s':Shared}(h:SP (X.wish E) pins D f s'):SP X pins D f s':=by
 cases f with
 | next=>obtain⟨σ',H',I,q⟩:=h;exact⟨σ',H',I.iQ,q⟩
 | brk=>obtain⟨σ',H',I,q⟩:=h;exact⟨σ',H',I.iQ,q⟩
 | cont=>obtain⟨σ',H',I,q⟩:=h;exact⟨σ',H',I.iQ,q⟩
 | ret u=>obtain⟨v,σ',H',I,r,q⟩:=h;exact⟨v,σ',H',I.iQ,r,q⟩
theorem PE.Bn {e:Expr}{t:TE}(h:PE X.Bn e t):PE X e t:=λpins s σ H Q I hw=>
 wpAny_mono (h pins s σ H Q (I.wish _) hw) (λ_ _ ⟨v,H',I',r,q⟩=>⟨v,H',I'.iQ,r,q⟩) λ_ _ z=>False.elim z
theorem PT.Bn {e:Expr}{t:TT}(h:PT X.Bn e t):PT X e t:=λpins s σ H Q I hw=>
 wpAny_mono (h pins s σ H Q (I.wish _) hw) (λ_ _ ⟨H',I',q⟩=>⟨H',I'.iQ,q⟩) λ_ _ z=>False.elim z
theorem pd.Bn {st:List Stmt}{t:TS}(h:pd X.Bn st t):pd X st t:=λpins s σ H D I hw=>
 wpAny_mono (h pins s σ H D (I.wish _) hw) (λ_ _ q=>q.iQ) λ_ _ z=>False.elim z
end
section
variable {X:Cx}{st:Stmt}{rest:List Stmt}{t u:TS}{e:Expr}{te:TE}{pos:Pos}
def Kl:TS:=λD σ H=>D.nx σ H
def ME (t u:TS):TS:=λD σ H=>t {D with nx:=u D} σ H
theorem tx:pd X [] Kl:=λ_ _ σ H _ I h=>wpAny_execs_nil ⟨σ,H,I,h⟩
theorem lJ (h1:PS X st t)(h2:pd X rest u):pd X (st :: rest) (ME t u):=by
 intro pins s σ H D I h
 refine wpAny_execs_cons (cW (h1 pins s σ H {D with nx:=u D} I h) λf s1 q=> ?_)
 cases f with
 | next=>
  obtain⟨σ',H',I',q⟩:=q
  exact h2 pins s1 σ' H' D I' q
 | ret v=>exact q
 | brk=>exact q
 | cont=>exact q
theorem oS (h1:PS X st t):pd X [st] t:=by
 intro pins s σ H D I h
 refine wpAny_execs_cons (cW (h1 pins s σ H D I h) λf s1 q=> ?_)
 cases f with
 | next=>exact wpAny_execs_nil q
 | ret v=>exact q
 | brk=>exact q
 | cont=>exact q
theorem Inv.quiet {pins:List (Addr×Obj)}{σ:St}{H:Hp}{s:Shared}(I:Inv X pins σ H s):interactive X.env=false:=by simp[interactive,I.ok.kind]
def Km (te:TE):TS:=λD σ H=>te σ H λ_ H1=>D.nx σ H1
theorem kD (he:PE X e te)(hs:swapsWith e none pos.line X.env=pure false:=by rfl):PS X (.Expr e pos) (Km te):=by
 intro pins s σ H D I h
 exact wpAny_Expr_any (cW (he pins s σ H _ I h) λv s1 ⟨x,H1,I1,r1,q1⟩=>⟨σ,H1,I1,q1⟩) I.quiet hs
def MF (te:TE):TS:=λD σ H=>te σ H D.rt
theorem Bw (he:PE X e te):PS X (.Return (some e) pos) (MF te):=by
 intro pins s σ H D I h
 exact wpAny_Return_some (cW (he pins s σ H _ I h) λv s1 ⟨x,H1,I1,r1,q1⟩=>⟨x,σ,H1,I1,r1,q1⟩)
def MG (c:TT)(t u:TS):TS:=λD σ H=>c σ H λb H1=>if b=true then t D σ H1 else u D σ H1
theorem Bx {c:Expr}{a b:List Stmt}{tc:TT}(hc:PT X c tc)(ha:pd X a t)(hb:pd X b u):PS X (.If c a b pos) (MG tc t u):=by
 intro pins s σ H D I h
 refine wpAny_If (cW (hc pins s σ H _ I h) λd s1 ⟨H1,I1,q1⟩=> ?_)
 cases d with
 | true=>exact ha pins s1 σ H1 D I1 q1
 | false=>exact hb pins s1 σ H1 D I1 q1
def Hh:TS:=λ_ _ _=>False
theorem By:PS X st Hh:=λ_ _ _ _ _ _ h=>h.elim
end
abbrev TG:=V->St->Hp->(St->Hp->Prop)->Prop
abbrev Gm:=List V->St->Hp->(St->Hp->Prop)->Prop
def PG (X:Cx)(target:Expr)(t:TG):Prop :=
 ∀(pins:List (Addr×Obj)) (s:Shared) (σ:St) (H:Hp) (v:V) (u:Value) (Q:St->Hp->Prop),Inv X pins σ H s->RelV v u->t v σ H Q->
  wpAny (!6) X.A (assign target X.env u) (λ_ s'=>∃σ' H',Inv X pins σ' H' s'/\Q σ' H') X.xe s
def JL (X:Cx)(ts:List Expr)(t:Gm):Prop :=
 ∀(pins:List (Addr×Obj)) (s:Shared) (σ:St) (H:Hp) (vs:List V) (us:List Value) (Q:St->Hp->Prop),Inv X pins σ H s->Vals vs us->t vs σ H Q->
  wpAny (!6) X.A (assignInOrder ((assignEach ts X.env).map (·.2)) us) (λ_ s'=>∃σ' H',Inv X pins σ' H' s'/\Q σ' H') X.xe s
abbrev Hi:=V->V->V->Hp->(Hp->Prop)->Prop
def Hj (X:Cx)(t:Hi):Prop :=
 ∀(pins:List (Addr×Obj)) (s:Shared) (σ:St) (H:Hp) (o i v:V) (ov iv u:Value) (Q:Hp->Prop),Inv X pins σ H s->RelV o ov->RelV i iv->RelV v u->t o i v H Q->
  wpAny (!6) X.A (setItem ov iv u) (λ_ s'=>∃H',Inv X pins σ H' s'/\Q H') X.xe s
section
variable {X:Cx}{pos:Pos}
def j3 (i:Nat):TG:=λv σ H Q=>Q (σ.set i (some v)) H
theorem bm {i:Nat}{x:Str}(hN:X.N.Nodup)(hi:X.N[i]? =some x)(hx:Loc X.env.scope x)(hf:X.fn x=true∨X.env.scope.names.lookup x=some .local:=by first | exact .inl rfl | exact .inr rfl | assumption):PG X (.Name x pos) (j3 i):=by
 intro pins s σ H v u Q I r h
 exact wpAny_assign_Name (vb I hN hi hx r (λs' I'=>⟨_,H,I',h⟩) hf)
def Hk:Gm:=λvs σ H Q=>vs=[]/\Q σ H
def vd (t:TG)(u:Gm):Gm:=λvs σ H Q=>∃v r,vs=v :: r/\t v σ H λσ' H'=>u r σ' H' Q
theorem gP:JL X [] Hk:=by
 intro pins s σ H vs us Q I r h
 obtain⟨e,h⟩:=h
 subst e
 cases r
 exact assignInOrder_nil ⟨σ,H,I,h⟩
theorem bh {e:Expr}{es:List Expr}{t:TG}{u:Gm}(h1:PG X e t)(h2:JL X es u)
  (hs:(assignEach (e :: es) X.env).map (·.2)=assign e X.env :: (assignEach es X.env).map (·.2):=by rfl):JL X (e :: es) (vd t u):=by
 intro pins s σ H vs us Q I r h
 obtain⟨v,vr,e1,h⟩:=h
 subst e1
 cases r with
 | cons r rr=>
  rw[hs]
  refine assignInOrder_cons (cW (h1 pins s σ H _ _ _ I r h) λ_ s1 ⟨σ1,H1,I1,q1⟩=> ?_)
  exact h2 pins s1 σ1 H1 _ _ Q I1 rr q1
def MJ (K:Frag)(n:Nat)(t:Gm):TG:=λv σ H Q=>∃a xs,v= .ref a/\dJ K H a xs/\xs.length=n/\t xs σ H Q
theorem xC {es:List Expr}{k:Nat}{t:Gm}{n:Nat}(hc:X.calm=true)(h:JL X es t)
  (hn:(assignEach es X.env).length=n:=by rfl) (hst:(assignEach es X.env).findIdx? (·.1)=none:=by rfl):PG X (.Tuple es k pos) (MJ X.K n t):=by
 intro pins s σ H v u Q I r hw
 obtain⟨a,xs,e1,hq,hl,hw⟩:=hw
 subst e1
 cases r
 obtain⟨its,rv,ht,hz⟩:=I.tuple hq
 refine assign_Tuple_tuple (I.ok.hd hc) ht (by simp[hn,←hl,rv.length]) hst λh' hx=> ?_
 have I1:Inv X pins σ H {s with heap:=h'}:=I.kept (t':=s.toks) λb o e=>hx b o (X4 (Kv e)) e
 exact h pins _ σ H xs _ Q I1 (by simpa using rv) hw
def vf (to ti:TE)(t:Hi):TG:=λv σ H Q=>to σ H λo H1=>ti σ H1 λi H2=>t o i v H2 λH3=>Q σ H3
theorem xD {o i:Expr}{to ti:TE}{t:Hi}(ho:PE X o to)(hi:PE X i ti)(hs:Hj X t)
  (ha:∀v,assign (.Subscript o i pos) X.env v=(do
   let ov←holding [v] (eval o X.env)
   let iv←holding [v,ov] (eval i X.env)
   standAt pos
   holding [v,ov,iv] (setItem ov iv v)
   release [v,ov,iv] []):=by intro _;rfl):PG X (.Subscript o i pos) (vf to ti t):=by
 intro pins s σ H v u Q I r h
 rw[ha]
 refine JZ (Z7 (cW (ho pins s σ H _ I h) λov s1 ⟨x,H1,I1,r1,q1⟩=> ?_))
 refine JZ (Z7 (cW (hi pins s1 σ H1 _ I1 q1) λiv s2 ⟨y,H2,I2,r2,q2⟩=> ?_))
 refine JZ (wpAny_standAt (JZ (Z7 (cW (hs pins s2 σ H2 x y v ov iv u _ I2 r1 r2 r q2) λ_ s3 ⟨H3,I3,q3⟩=> ?_))))
 exact wpAny_release ⟨σ,H3,I3,q3⟩
def Hl (te:TE)(g:TG):TS:=λD σ H=>te σ H λx H1=>g x σ H1 D.nx
theorem tz {tg e:Expr}{te:TE}{g:TG}(he:PE X e te)(hg:PG X tg g)(hs:swapsWithSole [tg] e pos.line X.env=pure false:=by rfl)(hw:swappedStores [tg] e X.env=pure none:=by rfl)
  (h1:(assignEach [tg] X.env).map (·.2)=[assign tg X.env]:=by rfl):PS X (.Assign [tg] e pos) (Hl te g):=by
 intro pins s σ H D I h
 refine wpAny_Assign_stores (cW (he pins s σ H _ I h) λv s1 ⟨x,H1,I1,r1,q1⟩=> ?_) hs hw
 rw[h1]
 exact cW (hg pins s1 σ H1 x v _ I1 r1 q1) λ_ s2 q=>q
theorem xE {i:Nat}{x:Str}{e:Expr}{te:TE}{pos':Pos}(hN:X.N.Nodup)(hi:X.N[i]? =some x)(hx:Loc X.env.scope x)(he:PE X e te)(hs:swapsWith e (some (.Name x pos')) pos.line X.env=pure false:=by rfl)(hf:X.fn x=true∨X.env.scope.names.lookup x=some .local:=by first | exact .inl rfl | exact .inr rfl | assumption) :
  PS X (.Assign [.Name x pos'] e pos) (Hl te (j3 i)):=by
 intro pins s σ H D I h
 refine wpAny_Assign_Name (cW (he pins s σ H _ I h) λv s1 ⟨y,H1,I1,r1,q1⟩=> ?_) hs
 exact vb I1 hN hi hx r1 (λs2 I2=>⟨_,H1,I2,q1⟩) hf
end
section
variable {X:Cx}{pos:Pos}
def Hm (c:TT)(tb:TS):TS:=λD σ H=>∃W:Nat->St->Hp->Prop,(∃m,W m σ H)/\∀m σ H,W m σ H->
 c σ H λb H1=>if b=true then∃N:St->Hp->Prop,(∀σ' H',N σ' H'->∃m',m' < m/\W m' σ' H')/\tb {D with nx:=N,ct:=N,bk:=D.nx} σ H1 else D.nx σ H1
theorem Bz {c:Expr}{body:List Stmt}{tc:TT}{tb:TS}(hp:PassesOwn (!6) X.A X.env X.xe)(hc:PT X c tc)(hb:pd X body tb):PS X (.While c body [] pos) (Hm tc tb):=by
 intro pins s σ H D I h
 obtain⟨W,⟨m0,w0⟩,turn⟩:=h
 refine wpAny_While (codeAny_whileLoop (λn s'=>∃σ' H',Inv X pins σ' H' s'/\W n σ' H') ?_ m0 ⟨σ,H,I,w0⟩)
 rintro n s1 ⟨σ1,H1,I1,w1⟩
 refine wpAny_passesOwn hp (cW (hc pins s1 σ1 H1 _ I1 (turn n σ1 H1 w1)) λb s2 ⟨H2,I2,q2⟩=> ?_)
 cases b with
 | true=>
  obtain⟨N,hN,q2⟩:=q2
  rw[JQ rfl]
  refine wpAny_passesOwn hp (cW (hb pins s2 σ1 H2 _ I2 q2) λf s3 q3=> ?_)
  cases f with
  | next=>
   obtain⟨σ3,H3,I3,n3⟩:=q3
   obtain⟨m',hm,w3⟩:=hN σ3 H3 n3
   exact⟨m',hm,σ3,H3,I3,w3⟩
  | cont=>
   obtain⟨σ3,H3,I3,n3⟩:=q3
   obtain⟨m',hm,w3⟩:=hN σ3 H3 n3
   exact⟨m',hm,σ3,H3,I3,w3⟩
  | brk=>exact q3
  | ret v=>exact q3
 | false=>
  rw[JV K5]
  exact wpAny_execs_nil ⟨σ1,H2,I2,q2⟩
end
structure It where
 go:Nat->Hp->Prop
 Kn:Nat->Hp->V->Hp->Prop
 stop:Nat->Hp->Prop
def mV (X:Cx)(pins:List (Addr×Obj))(H:Hp)(b:Addr):Prop :=
 H b=none/\b≠X.env.locals/\b∉X.fs/\(b∈X.ex∨X.s₀.heap.objs.size<=b)/\(∀x c,X.env.cells.lookup x=some c->c≠b)/\∀p∈X.pn++pins,p.1≠b
theorem Inv.n_ {X:Cx}{pins:List (Addr×Obj)}{σ:St}{H H':Hp}{s:Shared}{b:Addr}(I:Inv X pins σ H s)(hb:s.heap.objs.size<=b)(hn:H' b=none):mV X pins H' b:=by
 refine⟨hn,Uv (X6 I.lt hb),I.Mz hb,.inr (KJ I.sz hb),λx c e z=> ?_,λp hp z=> ?_⟩
 ·obtain⟨v,q⟩:=I.cell x c e
  exact absurd (X6 q.lt (by rw[z];exact hb)) (U3 _)
 ·exact absurd (X6 (Kv (I.pin p hp).1) (by rw[z];exact hb)) (U3 _)
structure Turn (P:Program)(w:World)(K:Frag)(tg:Expr)(J:It)(fp:List Addr)(it:Addr)(tn:Nat->Heap->Prop):Prop where
 mem:it∈fp
 obj:∀i h,tn i h->∀b∈fp,∃o,h.get? b=some o/\∀v,o.data≠ .cell v
 keep:∀i h h',tn i h->(∀b∈fp,∀o,h.get? b=some o->h'.get? b=some o)->tn i h'
 item:∀(X:Cx),X.prog=P->X.w=w->X.K=K->X.calm=true->∀(i:Nat) (pins:List (Addr×Obj)) (s:Shared) (σ:St) (H:Hp) (E:Z3),Inv X pins σ H s->(∀b∈fp,mV X pins H b)->tn i s.heap->J.go i H->
  wpAny (model P w) X.A (pyNext (.ref it)) (λr s1=>∃u,r=some u/\
   wpAny (model P w) X.A (letOwnedTupleGo tg (.ref it) u) (λ_ s2=>∃x H',Inv X pins σ H' s2/\RelV x u/\J.Kn i H x H'/\tn (i+1) s2.heap/\∀b∈fp,H' b=none) E s1) E s
 done:∀(X:Cx),X.prog=P->X.w=w->X.K=K->X.calm=true->∀(i:Nat) (pins:List (Addr×Obj)) (s:Shared) (σ:St) (H:Hp) (E:Z3),Inv X pins σ H s->(∀b∈fp,mV X pins H b)->tn i s.heap->J.stop i H->
  wpAny (model P w) X.A (pyNext (.ref it)) (λr s1=>r=none/\Inv X pins σ H s1) E s
 self:∀(A:Around) (i:Nat) (s:Shared) (Q:Z3) (E:Z3),tn i s.heap->Q (.ref it) s->wpAny (model P w) A (pyIter (.ref it)) Q E s
abbrev TI:=St->Hp->(It->Hp->Prop)->Prop
def PIE (X:Cx)(pins:List (Addr×Obj))(σ:St)(tg:Expr)(R:It->Hp->Prop)(itv:Value)(s2:Shared):Prop :=
 ∃(it:Addr) (fp:List Addr) (tn:Nat->Heap->Prop) (J:It) (H':Hp),itv= .ref it/\Inv X pins σ H' s2/\Turn X.prog X.w X.K tg J fp it tn/\tn 0 s2.heap/\(∀b∈fp,mV X pins H' b)/\R J H'
def PI (X:Cx)(tg iter:Expr)(wi:TI):Prop :=
 ∀(pins:List (Addr×Obj)) (s:Shared) (σ:St) (H:Hp) (R:It->Hp->Prop),Inv X pins σ H s->wi σ H R->
  wpAny (!6) X.A (eval iter X.env) (λv s1=>wpAny (!6) X.A (pyIter v) (PIE X pins σ tg R) X.xe s1) X.xe s
theorem yU {M:Model}{A:Around}{E:Z3}{s:Shared}{tg:Expr}{it:Addr}{u:Value}{o:Obj}{n:String}{vs:Array Value}{Q:Unit->Shared->Prop}(ho:s.heap.get? it=some o)(hc:o.cls= .type n)(hd:o.data= .fields vs)
  (hn:["enumerate","zip","dict_itemiterator","dict_reverseitemiterator","odict_iterator","itertools.zip_longest","itertools.pairwise"].contains n=false) (hQ:Q () s):wpAny M A (letOwnedTupleGo tg (.ref it) u) Q E s:=by
 unfold letOwnedTupleGo
 cases tg <;> first
  | exact JW hQ
  | (cases u <;> first
    | exact JW hQ
    | (
      refine JZ (wpAny_load ho ?_)
      rw[hc,hd]
      show wpAny M A (if (["enumerate","zip","dict_itemiterator","dict_reverseitemiterator","odict_iterator","itertools.zip_longest","itertools.pairwise"].contains n && vs[0]? ==some (rawInt _))=true then _ else _) Q E s
      rw[JV (by intro h;rw[hn,YQ] at h;cases h)]
      exact JW hQ))
def MK (K:Frag)(a:Addr):It :=
 ⟨λi H=>∃xs x,fV K H a xs/\xs[i]? =some x,λi H x H'=>H'=H/\∀xs,fV K H a xs->xs[i]? =some x,λi H=>∃xs,fV K H a xs/\xs.length<=i⟩
def ML (K:Frag)(a:Addr):It :=
 ⟨λi H=>∃xs x,dJ K H a xs/\xs[i]? =some x,λi H x H'=>H'=H/\∀xs,dJ K H a xs->xs[i]? =some x,λi H=>∃xs,dJ K H a xs/\xs.length<=i⟩
def Ma (lo:Int)(n:Nat):It:=⟨λi _=>i < n,λi H x H'=>H'=H/\x= .int (lo+i),λi _=>n<=i⟩
theorem Aa {P:Program}{w:World}{K:Frag}{tg:Expr}(a it:Addr):Turn P w K tg (MK K a) [it] it (λi h=>h.IsListIter it a i) where
 mem:=by simp
 obj:=λi h st b hb=>by
  have e:b=it:=by simpa using hb
  subst e
  obtain⟨o,e,c,d⟩:=st
  exact⟨o,e,λv z=>by rw[d] at z;cases z⟩
 keep:=λi h h' st k=>st.at λo e=>k it (by simp) o e
 item:=by
  intro X hP hw hK hc i pins s σ H E I hf st hg
  subst hP hw hK
  obtain⟨xs,x,hq,hx⟩:=hg
  obtain⟨its,rv,p,hz⟩:=I.list hq
  obtain⟨u,hu,ru⟩:=rv.get hx
  obtain⟨f0,f1,f2,f3,f4,f5⟩:=hf it (by simp)
  refine wpAny_pyNext_list_item st p.isList (x:=u) (by simpa using hu) λh' st' sb=> ?_
  have I1:Inv X pins σ H {s with heap:=h'}:=I.turned (t':=s.toks) (λb o hb e=>(sb.2 b hb).trans e) f0 f1 f3 f4 f5
  obtain⟨o,e,c,d⟩:=id st'
  exact⟨u,rfl,yU (s:={s with heap:=h'}) e c d (by decide) ⟨x,H,I1,ru,⟨rfl,λys hy=>by rw[I.vc hy hq];exact hx⟩,st',λb hb=>(hf b hb).1⟩⟩
 done:=by
  intro X hP hw hK hc i pins s σ H E I hf st hg
  subst hP hw hK
  obtain⟨xs,hq,hx⟩:=hg
  obtain⟨its,rv,p,hz⟩:=I.list hq
  obtain⟨f0,f1,f2,f3,f4,f5⟩:=hf it (by simp)
  have hl:=rv.length
  exact wpAny_pyNext_list_end (I.ok.hd hc) st p.isList (by simp;omega) λh' eb=>⟨rfl,I.turned (t':=s.toks) (λb o hb e=>eb b o hb e) f0 f1 f3 f4 f5⟩
 self:=λ_ _ _ _ _ st h=>wpAny_pyIter_listiter st h
theorem xF {P:Program}{w:World}{K:Frag}{tg:Expr}(a it:Addr):Turn P w K tg (ML K a) [it] it (λi h=>h.IsTupleIter it a i) where
 mem:=by simp
 obj:=λi h st b hb=>by
  have e:b=it:=by simpa using hb
  subst e
  obtain⟨o,e,c,d⟩:=st
  exact⟨o,e,λv z=>by rw[d] at z;cases z⟩
 keep:=λi h h' st k=>st.at λo e=>k it (by simp) o e
 item:=by
  intro X hP hw hK hc i pins s σ H E I hf st hg
  subst hP hw hK
  obtain⟨xs,x,hq,hx⟩:=hg
  obtain⟨its,rv,p,hz⟩:=I.tuple hq
  obtain⟨u,hu,ru⟩:=rv.get hx
  obtain⟨f0,f1,f2,f3,f4,f5⟩:=hf it (by simp)
  refine wpAny_pyNext_tuple_item st (show s.heap.IsTuple a its.toArray from p) (x:=u) (by simpa using hu) λh' st' sb=> ?_
  have I1:Inv X pins σ H {s with heap:=h'}:=I.turned (t':=s.toks) (λb o hb e=>(sb.2 b hb).trans e) f0 f1 f3 f4 f5
  obtain⟨o,e,c,d⟩:=id st'
  exact⟨u,rfl,yU (s:={s with heap:=h'}) e c d (by decide) ⟨x,H,I1,ru,⟨rfl,λys hy=>by rw[I.mU hy hq];exact hx⟩,st',λb hb=>(hf b hb).1⟩⟩
 done:=by
  intro X hP hw hK hc i pins s σ H E I hf st hg
  subst hP hw hK
  obtain⟨xs,hq,hx⟩:=hg
  obtain⟨its,rv,p,hz⟩:=I.tuple hq
  obtain⟨f0,f1,f2,f3,f4,f5⟩:=hf it (by simp)
  have hl:=rv.length
  exact wpAny_pyNext_tuple_end (I.ok.hd hc) st (show s.heap.IsTuple a its.toArray from p) (by simp;omega) λh' eb=>⟨rfl,I.turned (t':=s.toks) (λb o hb e=>eb b o hb e) f0 f1 f3 f4 f5⟩
 self:=λ_ _ _ _ _ st h=>wpAny_pyIter_tupleiter st h
theorem xG {P:Program}{w:World}{K:Frag}{tg:Expr}(it:Addr)(lo:Int)(n:Nat):Turn P w K tg (Ma lo n) [it] it (λi h=>IsRangeIter h it (lo+(i:Nat)*1) ((n:Int) - (i:Nat)) 1) where
 mem:=by simp
 obj:=λi h st b hb=>by
  have e:b=it:=by simpa using hb
  subst e
  exact⟨_,st,λv z=>by
   have z':Data.fields _=Data.cell v:=z
   cases z'⟩
 keep:=λi h h' st k=>k it (by simp) _ st
 item:=by
  intro X hP hw hK hc i pins s σ H E I hf st hg
  subst hP hw hK
  obtain⟨f0,f1,f2,f3,f4,f5⟩:=hf it (by simp)
  have W:=Walks.range (prog:=X.prog) (w:=X.w) (I.ok.hd hc) it lo 1 n
  refine W.item i s _ _ hg st λv h' tk hv st' kk=> ?_
  obtain⟨t,rfl⟩:=hv
  have I1:Inv X pins σ H {s with heap:=h',toks:=tk}:=I.turned (λb o hb e=>kk b o (by simpa using hb) e) f0 f1 f3 f4 f5
  refine⟨_,rfl,yU (s:={s with heap:=h',toks:=tk}) (n:="range_iterator") st' rfl rfl (by decide) ⟨.int (lo+i),H,I1,⟨t,?_⟩,⟨rfl,rfl⟩,st',λb hb=>(hf b hb).1⟩⟩
  rw[Int.mul_one]
 done:=by
  intro X hP hw hK hc i pins s σ H E I hf st hg
  subst hP hw hK
  obtain⟨f0,f1,f2,f3,f4,f5⟩:=hf it (by simp)
  exact wpAny_pyNext_range_end (I.ok.hd hc) st (by have:n<=i:=hg;omega) λh' eb=>⟨rfl,I.turned (t':=s.toks) (λb o hb e=>eb b o hb e) f0 f1 f3 f4 f5⟩
 self:=λ_ _ _ _ _ st h=>wpAny_pyIter_rangeiter st h
section
variable {X:Cx}{tg:Expr}
def Ko (K:Frag)(tl:TE):TI:=λσ H R=>tl σ H λx H1=>∃a,x= .ref a/\(∃xs,fV K H1 a xs)/\R (MK K a) H1
def MM (K:Frag)(tl:TE):TI:=λσ H R=>tl σ H λx H1=>∃a,x= .ref a/\(∃xs,dJ K H1 a xs)/\R (ML K a) H1
theorem yV {l:Expr}{tl:TE}(hl:PE X l tl):PI X tg l (Ko X.K tl):=by
 intro pins s σ H R I h
 refine cW (hl pins s σ H _ I h) λv s1 ⟨x,H1,I1,r1,q1⟩=> ?_
 obtain⟨a,e,⟨xs,hq⟩,q⟩:=q1
 subst e
 cases r1
 obtain⟨its,rv,p,hz⟩:=I1.list hq
 refine wpAny_pyIter_list p.isList ?_
 refine⟨s1.heap.objs.size,[s1.heap.objs.size],_,_,H1,rfl,I1.kept (t':=s1.toks) λb o e=>K7 _ e,Aa a _,⟨_,Ky _ rfl,rfl,rfl⟩,λb hb=> ?_,q⟩
 have e:b=s1.heap.objs.size:=by simpa using hb
 subst e
 exact I1.n_ (K2 _) (I1.hok.fresh (K2 _))
theorem Hn {l:Expr}{tl:TE}(hl:PE X l tl):PI X tg l (MM X.K tl):=by
 intro pins s σ H R I h
 refine cW (hl pins s σ H _ I h) λv s1 ⟨x,H1,I1,r1,q1⟩=> ?_
 obtain⟨a,e,⟨xs,hq⟩,q⟩:=q1
 subst e
 cases r1
 obtain⟨its,rv,p,hz⟩:=I1.tuple hq
 refine wpAny_pyIter_tuple (show s1.heap.IsTuple a its.toArray from p) ?_
 refine⟨s1.heap.objs.size,[s1.heap.objs.size],_,_,H1,rfl,I1.kept (t':=s1.toks) λb o e=>K7 _ e,xF a _,⟨_,Ky _ rfl,rfl,rfl⟩,λb hb=> ?_,q⟩
 have e:b=s1.heap.objs.size:=by simpa using hb
 subst e
 exact I1.n_ (K2 _) (I1.hok.fresh (K2 _))
theorem BA {pins:List (Addr×Obj)}{σ:St}{H:Hp}{s:Shared}{R:It->Hp->Prop}{E:Z3}{lo hi:Int}{t u v:Tok}{tk:Nat}(I:Inv X pins σ H s)(h1:-(2^62)<=lo)(h2:lo < 2^62)(h3:-(2^62)<=hi)(h4:hi < 2^62)
  (q:R (Ma lo (hi - lo).toNat) H):wpAny (!6) X.A (pyIter (!7)) (PIE X pins σ tg R) E {s with heap:=s.heap.push {cls:=.type "range",data:=.fields #[.int lo t,.int hi u,.int 1 v]},toks:=tk}:=by
 refine wpAny_pyIter_range (IsRange.new ..) (small_one h1 h2 h3 h4) ?_
 have I1:Inv X pins σ H {s with heap:=s.heap.push {cls:=.type "range",data:=.fields #[.int lo t,.int hi u,.int 1 v]},toks:=tk}:=I.kept λb o e=>K7 _ e
 refine⟨(s.heap.push {cls:=.type "range",data:=.fields #[.int lo t,.int hi u,.int 1 v]}).objs.size,[(s.heap.push {cls:=.type "range",data:=.fields #[.int lo t,.int hi u,.int 1 v]}).objs.size],_,_,H,rfl,
  I1.kept (t':=tk) λb o e=>K7 _ e,xG _ lo (hi - lo).toNat,?_,λb hb=> ?_,q⟩
 ·have e1:lo+((0:Nat):Int)*1=lo:=by simp
  have e2:(((hi - lo).toNat:Nat):Int) - ((0:Nat):Int)=Builtin.Range.rangeSize lo hi 1:=by rw[rangeSize_one];split <;> omega
  show IsRangeIter _ _ (lo+((0:Nat):Int)*1) ((((hi - lo).toNat:Nat):Int) - ((0:Nat):Int)) 1
  rw[e1,e2]
  exact Ky _ rfl
 ·have e:b=(s.heap.push {cls:=.type "range",data:=.fields #[.int lo t,.int hi u,.int 1 v]}).objs.size:=by simpa using hb
  subst e
  exact I1.n_ (K2 _) (I1.hok.fresh (K2 _))
def Kp (ta:TA):TI:=λσ H R=>ta σ H λvs H1=>∃j:Int,vs=[.int j]/\ -(2^62)<=j/\j < 2^62/\R (Ma 0 j.toNat) H1
theorem Ab {a:Expr}{ta:TA}{p pos:Pos}(hg:Gl X "range")(hm:X.mg "range" =none)(ha:PA X [a] ta)(hs:starEach [a] X.env=[(false,eval a X.env)]:=by rfl):PI X tg (.Call (.Name "range" p) [a] [] pos) (Kp ta):=by
 intro pins s σ H R I h
 refine Call_ (fK I hg hm boot_range (PyProof.Rows.callWith_type1 (cW (ha pos pins s σ H _ I h) λus s1 ⟨vs,H1,I1,r1,q1⟩=> ?_) hs rfl))
 obtain⟨j,e,q1,q2,q⟩:=q1
 subst e
 cases r1 with
 | cons r rr=>
  cases rr
  obtain⟨t,rfl⟩:=r
  exact call_range_1 (BA I1 (!1) (!1) q1 q2 (by simpa using q))
def MN (wi:TI)(g:TG)(tb:TS):TS:=λD σ H=>wi σ H λJ H1=>∃W:Nat->Nat->St->Hp->Prop,(∃m,W 0 m σ H1)/\∀i m σ H,W i m σ H->
 (J.stop i H/\D.nx σ H)∨(J.go i H/\∃N:St->Hp->Prop,(∀σ' H',N σ' H'->∃m',m' < m/\W (i+1) m' σ' H')/\∀x H',J.Kn i H x H'->g x σ H' λσ2 H2=>tb {D with nx:=N,ct:=N,bk:=D.nx} σ2 H2)
def pe (fp:List Addr)(h:Heap):List (Addr×Obj):=fp.filterMap λb=>(h.get? b).map λo=>(b,o)
theorem jv {fp:List Addr}{h:Heap}{b:Addr}{o:Obj}(hb:b∈fp)(e:h.get? b=some o):(b,o)∈pe fp h:=List.mem_filterMap.mpr ⟨b,hb,by rw[e];rfl⟩
theorem Ac {fp:List Addr}{h:Heap}{p:Addr×Obj}(hp:p∈pe fp h):p.1∈fp/\h.get? p.1=some p.2:=by
 obtain⟨b,hb,e⟩:=List.mem_filterMap.mp hp
 cases q:h.get? b with
 | none=>rw[q] at e;cases e
 | some o=>
  rw[q] at e
  have e':(b,o)=p:=Option.some.inj e
  subst e'
  exact⟨hb,q⟩
theorem Inv.pinned {pins:List (Addr×Obj)}{σ:St}{H:Hp}{s:Shared}{fp:List Addr}(I:Inv X pins σ H s)(hf:∀b∈fp,mV X pins H b)(ho:∀b∈fp,∃o,s.heap.get? b=some o/\∀v,o.data≠ .cell v):Inv X (pins++pe fp s.heap) σ H s :=
 I.yS λp hp=>(Kk.mp hp).elim (λz=>I.pin p (Kx _ z)) λz=>by
  obtain⟨hb,e⟩:=Ac z
  obtain⟨f0,f1,f2,_⟩:=hf p.1 hb
  obtain⟨o,e',d⟩:=ho p.1 hb
  rw[e] at e';cases e'
  exact⟨e,f0,f1,f2,d⟩
theorem Inv.lK {pins pl:List (Addr×Obj)}{σ:St}{H:Hp}{s:Shared}(I:Inv X (pins++pl) σ H s):Inv X pins σ H s:=I.yS λp hp=>I.pin p (Kx _ (KW _ hp))
theorem tF {iter:Expr}{body:List Stmt}{wi:TI}{g:TG}{tb:TS}{pos:Pos}(hp:PassesOwn (!6) X.A X.env X.xe)(hc:X.calm=true)(hi:PI X tg iter wi)(hg:PG X tg g)(hb:pd X body tb)
  (hs:∀x,foldedSetIterable iter X.env x=pure x:=by intro _;rfl):PS X (.For tg iter body [] pos) (MN wi g tb):=by
 intro pins s σ H D I h
 refine wpAny_For (cW (hi pins s σ H _ I h) λv s1 h1=>cW h1 λitv s2 h2=> ?_) hs
 obtain⟨it,fp,tn,J,H2,e,I2,T,st2,f2,W,⟨m0,w0⟩,turn⟩:=h2
 subst e
 have stat:∀{H':Hp},(∀b∈fp,H' b=none)->∀b∈fp,mV X pins H' b:=λhn b hb=>⟨hn b hb,(f2 b hb).2⟩
 refine codeAny_forLoop_any (λn s'=>∃i σ' H',Inv X pins σ' H' s'/\tn i s'.heap/\(∀b∈fp,H' b=none)/\W i n σ' H') ?_ m0 ⟨0,σ,H2,I2,st2,λb hb=>(f2 b hb).1,w0⟩
 rintro n s3 ⟨i,σ3,H3,I3,st3,Kr,w3⟩
 rcases turn i n σ3 H3 w3 with⟨stop,qn⟩ | ⟨go,N,hN,step⟩
 ·refine wpAny_passesOwn hp (cW (T.done X rfl rfl rfl hc i pins s3 σ3 H3 X.xe I3 (stat Kr) st3 stop) λr s4 ⟨hr,I4⟩=> ?_)
  subst hr
  exact wpAny_execs_nil ⟨σ3,H3,I4,qn⟩
 ·refine wpAny_passesOwn hp (cW (T.item X rfl rfl rfl hc i pins s3 σ3 H3 X.xe I3 (stat Kr) st3 go) λr s4 ⟨u,hr,h4⟩=> ?_)
  subst hr
  refine wpAny_passesOwn hp (cW h4 λ_ s5 ⟨x,H5,I5,r5,y5,Ho,MO⟩=> ?_)
  have MP:=I5.pinned (stat MO) (T.obj _ _ Ho)
  refine wpAny_passesOwn hp (cW (hg _ s5 σ3 H5 x u _ MP r5 (step x H5 y5)) λ_ s6 ⟨σ6,H6,I6,q6⟩=> ?_)
  refine wpAny_passesOwn hp (cW (hb _ s6 σ6 H6 _ I6 q6) λf s7 q7=> ?_)
  have again:∀{σ7:St} {H7:Hp},Inv X (pins++pe fp s5.heap) σ7 H7 s7->N σ7 H7->∃m,m < n/\∃i σ' H',Inv X pins σ' H' s7/\tn i s7.heap/\(∀b∈fp,H' b=none)/\W i m σ' H':=λ{σ7 H7} I7 n7=>by
   obtain⟨m',hm,w7⟩:=hN σ7 H7 n7
   refine⟨m',hm,i+1,σ7,H7,I7.lK,T.keep _ _ _ Ho λb hb o e=>(I7.pin (b,o) (Kx _ (Kx _ (jv hb e)))).1,λb hb=> ?_,w7⟩
   obtain⟨o,e,d⟩:=T.obj _ _ Ho b hb
   exact(I7.pin (b,o) (Kx _ (Kx _ (jv hb e)))).2.1
  cases f with
  | next=>obtain⟨σ7,H7,I7,n7⟩:=q7;exact again I7 n7
  | cont=>obtain⟨σ7,H7,I7,n7⟩:=q7;exact again I7 n7
  | brk=>obtain⟨σ7,H7,I7,q7⟩:=q7;exact⟨σ7,H7,I7.lK,q7⟩
  | ret v=>obtain⟨x7,σ7,H7,I7,r7,q7⟩:=q7;exact⟨x7,σ7,H7,I7.lK,r7,q7⟩
end
abbrev R2:=V->V->Hp->VK->Prop
def oT (X:Cx)(f:Value->Value->Sem Value)(r:R2):Prop :=
 ∀(pins:List (Addr×Obj)) (s:Shared) (σ:St) (H:Hp) (x y:V) (v u:Value) (Q:VK),Inv X pins σ H s->RelV x v->RelV y u->r x y H Q->
  wpAny (!6) X.A (f v u) (EP X pins σ Q) X.xe s
def hX (X:Cx)(f:Value)(r:List V->Hp->VK->Prop):Prop :=
 ∀(pins:List (Addr×Obj)) (s:Shared) (σ:St) (H:Hp) (xs:List V) (us:List Value) (Q:VK),Inv X pins σ H s->Vals xs us->r xs H Q->
  wpAny (!6) X.A (call f us) (EP X pins σ Q) X.xe s
def Mb (r:R2)(ta tb:TE):TE:=λσ H Q=>ta σ H λx H1=>tb σ H1 λy H2=>r x y H2 Q
def rI (C:Int->Int->Prop)(g:Int->Int->V):R2:=λx y H Q=>∃i j,x= .int i/\y= .int j/\C i j/\Q (g i j) H
def Gn (g:Int->Int->V):R2:=λx y H Q=>∃i j,x= .int i/\y= .int j/\Q (g i j) H
section
variable {X:Cx}{a b c:Expr}{ta tb tc:TE}{pos:Pos}
theorem Hq (ha:PE X a ta)(hb:PE X b tb){pins:List (Addr×Obj)}{s:Shared}{σ:St}{H:Hp}{R:V->V->Hp->Prop}(I:Inv X pins σ H s)
  (h:ta σ H λx H1=>tb σ H1 λy H2=>R x y H2) {Q:Z3} {f:Value->Value->Sem Value}
  (hf:∀v u s2 x y H2,Inv X pins σ H2 s2->RelV x v->RelV y u->R x y H2->wpAny (!6) X.A (f v u) Q X.xe s2) :
  wpAny (!6) X.A (eval a X.env) (λv s₁=>wpAny (!6) X.A (eval b X.env) (λu s₂=>wpAny (!6) X.A (f v u) Q X.xe s₂) X.xe s₁) X.xe s:=by
 refine cW (ha pins s σ H _ I h) λv s1 ⟨x,H1,I1,r1,q1⟩=> ?_
 refine cW (hb pins s1 σ H1 _ I1 q1) λu s2 ⟨y,H2,I2,r2,q2⟩=> ?_
 exact hf v u s2 x y H2 I2 r1 r2 q2
theorem Gq {op:Operator}{r:R2}(ho:oT X (binaryOp op) r)(ha:PE X a ta)(hb:PE X b tb):PE X (.BinOp a op b pos) (Mb r ta tb):=by
 intro pins s σ H Q I h
 exact wpAny_BinOp (Hq ha hb I h λv u s2 x y H2 I2 rx ry q=>ho pins s2 σ H2 x y v u Q I2 rx ry q)
theorem MQ {f:Value->Value->Sem Value}{C:Int->Int->Prop}{g:Int->Int->Int}
  (rule:∀(i j:Int) (t u:Tok) (s:Shared) (Q:Z3) (E:Z3),C i j->Q (.int (g i j) s.toks) {s with toks:=s.toks+1}->wpAny (!6) X.A (f (.int i t) (.int j u)) Q E s) :
  oT X f (rI C λi j=> .int (g i j)):=by
 intro pins s σ H x y v u Q I rx ry h
 obtain⟨i,j,rfl,rfl,hc,q⟩:=h
 obtain⟨t,rfl⟩:=rx
 obtain⟨t',rfl⟩:=ry
 exact rule i j t t' s _ _ hc ⟨.int (g i j),H,I.tok _,⟨_,rfl⟩,q⟩
theorem Kt {f:Value->Value->Sem Value}{g:Int->Int->Int}
  (rule:∀(i j:Int) (t u:Tok) (s:Shared) (Q:Z3) (E:Z3),Q (.int (g i j) s.toks) {s with toks:=s.toks+1}->wpAny (!6) X.A (f (.int i t) (.int j u)) Q E s) :
  oT X f (Gn λi j=> .int (g i j)):=by
 intro pins s σ H x y v u Q I rx ry h
 obtain⟨i,j,rfl,rfl,q⟩:=h
 obtain⟨t,rfl⟩:=rx
 obtain⟨t',rfl⟩:=ry
 exact rule i j t t' s _ _ ⟨.int (g i j),H,I.tok _,⟨_,rfl⟩,q⟩
theorem Hr {f:Value->Value->Sem Value}{g:Int->Int->Bool}
  (rule:∀(i j:Int) (t u:Tok) (s:Shared) (Q:Z3) (E:Z3),Q (.bool (g i j)) s->wpAny (!6) X.A (f (.int i t) (.int j u)) Q E s) :
  oT X f (Gn λi j=> .bl (g i j)):=by
 intro pins s σ H x y v u Q I rx ry h
 obtain⟨i,j,rfl,rfl,q⟩:=h
 obtain⟨t,rfl⟩:=rx
 obtain⟨t',rfl⟩:=ry
 exact rule i j t t' s _ _ ⟨.bl (g i j),H,I,rfl,q⟩
def MR (i j:Int):Prop:=0<=j/\j<=1000000/\i.natAbs < 2^64
def Hs (i j:Int):Prop:=(-(2^64) < i/\i < 2^64)∨(-(2^64) < j/\j < 2^64)
theorem Hs.ok {i j:Int}(h:Hs i j):IntMulOk i j:=by
 rcases h with⟨h1,h2⟩ | ⟨h1,h2⟩
 ·exact .of_left (intBits_le_64 h1 h2)
 ·exact .of_right (intBits_le_64 h1 h2)
theorem Ht:oT X (binaryOp .Add) (Gn λi j=> .int (i+j)):=Kt λ_ _ _ _ _ _ _ q=>add_int q
theorem Hu:oT X (binaryOp .Sub) (Gn λi j=> .int (i - j)):=Kt λ_ _ _ _ _ _ _ q=>sub_int q
theorem Hv:oT X (binaryOp .Mult) (rI Hs λi j=> .int (i*j)):=MQ λ_ _ _ _ _ _ _ hc q=>mul_int q hc.ok
theorem Hw:oT X (binaryOp .Mod) (rI (λ_ j=>0 < j) λi j=> .int (i % j)):=MQ λi j _ _ _ _ _ hc q=>by
 have h1:(0:Int) < j:=hc
 exact mod_int' (!1) (by rw[Int.fmod_eq_emod_of_nonneg i (!1)];exact q)
theorem Hx:oT X (binaryOp .Pow) (rI MR λi j=> .int (i^j.toNat)):=MQ λ_ _ _ _ _ _ _ hc q=>pow_int_small hc.1 hc.2.1 hc.2.2 q
end
section
variable {X:Cx}{a b c:Expr}{ta tb tc:TE}{pos:Pos}
theorem Hy {pins:List (Addr×Obj)}{σ:St}{H:Hp}{s:Shared}{Q:VK}{k k':Bool}(I:Inv X pins σ H s)(q:Q (.bl k) H)(e:k=k'):EP X pins σ Q (.bool k') s:=by
 subst e
 exact⟨.bl k,H,I,rfl,q⟩
theorem KA:oT X (compareOp .Lt) (Gn λi j=> .bl (decide (i < j))):=Hr λ_ _ _ _ _ _ _ q=>lt_int q
theorem KC:oT X (compareOp .Gt) (Gn λi j=> .bl (decide (j < i))):=Hr λ_ _ _ _ _ _ _ q=>gt_int q
theorem KD:oT X (compareOp .GtE) (Gn λi j=> .bl (decide (j<=i))):=Hr λ_ _ _ _ _ _ _ q=>ge_int q
theorem Ef:oT X (compareOp .IsNot) (λx y H Q=>y= .non/\Q (.bl (!decide (x= .non))) H):=by
 intro pins s σ H x y v u Q I rx ry h
 obtain⟨rfl,q⟩:=h
 cases ry
 refine isnot_none_gen (Hy I q ?_)
 cases x <;> first
  | (cases rx;rfl)
  | (obtain⟨t,rfl⟩:=rx;rfl)
theorem oT.or {f:Value->Value->Sem Value}{r r':R2}(h:oT X f r)(h':oT X f r'):oT X f (λx y H Q=>r x y H Q∨r' x y H Q):=by
 intro pins s σ H x y v u Q I rx ry q
 rcases q with q | q
 ·exact h pins s σ H x y v u Q I rx ry q
 ·exact h' pins s σ H x y v u Q I rx ry q
theorem cY (b:Expr){op:CmpOp}(h:op≠ .In:=by decide)(h2:op≠ .NotIn:=by decide):behindInMarks op b=false:=by
 have e1:(op==CmpOp.In)=false:=by cases op <;> first | rfl | exact absurd rfl h
 have e2:(op==CmpOp.NotIn)=false:=by cases op <;> first | rfl | exact absurd rfl h2
 cases b <;> simp[behindInMarks,e1,e2]
theorem Eg {op:CmpOp}{r:R2}(ho:oT X (compareOp op) r)(ha:PE X a ta)(hb:PE X b tb)(hm:behindInMarks op b=false):PE X (.Compare a [op] [b] pos) (Mb r ta tb):=by
 intro pins s σ H Q I h
 exact wpAny_Compare1 (Hq ha hb I h λv u s2 x y H2 I2 rx ry q=>ho pins s2 σ H2 x y v u Q I2 rx ry q) hm
def KE (t:TE):TT:=λσ H Q=>t σ H λx H'=>∃k,x= .bl k/\Q k H'
theorem Eh {op:CmpOp}{r:R2}(ho:oT X (compareOp op) r)(ha:PE X a ta)(hb:PE X b tb)(hm:behindInMarks op b=false):PT X (.Compare a [op] [b] pos) (KE (Mb r ta tb)):=by
 intro pins s σ H Q I h
 refine wpAny_isTrue_Compare1 (cW (ha pins s σ H _ I h) λv s1 ⟨x,H1,I1,r1,q1⟩=>cW (hb pins s1 σ H1 _ I1 q1) λu s2 ⟨y,H2,I2,r2,q2⟩=>
  cW (ho pins s2 σ H2 x y v u _ I2 r1 r2 q2) λc s3 ⟨z,H3,I3,r3,k,e,q3⟩=> ?_) hm
 subst e
 cases r3
 exact wpAny_truthy_bool ⟨H3,I3,q3⟩
theorem j4:(sizeLine:Nat) < 2^63:=by rw[sizeLine_eq];decide
theorem vals1 {x:V}{us:List Value}(r:Vals [x] us):∃u,us=[u]/\RelV x u:=by
 cases r with
 | cons r1 r2=>cases r2;exact⟨_,rfl,r1⟩
end
structure Cls (K:Frag)(C:Addr):Prop where
 pg:PySem.W.plainGet K C Str.empty=true
 hd:PySem.W.hasDictIn K C=true
 po:PySem.W.plainOver K C=true
 sa:PySem.W.findIn K (.ref C) "__setattr__" =some (some (.builtin "object.__setattr__"))
theorem Cls.get {K:Frag}{C:Addr}(c:Cls K C)(f:Str):PySem.W.plainGet K C f=true:=c.pg
section
variable {X:Cx}{pins:List (Addr×Obj)}{σ:St}{H:Hp}{s:Shared}{a C dx:Addr}{fs:List (Str×V)}{f:Str}{v:V}{A:Around}{E:Z3}
theorem Inv.made (I:Inv X pins σ H s):Inv X pins σ (upd (upd H s.heap.objs.size (.own (s.heap.objs.size+1))) (s.heap.objs.size+1) (.ins C s.heap.objs.size []))
  {s with heap:=(s.heap.push PySem.W.emptyDict).push (PySem.W.instObj C s.heap.objs.size)}:=by
 have e1:(s.heap.push PySem.W.emptyDict).get? s.heap.objs.size=some PySem.W.emptyDict:=Ky s.heap rfl
 have e2:((s.heap.push PySem.W.emptyDict).push (PySem.W.instObj C s.heap.objs.size)).get? (s.heap.objs.size+1)=some (PySem.W.instObj C s.heap.objs.size):=by
  have:=Ky (s.heap.push PySem.W.emptyDict) (o:=PySem.W.instObj C s.heap.objs.size) rfl
  rwa [XY] at this
 have e3:(s.heap.push PySem.W.emptyDict).Ns s.heap.objs.size (λ_=>none):=⟨PySem.W.emptyDict,#[],_,e1,rfl,(λe he=>absurd he (by simp)),λ_=>rfl⟩
 have I1:=I.laid (a:=s.heap.objs.size) (o:=.own (s.heap.objs.size+1)) (h':=s.heap.push PySem.W.emptyDict) (t':=s.toks) (λb u q=>K7 _ q) (K2 _) ⟨_,e1⟩
 refine I1.laid (a:=s.heap.objs.size+1) (o:=.ins C s.heap.objs.size []) (t':=s.toks) (λb u q=>K7 _ q) (Nat.le_of_eq (XY _ _)) ?_
 have ne:s.heap.objs.size≠s.heap.objs.size+1:=X4 (Uj _)
 refine⟨by rw[aO ne,aw],Xy _,ne,e2,λ_=>none,(Heap.Ns1.of_empty e3).at λo q=>K7 _ q,λ_=>True.intro,λy hy=>absurd rfl hy⟩
end
structure dM (k:Nat)(A:Around):Prop where
 hd:A.handled=none
 dp:A.depth+3*k+5 < recursionLimit
 un:A.units+16*k+200 < cLine
theorem dM.mono {j k:Nat}{A:Around}(r:dM k A)(h:j<=k):dM j A:=⟨r.hd,by have:=r.dp;omega,by have:=r.un;omega⟩
theorem dM.deeper {k:Nat}{A:Around}(r:dM (k+1) A)(env:Env):dM k (A.deeper env) :=
 ⟨r.hd,by have:=r.dp;show A.depth+1+3*k+5 < _;omega,by have:=r.un;show A.units+3+16*k+200 < _;omega⟩
theorem dM.in1 {k:Nat}{A:Around}(r:dM (k+1) A):dM k A.in1 :=
 ⟨r.hd,by have:=r.dp;show A.depth+3*k+5 < _;omega,by have:=r.un;show A.units+1+16*k+200 < _;omega⟩
theorem xH {A:Around}{C:Addr}{us:List Value}{kw:List (Str×Value)}:(A.under (.builtin "type.__call__" ⟨.ref C :: us,kw⟩)).depth=A.depth+1:=by
 first | rfl | simp[Around.under,Code.weight,Code.isCreation,Code.isGuard,Code.isCaller,Code.frames,Code.isFrame,guardIds]
theorem xI {A:Around}{C:Addr}{us:List Value}{kw:List (Str×Value)}:(A.under (.builtin "type.__call__" ⟨.ref C :: us,kw⟩)).units=A.units+1:=by
 first | rfl | simp[Around.under,Code.cUnits,Code.frames,Code.isFrame]
theorem dM.make {k:Nat}{A:Around}(r:dM (k+1) A)(C:Addr)(us:List Value)(kw:List (Str×Value)):dM k (A.under (.builtin "type.__call__" ⟨.ref C :: us,kw⟩)) :=
 ⟨r.hd,by have:=r.dp;rw[xH];omega,by have:=r.un;rw[xI];omega⟩
theorem dM.depth {k:Nat}{A:Around}(r:dM k A):A.depth < recursionLimit:=by have:=r.dp;omega
theorem dM.units {k:Nat}{A:Around}(r:dM k A):A.units+64 < cLine:=by have:=r.un;omega
def MS:TA:=λ_ H Q=>Q [] H
def KG (ta:TE)(tr:TA):TA:=λσ H Q=>ta σ H λx H1=>tr σ H1 λxs H2=>Q (x :: xs) H2
section
variable {X:Cx}{e:Expr}{es:List Expr}{te:TE}{t:TA}{pos:Pos}
theorem cZ:PA X [] MS:=λ_ _ _ _ H Q I h=>Calls.spliced_nil ⟨[],H,I,.nil,h⟩
theorem bx (ha:PE X e te)(hr:PA X es t)(hs:starEach (e :: es) X.env=(false,eval e X.env) :: starEach es X.env:=by rfl):PA X (e :: es) (KG te t):=by
 intro pos pins s σ H Q I h
 rw[hs]
 show wpAny _ _ (spliced ((false,eval e X.env) :: backTo pos (starEach es X.env))) _ _ s
 refine Calls.spliced_cons (cW (ha pins s σ H _ I h) λu s1 ⟨x,H1,I1,r1,q1⟩=> ?_)
 exact cW (hr pos pins s1 σ H1 _ I1 q1) λus s2 ⟨xs,H2,I2,r2,q2⟩=>⟨x :: xs,H2,I2,.cons r1 r2,q2⟩
def MT (t:TA):TE:=λσ H Q=>t σ H λxs H1=>xs.length<=sizeLine/\∀p,H1 p=none->Q (.ref p) (upd H1 p (.tup xs))
def MU (t:TA):TE:=λσ H Q=>t σ H λxs H1=>xs.length<=sizeLine/\∀p,H1 p=none->Q (.ref p) (upd H1 p (.lst xs))
theorem Hz {x1}(h:PA X es t):PE X (.Tuple es x1 pos) (MT t):=by
 intro pins s σ H Q I hq
 refine wpAny_Tuple_spliced (cW (h pos pins s σ H _ I hq) λus s1 ⟨xs,H1,I1,r,z,q⟩=>⟨by rw[←r.length];exact z,?_⟩)
 have hf:H1 s1.heap.objs.size=none:=I1.hok.fresh (K2 _)
 refine⟨.ref s1.heap.objs.size,upd H1 s1.heap.objs.size (.tup xs),I1.laid (t':=s1.toks) (λb u e=>K7 _ e) (K2 _) ?_,rfl,q _ hf⟩
 exact⟨z,us,r,⟨_,Ky _ rfl,rfl,_,rfl⟩⟩
theorem BB (h:PA X es t):PE X (.List es pos) (MU t):=by
 intro pins s σ H Q I hq
 refine wpAny_List_spliced (cW (h pos pins s σ H _ I hq) λus s1 ⟨xs,H1,I1,r,z,q⟩=>⟨by rw[←r.length];exact z,?_⟩)
 have hf:H1 s1.heap.objs.size=none:=I1.hok.fresh (K2 _)
 refine⟨.ref s1.heap.objs.size,upd H1 s1.heap.objs.size (.lst xs),I1.laid (t':=s1.toks) (λb u e=>K7 _ e) (K2 _) ?_,rfl,q _ hf⟩
 exact⟨z,us,0,r,Ky _ rfl⟩
end
abbrev Sp:=List V->Hp->VK->XK->Prop
abbrev yW:=List Env->Hp->Shared->XK->Value->Shared->Prop
structure rg (P:Program)(w:World)(K:Frag)(mg:Str->Option Value)(base:Heap)(A:Around)(outer:List Env)(s:Shared)(H:Hp):Prop where
 frames:A.frames=some outer
 mod:Mod K mg base
 bs:∀b o,base.get? b=some o->s.heap.get? b=some o/\H b=none
 xA:base.objs.size<=s.heap.objs.size
 kS:s.heap.FunFrames base outer
 Bt:∀b∈frs outer,H b=none
 hok:oQ P w H s.heap
 bare:AllBare s.gens
def CE (outer:List Env)(P:Program)(w:World)(H:Hp)(s:Shared)(Q:VK)(u:Value)(s':Shared):Prop :=
 ∃v H',s'.os=s.os/\AllBare s'.gens/\Un (frs outer) [] H H' s.heap s'.heap/\oQ P w H' s'.heap/\RelV v u/\Q v H'
def CR (CX:yW)(outer:List Env)(P:Program)(w:World)(H:Hp)(s:Shared)(Q:VK)(E:XK)(r:Result)(s':Shared):Prop :=
 match r with
 | .ok (.ret u)=>CE outer P w H s Q u s'
 | .ok _=>False
 | .error e=>CX outer H s E e s'
structure iZ (P:Program)(w:World)(K:Frag)(mg:Str->Option Value)(base:Heap)(CX:yW)(k:Nat)(f:Addr)(fd:FuncData)(ps:List Str)(sp:Sp):Prop where
 len:∀vs H Q E,sp vs H Q E->vs.length=ps.length
 run:∀(A:Around) (outer:List Env) (s:Shared) (H:Hp) (args:Args) (us:List Value) (vs:List V) (Q:VK) (E:XK),dM k A->rg P w K mg base A outer s H->BindsTo s fd args (ps.zip us)->Vals vs us->sp vs H Q E->
  codeAny (model P w) A (.call (.ref f) args) (CR CX outer P w H s Q E) s
theorem iZ.mono {P:Program}{w:World}{K:Frag}{mg:Str->Option Value}{base:Heap}{CX:yW}{j k:Nat}{f:Addr}{fd:FuncData}{ps:List Str}{sp:Sp}(F:iZ P w K mg base CX j f fd ps sp)(h:j<=k) :
  iZ P w K mg base CX k f fd ps sp:=⟨F.len,λA outer s H args us vs Q E hr=>F.run A outer s H args us vs Q E (hr.mono h)⟩
theorem iZ.imp {P:Program}{w:World}{K:Frag}{mg:Str->Option Value}{base:Heap}{CX:yW}{k:Nat}{f:Addr}{fd:FuncData}{ps:List Str}{sp NT:Sp}(F:iZ P w K mg base CX k f fd ps sp)
  (h:∀vs H Q E,NT vs H Q E->sp vs H Q E):iZ P w K mg base CX k f fd ps NT :=
 ⟨λvs H Q E q=>F.len vs H Q E (h _ _ _ _ q),λA outer s H args us vs Q E hr he hb hv hs=>F.run A outer s H args us vs Q E hr he hb hv (h _ _ _ _ hs)⟩
theorem rg.make {P:Program}{w:World}{K:Frag}{mg:Str->Option Value}{base:Heap}{A:Around}{outer:List Env}{s:Shared}{H:Hp}(e:rg P w K mg base A outer s H)(C:Addr)(us:List Value)(kw:List (Str×Value)) :
  rg P w K mg base (A.under (.builtin "type.__call__" ⟨.ref C :: us,kw⟩)) outer s H:=⟨by first | exact e.frames | (simpa [Around.under,Code.envs,Code.isFrame,pushEnvs] using e.frames),e.mod,e.bs,e.xA,e.kS,e.Bt,e.hok,e.bare⟩
theorem rg.in1 {P:Program}{w:World}{K:Frag}{mg:Str->Option Value}{base:Heap}{A:Around}{outer:List Env}{s:Shared}{H:Hp}(e:rg P w K mg base A outer s H) :
  rg P w K mg base A.in1 outer s H:=⟨e.frames,e.mod,e.bs,e.xA,e.kS,e.Bt,e.hok,e.bare⟩
section
variable {X:Cx}{pins:List (Addr×Obj)}{σ:St}{H:Hp}{s s':Shared}
theorem Inv.env0 (I:Inv X pins σ H s):rg X.prog X.w X.K X.mg X.base X.A X.stack s H :=
 ⟨I.ok.frames,I.ok.mod,I.bs,KJ I.ok.xA I.sz,I.stack,I.tw,I.hok,I.bare⟩
theorem Inv.after {Q:VK}{u:Value}(I:Inv X pins σ H s)(h:CE X.stack X.prog X.w H s Q u s'):EP X pins σ Q u s':=by
 obtain⟨v,H',os,bare,un,hok,r,q⟩:=h
 obtain⟨hh,g,d,t,os'⟩:=s'
 obtain rfl:os'=s.os:=os
 exact⟨v,H',I.call (h':=hh) (g':=g) (d':=d) (t':=t) (ch:=[]) un hok bare (λb z=>absurd z (by simp)),r,q⟩
end
def KH (sp:Sp)(Gr:List V)(E:XK)(t:TA):TE:=λσ H Q=>t σ H λvs H1=>sp (vs++Gr) H1 Q E
def Binds (K:Frag)(fd:FuncData)(ps:List Str)(ds:List Value):Prop :=
 ∀(s:Shared) (us:List Value),K.In s.heap->(us++ds).length=ps.length->BindsTo s fd ⟨us,[]⟩ (ps.zip (us++ds))
theorem Binds.all {K:Frag}{fd:FuncData}{ps:List Str}(h:∀us:List Value,us.length=ps.length->bindArgs fd ⟨us,[]⟩=pure (ps.zip us)):Binds K fd ps []:=λs us _ hl=>by
 rw[Xj] at hl⊢
 exact .of_eq (h us hl)
def Passes (CX:yW)(X:Cx)(E:XK):Prop:=∀(pins:List (Addr×Obj)) (σ:St) (H:Hp) (s:Shared) (e:Value) (s':Shared),Inv X pins σ H s->CX X.stack H s E e s'->X.xe e s'
section
variable {X:Cx}{CX:yW}{k:Nat}{f C:Addr}{fd:FuncData}{ps:List Str}{sp:Sp}{Gr:List V}{ds:List Value}{E:XK}{x m:Str}{p pos apos:Pos}{e o:Expr}{es:List Expr}{ta:TE}{t:TA}
theorem HA {pins:List (Addr×Obj)}{σ:St}{H:Hp}{s:Shared}{Q:VK}{us:List Value}{vs:List V}(F:iZ X.prog X.w X.K X.mg X.base CX k f fd ps sp)(hr:dM k X.A)(hb:Binds X.K fd ps ds)(hd:Vals Gr ds)(hx:Passes CX X E)
  (I:Inv X pins σ H s) (r:Vals vs us) (h:sp (vs++Gr) H Q E):wpAny (!6) X.A (call (.ref f) us) (EP X pins σ Q) X.xe s:=by
 have r2:Vals (vs++Gr) (us++ds):=r.append hd
 have hl:(us++ds).length=ps.length:=by rw[←r2.length];exact F.len _ _ _ _ h
 refine wpAny_call (codeAny_mono (F.run X.A X.stack s H ⟨us,[]⟩ (us++ds) (vs++Gr) Q E hr I.env0 (hb s us I.z_ hl) r2 h) λr s' hq=> ?_)
 cases r with
 | error e=>exact hx pins σ H s e s' I hq
 | ok fl=>
  cases fl with
  | ret u=>exact I.after hq
  | next=>exact False.elim hq
  | brk=>exact False.elim hq
  | cont=>exact False.elim hq
theorem yX (F:iZ X.prog X.w X.K X.mg X.base CX k f fd ps sp)(hr:dM k X.A)(hg:Gl X x)(hm:X.mg x=some (.ref f))(hk:keepIn X.K (.ref f)=true)(hb:Binds X.K fd ps ds)(hd:Vals Gr ds)(hx:Passes CX X E)
  (ha:PA X (e :: es) t) (hdb:(x==("__debug__":Str))=false:=by decide) (he:starEach (e :: es) X.env=(false,eval e X.env) :: starEach es X.env:=by rfl) (hpl:(backTo pos (starEach es X.env)).any (·.1)=false:=by rfl) :
  PE X (.Call (.Name x p) (e :: es) [] pos) (KH sp Gr E t):=by
 intro pins s σ H Q I h
 refine wpAny_Call_Name_kw (yT I hg hm ?_ hdb)
 refine PySem.W.callWith_K (h₀:=X.base) I.ok.mod.L7 hk (cW (ha pos pins s σ H _ I h) λus s1 ⟨vs,H1,I1,r,q⟩=>⟨I1.z_,?_⟩) he hpl
 exact HA F hr hb hd hx I1 r q
end
structure aK (N P:List Str)(sc:Scope):Prop where
 kind:sc.kind= .function
 co:sc.isCoroutine=false
 gen:sc.isGenerator=false
 nd:N.Nodup
 pre:N.take P.length=P
 par:∀x∈P,sc.names.lookup x=some .local∨sc.names.lookup x=some .cell
 HB:∀y∈sc.names,y.2≠ .free
theorem rN {kindOf:Str->Option NameKind}{x:Str}:∀{binds:List (Str×Value)} {m:Str->Option Value},(∀v,(x,v)∉binds)->bindL kindOf binds m x=m x
 | [],_,_=>rfl
 | (n,v) :: r,m,h=>by
  unfold bindL
  rw[rN λw hw=>h w (K9 _ hw)]
  split
  ·have:x≠n:=by rintro rfl;exact h v K8
   simp[this]
  ·rfl
theorem rO {kindOf:Str->Option NameKind}{x:Str}:∀{binds:List (Str×Value)} {m:Str->Option Value},(∀v,(x,v)∉binds)->bindC kindOf binds m x=m x
 | [],_,_=>rfl
 | (n,v) :: r,m,h=>by
  unfold bindC
  rw[rO λw hw=>h w (K9 _ hw)]
  split
  ·rfl
  ·have:x≠n:=by rintro rfl;exact h v K8
   simp[this]
theorem rP {kindOf:Str->Option NameKind}{x:Str}{v:Value}:∀{P:List Str} {vs:List Value} {i:Nat} {m:Str->Option Value},P.Nodup->P[i]? =some x->vs[i]? =some v->kindOf x=some .local->
  bindL kindOf (P.zip vs) m x=some v
 | [],_,_,_,_,h,_,_=>by simp at h
 | _ :: _,[],_,_,_,_,h,_=>by simp at h
 | p :: P,w :: vs,0,m,nd,h1,h2,hk=>by
  simp at h1 h2;subst h1;subst h2
  show bindL kindOf ((p,w) :: P.zip vs) m p=_
  unfold bindL
  rw[rN λv hv=>(KU.mp nd).1 (List.of_mem_zip hv).1,JQ hk]
  simp
 | p :: P,w :: vs,i+1,m,nd,h1,h2,hk=>by
  show bindL kindOf ((p,w) :: P.zip vs) m x=_
  unfold bindL
  exact rP (i:=i) (KU.mp nd).2 (by simpa using h1) (by simpa using h2) hk
theorem rQ {kindOf:Str->Option NameKind}{x:Str}{v:Value}:∀{P:List Str} {vs:List Value} {i:Nat} {m:Str->Option Value},P.Nodup->P[i]? =some x->vs[i]? =some v->kindOf x≠some .local->
  bindC kindOf (P.zip vs) m x=some v
 | [],_,_,_,_,h,_,_=>by simp at h
 | _ :: _,[],_,_,_,_,h,_=>by simp at h
 | p :: P,w :: vs,0,m,nd,h1,h2,hk=>by
  simp at h1 h2;subst h1;subst h2
  show bindC kindOf ((p,w) :: P.zip vs) m p=_
  unfold bindC
  rw[rO λv hv=>(KU.mp nd).1 (List.of_mem_zip hv).1,JV hk]
  simp
 | p :: P,w :: vs,i+1,m,nd,h1,h2,hk=>by
  show bindC kindOf ((p,w) :: P.zip vs) m x=_
  unfold bindC
  exact rQ (i:=i) (KU.mp nd).2 (by simpa using h1) (by simpa using h2) hk
def start (N:List Str)(vs:List V):St:=vs.map some++List.replicate (N.length - vs.length) none
def rh (CX:yW)(P:Program)(w:World)(K:Frag)(mg:Str->Option Value)(base:Heap)(N:List Str)(qual:Str)(scope:Scope)(f:Addr)(cd:Value)(A:Around)(outer:List Env)(s:Shared)(H:Hp)(E:XK):Cx where
 prog:=P
 w:=w
 K:=K
 mg:=mg
 base:=base
 A:=A.deeper (envOfC qual scope s.heap.objs.size f cd)
 N:=N
 s₀:=s
 H₀:=H
 env:=envOfC qual scope s.heap.objs.size f cd
 outer:=outer
 stack:=envOfC qual scope s.heap.objs.size f cd :: outer
 ex:=[]
 calm:=true
 fn:=λ_=>true
 pn:=[]
 xe:=λe s'=>wpAny (model P w) (A.deeper (envOfC qual scope s.heap.objs.size f cd)) (leaving (envOfC qual scope s.heap.objs.size f cd) e) (λ_ s''=>CX outer H s E e s'') (λe' s''=>CX outer H s E e' s'') s'
theorem vg {sc:Scope}{n:Nat}{x:Str}(h:sc.names.lookup x=some .cell):∃c,(cellsFrom n sc.names []).lookup x=some c:=by
 have q:=PySem.W.cellsFrom_some sc.names n [] (.inl h)
 exact Option.isSome_iff_exists.mp q
theorem Ad {CX:yW}{P:Program}{w:World}{K:Frag}{mg:Str->Option Value}{base:Heap}{N ps:List Str}{qual:Str}{scope:Scope}{f:Addr}{cd:Value}{A:Around}{outer:List Env}{s s1:Shared}{H:Hp}{E:XK}{us:List Value}{vs:List V}
  (S:aK N ps scope) (hd:A.handled=none) (e0:rg P w K mg base A outer s H) (hl:vs.length=ps.length) (r:Vals vs us)
  (x:InCallC s s.heap.objs.size (bindL (envOfC qual scope s.heap.objs.size f cd).kindOf (ps.zip us) λ_=>none) (cellsFrom (s.heap.objs.size+1) scope.names []) (bindC (envOfC qual scope s.heap.objs.size f cd).kindOf (ps.zip us) λ_=>none) s1) :
  Inv (rh CX P w K mg base N qual scope f cd A outer s H E) [] (start N vs) H s1:=by
 have hpl:ps.length<=N.length:=by have:=congrArg List.length S.pre;rw[Xk] at this;omega
 obtain⟨h1,tk,rfl,hk⟩:=x.done
 have KI:∀b:Addr,b∉(rh CX P w K mg base N qual scope f cd A outer s H E).ex:=λb z=>absurd (show b∈([]:List Addr) from z) (by simp)
 refine⟨⟨e0.mod,S.kind,rfl,rfl,K2 _,λy z c h1 h2=> ?_,λy hy=> ?_,λy c _ h=> ?_,λ_=>hd,Around.frames_deeper e0.frames,.inr ⟨rfl,rfl⟩,λb z=>absurd z (KI b),e0.bs,e0.xA,λb _ _=>KI b,λb z=>absurd z (KI b),e0.kS,e0.Bt⟩,
  rfl,e0.bare,Un.kept hk,⟨_,x.toInCall.ns,λi y v h1 h2 h3=> ?_⟩,λy c h=>⟨_,x.cell y c h⟩,e0.hok.fresh (K2 _),λy c h=> ?_,λp hp=>absurd (show p∈([]:List (Addr×Obj)) from hp) (by simp),e0.hok.kept hk,?_⟩
 ·exact name_of_addr x.apart (PySem.mem_of_lookup h1) (PySem.mem_of_lookup h2)
 ·have hy:scope.names.lookup y=some .cell∨scope.names.lookup y=some .free:=hy
  rcases hy with hy | hy
  ·exact vg hy
  ·exact absurd rfl (S.HB _ (PySem.mem_of_lookup hy))
 ·exact Y0 (x.above y c (PySem.mem_of_lookup h))
 ·have hi:i < vs.length:=by
   unfold start at h2
   by_cases hi:i < vs.length
   ·exact hi
   ·rw[Xu (by simpa using hi)] at h2
    rw[J2] at h2
    split at h2 <;> cases h2
  have ha:vs[i]? =some v:=by
   unfold start at h2
   rw[Xx (by simpa using hi),KY] at h2
   cases e:vs[i]? with
   | none=>rw[e] at h2;cases h2
   | some a=>rw[e] at h2;cases h2;rfl
  obtain⟨u,hu,rv⟩:=r.get ha
  have hp:ps[i]? =some y:=by
   rw[←S.pre,List.getElem?_take_of_lt (!1)];exact h1
  have NU:ps.Nodup:=by rw[←S.pre];exact S.nd.sublist (J9 _ _)
  refine⟨u,rv,?_⟩
  rcases S.par y (Y1 hp) with k | k
  ·exact .inl ⟨k,rP NU hp hu k⟩
  ·obtain⟨c,e⟩:=vg (n:=s.heap.objs.size+1) k
   refine .inr ⟨.inl k,c,e,?_⟩
   have q:=x.cell y c e
   rw[rQ NU hp hu (by show scope.names.lookup y≠_;rw[k];decide)] at q
   exact q
 ·exact e0.hok.fresh (Y0 (x.above y c (PySem.mem_of_lookup h)))
 ·unfold start
  show _=N.length
  rw[K1,K4,Uu]
  omega
theorem KL {CX:yW}{P:Program}{w:World}{K:Frag}{mg:Str->Option Value}{base:Heap}{k:Nat}{f:Addr}{name qual:Str}{params:Arguments}{body:List Stmt}{scope:Scope}{dV kV doc pm cdv ct oc:Value}{an od:Option Addr}
  {osl:Array (Option Value)} {N ps:List Str} {sp:Sp} (lk:K.lookup f=some ⟨oc,od,.func (fnOf name qual params body scope dV kV doc pm an cdv ct),osl⟩) (hcd:codeIn K cdv qual=true) (S:aK N ps scope)
  (len:∀vs H Q E,sp vs H Q E->vs.length=ps.length)
  (hbody:∀(A:Around) (outer:List Env) (s:Shared) (H:Hp) (vs:List V) (Q:VK) (E:XK),dM k (A.deeper (envOfC qual scope s.heap.objs.size f cdv))->sp vs H Q E->
   ∃t,pd (rh CX P w K mg base N qual scope f cdv A outer s H E) body t/\t {nx:=λ_ H'=>Q .non H',rt:=Q} (start N vs) H) :
  iZ P w K mg base CX (k+1) f (fnOf name qual params body scope dV kV doc pm an cdv ct) ps sp:=by
 refine⟨len,λA outer s H args us vs Q E hr e0 hb r hsp=> ?_⟩
 have hl:=len _ _ _ _ hsp
 have KX:K.In s.heap:=e0.mod.L7.keeps λb o e=>(e0.bs b o e).1
 have lim:s.heap.NoLimit:=e0.mod.nolimit.keeps λb o e=>(e0.bs b o e).1
 have hkind:∀y∈ps.zip us,scope.names.lookup y.1=some .local∨(scope.names.lookup y.1=some .cell/\((cellsFrom (s.heap.objs.size+1) scope.names []).lookup y.1).isSome=true):=λ⟨n,v⟩ hy=>by
  rcases S.par n (List.of_mem_zip hy).1 with q | q
  ·exact .inl q
  ·exact .inr ⟨q,PySem.W.cellsFrom_some _ _ _ (.inl q)⟩
 refine codeAny_call_function hr.depth (KX _ _ lk) rfl S.co S.gen rfl (PySem.W.codeRec_of KX hcd) (hb _ _ _ _ ?_)
 refine wpAny_newFunctionEnv_cells S.kind hkind λenv he s1 x=> ?_
 subst he
 refine⟨lim.keeps x.toInCall.keep,codeAny_func ?_⟩
 obtain⟨t,ht,hq⟩:=hbody A outer s H vs Q E (hr.deeper _) hsp
 have I:Inv (rh CX P w K mg base N qual scope f cdv A outer s H E) [] (start N vs) H s1:=Ad S hr.hd e0 hl r x
 refine wpAny_mono (ht [] s1 (start N vs) H _ I hq) (λfl s' hs=> ?_) λe s' hs=>hs
 have fin:∀{σ':St} {H':Hp} {v:V} {u:Value},Inv (rh CX P w K mg base N qual scope f cdv A outer s H E) [] σ' H' s'->RelV v u->Q v H'->CE outer P w H s Q u s' :=
  λ{σ' H' v u} J rv q=>⟨v,H',J.os,J.bare,J.base,J.hok,rv,q⟩
 cases fl with
 | ret u=>
  obtain⟨v,σ',H',J,rv,q⟩:=hs
  exact fin J rv q
 | next=>
  obtain⟨σ',H',J,q⟩:=hs
  exact fin (v:=V.non) (u:=Value.none) J rfl q
 | brk=>
  obtain⟨_,_,_,q⟩:=hs
  exact False.elim q
 | cont=>
  obtain⟨_,_,_,q⟩:=hs
  exact False.elim q
section
variable {X:Cx}{x:Str}{p pos:Pos}{e:Expr}{es:List Expr}{t:TA}{id T:String}{r:List V->Hp->VK->Prop}
def MV (r:List V->Hp->VK->Prop)(t:TA):TE:=λσ H Q=>t σ H λvs H1=>r vs H1 Q
theorem vh (hc:hX X (.builtin id) r)(hg:Gl X x)(hm:X.mg x=none)(hv:bootBuiltins x=some (.builtin id))(ha:PA X (e :: es) t)(hn:x≠ "__name__":=by decide)(hdb:(x==("__debug__":Str))=false:=by decide)
  (he:starEach (e :: es) X.env=(false,eval e X.env) :: starEach es X.env:=by rfl) (hpl:(backTo pos (starEach es X.env)).any (·.1)=false:=by rfl):PE X (.Call (.Name x p) (e :: es) [] pos) (MV r t):=by
 intro pins s σ H Q I h
 refine wpAny_Call_Name_kw (fK I hg hm hv ?_ hn hdb)
 exact PyProof.Rows.callWith_builtin1 (cW (ha pos pins s σ H _ I h) λus s1 ⟨vs,H1,I1,r1,q1⟩=>hc pins s1 σ H1 vs us Q I1 r1 q1) he hpl
theorem Ae (hc:hX X (.type T) r)(hg:Gl X x)(hm:X.mg x=none)(hv:bootBuiltins x=some (.type T))(ha:PA X (e :: es) t)(hn:x≠ "__name__":=by decide)(hdb:(x==("__debug__":Str))=false:=by decide)
  (he:starEach (e :: es) X.env=(false,eval e X.env) :: starEach es X.env:=by rfl) (hpl:(backTo pos (starEach es X.env)).any (·.1)=false:=by rfl):PE X (.Call (.Name x p) (e :: es) [] pos) (MV r t):=by
 intro pins s σ H Q I h
 refine wpAny_Call_Name_kw (fK I hg hm hv ?_ hn hdb)
 exact PyProof.Rows.callWith_type1 (cW (ha pos pins s σ H _ I h) λus s1 ⟨vs,H1,I1,r1,q1⟩=>hc pins s1 σ H1 vs us Q I1 r1 q1) he hpl
end
end L2
namespace HT
open PySem PyProof.Rows
section
variable {prog:Program}{w:World}{A:Around}{E:Z3}{s:Shared}
theorem Ei {t b:Addr}{vs ws:List Value}{Q:Z3}(ht:IsTup s.heap t vs.toArray)(hb:IsTup s.heap b ws.toArray)(hv:vs≠[])
  (h1:ws=[]->Q (.ref t) s) (h2:ws≠[]->Q (!7) {s with heap:=s.heap.push {cls:=.type "tuple",data:=.seq (vs++ws).toArray}})
  (hsz:vs.length+ws.length<=sizeLine):wpAny (!3) A (binaryOp .Add (.ref t) (.ref b)) Q E s:=by
 obtain⟨⟨cls,dd,data,sl⟩,ho,hc,n,hd⟩:=id ht
 obtain⟨⟨cls2,dd2,data2,sl2⟩,ho2,hc2,n2,hd2⟩:=id hb
 simp only at hc hd hc2 hd2
 subst hc hd hc2 hd2
 have e:vs.toArray++ws.toArray=(vs++ws).toArray:=by simp
 by_cases hw:ws=[]
 ·exact concat_meets ⟨_,ho,rfl⟩ ⟨_,ho2,rfl⟩ noFill_tuple_add seq_tuple_add PySem.F.slot_tuple_add PySem.F.entry_tuple_add (PySem.F.args_tuple_add_2 _ _)
   (tuple_addW1 t b vs.toArray ws.toArray n n2 dd dd2 sl sl2 (by simpa using hv) (by simp[hw])) ⟨ho,ho2,h1 hw⟩
 ·refine concat_meets ⟨_,ho,rfl⟩ ⟨_,ho2,rfl⟩ noFill_tuple_add seq_tuple_add PySem.F.slot_tuple_add PySem.F.entry_tuple_add (PySem.F.args_tuple_add_2 _ _)
   (tuple_addW2 t b vs.toArray ws.toArray n n2 dd dd2 sl sl2 (by simpa using hv) (by simpa using hw) (by rw[Kj,Kj];exact hsz)) ⟨ho,ho2,?_⟩
  rw[e]
  exact h2 hw
def dL (n d:Nat):Option Int->Nat
 | none=>d
 | some v=>if v < 0 then (v+(n:Int)).toNat else min v.toNat n
theorem HC (n d:Nat)(hd:d<=n)(o:Option Int):dL n d o<=n:=by
 cases o with
 | none=>exact hd
 | some v=>
  show(if v < 0 then (v+(n:Int)).toNat else min v.toNat n)<=n
  by_cases hv:v < 0
  ·rw[JQ hv];omega
  ·rw[JV hv];exact Nat.min_le_right _ _
theorem yY (v:Int)(n d:Nat):(if v < 0 then max (v+(n:Int)) 0 else min v (n:Int))=((dL n d (some v):Nat):Int):=by
 show(if v < 0 then max (v+(n:Int)) 0 else min v (n:Int))=(((if v < 0 then (v+(n:Int)).toNat else min v.toNat n):Nat):Int)
 by_cases hv:v < 0
 ·simp only[JQ hv];omega
 ·simp only[JV hv];omega
theorem xJ (lo hi:Option Int)(n:Nat):Builtin.Slice.sliceAdjust lo hi 1 (n:Int)=(((dL n 0 lo:Nat):Int),((dL n n hi:Nat):Int)):=by
 have h1:¬ ((1:Int) < 0):=by omega
 unfold Builtin.Slice.sliceAdjust
 simp only[h1,if_false]
 refine Prod.ext ?_ ?_
 ·cases lo with
  | none=>rfl
  | some v=>exact yY v n 0
 ·cases hi with
  | none=>rfl
  | some v=>exact yY v n n
theorem xK (i j:Nat):Builtin.Slice.slicePlaces (i:Int) (j:Int) 1=j - i:=by
 unfold Builtin.Slice.slicePlaces
 have h1:(1:Int) > 0:=by omega
 simp only[h1,if_true,Int.ediv_one]
 split <;> omega
theorem pj {v:Value}{o:Option Int}{Q:Option Int->Shared->Prop}(p:IsPart v o)(h:Q o s):wpAny (!3) A (Builtin.Slice.slicePartIndex v) Q E s:=by
 cases p with
 | none=>exact slicePart_none h
 | int i t=>exact slicePart_int h
theorem i6 {sl:Addr}{vl vu:Value}{lo hi:Option Int}{n:Nat}{Q:Int×Int×Nat->Shared->Prop}(hs:s.heap.IsSliceOf sl vl vu .none)(pl:IsPart vl lo)(pu:IsPart vu hi)
  (h:Q (((dL n 0 lo:Nat):Int),1,dL n n hi - dL n 0 lo) s):wpAny (!3) A (Builtin.Slice.sliceApplied (.ref sl) (pure (n:Int))) Q E s:=by
 obtain⟨os,hos,hcs,hds⟩:=id hs
 unfold Builtin.Slice.sliceApplied Builtin.Slice.sliceFields
 refine JZ (JZ (wpAny_field hos hds (x:=vl) rfl (JZ (wpAny_field hos hds (x:=vu) rfl (JZ (wpAny_field hos hds (x:=.none) rfl (JW ?_)))))))
 refine JZ (slicePart_none ?_)
 show wpAny _ _ (if ((1:Int)==0)=true then _ else _) _ _ s
 rw[JV (by decide)]
 refine JZ (pj pl (JZ (pj pu (JZ (JW ?_)))))
 show wpAny _ _ (match Builtin.Slice.sliceAdjust lo hi 1 (n:Int) with | (lo,hi)=>pure (lo,(1:Int),Builtin.Slice.slicePlaces lo hi 1)) _ _ s
 rw[xJ lo hi n]
 show wpAny _ _ (pure (((dL n 0 lo:Nat):Int),(1:Int),Builtin.Slice.slicePlaces ((dL n 0 lo:Nat):Int) ((dL n n hi:Nat):Int) 1)) _ _ s
 rw[xK]
 exact JW h
theorem BC (xs:Array Value)(i k:Nat):((List.range k).filterMap λ(m:Nat)=>xs[((i:Int)+(m:Int)*1).toNat]?).toArray=((xs.toList.drop i).take k).toArray:=by
 have e:(λ(m:Nat)=>xs[((i:Int)+(m:Int)*1).toNat]?)=λm=>xs[i+m]?:=by
  funext m
  have:((i:Int)+(m:Int)*1).toNat=i+m:=by omega
  rw[this]
 rw[e]
 have:=pick_run xs i k
 rw[List.filterMap_map] at this
 have e2:((λx=>xs[x]?) ∘ λx=>i+x)=λm=>xs[i+m]?:=rfl
 rw[e2] at this
 rw[this]
theorem lM {t sl:Addr}{items:Array Value}{vl vu:Value}{lo hi:Option Int}{Q:Z3}(ht:IsTup s.heap t items)(hs:s.heap.IsSliceOf sl vl vu .none)(pl:IsPart vl lo)(pu:IsPart vu hi)
  (hw:¬ (dL items.size 0 lo=0/\dL items.size items.size hi=items.size))
  (h:Q (!7) {s with heap:=s.heap.push {cls:=.type "tuple",data:=.seq ((items.toList.drop (dL items.size 0 lo)).take (dL items.size items.size hi - dL items.size 0 lo)).toArray}})
  (hsz:items.size<=sizeLine):wpAny (!3) A (getItem (.ref t) (.ref sl)) Q E s:=by
 have yZ:sizeOk (.seq ((items.toList.drop (dL items.size 0 lo)).take (dL items.size items.size hi - dL items.size 0 lo)).toArray):=by
  show((items.toList.drop (dL items.size 0 lo)).take (dL items.size items.size hi - dL items.size 0 lo)).toArray.size<=sizeLine
  rw[Kj,Xk,XQ,Kq]
  omega
 have hj:dL items.size items.size hi<=items.size:=HC _ _ (K2 _) hi
 obtain⟨os,hos,hcs,hds⟩:=id hs
 have hTs:s.TypeIs (.ref sl) "slice":=⟨os,hos,hcs⟩
 unfold getItem
 try with_reducible refine Z7 ?_
 first | refine JZ (JW ?_) | skip
 refine JZ (wpAny_sequenceKey ht.typeIs (by decide) ?_)
 refine JZ (wpAny_callSpecial?_slot (name:=Str.ofString "__getitem__") ht.typeIs PyProof.Rows.slot_tuple_getitem
  (Z6 PyProof.Rows.slot_tuple_getitem ht.typeIs entry_tuple_getitem ?_ (args_tuple_getitem _ _)))
 show wpAny _ _ (Builtin.Tuple.tupleItemsOf (.ref t) >>=_) _ _ s
 refine JZ (tupleItemsOf_ ht ?_)
 refine JZ (wpAny_typeOf hTs ?_)
 rw[JQ (by decide)]
 refine JZ (i6 hs pl pu ?_)
 have hno:¬ ((((dL items.size 0 lo:Nat):Int)==0 && (1:Int)==1 && (dL items.size items.size hi - dL items.size 0 lo)==items.size)=true):=by
  intro q
  rw[X9,X9] at q
  have q1:((dL items.size 0 lo:Nat):Int)=0:=eq_of_beq q.1.1
  have q2:dL items.size items.size hi - dL items.size 0 lo=items.size:=eq_of_beq q.2
  exact hw ⟨by omega,by omega⟩
 show wpAny _ _ (if (((dL items.size 0 lo:Nat):Int)==0 && (1:Int)==1 && (dL items.size items.size hi - dL items.size 0 lo)==items.size)=true then _ else _) _ _ s
 rw[JV hno,BC]
 first
  | exact JZ (m:=Builtin.Tuple.tupleExact _) (Z5 (JW ⟨_,rfl,JW h⟩) yZ)
  | exact JZ (m:=Builtin.Tuple.tupleExact _) (Z5 (JZ (JW (JW ⟨_,rfl,JW h⟩))) yZ)
  | exact JZ (JZ (m:=Builtin.Tuple.tupleExact _) (Z5 (JW (JW ⟨_,rfl,JW h⟩)) yZ))
  | exact JZ (JZ (m:=Builtin.Tuple.tupleExact _) (Z5 (JW ⟨_,rfl,JW h⟩) yZ))
end
end HT
namespace L2
open PySem PySem.Spec PyProof.Rows
abbrev TO:=St->Hp->(Option Int->Hp->Prop)->Prop
def PO (X:Cx)(e:Option Expr)(t:TO):Prop :=
 ∀(pins:List (Addr×Obj)) (s:Shared) (σ:St) (H:Hp) (Q:Option Int->Hp->Prop),Inv X pins σ H s->t σ H Q->
  wpAny (!6) X.A (evalPart e X.env) (λu s'=>∃o H',Inv X pins σ H' s'/\IsPart u o/\Q o H') X.xe s
def Ej:TO:=λ_ H Q=>Q none H
def KN (t:TE):TO:=λσ H Q=>t σ H λx H1=>∃i,x= .int i/\Q (some i) H1
section
variable {X:Cx}{e:Expr}{te:TE}{lo hi:Option Expr}{tl th:TO}{pos p2:Pos}
theorem Ek:PO X none Ej:=by
 intro pins s σ H Q I h
 rw[evalPart_none]
 exact JW ⟨none,H,I,.none,h⟩
theorem Em (h:PE X e te):PO X (some e) (KN te):=by
 intro pins s σ H Q I hw
 rw[evalPart_some]
 refine cW (h pins s σ H _ I hw) λu s1 ⟨x,H1,I1,r1,q1⟩=> ?_
 obtain⟨i,rfl,q⟩:=q1
 obtain⟨t,rfl⟩:=r1
 exact⟨some i,H1,I1,.int i t,q⟩
def Gs (X:Cx)(r:V->Option Int->Option Int->Hp->VK->Prop):Prop :=
 ∀(pins:List (Addr×Obj)) (s:Shared) (σ:St) (H:Hp) (x:V) (v vl vu:Value) (lo hi:Option Int) (sl:Addr) (Q:VK),Inv X pins σ H s->RelV x v->s.heap.IsSliceOf sl vl vu .none->IsPart vl lo->IsPart vu hi->r x lo hi H Q->
  ∃T id,typeLookup (.type T) "__getitem__" =pure (some (.builtin id))/\s.TypeIs v T/\wpAny (!6) X.A (getItem v (.ref sl)) (EP X pins σ Q) X.xe s
theorem Gs.or {r r':V->Option Int->Option Int->Hp->VK->Prop}(h:Gs X r)(h':Gs X r'):Gs X (λx lo hi H Q=>r x lo hi H Q∨r' x lo hi H Q):=by
 intro pins s σ H x v vl vu lo hi sl Q I rx hs pl pu q
 rcases q with q | q
 ·exact h pins s σ H x v vl vu lo hi sl Q I rx hs pl pu q
 ·exact h' pins s σ H x v vl vu lo hi sl Q I rx hs pl pu q
def Oz (r:V->Option Int->Option Int->Hp->VK->Prop)(te:TE)(tl th:TO):TE:=λσ H Q=>te σ H λx H1=>tl σ H1 λl H2=>th σ H2 λu H3=>r x l u H3 Q
theorem BD {r:V->Option Int->Option Int->Hp->VK->Prop}(hr:Gs X r)(he:PE X e te)(hl:PO X lo tl)(hu:PO X hi th):PE X (.Subscript e (.Slice lo hi none p2) pos) (Oz r te tl th):=by
 intro pins s σ H Q I h
 refine Subscript_ (cW (he pins s σ H _ I h) λv s1 ⟨x,H1,I1,r1,q1⟩=> ?_)
 refine wpAny_Slice (cW (hl pins s1 σ H1 _ I1 q1) λvl s2 ⟨l,H2,I2,pl,q2⟩=>cW (hu pins s2 σ H2 _ I2 q2) λvu s3 ⟨u,H3,I3,pu,q3⟩=> ?_)
 rw[evalPart_none]
 refine JW ?_
 have I4:Inv X pins σ H3 {s3 with heap:=s3.heap.push {cls:=.type "slice",data:=.fields #[vl,vu,.none]}}:=I3.kept (t':=s3.toks) λb ob q=>K7 _ q
 obtain⟨T,id,hT,ht,hg⟩:=hr pins {s3 with heap:=s3.heap.push {cls:=.type "slice",data:=.fields #[vl,vu,.none]}} σ H3 x v vl vu l u s3.heap.objs.size Q I4 r1 (Heap.IsSliceOf.new ..) pl pu q3
 show wpAny (!6) X.A (subscriptTail e (.Slice lo hi none p2) v (.ref s3.heap.objs.size)) (EP X pins σ Q) X.xe {s3 with heap:=s3.heap.push {cls:=.type "slice",data:=.fields #[vl,vu,.none]}}
 exact tail_any (ops:=[.ref s3.heap.objs.size,v]) ht hT hg (by with_unfolding_all rfl)
def vi (xs:List V)(lo hi:Option Int):List V:=(xs.drop (HT.dL xs.length 0 lo)).take (HT.dL xs.length xs.length hi - HT.dL xs.length 0 lo)
theorem nL (xs:List V)(lo hi:Option Int):(vi xs lo hi).length<=xs.length:=by
 unfold vi
 rw[Xk,XQ]
 omega
def MW (K:Frag):V->Option Int->Option Int->Hp->VK->Prop:=λx lo hi H Q=>∃a xs,x= .ref a/\dJ K H a xs/\
 ¬ (HT.dL xs.length 0 lo=0/\HT.dL xs.length xs.length hi=xs.length)/\∀p,H p=none->Q (.ref p) (upd H p (.tup (vi xs lo hi)))
theorem HD:Gs X (MW X.K):=by
 intro pins s σ H x v vl vu lo hi sl Q I rx hs pl pu h
 obtain⟨a,xs,rfl,hx,hw,q⟩:=h
 cases rx
 obtain⟨its,r,ht,hz⟩:=I.tuple hx
 have hlen:its.toArray.size=xs.length:=by rw[Kj];exact r.length.symm
 refine⟨"tuple",_,PyProof.Rows.slot_tuple_getitem.lookup,ht.typeIs,?_⟩
 refine HT.lM ht hs pl pu (by rw[hlen];exact hw) ?_ (by rw[hlen];exact hz)
 rw[hlen]
 refine⟨.ref s.heap.objs.size,_,I.laid (t':=s.toks) (o:=.tup (vi xs lo hi)) (λb ob q=>K7 _ q) (K2 _) ?_,rfl,q _ (I.hok.fresh (K2 _))⟩
 exact⟨KJ (nL xs lo hi) hz,_,(r.drop (HT.dL xs.length 0 lo)).take (HT.dL xs.length xs.length hi - HT.dL xs.length 0 lo),IsTup.new _ _⟩
def KO (K:Frag):R2:=λx y H Q=>∃a b xs ys,x= .ref a/\y= .ref b/\dJ K H a xs/\dJ K H b ys/\xs≠[]/\xs.length+ys.length<=sizeLine/\
 (ys=[]->Q (.ref a) H)/\(ys≠[]->∀p,H p=none->Q (.ref p) (upd H p (.tup (xs++ys))))
theorem Vals.oU {xs:List V}{us:List Value}(r:Vals xs us):us=[]↔xs=[]:=by
 cases r with
 | nil=>simp
 | cons _ _=>simp
theorem En:oT X (binaryOp .Add) (KO X.K):=by
 intro pins s σ H x y v u Q I rx ry h
 obtain⟨a,b,xs,ys,rfl,rfl,ha,hb,hx,hz,q1,q2⟩:=h
 cases rx
 cases ry
 obtain⟨its,r1,p1,_⟩:=I.tuple ha
 obtain⟨its2,r2,p2,_⟩:=I.tuple hb
 refine HT.Ei p1 p2 (λz=>hx (r1.oU.mp z)) (λz=>⟨.ref a,H,I,rfl,q1 (r2.oU.mp z)⟩) (λz=> ?_) (by rw[←r1.length,←r2.length];exact hz)
 refine⟨.ref s.heap.objs.size,_,I.laid (t':=s.toks) (o:=.tup (xs++ys)) (λb ob q=>K7 _ q) (K2 _) ?_,rfl,q2 (λw=>z (r2.oU.mpr w)) _ (I.hok.fresh (K2 _))⟩
 exact⟨by rw[K1];exact hz,_,r1.append r2,IsTup.new _ _⟩
end
def nM (n:Nat)(i:Int):Option Nat:=if 0<=i then (if i < n then some i.toNat else none) else if -(n:Int)<=i then some (i+n).toNat else none
def HE {α:Type}(xs:List α)(i:Int):Option α:=(nM xs.length i).bind λj=>xs[j]?
theorem y4 {n:Nat}{i:Int}{j:Nat}(h:nM n i=some j):seqIndex? i n=some j/\j < n/\ -(n:Int)<=i/\i < n:=by
 unfold nM at h
 by_cases h0:0<=i
 ·rw[JQ h0] at h
  by_cases h1:i < n
  ·rw[JQ h1] at h
   have e:i.toNat=j:=Option.some.inj h
   exact⟨by rw[seqIndex_of h0 h1,e],by omega,by omega,h1⟩
  ·rw[JV h1] at h;cases h
 ·rw[JV h0] at h
  by_cases h1:-(n:Int)<=i
  ·rw[JQ h1] at h
   have e:(i+n).toNat=j:=Option.some.inj h
   exact⟨by rw[seqIndex_neg (!1) h1,e],by omega,h1,by omega⟩
  ·rw[JV h1] at h;cases h
theorem tH {α:Type}{xs:List α}{i:Int}{v:α}(h:HE xs i=some v):∃j,seqIndex? i xs.length=some j/\xs[j]? =some v/\j < xs.length/\ -(xs.length:Int)<=i/\i < xs.length:=by
 unfold HE at h
 cases e:nM xs.length i with
 | none=>rw[e] at h;cases h
 | some j=>
  rw[e] at h
  obtain⟨h1,h2,h3,h4⟩:=y4 e
  exact⟨j,h1,h,h2,h3,h4⟩
def tJ (b:Expr):Prop:=∀o i,subscripted b false o i=operate [o,i] (getItem o i)
def BE (X:Cx)(r:R2):Prop :=
 ∀(value slice:Expr) (pins:List (Addr×Obj)) (s:Shared) (σ:St) (H:Hp) (x y:V) (v u:Value) (Q:VK),Inv X pins σ H s->RelV x v->RelV y u->r x y H Q->
  subscripted slice false v u=operate [v,u] (getItem v u)->wpAny (!6) X.A (subscriptTail value slice v u) (EP X pins σ Q) X.xe s
def Gu (X:Cx)(id:String)(r:V->List V->Hp->VK->Prop):Prop :=
 ∀(pins:List (Addr×Obj)) (s:Shared) (σ:St) (H:Hp) (x:V) (xs:List V) (v:Value) (us:List Value) (Q:VK),Inv X pins σ H s->RelV x v->Vals xs us->r x xs H Q->
  wpAny (!6) X.A (call (.builtin id) (v :: us)) (EP X pins σ Q) X.xe s
section
variable {X:Cx}{a b:Expr}{ta tb:TE}{pos:Pos}
theorem BE.or {r r':R2}(h:BE X r)(h':BE X r'):BE X (λx y H Q=>r x y H Q∨r' x y H Q):=by
 intro value slice pins s σ H x y v u Q I rx ry q hs
 rcases q with q | q
 ·exact h value slice pins s σ H x y v u Q I rx ry q hs
 ·exact h' value slice pins s σ H x y v u Q I rx ry q hs
theorem Gu.or {id:String}{r r':V->List V->Hp->VK->Prop}(h:Gu X id r)(h':Gu X id r'):Gu X id (λx xs H Q=>r x xs H Q∨r' x xs H Q):=by
 intro pins s σ H x xs v us Q I rx rs q
 rcases q with q | q
 ·exact h pins s σ H x xs v us Q I rx rs q
 ·exact h' pins s σ H x xs v us Q I rx rs q
theorem Gv {r:R2}(hr:BE X r)(ha:PE X a ta)(hb:PE X b tb)(hs:tJ b):PE X (.Subscript a b pos) (Mb r ta tb):=by
 intro pins s σ H Q I h
 exact Subscript_ (Hq ha hb I h λv u s2 x y H2 I2 rx ry q=>hr a b pins s2 σ H2 x y v u Q I2 rx ry q (hs _ _))
def KP (K:Frag):R2:=λx y H Q=>∃p xs i v,x= .ref p/\y= .int i/\fV K H p xs/\HE xs i=some v/\Q v H
def KR (K:Frag):R2:=λx y H Q=>∃p xs i v,x= .ref p/\y= .int i/\dJ K H p xs/\HE xs i=some v/\Q v H
def KS:R2:=λx y H Q=>∃z i c,x= .str z/\y= .int i/\z.length<=sizeLine/\HE z.cps.toList i=some c/\Q (.str ⟨#[c]⟩) H
theorem y6:BE X (KP X.K):=by
 intro value slice pins s σ H x y v u Q I rx ry h hs
 obtain⟨p,xs,i,z,rfl,rfl,hq,he,q⟩:=h
 cases rx
 obtain⟨t,rfl⟩:=ry
 obtain⟨its,r,pl,hz⟩:=I.list hq
 obtain⟨j,h1,h2,h3,h4,h5⟩:=tH he
 obtain⟨w,ew,xL⟩:=r.get h2
 have hl:=r.length
 have hn:=j4
 have fin:EP X pins σ Q w s:=⟨z,H,I,xL,q⟩
 by_cases h0:0<=i
 ·have hj:i.toNat=j:=by
   rw[seqIndex_of h0 h5] at h1
   exact Option.some.inj h1
  exact item_listR pl.isList h0 (!1) (by rw[hj];simpa using ew) fin hs
 ·have hj:(i+(its.toArray.size:Int)).toNat=j:=by
   rw[seqIndex_neg (!1) h4] at h1
   rw[Kj,←hl]
   exact Option.some.inj h1
  exact subscriptTail_builtinR (x:=w) pl.isList.typeIs slot_list_getitem.lookup
   (wpAny_getItem_list_neg (Q:=λr s'=>r=w/\EP X pins σ Q r s') pl.isList (!1) (by rw[Kj] <;> omega) (!1) (by rw[hj];simpa using ew) ⟨rfl,fin⟩) hs
theorem HF:BE X (KR X.K):=by
 intro value slice pins s σ H x y v u Q I rx ry h hs
 obtain⟨p,xs,i,z,rfl,rfl,hq,he,q⟩:=h
 cases rx
 obtain⟨t,rfl⟩:=ry
 obtain⟨its,r,pl,hz⟩:=I.tuple hq
 obtain⟨j,h1,h2,h3,h4,h5⟩:=tH he
 obtain⟨w,ew,xL⟩:=r.get h2
 have hl:=r.length
 have hn:=j4
 have fin:EP X pins σ Q w s:=⟨z,H,I,xL,q⟩
 exact subscriptTail_builtinR (x:=w) pl.typeIs slot_tuple_getitem.lookup
  (getItem_tuple (j:=j) (Q:=λr s'=>r=w/\EP X pins σ Q r s') pl (!1) (!1) (by rw[Kj,←hl];exact h1) (by simpa using ew) ⟨rfl,fin⟩) hs
theorem HG:BE X KS:=by
 intro value slice pins s σ H x y v u Q I rx ry h hs
 obtain⟨z,i,c,rfl,rfl,hz,he,q⟩:=h
 obtain⟨t,rfl⟩:=rx
 obtain⟨t',rfl⟩:=ry
 obtain⟨j,h1,h2,h3,h4,h5⟩:=tH he
 have hl:z.cps.toList.length=z.length:=by simp[Str.length]
 rw[hl] at h1 h4 h5
 have hn:=j4
 exact tail_any (typeIs_str s z t) slot_str_getitem.lookup (getItem_str (c:=c) (by
  have e1:decide (i < -(2^63:Int))=false:=Z8 (!1)
  have e2:decide (i≥2^63)=false:=Z8 (!1)
  rw[e1,e2,Bool.or_false]) (by rw[h1];simpa using h2) ⟨.str ⟨#[c]⟩,H,I.tok _,⟨_,rfl⟩,q⟩) hs
def OA (K:Frag):R2:=λx y H Q=>KP K x y H Q∨KR K x y H Q∨KS x y H Q
theorem HH:BE X (OA X.K):=y6.or (HF.or HG)
theorem xM (its:List Value)(n j:Nat)(u:Value):Obj.mapSeq (·.setIfInBounds j u) {cls:=.type "list",data:=.seq its.toArray n}={cls:=.type "list",data:=.seq (its.set j u).toArray n}:=by
 simp[Obj.mapSeq]
theorem Inv.lst {pins:List (Addr×Obj)}{σ:St}{H:Hp}{s:Shared}{p:Addr}{xs:List V}(I:Inv X pins σ H s)(h:H p=some (.lst xs)) :
  ∃(its:List Value) (n:Nat),Vals xs its/\s.heap.get? p=some {cls:=.type "list",data:=.seq its.toArray n}/\xs.length<=sizeLine:=by
 obtain⟨z,its,n,r,e⟩:=I.hok p _ h
 exact⟨its,n,r,e,z⟩
theorem Inv.HI {pins:List (Addr×Obj)}{σ:St}{H:Hp}{s:Shared}{p:Addr}{xs ys:List V}{its its':List Value}{n n':Nat}{f:Obj->Obj}(I:Inv X pins σ H s)(h:H p=some (.lst xs))
  (ho:s.heap.get? p=some {cls:=.type "list",data:=.seq its.toArray n}) (hf:f {cls:=.type "list",data:=.seq its.toArray n}={cls:=.type "list",data:=.seq its'.toArray n'}) (r:Vals ys its') (hz:ys.length<=sizeLine) (t:Nat) :
  Inv X pins σ (upd H p (.lst ys)) {s with heap:=s.heap.update p f,toks:=t}:=by
 have e:(s.heap.update p f).get? p=some {cls:=.type "list",data:=.seq its'.toArray n'}:=by
  rw[XX f ho (by rw[hf] <;> rfl),hf]
 refine I.write (x:=p) (e:=p) (by rw[h];trivial) (.inl rfl) (λb u hb q=>(Jj _ _ (Ne.symm hb)).trans q) ⟨_,e⟩ ?_
 exact⟨hz,its',n',r,e⟩
def K_:V->V->V->Hp->(Hp->Prop)->Prop:=λo i v H Q=>∃p xs k j,o= .ref p/\i= .int k/\H p=some (.lst xs)/\nM xs.length k=some j/\Q (upd H p (.lst (xs.set j v)))
theorem set_list:Hj X K_:=by
 intro pins s σ H o i v ov iv u Q I ro ri rv h
 obtain⟨p,xs,k,j,rfl,rfl,hp,hj,q⟩:=h
 cases ro
 obtain⟨t,rfl⟩:=ri
 obtain⟨its,n,r,ho,hz⟩:=I.lst hp
 obtain⟨h1,h2,h3,h4⟩:=y4 hj
 have hl:=r.length
 have hn:=j4
 have I':Inv X pins σ (upd H p (.lst (xs.set j v))) {s with heap:=s.heap.update p (Obj.mapSeq (·.setIfInBounds j u))} :=
  I.HI hp ho (xM its n j u) (r.set rv j) (by rw[XW];exact hz) s.toks
 by_cases h0:0<=k
 ·have hk:k.toNat=j:=by
   rw[seqIndex_of h0 h4] at h1
   exact Option.some.inj h1
  exact PySem.W.ki_setAt ho h0 (!1) (by rw[Kj,←hl];exact h4) (by rw[hk];exact⟨_,I',q⟩)
 ·have hk:(k+(its.toArray.size:Int)).toNat=j:=by
   rw[seqIndex_neg (!1) h3] at h1
   rw[Kj,←hl]
   exact Option.some.inj h1
  exact PySem.W.ki_setBack ho (!1) (by rw[Kj,←hl];exact h3) (!1) (by rw[hk];exact⟨_,I',q⟩)
theorem tK (lo hi:Option Int)(n:Nat):(sliceBounds lo hi none n).1=((HT.dL n 0 lo:Nat):Int)/\(sliceBounds lo hi none n).2.1=((HT.dL n n hi:Nat):Int)/\(sliceBounds lo hi none n).2.2=1:=by
 refine⟨?_,?_,rfl⟩
 ·cases lo with
  | none=>simp[sliceBounds,HT.dL]
  | some i=>
   simp only[sliceBounds,HT.dL,Option.getD_none,show(1:Int) > 0 by decide,if_true]
   by_cases h:i < 0
   ·simp only[h,if_true] <;> omega
   ·simp only[h,if_false] <;> omega
 ·cases hi with
  | none=>simp[sliceBounds,HT.dL]
  | some i=>
   simp only[sliceBounds,HT.dL,Option.getD_none,show(1:Int) > 0 by decide,if_true]
   by_cases h:i < 0
   ·simp only[h,if_true] <;> omega
   ·simp only[h,if_false] <;> omega
theorem rj (its:List Value)(lo hi:Option Int):slicePick its.toArray lo hi none=((its.drop (HT.dL its.length 0 lo)).take (HT.dL its.length its.length hi - HT.dL its.length 0 lo)).toArray:=by
 obtain⟨h1,h2,h3⟩:=tK lo hi its.toArray.size
 unfold slicePick
 rw[h1,h2,h3]
 simp only[sliceRange_one,pick_run,Kj] <;> rfl
def MX (K:Frag):V->Option Int->Option Int->Hp->VK->Prop:=λx lo hi H Q=>∃a xs,x= .ref a/\fV K H a xs/\∀p,H p=none->Q (.ref p) (upd H p (.lst (vi xs lo hi)))
theorem Eo:Gs X (MX X.K):=by
 intro pins s σ H x v vl vu lo hi sl Q I rx hs pl pu h
 obtain⟨a,xs,rfl,hx,q⟩:=h
 cases rx
 obtain⟨its,r,ht,hz⟩:=I.list hx
 have hlen:=r.length
 refine⟨"list",_,slot_list_getitem.lookup,ht.isList.typeIs,?_⟩
 refine wpAny_getItem_list_slice ht.isList hs pl pu .none (by simp) ?_ (by rw[Kj] <;> omega)
 rw[rj,←hlen]
 refine⟨.ref s.heap.objs.size,_,I.laid (t':=s.toks) (o:=.lst (vi xs lo hi)) (λb ob q=>K7 _ q) (K2 _) ?_,rfl,q _ (I.hok.fresh (K2 _))⟩
 exact⟨KJ (nL xs lo hi) hz,_,0,(r.drop (HT.dL xs.length 0 lo)).take (HT.dL xs.length xs.length hi - HT.dL xs.length 0 lo),Ky _ rfl⟩
theorem tM:hX X (.builtin "len") (λxs H Q=>∃p ys,xs=[.ref p]/\(fV X.K H p ys∨dJ X.K H p ys)/\Q (.int ys.length) H):=by
 intro pins s σ H xs us Q I r h
 obtain⟨p,ys,rfl,hq,q⟩:=h
 obtain⟨u,rfl,rx⟩:=vals1 r
 cases rx
 have hn:=j4
 rcases hq with hq | hq
 ·obtain⟨its,r',pl,hz⟩:=I.list hq
  have hlen:=r'.length
  exact Calls.call_len_list pl.isList (by simp only[Kj] <;> omega) ⟨.int ys.length,H,I.tok _,⟨s.toks+1,by rw[Kj,hlen]⟩,q⟩
 ·obtain⟨its,r',pl,hz⟩:=I.tuple hq
  have hlen:=r'.length
  exact len_tuple pl (by simp only[Kj] <;> omega) ⟨.int ys.length,H,I.tok _,⟨s.toks+1,by rw[Kj,hlen]⟩,q⟩
theorem tP:hX X (.builtin "len") (λxs H Q=>∃z,xs=[.str z]/\z.length<=sizeLine/\Q (.int z.length) H):=by
 intro pins s σ H xs us Q I r h
 obtain⟨z,rfl,hz,q⟩:=h
 obtain⟨u,rfl,t,rfl⟩:=vals1 r
 have hn:=j4
 exact len_str (!1) ⟨.int z.length,H,I.tok _,⟨_,rfl⟩,q⟩
theorem hX.or {f:Value}{r r':List V->Hp->VK->Prop}(h:hX X f r)(h':hX X f r'):hX X f (λxs H Q=>r xs H Q∨r' xs H Q):=by
 intro pins s σ H xs us Q I rs q
 rcases q with q | q
 ·exact h pins s σ H xs us Q I rs q
 ·exact h' pins s σ H xs us Q I rs q
theorem tR:hX X (.type "list") (λxs H Q=>∃p ys,xs=[.ref p]/\(fV X.K H p ys∨dJ X.K H p ys)/\∀l,H l=none->Q (.ref l) (upd H l (.lst ys))):=by
 intro pins s σ H xs us Q I r h
 obtain⟨p,ys,rfl,hq,q⟩:=h
 obtain⟨u,rfl,rx⟩:=vals1 r
 cases rx
 have fin:∀(its:List Value),Vals ys its->ys.length<=sizeLine->∀(h':Heap) (c':Nat),(∀b o',s.heap.get? b=some o'->h'.get? b=some o')->
   h'.get? s.heap.objs.size=some {cls:=.type "list",dict:=none,data:=.seq its.toArray c',slots:=#[]}->EP X pins σ Q (!7) {s with heap:=h'}:=λits r' hz h' c' kp e=>
  ⟨.ref s.heap.objs.size,_,I.laid (t':=s.toks) kp (K2 _) (show dH X.prog X.w _ h' _ (.lst ys) from⟨hz,its,c',r',e⟩),rfl,q _ (I.hok.fresh (K2 _))⟩
 rcases hq with hq | hq
 ·obtain⟨its,r',pl,hz⟩:=I.list hq
  have hlen:=r'.length
  obtain⟨o,ho,hc,n,hd⟩:=pl.isList
  exact call_list_seq p (.inl rfl) ho hc hd (λh' c' kp e=>fin its r' hz h' c' kp e) (by simp only[Kj] <;> omega)
 ·obtain⟨its,r',pl,hz⟩:=I.tuple hq
  have hlen:=r'.length
  obtain⟨o,ho,hc,n,hd⟩:=pl
  exact call_list_seq p (.inr rfl) ho hc hd (λh' c' kp e=>fin its r' hz h' c' kp e) (by simp only[Kj] <;> omega)
theorem rl:hX X (.type "tuple") (λxs H Q=>∃p ys,xs=[.ref p]/\((fV X.K H p ys/\∀l,H l=none->Q (.ref l) (upd H l (.tup ys)))∨(dJ X.K H p ys/\Q (.ref p) H))):=by
 intro pins s σ H xs us Q I r h
 obtain⟨p,ys,rfl,h⟩:=h
 obtain⟨u,rfl,rx⟩:=vals1 r
 cases rx
 rcases h with⟨hq,q⟩ | ⟨hq,q⟩
 ·obtain⟨its,r',pl,hz⟩:=I.list hq
  have hlen:=r'.length
  refine call_tuple_list pl.isList (λh' kp=> ?_) (by simp only[Kj] <;> omega)
  have I1:Inv X pins σ H {s with heap:=h'}:=I.kept (t':=s.toks) kp
  have I2:Inv X pins σ (upd H h'.objs.size (.tup ys)) {s with heap:=h'.push {cls:=.type "tuple",data:=.seq its.toArray}} :=
   I1.laid (t':=s.toks) (λb o e=>K7 _ e) (K2 _) (show dH X.prog X.w _ _ _ (.tup ys) from⟨hz,its,r',IsTup.new _ _⟩)
  exact⟨.ref h'.objs.size,_,I2,rfl,q _ (I1.hok.fresh (K2 _))⟩
 ·obtain⟨its,r',pl,hz⟩:=I.tuple hq
  exact call_tuple_same pl ⟨.ref p,H,I,rfl,q⟩
def MY (K:Frag)(T:String)(x:V)(H:Hp):Prop:=match x with
 | .str _=>T= "str"
 | .int _=>T= "int"
 | .ref p=>(T= "list" /\∃xs,fV K H p xs)∨(T= "tuple" /\∃o,K.lookup p=some o/\o.cls= .type "tuple" /\o.dict=none)∨
   (T= "dict" /\((∃kvs,H p=some (.dK kvs))∨∃kvs,H p=some (.dT kvs)))∨(T= "set" /\∃S n,H p=some (.set S n))
 | _=>False
theorem BF {pins:List (Addr×Obj)}{σ:St}{H:Hp}{s:Shared}{T:String}{x:V}{v:Value}(I:Inv X pins σ H s)(r:RelV x v)(ty:MY X.K T x H) :
  s.TypeIs v T/\∀a,v= .ref a->∃ob,s.heap.get? a=some ob/\ob.dict=none:=by
 cases x with
 | str z=>
  obtain⟨t,rfl⟩:=r
  cases(show T= "str" from ty)
  exact⟨typeIs_str s z t,λ_ e=>nomatch e⟩
 | int i=>
  obtain⟨t,rfl⟩:=r
  cases(show T= "int" from ty)
  exact⟨typeIs_int s i t,λ_ e=>nomatch e⟩
 | ref p=>
  cases r
  rcases ty with⟨rfl,xs,hq⟩ | ⟨rfl,o,hk,hc,hd⟩ | ⟨rfl,hk⟩ | ⟨rfl,S,n,hk⟩
  ·obtain⟨its,_,pl,_⟩:=I.list hq
   refine⟨pl.isList.typeIs,λa e=> ?_⟩
   cases e
   obtain⟨o,n,e,c,hd,_⟩:=pl
   exact⟨o,e,hd⟩
  ·refine⟨⟨o,I.z_ p o hk,hc⟩,λa e=> ?_⟩
   cases e
   exact⟨o,I.z_ _ o hk,hd⟩
  ·have z:∃o,s.heap.get? p=some o/\o.ExactDict:=by
    rcases hk with⟨kvs,hk⟩ | ⟨kvs,hk⟩
    ·obtain⟨_,_,_,_,o,_,_,e,ex,_⟩:=I.hok p _ hk
     exact⟨o,e,ex⟩
    ·obtain⟨_,_,_,_,o,_,_,e,ex,_⟩:=I.hok p _ hk
     exact⟨o,e,ex⟩
   obtain⟨o,e,ex⟩:=z
   refine⟨⟨o,e,ex.1⟩,λa e2=> ?_⟩
   cases e2
   exact⟨o,e,ex.2.1⟩
  ·obtain⟨o,_,_,_,e,ex,_⟩:=I.hok p _ hk
   refine⟨⟨o,e,ex.1⟩,λa e2=> ?_⟩
   cases e2
   exact⟨o,e,ex.2.1⟩
 | _=>exact False.elim ty
def MZ (K:Frag)(T:String)(r:V->List V->Hp->VK->Prop)(to:TE):TE:=λσ H Q=>to σ H λx H1=>MY K T x H1/\r x [] H1 Q
def OB (K:Frag)(T:String)(r:V->List V->Hp->VK->Prop)(to:TE)(t:TA):TE:=λσ H Q=>to σ H λx H1=>MY K T x H1/\t σ H1 λxs H2=>r x xs H2 Q
variable {o e:Expr}{es:List Expr}{to:TE}{t:TA}{name:Str}{apos cpos:Pos}{T id:String}{r:V->List V->Hp->VK->Prop}
theorem HJ (pa:PlainAttrs T)(slot:Slot T name id)(hty:typeOf (.builtin id)=pure (.type "method_descriptor"))(hm:Gu X id r)(ho:PE X o to)
  (hbase:attributeBase o name X.env (eval o X.env)=eval o X.env:=by rfl) (hline:(apos.endLine==cpos.line)=true:=by rfl):PE X (.Call (.Attribute o name apos) [] [] cpos) (MZ X.K T r to):=by
 intro pins s σ H Q I h
 refine wpAny_Call_method0_late hbase hline (cW (ho pins s σ H _ I h) λv s1 ⟨x,H1,I1,r1,ty,q1⟩=> ?_)
 obtain⟨h1,h2⟩:=BF I1 r1 ty
 exact⟨T,id,pa,slot,hty,h1,h2,Calls.callWith_builtin rfl (PySem.evalArgs_none (hm pins s1 σ H1 x [] v [] Q I1 r1 .nil q1))⟩
theorem y7 (pa:PlainAttrs T)(slot:Slot T name id)(hty:typeOf (.builtin id)=pure (.type "method_descriptor"))(hm:Gu X id r)(ho:PE X o to)(ha:PA X (e :: es) t)
  (hbase:attributeBase o name X.env (eval o X.env)=eval o X.env:=by rfl)
  (hfew:((backTo cpos (starEach (e :: es) X.env)).all (λx=> !x.1) && (backToKw cpos (keywordEach [] X.env)).all (λx=>x.1.isSome)
   && decide ((e :: es).length+([]:List Keyword).length+(if ([]:List Keyword).isEmpty then 0 else 1) < 30))=true:=by rfl)
  (hline:(apos.endLine==cpos.line)=true:=by rfl) (hs:starEach (e :: es) X.env=(false,eval e X.env) :: starEach es X.env:=by rfl) (hplain:(backTo cpos (starEach es X.env)).any (·.1)=false:=by rfl) :
  PE X (.Call (.Attribute o name apos) (e :: es) [] cpos) (OB X.K T r to t):=by
 intro pins s σ H Q I h
 refine wpAny_Call_method_late hbase hfew hline rfl (cW (ho pins s σ H _ I h) λv s1 ⟨x,H1,I1,r1,ty,q1⟩=> ?_)
 obtain⟨h1,h2⟩:=BF I1 r1 ty
 refine⟨T,id,pa,slot,hty,h1,h2,?_⟩
 have hA:=ha cpos pins s1 σ H1 _ I1 q1
 rw[hs] at hA⊢
 refine Calls.callWith_builtin (by show(false || (backTo cpos (starEach es X.env)).any (·.1))=false;rw[hplain] <;> rfl) (Calls.evalArgs_plain ?_)
 exact cW hA λus s2 ⟨vs,H2,I2,r2,q2⟩=>hm pins s2 σ H2 x vs v us Q I2 r1 r2 q2
/- xs.append(e),list.index on a module's tuple .. are Gu facts of 06m -/
end
def La (X:Cx)(id:String)(r:V->List V->Hp->VK->Prop):Prop :=
 ∀(pins:List (Addr×Obj)) (s:Shared) (σ:St) (H:Hp) (x:V) (xs:List V) (v:Value) (us:List Value) (Q:VK),Inv X pins σ H s->RelV x v->Vals xs us->r x xs H Q->
  wpAny (!6) X.A (call (.builtin id) (v :: us)) (EP X pins σ Q) X.xe s
theorem Vals.one:∀{x:V} {us:List Value},Vals [x] us->∃u,us=[u]/\RelV x u
 | _,_,.cons r .nil=>⟨_,rfl,r⟩
theorem Vals.two:∀{x y:V} {us:List Value},Vals [x,y] us->∃u v,us=[u,v]/\RelV x u/\RelV y v
 | _,_,_,.cons r (.cons q .nil)=>⟨_,_,rfl,r,q⟩
theorem Vals.zero:∀{us:List Value},Vals [] us->us=[]
 | _,.nil=>rfl
theorem Vals.eraseIdx:∀{xs:List V} {us:List Value} (i:Nat),Vals xs us->Vals (xs.eraseIdx i) (us.eraseIdx i)
 | _,_,_,.nil=> .nil
 | _,_,0,.cons _ t=>t
 | _,_,i+1,.cons r t=> .cons r (Vals.eraseIdx i t)
theorem Vals.reverse {xs:List V}{us:List Value}(h:Vals xs us):Vals xs.reverse us.reverse:=by
 induction h with
 | nil=>exact .nil
 | cons r t ih=>rw[J7,J7];exact Vals.append ih (.cons r .nil)
theorem Vals.rep {xs:List V}{us:List Value}(h:Vals xs us):∀k:Nat,Vals (List.replicate k xs).flatten (List.replicate k us).flatten
 | 0=> .nil
 | k+1=>by
  rw[Uk,Uk,UQ,UQ]
  exact Vals.append h (Vals.rep h k)
theorem foldl_rep (its:List Value):∀(k:Nat) (acc:List Value),
  List.foldl (λx1 x2=>x1++x2) acc.toArray (List.replicate k its.toArray)=(acc++(List.replicate k its).flatten).toArray
 | 0,acc=>by simp
 | k+1,acc=>by
  have e:acc.toArray++its.toArray=(acc++its).toArray:=by simp
  have e2:(acc++its)++(List.replicate k its).flatten=acc++(List.replicate (k+1) its).flatten:=by
   rw[Uk,UQ,X5]
  rw[←e2,←foldl_rep its k (acc++its),←e,Uk,UZ]
section
variable {X:Cx}{pins:List (Addr×Obj)}{σ:St}{H:Hp}{s:Shared}{l b:Addr}{xs ys zs:List V}
theorem Inv.HK {its its':List Value}{n:Nat}{f:Array Value->Array Value}{t':Nat}(I:Inv X pins σ H s)(hH:H l=some (.lst xs))
  (e:s.heap.get? l=some {cls:=.type "list",data:=.seq its.toArray n}) (hf:f its.toArray=its'.toArray) (hv:Vals ys its') (hz:ys.length<=sizeLine) :
  Inv X pins σ (upd H l (.lst ys)) {s with heap:=s.heap.update l (Obj.mapSeq f),toks:=t'}:=by
 have q:=PySem.IsL.update e f
 rw[hf] at q
 refine I.write (x:=l) (e:=l) (by rw[hH];exact trivial) (.inl rfl) (λb' u hb hu=>(Jj s.heap (Obj.mapSeq f) (Ne.symm hb)).trans hu) ⟨_,q⟩ ?_
 exact⟨hz,its',_,hv,q⟩
theorem Inv.Lb {its:List Value}{t':Nat}(I:Inv X pins σ H s)(hv:Vals ys its)(hz:ys.length<=sizeLine) :
  Inv X pins σ (upd H s.heap.objs.size (.lst ys)) {s with heap:=s.heap.push {cls:=.type "list",data:=.seq its.toArray},toks:=t'} :=
 I.laid (λ_ _ q=>K7 _ q) (K2 _) ⟨hz,its,0,hv,Ky _ rfl⟩
theorem Inv.fresh (I:Inv X pins σ H s):H s.heap.objs.size=none:=I.hok.fresh (K2 _)
theorem Inv.Ep (I:Inv X pins σ H s)(hH:H l=some (.lst xs)):xs.length<=sizeLine/\∃(its:List Value) (n:Nat),Vals xs its/\xs.length=its.length/\s.heap.get? l=some {cls:=.type "list",data:=.seq its.toArray n}:=by
 obtain⟨z,its,n,r,e⟩:=I.hok l _ hH
 exact⟨z,its,n,r,r.length,e⟩
theorem vk {n:Nat}(h:n<=sizeLine):Builtin.List.listTooLong n=false:=by
 unfold Builtin.List.listTooLong
 exact Z8 (!1)
end
section
variable {X:Cx}
def Er:V->List V->Hp->VK->Prop:=λx vs H Q=>∃l xs y,x= .ref l/\vs=[y]/\H l=some (.lst xs)/\xs.length < sizeLine/\Q .non (upd H l (.lst (xs++[y])))
theorem mW:La X "list.append" Er:=by
 intro pins s σ H x vs v us Q I rx rv h
 obtain⟨l,xs,y,rfl,rfl,hH,hz,q⟩:=h
 cases rx
 obtain⟨u,rfl,ru⟩:=rv.one
 obtain⟨z,its,n,r,hl,e⟩:=I.Ep hH
 refine call_meets F.slot_list_append ⟨_,e,rfl⟩ F.entry_list_append (F.args_list_append_2 _ _) (PySem.list_append l its.toArray n u (by rw[Kj];omega)) ⟨e,?_⟩
 refine⟨.non,_,I.HK (its':=its++[u]) hH e (by simp) (r.append (.cons ru .nil)) ?_,rfl,q⟩
 rw[K1,X3]
 omega
def HL:V->List V->Hp->VK->Prop:=λx vs H Q=>∃l xs,x= .ref l/\vs=[]/\H l=some (.lst xs)/\Q .non (upd H l (.lst []))
theorem BG:La X "list.clear" HL:=by
 intro pins s σ H x vs v us Q I rx rv h
 obtain⟨l,xs,rfl,rfl,hH,q⟩:=h
 cases rx
 have hus:=rv.zero
 subst hus
 obtain⟨z,its,n,r,hl,e⟩:=I.Ep hH
 refine call_meets F.slot_list_clear ⟨_,e,rfl⟩ F.entry_list_clear (F.args_list_clear_1 _) (AutoSeq1.list_clear_list_0 l its.toArray n (by rw[Kj];omega)) ⟨e,?_⟩
 exact⟨.non,_,I.HK (its':=[]) (ys:=[]) hH e rfl .nil (Xy _),rfl,q⟩
def M0:R2:=λx y H Q=>∃l k xs,x= .ref l/\y= .int k/\H l=some (.lst xs)/\ -(2^63)<=k/\k < 2^63/\xs.length*k.toNat<=sizeLine/\
 ∀p,H p=none->Q (.ref p) (upd H p (.lst (List.replicate k.toNat xs).flatten))
theorem len_rep {α:Type}(xs:List α)(k:Nat):(List.replicate k xs).flatten.length=k*xs.length:=by
 induction k with
 | zero=>simp
 | succ k ih=>rw[Uk,UQ,K1,ih,Y4,Nat.add_comm]
theorem HM:oT X (binaryOp .Mult) M0:=by
 intro pins s σ H x y v u Q I rx ry h
 obtain⟨l,k,xs,rfl,rfl,hH,h1,h2,hz,q⟩:=h
 cases rx
 obtain⟨t,rfl⟩:=ry
 obtain⟨z,its,n,r,hl,e⟩:=I.Ep hH
 have hlen:its.toArray.size*k.toNat<=sizeLine:=by rw[Kj,←hl];exact hz
 have hcap:¬ its.toArray.size*k.toNat > (2^63 - 1) / 8:=by
  have:(sizeLine:Nat)<=(2^63 - 1) / 8:=by decide
  omega
 have hfit:¬ (!Builtin.List.listFitsIndex k)=true:=by
  rw[fitsIndex_both h1 h2]
  exact K5
 have BH:¬ Builtin.List.listTooLong (its.toArray.size*k.toNat)=true:=by
  rw[vk hlen]
  exact K5
 have hnew:List.foldl (λx1 x2=>x1++x2) #[] (List.replicate (if its.toArray.isEmpty=true then 0 else k.toNat) its.toArray)=(List.replicate k.toNat its).flatten.toArray:=by
  have f0:∀m:Nat,List.foldl (λx1 x2=>x1++x2) #[] (List.replicate m its.toArray)=(List.replicate m its).flatten.toArray:=λm=>by
   have:=foldl_rep its m []
   rw[YZ] at this
   exact this
  rw[f0]
  cases its with
  | nil=>simp
  | cons a r'=>rw[JV (by simp)]
 refine wpAny_binaryOp_repeat_ref (T:="list") (U:="int") (by decide) ⟨_,e,rfl⟩ (λs'=>typeIs_int s' k t) noFill_list_mul F.fills_int_mul F.slot_int_rmul repeat_list F.slot_int_index.lookup
  (call_meets F.slot_int_rmul (typeIs_int s k t) F.entry_int_rmul (F.args_int_rmul_2 _ _) (int___rmul___int_list k t l its.toArray n)
   ⟨e,rfl,⟨_,e,rfl⟩,call_meets F.slot_list_mul ⟨_,e,rfl⟩ F.entry_list_mul (F.args_list_mul_2 _ _) (AutoListH.list___mul___list_int_3 l its.toArray n k t hfit hcap BH) ⟨e,?_⟩⟩)
 rw[hnew]
 exact⟨.ref _,_,I.Lb (t':=s.toks) (r.rep k.toNat) (by rw[len_rep,Jx];exact hz),rfl,q _ I.fresh⟩
end
end L2
namespace NV
open PySem PySem.W PySem.Calls PyProof.Rows
theorem oa {P:Params}{h:Heap}:∀(ns:List Int) (vs:List Value),WellAll P h vs (ns.map WData.int)->IntsAre vs ns:=by
 intro ns
 induction ns with
 | nil=>
  intro vs w
  rw[Ju] at w
  cases w
  exact .nil
 | cons n ns ih=>
  intro vs w
  rw[KZ] at w
  cases w with
  | cons a b=>
   cases a
   exact .cons _ _ (ih _ b)
theorem Af {l:OpenLaw}{n:Nat}(hn:l.most=some n){P:Params}{h:Heap}{args:List WData}{vals:List Value}
  (hpre:l.row.toRowW.claim.pre args=true) (hwl:WellAll P h vals args) :
  ∃a vs ns,vals=[Value.ref a]/\args=[WData.list (ns.map WData.int)]/\h.get? a=some {cls:=.type "list",data:=.seq vs.toArray}/\IntsAre vs ns/\ns.length<=n:=by
 have hsh:WShape.hasAll [] args [.list .int]=true:=(pre_splitW hpre).1
 have hc:l.pre.holds [] {args:=args}=true:=(pre_splitW hpre).2
 obtain⟨d,r,rfl,h1,h2⟩:=hasAllW_cons hsh
 obtain rfl:=hasAllW_nil h2
 obtain⟨xs,rfl,h3⟩:=hasW_list h1
 obtain⟨ns,rfl⟩:=items_int h3
 have hlen:ns.length<=n:=by
  unfold OpenLaw.pre at hc
  have h4:(WTm.not (.lt (.lit (.int (n:Int))) (.len (.arg 0)))).holds [] {args:=[.list (ns.map .int)]}=true:=by
   have h4:=(holds_andW hc).1
   rw[hn] at h4
   exact h4
  have h5:=condW_of h4 (w_not (w_lt w_lit (w_len_list (w_arg rfl))))
  rw[K4] at h5
  refine Nat.le_of_not_lt λq=> ?_
  have q':(n:Int) < ((ns.length:Nat):Int):=by omega
  first
   | (rw[Z9 q'] at h5;exact absurd h5 (by decide))
   | (simp at h5;omega)
 cases hwl with
 | cons w1 w2=>
  cases w2
  cases w1 with
  | list ho hall=>exact⟨_,_,ns,rfl,rfl,ho,oa ns _ hall,hlen⟩
theorem Ag (l:OpenLaw)(args:List WData):l.row.toRowW.claim.post args (.bool true) args=true :=
 postW_of (r:=l.row.toRowW) (X:=(true==true))
  (show WShape.has [] (.bool true) .bool=true by first | rfl | decide | simp[WShape.has,WShape.arms,WShape.armsAll])
  (show(WTm.eq .res (.lit (.bool true))).value [] {args:=args,res:=some (.bool true),after:=args}=some (.bool (true==true)) from w_eq_bool (w_res rfl) w_lit) rfl
theorem vm {l:OpenLaw}{n:Nat}{q:Program}{loose:List Str}{XP:(Str->Option Value)->Heap->Prop}{YP:World->Heap->Prop}{d:DefRec}
  (hn:l.most=some n) (hdf:d.params.defaults=[])
  (call:∀(w:World) (s₀ s₁:Shared) (mg mb:Str->Option Value) (fa:Addr) (o:Obj) (pm cd doc:Value) (a:Addr) (vs:List Value) (ns:List Int),
   Ground q loose [] XP w s₀ mg mb s₁.heap->YP w s₁.heap->
   s₁.heap.get? fa=some o->o.data= .func (docDef d.name d.params d.body d.scope pm cd doc)->s₁.heap.CodeRec cd d.name->mg d.name=some (.ref fa)->
   s₁.heap.get? a=some {cls:=.type "list",data:=.seq vs.toArray}->IntsAre vs ns->ns.length<=n->s₁.gens= #[]->
   codeAny (model l.prog w) callerA (.call (.ref fa) ⟨[.ref a],[]⟩) (λr s'=>r= .ok (.ret (.bool true))/\OldK s₁.heap s'.heap/\s'.os=s₁.os/\AllBare s'.gens) s₁) :
  WalkO q loose XP YP l.row.toRowW d [] (λf vs=>PySem.call f vs):=by
 intro w s₀ s₁ mg mb G Y fa o pm cd doc dV kV ho hd hcd hD hmg hg args vals as hpre hlay hrd hwl hlo
 obtain rfl:dV= .none:=Dflts.none hD hdf
 obtain rfl:kV= .none:=Dflts.noKw hD
 obtain⟨a,vs,ns,rfl,rfl,hobj,hints,hlen⟩:=Af hn hpre hwl
 refine enter_call (codeAny_mono (call w s₀ s₁ mg mb fa o pm cd doc a vs ns G Y ho (fd_plain hd) hcd hmg hobj hints hlen hg) λr s' hq=> ?_)
 obtain⟨rfl,h2,h3,h4⟩:=hq
 exact⟨.inl ⟨.bool true,.bool true,[],rfl,λ_=>rfl,.bool true,Ag l _,λ_=>⟨List.Pairwise.nil,λ_ hm=>(nomatch hm)⟩⟩,h2,h3,h4⟩
section
variable {prog:Program}{w:World}{A:Around}{E:Z3}{s:Shared}{K:Frag}
def ledger (h:Heap)(L d:Addr):List (Addr×Obj):=(List.range h.objs.size).filterMap λa=>if a=L∨a=d then none else (h.get? a).map λo=>(a,o)
end
end NV
namespace L2
open PySem PySem.Spec PyProof.Rows
theorem rR:∀{vs:List Value} {ns:List Int},IntsAre vs ns->Vals (ns.map V.int) vs
 | _,_,.nil=> .nil
 | _,_,.cons n t h=> .cons ⟨t,rfl⟩ (rR h)
def Only (H:Hp):Prop:=∀b,H b=none∨∃o xs,H b=some (.Bm o (.lst xs))
theorem BJ {P:Program}{w:World}{K:Frag}{mg mb:Str->Option Value}{CX:yW}{k:Nat}{fa a:Addr}{fd:FuncData}{x:Str}{sp:Sp}{s₁:Shared}{vs:List Value}{ns:List Int}
  (KX:K.In s₁.heap) (hns:s₁.heap.Ns mainGlobals mg) (hb:s₁.heap.Ns builtinsNs mb) (hbb:∀x:Str,x≠ "__name__" ->mb x=bootBuiltins x) (hlim:s₁.heap.NoLimit) (hg:s₁.gens= #[])
  (ha:s₁.heap.get? a=some {cls:=.type "list",data:=.seq vs.toArray}) (hi:IntsAre vs ns) (hl:ns.length<=sizeLine) (hr:dM k callerA)
  (F:∀base:Heap,K.In base->base.Ns mainGlobals mg->iZ P w K mg base CX k fa fd [x] sp) (hbind:∀(s:Shared) (u:Value),BindsTo s fd ⟨[u],[]⟩ [(x,u)])
  (hsp:∀H:Hp,Only H->fV K H a (ns.map V.int)->sp [.ref a] H (λv _=>v= .bl true) λ_ _ _=>False)
  (M1:∀H e s',CX [] H s₁ (λ_ _ _=>False) e s'->False) :
  codeAny (model P w) callerA (.call (.ref fa) ⟨[.ref a],[]⟩) (λr s'=>r= .ok (.ret (.bool true))/\OldK s₁.heap s'.heap/\s'.os=s₁.os/\AllBare s'.gens) s₁:=by
 have rv:=rR hi
 have lenV:=hi.length
 have core:∀H:Hp,Only H->fV K H a (ns.map V.int)->oQ P w H s₁.heap->(∀b,H b≠none->b=a)->(H a≠none->K.lookup a=none)->
   codeAny (model P w) callerA (.call (.ref fa) ⟨[.ref a],[]⟩) (λr s'=>r= .ok (.ret (.bool true))/\OldK s₁.heap s'.heap/\s'.os=s₁.os/\AllBare s'.gens) s₁:=by
  intro H hO hS hok hA hK
  have y8:∀{b:Addr} {o:Obj},s₁.heap.get? b=some o->H b=none->(tq s₁.heap H).get? b=some o:=λe n=>Bs e n
  have KI:∀{b:Addr} {o:Obj} {es:Array DictEntry} {ep:Nat},s₁.heap.get? b=some o->o.data= .dict es ep->H b=none:=λ{b o es ep} e d=>by
   cases q:H b with
   | none=>rfl
   | some u=>
    have e':b=a:=hA b (by rw[q];simp)
    subst e'
    rw[ha] at e;cases e
    have d':Data.seq vs.toArray _=Data.dict es ep:=d
    cases d'
  have Mc:∀{b:Addr} {m:Str->Option Value},s₁.heap.Ns b m->(tq s₁.heap H).Ns b m:=λ{b m} ⟨o,es,ep,e,d,r⟩=>⟨o,es,ep,y8 e (KI e d),d,r⟩
  have NW:K.In (tq s₁.heap H):=λb o e=>y8 (KX b o e) (by
   cases q:H b with
   | none=>rfl
   | some u=>
    have e':b=a:=hA b (by rw[q];simp)
    subst e'
    rw[hK (by rw[q];simp)] at e;cases e)
  have hM:Mod K mg (tq s₁.heap H):=⟨NW,Mc hns,⟨mb,Mc hb,hbb⟩,let ⟨mc,h1,h2⟩:=hlim;⟨mc,Mc h1,h2⟩⟩
  have e0:rg P w K mg (tq s₁.heap H) callerA [] s₁ H:=⟨rfl,hM,λb o e=>Eb e,Nat.le_of_eq (z9 _ _),trivial,λb hb=>absurd (show b∈([]:List Addr) from hb) (by simp),hok,.of_eq hg⟩
  refine codeAny_mono ((F _ NW (Mc hns)).run callerA [] s₁ H ⟨[.ref a],[]⟩ [.ref a] [.ref a] _ _ hr e0 (hbind s₁ (.ref a)) (.cons rfl .nil) (hsp H hO hS)) λr s' h=> ?_
  cases r with
  | error e=>exact(M1 H e s' h).elim
  | ok fl=>
   cases fl with
   | next=>exact False.elim h
   | brk=>exact False.elim h
   | cont=>exact False.elim h
   | ret u=>
    obtain⟨v,H',os,bare,un,hok',r',q⟩:=h
    have q':v= .bl true:=q
    subst q'
    obtain rfl:u=Value.bool true:=r'
    refine⟨rfl,OldK.of_keep λb o e=> ?_,os,bare⟩
    cases q:H b with
    | none=>exact un.keep b o e q (by intro z;exact absurd (show b∈([]:List Addr) from z) (by simp)) (by simp)
    | some u=>
     rcases hO b with z | ⟨ob,xs,z⟩
     ·rw[q] at z;cases z
     ·have z2:=un.lf b ob _ z
      obtain⟨e1,_⟩:=hok b _ z
      obtain⟨e2,_⟩:=hok' b _ z2
      rw[e] at e1;cases e1
      exact e2
 cases hk:K.lookup a with
 | some o=>
  have e:=KX a o hk
  rw[ha] at e
  cases e
  refine core (λ_=>none) (λ_=> .inl rfl) (.inr ⟨_,vs.toArray,_,hk,rfl,rfl,rfl,by rw[Kj,lenV];exact hl,by simpa using rv⟩) (λb u z=>by have z':(none:Option HO)=some u:=z;cases z') (λb z=>absurd rfl z) λz=>absurd rfl z
 | none=>
  refine core (λb=>if b=a then some (.Bm {cls:=.type "list",data:=.seq vs.toArray} (.lst (ns.map V.int))) else none) (λb=> ?_) (.inl (.inr ⟨{cls:=.type "list",data:=.seq vs.toArray},JQ rfl⟩)) (λb u z=> ?_) (λb z=> ?_) λ_=>hk
  ·by_cases hb:b=a
   ·exact .inr ⟨_,_,JQ hb⟩
   ·exact .inl (JV hb)
  ·by_cases hb:b=a
   ·have z':=(JQ hb).symm.trans z
    cases z'
    subst hb
    exact⟨ha,by rw[K4];exact hl,vs,_,rv,ha⟩
   ·have z':=(JV hb).symm.trans z
    cases z'
  ·by_cases hb:b=a
   ·exact hb
   ·exact absurd (JV hb) z
theorem Es {l:OpenLaw}{n k:Nat}{q:Program}{loose:List Str}{XP:(Str->Option Value)->Heap->Prop}{YP:World->Heap->Prop}{d:DefRec}{K:Params->Frag}{CX:World->yW}{sp:World->Sp}{x:Str}
  (hn:l.most=some n) (hn2:n<=sizeLine) (hdf:d.params.defaults=[]) (hr:dM k callerA)
  (hY:∀(w:World) (h:Heap),YP w h->(K w.params).In h)
  (F:∀(w:World) (mg:Str->Option Value) (fa:Addr) (h:Heap),(K w.params).In h->h.Ns mainGlobals mg->mg d.name=some (.ref fa)->
   ∃fd:FuncData,(∀(s:Shared) (u:Value),BindsTo s fd ⟨[u],[]⟩ [(x,u)])/\
    ∀base:Heap,(K w.params).In base->base.Ns mainGlobals mg->iZ l.prog w (K w.params) mg base (CX w) k fa fd [x] (sp w))
  (hsp:∀(w:World) (H:Hp) (a:Addr) (ns:List Int),ns.length<=n->Only H->fV (K w.params) H a (ns.map V.int)->sp w [.ref a] H (λv _=>v= .bl true) λ_ _ _=>False)
  (M1:∀(w:World) (H:Hp) (s:Shared) (e:Value) (s':Shared),CX w [] H s (λ_ _ _=>False) e s'->False) :
  PySem.W.WalkO q loose XP YP l.row.toRowW d [] (λf vs=>PySem.call f vs):=by
 refine NV.vm hn hdf λw s₀ s₁ mg mb fa o pm cd doc a vs ns G Y ho hd hcd hmg hobj hints hlen hg=> ?_
 have KX:=hY w _ Y
 obtain⟨fd,hb,hF⟩:=F w mg fa _ KX G.T.g hmg
 exact BJ KX G.T.g G.T.b G.T.builtins G.T.nolimit hg hobj hints (KJ hlen hn2) hr hF hb (λH hO hS=>hsp w H a ns hlen hO hS) λH e s'=>M1 w H s₁ e s'
end L2
/- THE LAST THEOREM (shape;LID,My.*are NX):
  My.PK: a structure of the addresses that your layer names (classes,functions);My.Txt K t: a structure (Prop) of the equations over K;
  My.M3:{K} {implicit addresses ..} (e1:nsIn K mainGlobals "law" =some (some (.ref f))) (e2:K.lookup f=some ⟨oc,od,.func (fnOf "law" "law" params body scope dV kV doc pm an cdv ct),sl⟩) (e3:codeIn K cdv "law" =true) ..:∃t,My.Txt K t
(the tactic k_is has no namespace: write k_is) -/
namespace L2
open PySem PySem.Spec PyProof.Rows
def jw (s:Stmt):Arguments:=match s with
 | .FunctionDef _ a _ _ _ _ _ _ _ _=>a
 | _=>{posonlyargs:=[],args:=[],vararg:=none,kwonlyargs:=[],kw_defaults:=[],kwarg:=none,defaults:=[]}
def dY (s:Stmt):List Stmt:=match s with
 | .FunctionDef _ _ b _ _ _ _ _ _ _=>b
 | _=> []
def ak (s:Stmt):Scope:=match s with
 | .FunctionDef _ _ _ _ _ _ sc _ _ _=>sc
 | _=>{kind:=.function,names:=[],isGenerator:=false,isCoroutine:=false}
abbrev y9:yW:=λ_ _ _ _ _ _=>False
abbrev E0:XK:=λ_ _ _=>False
theorem Gw {X:Cx}:Passes y9 X E0:=λ_ _ _ _ _ _ _ h=>h.elim
structure D5 (K:Frag)(x qual:Str)(st:Stmt)(f:Addr)(fd:FuncData):Prop where
 ex:∃(oc:Value) (od:Option Addr) (kV doc pm:Value) (an:Option Addr) (cdv ct:Value) (osl:Array (Option Value)),
  fd=fnOf x qual (jw st) (dY st) (ak st) .none kV doc pm an cdv ct/\K.lookup f=some ⟨oc,od,.func fd,osl⟩/\codeIn K cdv qual=true
 kp:keepIn K (.ref f)=true
section
variable {P:Program}{w:World}{K:Frag}{mg:Str->Option Value}{base:Heap}
theorem D5.ok {x qual:Str}{st:Stmt}{f:Addr}{fd:FuncData}{N ps:List Str}{k:Nat}{sp:Sp}(F:D5 K x qual st f fd)(S:aK N ps (ak st))(len:∀vs H Q E,sp vs H Q E->vs.length=ps.length)
  (hbody:∀(cdv:Value) (A:Around) (outer:List Env) (s:Shared) (H:Hp) (vs:List V) (Q:VK) (E:XK),dM k (A.deeper (envOfC qual (ak st) s.heap.objs.size f cdv))->sp vs H Q E->
   ∃t,pd (rh y9 P w K mg base N qual (ak st) f cdv A outer s H E).Bn (dY st) t/\t {nx:=λ_ H'=>Q .non H',rt:=Q} (start N vs) H):iZ P w K mg base y9 (k+1) f fd ps sp:=by
 obtain⟨oc,od,kV,doc,pm,an,cdv,ct,osl,rfl,lk,hcd⟩:=F.ex
 refine KL lk hcd S len λA outer s H vs Q E hr hsp=> ?_
 obtain⟨t,h,q⟩:=hbody cdv A outer s H vs Q E hr hsp
 exact⟨t,h.Bn,q⟩
theorem D5.binds {x qual:Str}{st:Stmt}{f:Addr}{fd:FuncData}{ps:List Str}(F:D5 K x qual st f fd)
  (h:∀(kV doc pm:Value) (an:Option Addr) (cdv ct:Value) (us:List Value),us.length=ps.length->bindArgs (fnOf x qual (jw st) (dY st) (ak st) .none kV doc pm an cdv ct) ⟨us,[]⟩=pure (ps.zip us)):Binds K fd ps []:=by
 obtain⟨oc,od,kV,doc,pm,an,cdv,ct,osl,rfl,lk,hcd⟩:=F.ex
 exact .all (h kV doc pm an cdv ct)
theorem HN {x qual:Str}{st:Stmt}{f:Addr}{oc:Value}{od an:Option Addr}{osl:Array (Option Value)}{kV doc pm cdv ct:Value}(l:K.lookup f=some ⟨oc,od,.func (fnOf x qual (jw st) (dY st) (ak st) .none kV doc pm an cdv ct),osl⟩)
  (c:codeIn K cdv qual=true) (k:keepIn K (.ref f)=true):D5 K x qual st f (fnOf x qual (jw st) (dY st) (ak st) .none kV doc pm an cdv ct):=⟨⟨oc,od,kV,doc,pm,an,cdv,ct,osl,rfl,l,c⟩,k⟩
end
section
variable {X:Cx}
theorem pv (i:Nat){x:Str}{pos:Pos}(hN:X.N[i]? =some x:=by rfl)(hv:L8 X.env.scope x:=by first | exact Or.inl rfl | exact Or.inr (!4) | exact Or.inr (Or.inr rfl))(hd:(x==("__debug__":Str))=false:=by decide)
  (hcd:(x==("__classdict__":Str))=false:=by decide):PE X (.Name x pos) (kT i):=Bu hN hv hd hcd
end
def Same (H H':Hp):Prop:=∀b o,H b=some o->H' b=some o
theorem Same.refl (H:Hp):Same H H:=λ_ _ h=>h
theorem Same.trans {H H1 H2:Hp}(a:Same H H1)(b:Same H1 H2):Same H H2:=λc o h=>b c o (a c o h)
theorem Same.free {H H':Hp}(e:Same H H'){l:Addr}(h:H' l=Option.none):H l=Option.none:=by
 cases q:H l with
 | none=>rfl
 | some o=>
  rw[e l o q] at h
  cases h
theorem Same.seq {K:Frag}{H H':Hp}{a:Addr}{xs:List V}(e:Same H H')(h:fV K H a xs):fV K H' a xs:=by
 rcases h with(h | ⟨o,h⟩) | h
 ·exact .inl (.inl (e _ _ h))
 ·exact .inl (.inr ⟨o,e _ _ h⟩)
 ·exact .inr h
theorem hZ (env:Env):∀(names:List (Str×NameKind)) (x:Str),
  (names.map λ(n,k)=>if (k==NameKind.free && env.scope.kind== .function && env.kindOf n==some .cell) then (n,NameKind.cell) else (n,k)).lookup x=
   (names.lookup x).map λk=>if (k==NameKind.free && env.scope.kind== .function && env.kindOf x==some .cell) then NameKind.cell else k
 | [],_=>rfl
 | (n,k) :: r,x=>by
  have ih:=hZ env r x
  show List.lookup x ((if (k==NameKind.free && env.scope.kind== .function && env.kindOf n==some .cell)=true then (n,NameKind.cell) else (n,k)) :: _)=_
  cases hx:x==n with
  | true=>
   have e:x=n:=eq_of_beq hx
   subst e
   by_cases hc:(k==NameKind.free && env.scope.kind== .function && env.kindOf x==some .cell)=true
   ·rw[JQ hc];simp only[Yk,beq_self_eq_true,U0,JQ hc]
   ·rw[JV hc];simp only[Yk,beq_self_eq_true,U0,JV hc]
  | false=>
   by_cases hc:(k==NameKind.free && env.scope.kind== .function && env.kindOf n==some .cell)=true
   ·rw[JQ hc];simp only[Yk,hx];exact ih
   ·rw[JV hc];simp only[Yk,hx];exact ih
theorem lN {scope:Scope}{env:Env}{x:Str}(h:scope.names.lookup x=some .free):(relabel scope env).names.lookup x=some .cell∨(relabel scope env).names.lookup x=some .free:=by
 show(List.lookup x (scope.names.map _)=_)∨(List.lookup x (scope.names.map _)=_)
 rw[hZ,h]
 simp only[U0]
 split
 ·exact .inl rfl
 ·exact .inr rfl
theorem pk {scope:Scope}{env:Env}{x:Str}(h:(relabel scope env).names.lookup x=some .cell∨(relabel scope env).names.lookup x=some .free):scope.names.lookup x=some .cell∨scope.names.lookup x=some .free:=by
 have e:(relabel scope env).names.lookup x=(scope.names.lookup x).map _:=hZ env scope.names x
 rw[e] at h
 cases q:scope.names.lookup x with
 | none=>rw[q] at h;rcases h with h | h <;> cases h
 | some k=>
  rw[q] at h
  simp only[U0] at h
  by_cases hc:(k==NameKind.free && env.scope.kind== .function && env.kindOf x==some .cell)=true
  ·have:k= .free:=by
    cases k <;> first | rfl | (exfalso;revert hc;simp;done) | (exfalso;simp at hc)
   exact .inr (by rw[this])
  ·rw[JV hc] at h
   exact h
theorem pr {scope:Scope}{env:Env}(h:∀y∈scope.names,y.2= .free->∃c,env.cells.lookup y.1=some c) :
  ∃cl:List (Str×Addr),closureFor scope env=pure cl/\(∀x c,cl.lookup x=some c->env.cells.lookup x=some c)/\∀y∈scope.names,y.2= .free->∃c,cl.lookup y.1=some c:=by
 have aux:∀(names:List (Str×NameKind)) (cs:List (Str×Addr)),(∀y∈names,y.2= .free->∃c,env.cells.lookup y.1=some c)->(∀x c,cs.lookup x=some c->env.cells.lookup x=some c)->
   ∃cl:List (Str×Addr),(forIn names cs (λx r=>(match x with | (name,kind)=>if (kind==NameKind.free)=true then do let a←cellOf env name;pure (ForInStep.yield ((name,a) :: r)) else pure (ForInStep.yield r):Sem (ForInStep (List (Str×Addr))))):Sem (List (Str×Addr)))=pure cl/\
    (∀x c,cl.lookup x=some c->env.cells.lookup x=some c)/\(∀x,(∃c,cs.lookup x=some c)->∃c,cl.lookup x=some c)/\∀y∈names,y.2= .free->∃c,cl.lookup y.1=some c:=by
  intro names
  induction names with
  | nil=>intro cs _ hs;exact⟨cs,rfl,hs,λ_ z=>z,λy hy=>by cases hy⟩
  | cons p r ih=>
   intro cs hn hs
   obtain⟨n,k⟩:=p
   by_cases hk:(k==NameKind.free)=true
   ·have ek:k= .free:=by cases k <;> first | rfl | (exfalso;revert hk;decide)
    obtain⟨c,hc⟩:=hn (n,k) K8 ek
    obtain⟨cl,e,h1,h2,h3⟩:=ih ((n,c) :: cs) (λy hy=>hn y (K9 _ hy)) (λx c' hx=>by
     rw[Yk] at hx
     cases hxn:x==n with
     | true=>
      rw[hxn] at hx
      cases hx
      rw[eq_of_beq hxn]
      exact hc
     | false=>rw[hxn] at hx;exact hs x c' hx)
    have self:∃c',((n,c) :: cs).lookup n=some c':=⟨c,by simp[Yk]⟩
    refine⟨cl,?_,h1,λx ⟨c',hx⟩=>h2 x ?_,λy hy ef=> ?_⟩
    ·rw[Jw]
     simp only[hk,if_true]
     have hco:cellOf env n=pure c:=by unfold cellOf;rw[hc]
     rw[hco]
     simp only[pure_bind]
     exact e
    ·rw[Yk]
     cases hxn:x==n with
     | true=>exact⟨c,rfl⟩
     | false=>exact⟨c',hx⟩
    ·rcases K0.mp hy with rfl | hy
     ·exact h2 _ self
     ·exact h3 y hy ef
   ·obtain⟨cl,e,h1,h2,h3⟩:=ih cs (λy hy=>hn y (K9 _ hy)) hs
    refine⟨cl,?_,h1,h2,λy hy ef=> ?_⟩
    ·rw[Jw]
     simp only[hk,if_false,pure_bind]
     exact e
    ·rcases K0.mp hy with rfl | hy
     ·have ef':k= .free:=ef
      rw[ef'] at hk
      exact absurd rfl hk
     ·exact h3 y hy ef
 obtain⟨cl,e,h1,_,h3⟩:=aux scope.names [] h (λx c hx=>by cases hx)
 refine⟨cl,?_,h1,h3⟩
 unfold closureFor
 first
  | exact(congrArg (· >>=λr=>pure r) e).trans rfl
  | (simp only[bind_pure];exact e)
  | exact e
def a9 (X:Cx)(scope:Scope)(cl:List (Str×Addr))(N:List Str)(fp:List Addr)(s:Shared)(H:Hp)(C:Addr):Cx :=
 {X with N:=N,s₀:=s,H₀:=H,env:=compEnvC scope cl C X.env,outer:=X.stack,ex:=fp,fn:=λ_=>false,pn:=[],xe:=λ_ _=>False}
def kU (σ:St)(ix:List Nat):St:=ix.map λk=>(σ[k]?).join
structure mX (X:Cx)(scope:Scope)(v:Str)(F:List Str)(ix:List Nat):Prop where
 kind:scope.kind= .function
 own:scope.names.lookup v=some .local
 names:∀y∈scope.names,y.2= .local->scope.names.lookup y.1=some .local
 tS:∀y∈scope.names,y.2≠ .cell
 free:∀y∈scope.names,y.2= .free->X.env.scope.names.lookup y.1=some .cell∨X.env.scope.names.lookup y.1=some .free
 cap:∀x∈F,scope.names.lookup x=some .free
 nd:(v :: F).Nodup
 eqs:ix.map (λk=>X.N[k]?)=F.map some
theorem mX.len {X:Cx}{scope:Scope}{v:Str}{F:List Str}{ix:List Nat}(O:mX X scope v F ix):ix.length=F.length:=by
 have:=congrArg List.length O.eqs
 simpa using this
theorem mX.imp {X:Cx}{scope:Scope}{v:Str}{F:List Str}{ix:List Nat}(O:mX X scope v F ix):∀(i:Nat) (x:Str),F[i]? =some x->∃k,ix[i]? =some k/\X.N[k]? =some x:=λi x e=>by
 have h:=congrArg (·[i]?) O.eqs
 simp only[KY,e,U0] at h
 cases q:ix[i]? with
 | none=>rw[q] at h;cases h
 | some k=>rw[q] at h;exact⟨k,rfl,Option.some.inj h⟩
def Bo (X:Cx)(ifs:List Expr)(t:TT):Prop :=
 ∀(pins:List (Addr×Obj)) (s:Shared) (σ:St) (H:Hp) (Q:Bool->Hp->Prop),Inv X pins σ H s->t σ H Q->
  wpAny (!6) X.A (forIn ifs true λc r=>if r=true then do let ok←isTrue c X.env (eval c X.env);pure (ForInStep.yield ok) else pure (ForInStep.yield r)) (TP X pins σ Q) X.xe s
def M4:TT:=λ_ H Q=>Q true H
theorem Et {X:Cx}:Bo X [] M4:=λ_ _ _ H _ I h=>wpAny_tests_nil ⟨H,I,h⟩
theorem Eu {X:Cx}{c:Expr}{t:TT}(h:PT X c t):Bo X [c] t:=λpins s σ H Q I hw=>wpAny_tests_one (h pins s σ H Q I hw)
section
variable {X:Cx}{scope:Scope}{v:Str}{F:List Str}{ix:List Nat}{pins:List (Addr×Obj)}{σ:St}{H:Hp}{s:Shared}
theorem Inv.HP {cl:List (Str×Addr)}{fp:List Addr}{C:Addr}(I:Inv X pins σ H s)(O:mX X scope v F ix)(hsub:∀x c,cl.lookup x=some c->X.env.cells.lookup x=some c)(hcl:∀y∈scope.names,y.2= .free->∃c,cl.lookup y.1=some c)
  (hfp:∀b∈fp,mV X pins H b) (hfz:∀b∈fp,b < s.heap.objs.size) (hC:s.heap.objs.size<=C):(a9 X scope cl (v :: F) fp s H C).Ok where
 mod:=I.ok.mod
 kind:=O.kind
 glob:=I.ok.glob
 blt:=I.ok.blt
 above:=hC
 inj:=λx y c h1 h2=>I.ok.inj x y c (hsub x c h1) (hsub y c h2)
 has:=λx hx=>by
  have hx':scope.names.lookup x=some .cell∨scope.names.lookup x=some .free:=pk (env:=X.env) hx
  rcases hx' with e | e
  ·exact absurd rfl (O.tS _ (PySem.mem_of_lookup e))
  ·exact hcl _ (PySem.mem_of_lookup e) rfl
 cab:=λx c hf _=>by cases hf
 hd:=I.ok.hd
 frames:=I.ok.frames
 stk:=.inl rfl
 G6:=λb hb=>⟨X4 (X6 (hfz b hb) hC),λx c e=>(hfp b hb).2.2.2.2.1 x c (hsub x c e)⟩
 bs:=I.bs
 xA:=KJ I.ok.xA I.sz
 tu:=λb o e hb=>by
  rcases(hfp b hb).2.2.2.1 with z | z
  ·exact I.ok.tu b o e z
  ·exact absurd (X6 (Kv e) (KJ I.ok.xA z)) (U3 _)
 u_:=λb hb hs=>by
  rcases K0.mp (I.tv b hs) with e | e
  ·exact(hfp b hb).2.1 e
  ·exact(hfp b hb).2.2.1 e
 kS:=I.stack
 Bt:=I.tw
theorem Inv.compStart {cl:List (Str×Addr)}{fp:List Addr}{C:Addr}{h1:Heap}{tk n:Nat}(I:Inv X pins σ H s)(O:mX X scope v F ix)(hsub:∀x c,cl.lookup x=some c->X.env.cells.lookup x=some c)(hcl:∀y∈scope.names,y.2= .free->∃c,cl.lookup y.1=some c)
  (hfp:∀b∈fp,mV X pins H b) (hfz:∀b∈fp,b < s.heap.objs.size) (hC:C=s.heap.objs.size+1) (hk:∀b o,s.heap.get? b=some o->h1.get? b=some o) (hns:h1.Ns C λ_=>none)
  (hD:h1.get? s.heap.objs.size=some {cls:=.type "list",data:=.seq ([]:List Value).toArray n}) :
  Inv (a9 X scope cl (v :: F) fp s H C) [] (none :: kU σ ix) (upd H s.heap.objs.size (.lst [])) {s with heap:=h1,toks:=tk}:=by
 have hn:H s.heap.objs.size=none:=I.hok.fresh (K2 _)
 have hlt:s.heap.objs.size < C:=by rw[hC];exact Uj _
 refine⟨I.HP O hsub hcl hfp hfz (Y0 hlt),rfl,I.bare,Un.laid hk (K2 _) hn,⟨_,hns,λi x u e1 e2 e3=> ?_⟩,λx c e=> ?_,?_,λx c e=> ?_,λp hp=>absurd (show p∈([]:List (Addr×Obj)) from hp) (by simp),
  I.hok.laid hk (K2 _) ⟨Xy _,[],n,.nil,hD⟩,?_⟩
 ·cases i with
  | zero=>have e2':(some none:Option (Option V))=some (some u):=e2;cases e2'
  | succ i=>
   have e1':F[i]? =some x:=e1
   have e2':(kU σ ix)[i]? =some (some u):=e2
   obtain⟨k,hk1,hk2⟩:=O.imp i x e1'
   unfold kU at e2'
   rw[KY,hk1] at e2'
   have e4:(σ[k]?).join=some u:=by simpa using e2'
   have e5:σ[k]? =some (some u):=by
    cases q:σ[k]? with
    | none=>rw[q] at e4;cases e4
    | some o=>rw[q] at e4;have:o=some u:=e4;rw[this]
   have hfr:scope.names.lookup x=some .free:=O.cap x (Y1 e1')
   have Lc:=O.free _ (PySem.mem_of_lookup hfr) rfl
   obtain⟨m,hm,hl⟩:=I.loc
   obtain⟨w,xL,lk⟩:=hl k x u hk2 e5 (by rcases Lc with z | z;exact .inr (.inl z);exact .inr (.inr z))
   refine⟨w,xL,.inr ⟨?_,?_⟩⟩
   ·exact lN hfr
   ·obtain⟨c,hc⟩:=hcl _ (PySem.mem_of_lookup hfr) rfl
    refine⟨c,hc,?_⟩
    rcases lk with⟨z,_⟩ | ⟨_,c',hc',cell⟩
    ·have z':X.env.scope.names.lookup x=some .local:=z
     rcases Lc with y | y <;> (rw[z'] at y;cases y)
    ·have:c'=c:=by
      have:=hsub _ _ hc
      rw[hc'] at this
      exact Option.some.inj this
     subst this
     exact cell.keeps hk
 ·obtain⟨w,cell⟩:=I.cell x c (hsub x c e)
  exact⟨w,cell.keeps hk⟩
 ·show upd H s.heap.objs.size (.lst []) C=none
  rw[aO (Uv hlt)]
  exact I.hok.fresh (Y0 hlt)
 ·obtain⟨w,cell⟩:=I.cell x c (hsub x c e)
  rw[aO (X4 cell.lt)]
  exact I.iY x c (hsub x c e)
 ·show(none :: kU σ ix).length=(v :: F).length
  unfold kU
  rw[Kz,Kz,K4,O.len]
end
end L2
namespace Y
open PySem
/- no list or dict within -/
mutual
noncomputable def bo:PyData->Bool
 | .list _=>false
 | .dict _=>false
 | .tuple xs=>aq xs
 | _=>true
noncomputable def aq:List PyData->Bool
 | []=>true
 | d :: ds=>bo d && aq ds
end
theorem gh:∀(xs ys:List PyData),aq (xs++ys)=(aq xs && aq ys)
 | [],ys=>by simp[aq]
 | x :: xs,ys=>by rw[U6,aq,aq,gh xs ys,Bool.and_assoc]
theorem aQ:∀{xs:List PyData},aq xs=true↔∀x∈xs,bo x=true
 | []=>by simp[aq]
 | x :: xs=>by rw[aq,X9,aQ (xs:=xs)];simp
theorem aU {α:Type}(f:α->PyData)(h:∀i,bo (f i)=true)(l:List α):aq (l.map f)=true:=aQ.mpr λx hx=>by
 obtain⟨y,_,rfl⟩:=Kw.mp hx;exact h y
theorem vo {xs:List PyData}(h:aq xs=true):∀k:Nat,aq (List.replicate k xs).flatten=true
 | 0=>rfl
 | k+1=>by rw[Uk,UQ,gh,h,vo h k];rfl
/- data that==reads: no dict,not too deep -/
mutual
noncomputable def lay:Nat->PyData->Bool
 | _,.none=>true
 | _,.bool _=>true
 | _,.int _=>true
 | _,.str x=>PyData.strOk x
 | n+1,.list xs=>lays n xs
 | n+1,.tuple xs=>lays n xs
 | _,_=>false
noncomputable def lays:Nat->List PyData->Bool
 | _,[]=>true
 | n,d :: ds=>lay n d && lays n ds
end
theorem gj {n:Nat}:∀{xs:List PyData},lays n xs=true↔∀x∈xs,lay n x=true
 | []=>by simp[lays]
 | x :: xs=>by rw[lays,X9,gj (xs:=xs)];simp
theorem j5 {α:Type}{n:Nat}(f:α->PyData)(h:∀i,lay n (f i)=true)(l:List α):lays n (l.map f)=true:=gj.mpr λx hx=>by
 obtain⟨y,_,rfl⟩:=Kw.mp hx;exact h y
inductive R (α:Type) where
 | ok (a:α)
 | ex (c:Str)
abbrev M (α:Type):=Option (R α)
noncomputable def ah {α:Type}(a:α):M α:=some (.ok a)
noncomputable def ap {α β:Type}(m:M α)(f:α->M β):M β:=match m with
 | none=>none
 | some (.ok a)=>f a
 | some (.ex c)=>some (.ex c)
theorem ay {α β:Type}(a:α)(f:α->M β):ap (ah a) f=f a:=rfl
noncomputable def mo {α:Type}(o:Option α):M α:=o.map .ok
theorem bB {α:Type}(a:α):mo (some a)=ah a:=rfl
abbrev aW:=List (Option (Bool×PyData))
inductive Kd where
 | fr (l:List Nat)
 | base
 | any
def cy (k:Kd)(d:PyData):Kd:=if bo d then .fr [] else k
abbrev EF:=aW->M (Kd×PyData)
abbrev TF:=aW->M Bool
inductive Out where
 | nx (Γ:aW)
 | bk (Γ:aW)
 | ct (Γ:aW)
 | rt (o:Bool) (d:PyData)
abbrev SF:=aW->M Out
abbrev GF:=Kd->PyData->aW->Option aW
abbrev IF:=aW->M (Kd×List PyData)
abbrev FF:=List PyData->M (Bool×PyData)
def eC (d:PyData):EF:=λ_=>ah (.fr [],d)
def eV (i:Nat):EF:=λΓ=>match Γ[i]? with
 | some (some (o,d))=>ah (cy (if o then .fr [i] else .base) d,d)
 | _=>none
def cb (g:PyData->PyData->Option PyData)(a b:EF):EF:=λΓ=>ap (a Γ) λx=>ap (b Γ) λy=>ap (mo (g x.2 y.2)) λz=>ah (.fr [],z)
def Ey (g:PyData->Option PyData)(a:EF):EF:=λΓ=>ap (a Γ) λx=>ap (mo (g x.2)) λz=>ah (.fr [],z)
def mR (g:PyData->PyData->Option PyData)(a b:EF):EF:=λΓ=>ap (a Γ) λx=>ap (b Γ) λy=>ap (mo (g x.2 y.2)) λz=>ah (cy x.1 z,z)
def Ld (c:TF)(a b:EF):EF:=λΓ=>ap (c Γ) λt=>if t=true then a Γ else b Γ
def HQ (g g':PyData->PyData->Option PyData)(a b c:EF):EF:=λΓ=>ap (a Γ) λx=>ap (b Γ) λy=>ap (mo (g x.2 y.2)) λz=>match z with
 | .bool true=>ap (c Γ) λw=>ap (mo (g' y.2 w.2)) λu=>ah (.fr [],u)
 | .bool false=>ah (.fr [],.bool false)
 | _=>none
def HR (a b:EF):EF:=λΓ=>ap (a Γ) λx=>match x.2 with
 | .bool true=>b Γ
 | .bool false=>ah (.fr [],.bool false)
 | _=>none
def BK (a:EF):EF:=λΓ=>ap (a Γ) λx=>match x.2 with
 | .bool t=>ah (.fr [],.bool (!t))
 | _=>none
def tE (a:EF):TF:=λΓ=>ap (a Γ) λx=>match x.2 with
 | .bool t=>ah t
 | _=>none
def rU (a b:TF):TF:=λΓ=>ap (a Γ) λx=>if x=true then b Γ else ah false
def Ez (a b:TF):TF:=λΓ=>ap (a Γ) λx=>if x=true then ah true else b Γ
def j6 (a:TF):TF:=λΓ=>ap (a Γ) λx=>ah (!x)
def eArgs:List EF->aW->M (List (Kd×PyData))
 | [],_=>ah []
 | f :: r,Γ=>ap (f Γ) λx=>ap (eArgs r Γ) λxs=>ah (x :: xs)
def bK:List (Kd×PyData)->Kd
 | []=> .fr []
 | (.fr [],_) :: r=>bK r
 | _ :: _=> .any
def fM (fs:List EF):EF:=λΓ=>ap (eArgs fs Γ) λxs=>ah (cy (bK xs) (.tuple (xs.map Prod.snd)),.tuple (xs.map Prod.snd))
def dw (fs:List EF):EF:=λΓ=>ap (eArgs fs Γ) λxs=>ah (bK xs,.list (xs.map Prod.snd))
def j2 (g:List PyData->Option PyData)(fs:List EF):EF:=λΓ=>ap (eArgs fs Γ) λxs=>ap (mo (g (xs.map Prod.snd))) λz=>ah (.fr [],z)
def aR (F:FF)(fs:List EF):EF:=λΓ=>ap (eArgs fs Γ) λxs=>ap (F (xs.map Prod.snd)) λr=>ah (cy (if r.1=true then .fr [] else .any) r.2,r.2)
def xN (x y:PyData):Option PyData:=if lay 60 x && lay 60 y then some (.bool (PyData.eqv x y)) else none
def BL (x y:PyData):Option PyData:=if lay 60 x && lay 60 y then some (.bool (!PyData.eqv x y)) else none
noncomputable def cz (ys:List PyData)(x:PyData):Bool:=ys.any λz=>PyData.eqv z x
def HS (x:PyData):PyData->Option PyData
 | .list ys=>if lay 60 x && lays 60 ys then some (.bool (cz ys x)) else none
 | .tuple ys=>if lay 60 x && lays 60 ys then some (.bool (cz ys x)) else none
 | _=>none
def gE (x:PyData):PyData->Option PyData
 | .list ys=>if lay 60 x && lays 60 ys then some (.bool (!cz ys x)) else none
 | .tuple ys=>if lay 60 x && lays 60 ys then some (.bool (!cz ys x)) else none
 | _=>none
def i7:PyData->Bool
 | .none=>true
 | _=>false
def OC (x:PyData):PyData->Option PyData
 | .none=>some (.bool (i7 x))
 | _=>none
def tU (x:PyData):PyData->Option PyData
 | .none=>some (.bool (!i7 x))
 | _=>none
def vf:PyData->PyData->Option PyData
 | .int i,.int j=>some (.int (i - j))
 | _,_=>none
def jV:PyData->PyData->Option PyData
 | .int i,.int j=>if 0 < j/\j < 2^64 then some (.int (i / j)) else none
 | _,_=>none
def jZ:PyData->PyData->Option PyData
 | .int i,.int j=>if 0 < j then some (.int (i % j)) else none
 | _,_=>none
def BM:PyData->PyData->Option PyData
 | .int i,.int j=>if 0<=j/\j<=1000000/\i.natAbs < 2^64 then some (.int (i^j.toNat)) else none
 | _,_=>none
def JM:PyData->PyData->Option PyData
 | .int i,.int j=>some (.bool (decide (i < j)))
 | _,_=>none
def OD:PyData->PyData->Option PyData
 | .int i,.int j=>some (.bool (decide (i<=j)))
 | _,_=>none
def JN:PyData->PyData->Option PyData
 | .int i,.int j=>some (.bool (decide (j < i)))
 | _,_=>none
def M5:PyData->Option PyData
 | .int i=>some (.int (-i))
 | _=>none
def kX:PyData->PyData->Option PyData
 | .int i,.int j=>some (.int (i+j))
 | .list xs,.list ys=>if aq xs && aq ys && decide (xs.length+ys.length<=sizeLine) then some (.list (xs++ys)) else none
 | .tuple xs,.tuple ys=>if aq xs && aq ys && decide (xs.length+ys.length<=sizeLine) then some (.tuple (xs++ys)) else none
 | .str x,.str y=>if x.length+y.length<=sizeLine then some (.str (x++y)) else none
 | _,_=>none
def rq:PyData->PyData->Option PyData
 | .int i,.int j=>if (-(2^64) < i/\i < 2^64)∨(-(2^64) < j/\j < 2^64) then some (.int (i*j)) else none
 | _,_=>none
def Ah (xs:List PyData):PyData->M (Kd×PyData)
 | .int k=>if aq xs=true/\ -(2^63)<=k/\k < 2^63/\xs.length*k.toNat<=sizeLine then ah (.fr [],.list (List.replicate k.toNat xs).flatten) else none
 | _=>none
def isNew:Kd->Bool
 | .fr []=>true
 | _=>false
def Ai (k:Kd)(x y:PyData):M (Kd×PyData):=if isNew k=true then (match x with
 | .list xs=>Ah xs y
 | _=>none) else none
def EA (a b:EF):EF:=λΓ=>ap (a Γ) λx=>ap (b Γ) λy=>Ai x.1 x.2 y.2
def nM (n:Nat)(i:Int):Option Nat:=if 0<=i then (if i < n then some i.toNat else none) else if -(n:Int)<=i then some (i+n).toNat else none
def rA {α:Type}(xs:List α)(i:Int):Option α:=(nM xs.length i).bind λj=>xs[j]?
def kY:PyData->PyData->Option PyData
 | .list xs,.int i=>rA xs i
 | .tuple xs,.int i=>rA xs i
 | .str x,.int i=>if x.length<=sizeLine then (rA x.cps.toList i).map λc=> .str ⟨#[c]⟩ else none
 | _,_=>none
def j7:List PyData->Option PyData
 | [.list xs]=>some (.int xs.length)
 | [.tuple xs]=>some (.int xs.length)
 | [.str x]=>if x.length<=sizeLine then some (.int x.length) else none
 | _=>none
def nN:List PyData->Option PyData
 | [.list xs]=>if aq xs then some (.list xs) else none
 | [.tuple xs]=>if aq xs then some (.list xs) else none
 | _=>none
def eF:List PyData->Option PyData
 | [.list xs]=>if aq xs then some (.tuple xs) else none
 | [.tuple xs]=>if aq xs then some (.tuple xs) else none
 | _=>none
def pz (n:String):PyData->Bool
 | .none=>false
 | .bool _=>n== "bool" || n== "int"
 | .int _=>n== "int"
 | .str _=>n== "str"
 | .list _=>n== "list"
 | .tuple _=>n== "tuple"
 | .dict _=>n== "dict"
def vp (n:String)(a:EF):EF:=λΓ=>ap (a Γ) λx=>ah (.fr [],.bool (pz n x.2))
def xO (i:Nat)(Γ:aW):aW:=match Γ[i]? with
 | some (some (_,d))=>Γ.set i (some (false,d))
 | _=>Γ
def xP (l:List Nat)(Γ:aW):aW:=l.foldl (λΓ i=>xO i Γ) Γ
def tV (Γ:aW):aW:=Γ.map λs=>s.map λp=>(false,p.2)
def iR (Γ:aW)(i:Nat)(k:Kd)(d:PyData):aW:=match k with
 | .fr []=>Γ.set i (some (true,d))
 | .fr (j :: l)=>(xP (j :: l) Γ).set i (some (false,d))
 | .base=>Γ.set i (some (false,d))
 | .any=>(tV Γ).set i (some (false,d))
def cN (i:Nat):GF:=λk d Γ=>some (iR Γ i k d)
def y_:Kd->Kd
 | .fr []=> .fr []
 | .fr (_ :: _)=> .any
 | .base=> .base
 | .any=> .any
def pA (Γ:aW):List Nat->Kd->List PyData->aW
 | i :: is,k,d :: ds=>pA (iR Γ i (cy k d) d) is k ds
 | _,_,_=>Γ
def jx (is:List Nat):GF:=λk d Γ=>match d with
 | .tuple ds=>if ds.length=is.length then some (pA Γ is (y_ k) ds) else none
 | _=>none
def j0 (k:Kd)(Γ:aW):aW:=match k with
 | .fr []=>Γ
 | .fr (j :: l)=>xP (j :: l) Γ
 | .base=>Γ
 | .any=>tV Γ
noncomputable def itemsOf:PyData->Option (List PyData)
 | .list xs=>some xs
 | .tuple xs=>some xs
 | _=>none
def lG (e:EF):IF:=λΓ=>ap (e Γ) λx=>ap (mo (itemsOf x.2)) λds=>ah (x.1,ds)
def Aj:PyData->M (Kd×List PyData)
 | .int n=>if -(2^62)<=n/\n < 2^62 then ah (.fr [],(List.range n.toNat).map λi=> .int (i:Nat)) else none
 | _=>none
def c_ (e:EF):IF:=λΓ=>ap (e Γ) λx=>Aj x.2
def i8 (Γ:aW)(ix:List Nat):aW:=ix.map λk=>(Γ[k]?).join.map λp=>(false,p.2)
def cc (ft:TF)(fe:EF)(cap:aW):List PyData->Option (List (Kd×PyData))
 | []=>some []
 | d :: ds=>match ft (some (false,d) :: cap) with
  | some (.ok true)=>match fe (some (false,d) :: cap) with
   | some (.ok x)=>(cc ft fe cap ds).map (x :: ·)
   | _=>none
  | some (.ok false)=>cc ft fe cap ds
  | _=>none
def gk:List (Kd×PyData)->Option Kd
 | []=>some (.fr [])
 | (.fr [],_) :: r=>gk r
 | (.base,_) :: r=>(gk r).map λ_=> .any
 | _ :: _=>none
def ce:TF:=λ_=>ah true
def bj (it:IF)(ix:List Nat)(ft:TF)(fe:EF):EF:=λΓ=>ap (it Γ) λx=>ap (mo (cc ft fe (i8 Γ ix) x.2)) λys=>ap (mo (gk ys)) λk=>if x.2.length<=100000 then ah (k,.list (ys.map Prod.snd)) else none
def aC (f g:SF):SF:=λΓ=>ap (f Γ) λo=>match o with
 | .nx Γ'=>g Γ'
 | o=>ah o
def eQ:SF:=λΓ=>ah (.nx Γ)
def M6:SF:=λΓ=>ah (.ct Γ)
def mY:Kd->Bool
 | .fr _=>true
 | _=>false
def cu (e:EF):SF:=λΓ=>ap (e Γ) λx=>ah (.rt (mY x.1) x.2)
def BN:SF:=λ_=>none
def aL (i:Nat)(e:EF):SF:=λΓ=>ap (e Γ) λx=>ah (.nx (iR Γ i x.1 x.2))
def kZ (t:TF)(a b:SF):SF:=λΓ=>ap (t Γ) λc=>if c=true then a Γ else b Γ
def xQ (i j:Nat):SF:=λΓ=>match Γ[j]? with
 | some (some (true,d))=>if bo d then ah (.nx (Γ.set i (some (true,d)))) else if i=j then none else ah (.nx ((Γ.set j none).set i (some (true,d))))
 | some (some (false,d))=>ah (.nx (iR Γ i (cy .base d) d))
 | _=>none
def Ak (g:GF)(e:EF):SF:=λΓ=>ap (e Γ) λx=>ap (mo (g x.1 x.2 Γ)) λΓ'=>ah (.nx Γ')
def bf (g:GF)(b:SF):List PyData->aW->M Out
 | [],Γ=>ah (.nx Γ)
 | d :: ds,Γ=>ap (mo (g (cy .base d) d Γ)) λΓ1=>ap (b Γ1) λo=>match o with
  | .nx Γ'=>bf g b ds Γ'
  | .ct Γ'=>bf g b ds Γ'
  | .bk Γ'=>ah (.nx Γ')
  | .rt o d=>ah (.rt o d)
def bG (it:IF)(g:GF)(b:SF):SF:=λΓ=>ap (it Γ) λx=>bf g b x.2 (j0 x.1 Γ)
def eG (n:Nat)(t:TF)(b:SF)(Γ:aW):M Out:=match n with
 | 0=>none
 | n+1=>ap (t Γ) λc=>if c=true then ap (b Γ) λo=>(match o with
   | .nx Γ'=>eG n t b Γ'
   | .ct Γ'=>eG n t b Γ'
   | .bk Γ'=>ah (.nx Γ')
   | .rt o d=>ah (.rt o d)) else ah (.nx Γ)
def vq:Nat:=1000000
def pB (n:Nat)(t:TF)(b:SF):SF:=λΓ=>eG n t b Γ
def iS (i:Nat)(e:EF):SF:=λΓ=>match Γ[i]? with
 | some (some (true,.list xs))=>ap (e Γ) λx=>match x.1 with
  | .fr []=>if xs.length < sizeLine then ah (.nx (Γ.set i (some (true,.list (xs++[x.2]))))) else none
  | .fr [j]=>if xs.length < sizeLine/\i≠j then ah (.nx ((Γ.set j none).set i (some (true,.list (xs++[x.2]))))) else none
  | _=>none
 | _=>none
def Gy:Kd->Bool
 | .fr []=>true
 | .base=>true
 | _=>false
def xR (k:Kd):PyData->Option (List PyData)
 | .list ys=>if Gy k=true then some ys else none
 | .tuple ys=>some ys
 | _=>none
def xS (i:Nat)(e:EF):SF:=λΓ=>match Γ[i]? with
 | some (some (true,.list xs))=>ap (e Γ) λx=>match xR x.1 x.2 with
  | some ys=>if aq ys=true/\xs.length+ys.length<=sizeLine then ah (.nx (Γ.set i (some (true,.list (xs++ys))))) else none
  | none=>none
 | _=>none
def Al (i:Nat)(j e:EF):SF:=λΓ=>ap (e Γ) λx=>match Γ[i]? with
 | some (some (true,.list xs))=>ap (j Γ) λy=>match y.2 with
  | .int n=>match nM xs.length n with
   | some m=>if bo x.2 && aq xs then ah (.nx (Γ.set i (some (true,.list (xs.set m x.2))))) else none
   | none=>none
  | _=>none
 | _=>none
def da (n:Nat)(ds:List PyData):aW:=ds.map (λd=>some (false,d))++List.replicate (n - ds.length) none
def cA (n:Nat)(f:SF):FF:=λds=>ap (f (da n ds)) λo=>match o with
 | .rt o d=>ah (o,d)
 | .nx _=>ah (true,.none)
 | _=>none
def vt:PyData->Option PyData
 | .list xs=>if aq xs then some (.tuple xs.reverse) else none
 | _=>none
def rB (x:PyData):List PyData->Option Nat
 | []=>none
 | y :: ys=>if PyData.eqv y x then some 0 else (rB x ys).map (· +1)
def HU (n d:Nat):Option Int->Nat
 | none=>d
 | some v=>if v < 0 then (v+(n:Int)).toNat else min v.toNat n
noncomputable def cutD (xs:List PyData)(lo hi:Option Int):List PyData:=(xs.drop (HU xs.length 0 lo)).take (HU xs.length xs.length hi - HU xs.length 0 lo)
def oI:PyData->M (Option Int)
 | .int n=>ah (some n)
 | _=>none
def oE:Option EF->aW->M (Option Int)
 | none,_=>ah none
 | some f,Γ=>ap (f Γ) λx=>oI x.2
def Md (d:PyData)(lo hi:Option Int):Option PyData:=match d with
 | .list xs=>if aq xs=true then some (.list (cutD xs lo hi)) else none
 | .tuple xs=>if aq xs=true then some (.tuple (cutD xs lo hi)) else none
 | _=>none
def Me (a:EF)(lo hi:Option EF):EF:=λΓ=>ap (a Γ) λx=>ap (oE lo Γ) λl=>ap (oE hi Γ) λh=>ap (mo (Md x.2 l h)) λz=>ah (.fr [],z)
def EB (k:Kd):PyData->M (Kd×List PyData)
 | .tuple xs=>ah (k,xs.reverse)
 | _=>none
def BO (e:EF):IF:=λΓ=>ap (e Γ) λx=>EB x.1 x.2
mutual
noncomputable def nest:Nat->PyData->Bool
 | _,.int _=>true
 | _,.none=>true
 | n+1,.tuple ds=>nests n ds
 | _,_=>false
noncomputable def nests:Nat->List PyData->Bool
 | _,[]=>true
 | n,d :: ds=>nest n d && nests n ds
end
def vz:Int:=4238894112
mutual
def fH:PyData->Int
 | .int i=>hashInt i
 | .tuple xs=>reduceHash (Builtin.Tuple.tupleHashOf (jy xs))
 | _=>vz
def jy:List PyData->List Int
 | []=> []
 | d :: ds=>fH d :: jy ds
end
noncomputable def db:PyData->Bool
 | .tuple ds=>nests 7 ds
 | _=>false
def xT:PyData->Bool
 | .int _=>true
 | _=>false
abbrev k6:=List (PyData×PyData)
def gF (kvs:k6):Bool:=kvs.all λp=>db p.1
def allI (kvs:k6):Bool:=kvs.all λp=>xT p.1
def dN (kvs:k6)(x:PyData):Bool:=(db x && gF kvs) || (xT x && allI kvs)
def lg (kvs:k6)(x:PyData):Bool:=kvs.any λp=>PyData.eqv p.1 x
def jz (kvs:k6)(x:PyData):Option PyData:=(kvs.find? λp=>PyData.eqv p.1 x).map (·.2)
def putK (kvs:k6)(k v:PyData):k6:=if lg kvs k=true then kvs.map λp=>if PyData.eqv p.1 k=true then (p.1,v) else p else kvs++[(k,v)]
def k_ (kvs more:k6):k6:=more.foldl (λacc p=>putK acc p.1 p.2) kvs
def dO (kvs:k6):Bool:=aq (kvs.map (·.2))
def vA (x y:PyData):Option PyData:=match y with
 | .dict kvs=>if dN kvs x=true then some (.bool (lg kvs x)) else none
 | y=>HS x y
def eU (x y:PyData):Option PyData:=match y with
 | .dict kvs=>if dN kvs x=true then some (.bool (!lg kvs x)) else none
 | y=>gE x y
def EC (x y:PyData):Option PyData:=match x with
 | .dict kvs=>if dN kvs y=true then jz kvs y else none
 | x=>kY x y
def lO:EF:=λ_=>ah (.fr [],.dict [])
def vB (a b:EF):EF:=λΓ=>ap (a Γ) λx=>ap (b Γ) λy=>if dN [] x.2=true/\bo y.2=true then ah (.fr [],.dict [(x.2,y.2)]) else none
def oV:List PyData->Option PyData
 | [.dict kvs]=>if kvs.isEmpty=false/\gF kvs=true/\dO kvs=true/\(kvs.map λp=>fH p.1).Nodup then some (.dict kvs) else none
 | _=>none
def ED (i:Nat):Kd->Bool
 | .fr l=> !l.contains i
 | .base=>true
 | .any=>false
def vC (i:Nat)(k:Kd)(kvs:k6):PyData->Option k6
 | .dict more=>if ED i k=true/\((kvs.isEmpty=false/\gF kvs=true/\gF more=true)∨(allI kvs=true/\allI more=true))/\dO kvs=true/\dO more=true/\kvs.length+more.length<=sizeLine then some (k_ kvs more) else none
 | _=>none
def rV (i:Nat)(e:EF):SF:=λΓ=>match Γ[i]? with
 | some (some (true,.dict kvs))=>ap (e Γ) λx=>match vC i x.1 kvs x.2 with
  | some kvs'=>ah (.nx (Γ.set i (some (true,.dict kvs'))))
  | none=>none
 | _=>none
def pC (i:Nat)(j e:EF):SF:=λΓ=>ap (e Γ) λx=>match Γ[i]? with
 | some (some (true,.dict kvs))=>ap (j Γ) λy=>if dN kvs y.2=true/\bo x.2=true/\dO kvs=true/\kvs.length < sizeLine then ah (.nx (Γ.set i (some (true,.dict (putK kvs y.2 x.2))))) else none
 | _=>none
def rW (i:Nat)(j e:EF):SF:=λΓ=>match Γ[i]? with
 | some (some (true,.dict _))=>pC i j e Γ
 | _=>Al i j e Γ
def za:k6->PyData->PyData->Option k6
 | [],k,n=>some [(k,.list [n])]
 | (k',v) :: r,k,n=>if PyData.eqv k' k=true then (match v with
  | .list xs=>if aq xs=true/\xs.length < sizeLine then some ((k',.list (xs++[n])) :: r) else none
  | _=>none) else (za r k n).map ((k',v) :: ·)
def dI:Nat->List PyData->List PyData
 | _,[]=> []
 | n,d :: ds=> .tuple [.int (n:Int),d] :: dI (n+1) ds
def EE (k:Kd):PyData->M (Kd×List PyData)
 | .tuple xs=>ah (k,dI 0 xs)
 | _=>none
def tW (e:EF):IF:=λΓ=>ap (e Γ) λx=>EE x.1 x.2
end Y
namespace L2
open PySem PySem.Spec PyProof.Rows Y
abbrev EG:=List (PyData×V×V)×Nat
def pD (a:Addr)(ks:EG)(h:Heap):Prop :=
 ks.1.length<=sizeLine/\(a==sysModules)=false/\((∀k∈ks.1,db k.1=true)∨(∀k∈ks.1,xT k.1=true))/\(ks.1.map (·.1)).Nodup/\∃o es,h.get? a=some o/\o.ExactDict/\o.data= .dict es ks.2/\
  Paired (λ(k:PyData×V×V) (e:DictEntry)=>e.hash=fH k.1/\RelV k.2.1 e.key/\RelV k.2.2 e.val) ks.1 es.toList
def HO.dct (a:Addr)(ks:EG):HO:=.ext (pD a ks)
mutual
def aJ (K:Frag)(H:Hp):PyData->V->Prop
 | .none,v=>v= .non
 | .bool b,v=>v= .bl b
 | .int i,v=>v= .int i
 | .str x,v=>v= .str x
 | .list xs,v=>∃a vs,v= .ref a/\fV K H a vs/\ar K H xs vs
 | .tuple xs,v=>∃a vs,v= .ref a/\dJ K H a vs/\ar K H xs vs
 | .dict kvs,v=>∃a ks,v= .ref a/\Rd H a (.dct a ks)/\aT K H kvs ks.1
def ar (K:Frag)(H:Hp):List PyData->List V->Prop
 | [],vs=>vs=[]
 | d :: ds,vs=>∃v r,vs=v :: r/\aJ K H d v/\ar K H ds r
def aT (K:Frag)(H:Hp):List (PyData×PyData)->List (PyData×V×V)->Prop
 | [],ks=>ks=[]
 | (k,d) :: r,ks=>∃kv v q,ks=(k,kv,v) :: q/\aJ K H k kv/\aJ K H d v/\aT K H r q
end
mutual
def IsT (K:Frag)(H:Hp):PyData->V->List Addr->Prop
 | .none,v,as=>v= .non/\as=[]
 | .bool b,v,as=>v= .bl b/\as=[]
 | .int i,v,as=>v= .int i/\as=[]
 | .str x,v,as=>v= .str x/\as=[]
 | .list xs,v,as=>∃a vs bs,v= .ref a/\H a=some (.lst vs)/\az K H xs vs bs/\as=a :: bs
 | .tuple xs,v,as=>∃a vs,v= .ref a/\dJ K H a vs/\az K H xs vs as
 | .dict kvs,v,as=>∃a ks bs,v= .ref a/\H a=some (.dct a ks)/\aM K H kvs ks.1 bs/\as=a :: bs
def az (K:Frag)(H:Hp):List PyData->List V->List Addr->Prop
 | [],vs,as=>vs=[]/\as=[]
 | d :: ds,vs,as=>∃v r a1 a2,vs=v :: r/\as=a1++a2/\IsT K H d v a1/\az K H ds r a2
def aM (K:Frag)(H:Hp):List (PyData×PyData)->List (PyData×V×V)->List Addr->Prop
 | [],ks,as=>ks=[]/\as=[]
 | (k,d) :: r,ks,as=>∃kv v q a1 a2,ks=(k,kv,v) :: q/\as=a1++a2/\IsT K H k kv []/\IsT K H d v a1/\aM K H r q a2
end
section
variable {K:Frag}{H H':Hp}
theorem bC {i:Int}:aJ K H (.int i) (.int i):=by simp only[aJ]
theorem zb:aJ K H .none .non:=by simp only[aJ]
theorem cL {b:Bool}:aJ K H (.bool b) (.bl b):=by simp only[aJ]
theorem zc {x:Str}:aJ K H (.str x) (.str x):=by simp only[aJ]
theorem aY:ar K H [] []:=by simp only[ar]
theorem aV {d:PyData}{ds:List PyData}{v:V}{vs:List V}(h:aJ K H d v)(t:ar K H ds vs):ar K H (d :: ds) (v :: vs):=by
 simp only[ar];exact⟨v,vs,rfl,h,t⟩
theorem oW {ds:List PyData}{a:Addr}{vs:List V}(h:dJ K H a vs)(t:ar K H ds vs):aJ K H (.tuple ds) (.ref a):=by
 simp only[aJ];exact⟨a,vs,rfl,h,t⟩
theorem tX {ds:List PyData}{a:Addr}{vs:List V}(h:fV K H a vs)(t:ar K H ds vs):aJ K H (.list ds) (.ref a):=by
 simp only[aJ];exact⟨a,vs,rfl,h,t⟩
theorem aE {ds:List PyData}{v:V}(h:aJ K H (.tuple ds) v):∃a vs,v= .ref a/\dJ K H a vs/\ar K H ds vs:=by
 simpa only[aJ] using h
theorem aZ {ds:List PyData}{v:V}(h:aJ K H (.list ds) v):∃a vs,v= .ref a/\fV K H a vs/\ar K H ds vs:=by
 simpa only[aJ] using h
theorem b_ {kvs:List (PyData×PyData)}{v:V}(h:aJ K H (.dict kvs) v):∃a ks,v= .ref a/\Rd H a (.dct a ks)/\aT K H kvs ks.1:=by
 simpa only[aJ] using h
theorem aA {i:Int}{v:V}(h:aJ K H (.int i) v):v= .int i:=by simpa only[aJ] using h
theorem h9 {i:Str}{v:V}(h:aJ K H (.str i) v):v= .str i:=by simpa only[aJ] using h
theorem i9 {i:Bool}{v:V}(h:aJ K H (.bool i) v):v= .bl i:=by simpa only[aJ] using h
theorem lh {v:V}(h:aJ K H .none v):v= .non:=by simpa only[aJ] using h
theorem ao:∀{ds:List PyData} {vs:List V},ar K H ds vs->vs.length=ds.length
 | [],vs,h=>by simp only[ar] at h;subst h;rfl
 | d :: ds,vs,h=>by
  simp only[ar] at h
  obtain⟨v,r,rfl,_,t⟩:=h
  rw[Kz,Kz,ao t]
theorem gm:∀{ds:List PyData} {vs:List V} {i:Nat} {d:PyData},ar K H ds vs->ds[i]? =some d->∃v,vs[i]? =some v/\aJ K H d v
 | [],_,_,_,_,e=>by simp at e
 | c :: ds,vs,i,d,h,e=>by
  simp only[ar] at h
  obtain⟨v,r,rfl,hv,t⟩:=h
  cases i with
  | zero=>simp at e;subst e;exact⟨v,rfl,hv⟩
  | succ i=>
   obtain⟨w,h1,h2⟩:=gm (i:=i) (d:=d) t (by simpa using e)
   exact⟨w,by simpa using h1,h2⟩
theorem g_:∀{ds:List PyData} {vs:List V} {i:Nat} {v:V},ar K H ds vs->vs[i]? =some v->∃d,ds[i]? =some d/\aJ K H d v
 | [],vs,i,v,h,e=>by simp only[ar] at h;subst h;simp at e
 | c :: ds,vs,i,v,h,e=>by
  simp only[ar] at h
  obtain⟨v',r,rfl,hv,t⟩:=h
  cases i with
  | zero=>simp at e;subst e;exact⟨c,rfl,hv⟩
  | succ i=>
   obtain⟨w,h1,h2⟩:=g_ (i:=i) (v:=v) t (by simpa using e)
   exact⟨w,by simpa using h1,h2⟩
theorem eM:∀{ds es:List PyData} {vs ws:List V},ar K H ds vs->ar K H es ws->ar K H (ds++es) (vs++ws)
 | [],es,vs,ws,h,t=>by simp only[ar] at h;subst h;exact t
 | d :: ds,es,vs,ws,h,t=>by
  simp only[ar] at h
  obtain⟨v,r,rfl,hv,tl⟩:=h
  exact aV hv (eM tl t)
theorem Am {ds:List PyData}{d:PyData}{vs:List V}{v:V}(h:ar K H ds vs)(t:aJ K H d v):ar K H (ds++[d]) (vs++[v]):=eM h (aV t aY)
theorem lQ:∀{ds:List PyData} {vs:List V},ar K H ds vs->ar K H ds.reverse vs.reverse
 | [],vs,h=>by simp only[ar] at h;subst h;exact aY
 | d :: ds,vs,h=>by
  simp only[ar] at h
  obtain⟨v,r,rfl,hv,tl⟩:=h
  rw[J7,J7]
  exact Am (lQ tl) hv
theorem rY:∀{ds:List PyData} {vs:List V} (n:Nat),ar K H ds vs->ar K H (ds.take n) (vs.take n)
 | _,_,0,_=>by simp only[YW];exact aY
 | [],vs,n+1,h=>by simp only[ar] at h;subst h;simp only[List.take_nil];exact aY
 | d :: ds,vs,n+1,h=>by
  simp only[ar] at h
  obtain⟨v,r,rfl,hv,tl⟩:=h
  exact aV hv (rY n tl)
theorem rZ:∀{ds:List PyData} {vs:List V} (n:Nat),ar K H ds vs->ar K H (ds.drop n) (vs.drop n)
 | _,_,0,h=>h
 | [],vs,n+1,h=>by simp only[ar] at h;subst h;simp only[List.drop_nil];exact aY
 | d :: ds,vs,n+1,h=>by
  simp only[ar] at h
  obtain⟨v,r,rfl,hv,tl⟩:=h
  exact rZ n tl
theorem vD:∀{ds:List PyData} {vs:List V} {d:PyData} {v:V} (n:Nat),ar K H ds vs->aJ K H d v->ar K H (ds.set n d) (vs.set n v)
 | [],vs,_,_,n,h,_=>by simp only[ar] at h;subst h;simp only[List.set_nil];exact aY
 | c :: ds,vs,d,v,n,h,q=>by
  simp only[ar] at h
  obtain⟨v',r,rfl,hv,tl⟩:=h
  cases n with
  | zero=>exact aV q tl
  | succ n=>exact aV hv (vD n tl q)
theorem vE:∀{ds:List PyData} {vs:List V} (k:Nat),ar K H ds vs->ar K H (List.replicate k ds).flatten (List.replicate k vs).flatten
 | _,_,0,_=>aY
 | _,_,k+1,h=>by
  rw[Uk,Uk,UQ,UQ]
  exact eM h (vE k h)
theorem mZ:∀(ns:List Int),ar K H (ns.map PyData.int) (ns.map V.int)
 | []=>aY
 | n :: ns=>aV bC (mZ ns)
theorem lR:∀{ns:List Int} {vs:List V},ar K H (ns.map PyData.int) vs->vs=ns.map V.int
 | [],vs,h=>by simpa only[ar,Ju] using h
 | n :: ns,vs,h=>by
  simp only[ar,KZ] at h
  obtain⟨v,r,rfl,hv,tl⟩:=h
  rw[aA hv,lR tl,KZ]
theorem Same.k7 {a:Addr}{xs:List V}(e:Same H H')(h:dJ K H a xs):dJ K H' a xs:=by
 rcases h with(h | ⟨o,h⟩) | h
 ·exact .inl (.inl (e _ _ h))
 ·exact .inl (.inr ⟨o,e _ _ h⟩)
 ·exact .inr h
theorem Same.rd {a:Addr}{u:HO}(e:Same H H')(h:Rd H a u):Rd H' a u:=by
 rcases h with h | ⟨o,h⟩
 ·exact .inl (e _ _ h)
 ·exact .inr ⟨o,e _ _ h⟩
mutual
theorem aJ.same (e:Same H H'):∀(d:PyData) (v:V),aJ K H d v->aJ K H' d v
 | .none,v,h=>by simpa only[aJ] using h
 | .bool b,v,h=>by simpa only[aJ] using h
 | .int i,v,h=>by simpa only[aJ] using h
 | .str x,v,h=>by simpa only[aJ] using h
 | .list xs,v,h=>by
  simp only[aJ] at h⊢
  obtain⟨a,vs,e1,h1,h2⟩:=h
  exact⟨a,vs,e1,e.seq h1,ar.same e xs vs h2⟩
 | .tuple xs,v,h=>by
  simp only[aJ] at h⊢
  obtain⟨a,vs,e1,h1,h2⟩:=h
  exact⟨a,vs,e1,e.k7 h1,ar.same e xs vs h2⟩
 | .dict kvs,v,h=>by
  simp only[aJ] at h⊢
  obtain⟨a,ks,e1,h1,h2⟩:=h
  exact⟨a,ks,e1,e.rd h1,aT.same e kvs ks.1 h2⟩
theorem ar.same (e:Same H H'):∀(ds:List PyData) (vs:List V),ar K H ds vs->ar K H' ds vs
 | [],vs,h=>by simpa only[ar] using h
 | d :: ds,vs,h=>by
  simp only[ar] at h⊢
  obtain⟨v,r,e1,h1,h2⟩:=h
  exact⟨v,r,e1,aJ.same e d v h1,ar.same e ds r h2⟩
theorem aT.same (e:Same H H'):∀(ds:List (PyData×PyData)) (ks:List (PyData×V×V)),aT K H ds ks->aT K H' ds ks
 | [],ks,h=>by simpa only[aT] using h
 | (k,d) :: r,ks,h=>by
  simp only[aT] at h⊢
  obtain⟨kv,v,q,e1,h1,h2,h3⟩:=h
  exact⟨kv,v,q,e1,aJ.same e k kv h1,aJ.same e d v h2,aT.same e r q h3⟩
end
theorem Same.upd {a:Addr}{o:HO}(h:H a=none):Same H (upd H a o):=λb u e=>by
 rw[aO (cX e h)];exact e
theorem Same.HV {H0:Hp}{a:Addr}{o:HO}(s:Same H0 H)(h:H0 a=none):Same H0 (L2.upd H a o):=λb u e=>by
 rw[aO (cX e h)];exact s b u e
mutual
theorem IsT.same (e:Same H H'):∀(d:PyData) (v:V) (as:List Addr),IsT K H d v as->IsT K H' d v as
 | .none,v,as,h=>by simpa only[IsT] using h
 | .bool b,v,as,h=>by simpa only[IsT] using h
 | .int i,v,as,h=>by simpa only[IsT] using h
 | .str x,v,as,h=>by simpa only[IsT] using h
 | .list xs,v,as,h=>by
  simp only[IsT] at h⊢
  obtain⟨a,vs,bs,e1,h1,h2,h3⟩:=h
  exact⟨a,vs,bs,e1,e _ _ h1,az.same e xs vs bs h2,h3⟩
 | .tuple xs,v,as,h=>by
  simp only[IsT] at h⊢
  obtain⟨a,vs,e1,h1,h2⟩:=h
  exact⟨a,vs,e1,e.k7 h1,az.same e xs vs as h2⟩
 | .dict kvs,v,as,h=>by
  simp only[IsT] at h⊢
  obtain⟨a,ks,bs,e1,h1,h2,h3⟩:=h
  exact⟨a,ks,bs,e1,e _ _ h1,aM.same e kvs ks.1 bs h2,h3⟩
theorem az.same (e:Same H H'):∀(ds:List PyData) (vs:List V) (as:List Addr),az K H ds vs as->az K H' ds vs as
 | [],vs,as,h=>by simpa only[az] using h
 | d :: ds,vs,as,h=>by
  simp only[az] at h⊢
  obtain⟨v,r,a1,a2,e1,e2,h1,h2⟩:=h
  exact⟨v,r,a1,a2,e1,e2,IsT.same e d v a1 h1,az.same e ds r a2 h2⟩
theorem aM.same (e:Same H H'):∀(ds:List (PyData×PyData)) (ks:List (PyData×V×V)) (as:List Addr),aM K H ds ks as->aM K H' ds ks as
 | [],ks,as,h=>by simpa only[aM] using h
 | (k,d) :: r,ks,as,h=>by
  simp only[aM] at h⊢
  obtain⟨kv,v,q,a1,a2,e1,e2,h1,h2,h3⟩:=h
  exact⟨kv,v,q,a1,a2,e1,e2,IsT.same e k kv [] h1,IsT.same e d v a1 h2,aM.same e r q a2 h3⟩
end
mutual
theorem IsT.toD:∀(d:PyData) (v:V) (as:List Addr),IsT K H d v as->aJ K H d v
 | .none,v,as,h=>by simp only[IsT] at h;simp only[aJ];exact h.1
 | .bool b,v,as,h=>by simp only[IsT] at h;simp only[aJ];exact h.1
 | .int i,v,as,h=>by simp only[IsT] at h;simp only[aJ];exact h.1
 | .str x,v,as,h=>by simp only[IsT] at h;simp only[aJ];exact h.1
 | .list xs,v,as,h=>by
  simp only[IsT] at h;simp only[aJ]
  obtain⟨a,vs,bs,e1,h1,h2,h3⟩:=h
  exact⟨a,vs,e1,fV.of h1,az.toD xs vs bs h2⟩
 | .tuple xs,v,as,h=>by
  simp only[IsT] at h;simp only[aJ]
  obtain⟨a,vs,e1,h1,h2⟩:=h
  exact⟨a,vs,e1,h1,az.toD xs vs as h2⟩
 | .dict kvs,v,as,h=>by
  simp only[IsT] at h;simp only[aJ]
  obtain⟨a,ks,bs,e1,h1,h2,h3⟩:=h
  exact⟨a,ks,e1,.inl h1,aM.toD kvs ks.1 bs h2⟩
theorem az.toD:∀(ds:List PyData) (vs:List V) (as:List Addr),az K H ds vs as->ar K H ds vs
 | [],vs,as,h=>by simp only[az] at h;simp only[ar];exact h.1
 | d :: ds,vs,as,h=>by
  simp only[az] at h;simp only[ar]
  obtain⟨v,r,a1,a2,e1,e2,h1,h2⟩:=h
  exact⟨v,r,e1,IsT.toD d v a1 h1,az.toD ds r a2 h2⟩
theorem aM.toD:∀(ds:List (PyData×PyData)) (ks:List (PyData×V×V)) (as:List Addr),aM K H ds ks as->aT K H ds ks
 | [],ks,as,h=>by simp only[aM] at h;simp only[aT];exact h.1
 | (k,d) :: r,ks,as,h=>by
  simp only[aM] at h;simp only[aT]
  obtain⟨kv,v,q,a1,a2,e1,e2,h1,h2,h3⟩:=h
  exact⟨kv,v,q,e1,IsT.toD k kv [] h1,IsT.toD d v a1 h2,aM.toD r q a2 h3⟩
end
mutual
theorem aJ.toT:∀(d:PyData) (v:V),bo d=true->aJ K H d v->IsT K H d v []
 | .none,v,_,h=>by simp only[aJ] at h;simp only[IsT];exact⟨h,trivial⟩
 | .bool b,v,_,h=>by simp only[aJ] at h;simp only[IsT];exact⟨h,trivial⟩
 | .int i,v,_,h=>by simp only[aJ] at h;simp only[IsT];exact⟨h,trivial⟩
 | .str x,v,_,h=>by simp only[aJ] at h;simp only[IsT];exact⟨h,trivial⟩
 | .list xs,v,n,h=>by simp[bo] at n
 | .tuple xs,v,n,h=>by
  simp only[aJ] at h;simp only[IsT]
  obtain⟨a,vs,e1,h1,h2⟩:=h
  exact⟨a,vs,e1,h1,ar.toT xs vs (by simpa [bo] using n) h2⟩
 | .dict kvs,v,n,h=>by simp[bo] at n
theorem ar.toT:∀(ds:List PyData) (vs:List V),aq ds=true->ar K H ds vs->az K H ds vs []
 | [],vs,_,h=>by simp only[ar] at h;simp only[az];exact⟨h,trivial⟩
 | d :: ds,vs,n,h=>by
  simp only[ar] at h;simp only[az]
  obtain⟨v,r,e1,h1,h2⟩:=h
  have n':bo d=true/\aq ds=true:=by simpa [aq] using n
  exact⟨v,r,[],[],e1,rfl,aJ.toT d v n'.1 h1,ar.toT ds r n'.2 h2⟩
end
mutual
theorem IsT.nil:∀(d:PyData) (v:V) (as:List Addr),bo d=true->IsT K H d v as->as=[]
 | .none,v,as,_,h=>by simp only[IsT] at h;exact h.2
 | .bool b,v,as,_,h=>by simp only[IsT] at h;exact h.2
 | .int i,v,as,_,h=>by simp only[IsT] at h;exact h.2
 | .str x,v,as,_,h=>by simp only[IsT] at h;exact h.2
 | .list xs,v,as,n,h=>by simp[bo] at n
 | .tuple xs,v,as,n,h=>by
  simp only[IsT] at h
  obtain⟨a,vs,e1,h1,h2⟩:=h
  exact az.nil xs vs as (by simpa [bo] using n) h2
 | .dict kvs,v,as,n,h=>by simp[bo] at n
theorem az.nil:∀(ds:List PyData) (vs:List V) (as:List Addr),aq ds=true->az K H ds vs as->as=[]
 | [],vs,as,_,h=>by simp only[az] at h;exact h.2
 | d :: ds,vs,as,n,h=>by
  simp only[az] at h
  obtain⟨v,r,a1,a2,e1,e2,h1,h2⟩:=h
  have n':bo d=true/\aq ds=true:=by simpa [aq] using n
  rw[e2,IsT.nil d v a1 n'.1 h1,az.nil ds r a2 n'.2 h2];rfl
end
def eS:HO->Prop
 | .lst _=>True
 | .ext _=>True
 | _=>False
mutual
theorem IsT.live:∀(d:PyData) (v:V) (as:List Addr),IsT K H d v as->∀a∈as,∃o,H a=some o/\eS o
 | .none,v,as,h=>by simp only[IsT] at h;rw[h.2];intro a ha;cases ha
 | .bool b,v,as,h=>by simp only[IsT] at h;rw[h.2];intro a ha;cases ha
 | .int i,v,as,h=>by simp only[IsT] at h;rw[h.2];intro a ha;cases ha
 | .str x,v,as,h=>by simp only[IsT] at h;rw[h.2];intro a ha;cases ha
 | .list xs,v,as,h=>by
  simp only[IsT] at h
  obtain⟨a,vs,bs,e1,h1,h2,rfl⟩:=h
  intro b hb
  rcases K0.mp hb with rfl | hb
  ·exact⟨_,h1,trivial⟩
  ·exact az.live xs vs bs h2 b hb
 | .tuple xs,v,as,h=>by
  simp only[IsT] at h
  obtain⟨a,vs,e1,h1,h2⟩:=h
  exact az.live xs vs as h2
 | .dict kvs,v,as,h=>by
  simp only[IsT] at h
  obtain⟨a,ks,bs,e1,h1,h2,rfl⟩:=h
  intro b hb
  rcases K0.mp hb with rfl | hb
  ·exact⟨_,h1,trivial⟩
  ·exact aM.live kvs ks.1 bs h2 b hb
theorem az.live:∀(ds:List PyData) (vs:List V) (as:List Addr),az K H ds vs as->∀a∈as,∃o,H a=some o/\eS o
 | [],vs,as,h=>by simp only[az] at h;rw[h.2];intro a ha;cases ha
 | d :: ds,vs,as,h=>by
  simp only[az] at h
  obtain⟨v,r,a1,a2,e1,rfl,h1,h2⟩:=h
  intro a ha
  rcases Kk.mp ha with ha | ha
  ·exact IsT.live d v a1 h1 a ha
  ·exact az.live ds r a2 h2 a ha
theorem aM.live:∀(ds:List (PyData×PyData)) (ks:List (PyData×V×V)) (as:List Addr),aM K H ds ks as->∀a∈as,∃o,H a=some o/\eS o
 | [],ks,as,h=>by simp only[aM] at h;rw[h.2];intro a ha;cases ha
 | (k,d) :: r,ks,as,h=>by
  simp only[aM] at h
  obtain⟨kv,v,q,a1,a2,e1,rfl,h1,h2,h3⟩:=h
  intro a ha
  rcases Kk.mp ha with ha | ha
  ·exact IsT.live d v a1 h2 a ha
  ·exact aM.live r q a2 h3 a ha
end
theorem dJ.upd {l:Addr}{o o':HO}{a:Addr}{xs:List V}(hl:H l=some o)(hm:eS o)(h:dJ K H a xs):dJ K (upd H l o') a xs:=by
 rcases h with(h | ⟨ob,h⟩) | h
 ·exact .inl (.inl (by rw[aO (Gj h hl (by intro z;subst z;exact hm))];exact h))
 ·exact .inl (.inr ⟨ob,by rw[aO (Gj h hl (by intro z;subst z;exact hm))];exact h⟩)
 ·exact .inr h
mutual
theorem IsT.upd {l:Addr}{o o':HO}(hl:H l=some o)(hm:eS o):∀(d:PyData) (v:V) (as:List Addr),l∉as->IsT K H d v as->IsT K (upd H l o') d v as
 | .none,v,as,_,h=>by simpa only[IsT] using h
 | .bool b,v,as,_,h=>by simpa only[IsT] using h
 | .int i,v,as,_,h=>by simpa only[IsT] using h
 | .str x,v,as,_,h=>by simpa only[IsT] using h
 | .list xs,v,as,n,h=>by
  simp only[IsT] at h⊢
  obtain⟨a,vs,bs,e1,h1,h2,rfl⟩:=h
  have n1:a≠l:=λe=>n (by rw[e];exact K8)
  exact⟨a,vs,bs,e1,by rw[aO n1];exact h1,az.upd hl hm xs vs bs (λz=>n (K9 _ z)) h2,rfl⟩
 | .tuple xs,v,as,n,h=>by
  simp only[IsT] at h⊢
  obtain⟨a,vs,e1,h1,h2⟩:=h
  exact⟨a,vs,e1,h1.upd hl hm,az.upd hl hm xs vs as n h2⟩
 | .dict kvs,v,as,n,h=>by
  simp only[IsT] at h⊢
  obtain⟨a,ks,bs,e1,h1,h2,rfl⟩:=h
  have n1:a≠l:=λe=>n (by rw[e];exact K8)
  exact⟨a,ks,bs,e1,by rw[aO n1];exact h1,aM.upd hl hm kvs ks.1 bs (λz=>n (K9 _ z)) h2,rfl⟩
theorem az.upd {l:Addr}{o o':HO}(hl:H l=some o)(hm:eS o):∀(ds:List PyData) (vs:List V) (as:List Addr),l∉as->az K H ds vs as->az K (upd H l o') ds vs as
 | [],vs,as,_,h=>by simpa only[az] using h
 | d :: ds,vs,as,n,h=>by
  simp only[az] at h⊢
  obtain⟨v,r,a1,a2,e1,rfl,h1,h2⟩:=h
  exact⟨v,r,a1,a2,e1,rfl,IsT.upd hl hm d v a1 (λz=>n (KW _ z)) h1,az.upd hl hm ds r a2 (λz=>n (Kx _ z)) h2⟩
theorem aM.upd {l:Addr}{o o':HO}(hl:H l=some o)(hm:eS o):∀(ds:List (PyData×PyData)) (ks:List (PyData×V×V)) (as:List Addr),l∉as->aM K H ds ks as->aM K (upd H l o') ds ks as
 | [],ks,as,_,h=>by simpa only[aM] using h
 | (k,d) :: r,ks,as,n,h=>by
  simp only[aM] at h⊢
  obtain⟨kv,v,q,a1,a2,e1,rfl,h1,h2,h3⟩:=h
  exact⟨kv,v,q,a1,a2,e1,rfl,IsT.upd hl hm k kv [] (by intro z;cases z) h1,IsT.upd hl hm d v a1 (λz=>n (KW _ z)) h2,aM.upd hl hm r q a2 (λz=>n (Kx _ z)) h3⟩
end
theorem i_:az K H [] [] []:=by simp only[az];exact⟨trivial,trivial⟩
theorem ja {d:PyData}{ds:List PyData}{v:V}{vs:List V}{a1 a2:List Addr}(h:IsT K H d v a1)(t:az K H ds vs a2):az K H (d :: ds) (v :: vs) (a1++a2):=by
 simp only[az];exact⟨v,vs,a1,a2,rfl,rfl,h,t⟩
theorem zd {ds:List PyData}{a:Addr}{vs:List V}{as:List Addr}(h:dJ K H a vs)(t:az K H ds vs as):IsT K H (.tuple ds) (.ref a) as:=by
 simp only[IsT];exact⟨a,vs,rfl,h,t⟩
theorem dy {ds:List PyData}{a:Addr}{vs:List V}{as:List Addr}(h:H a=some (.lst vs))(t:az K H ds vs as):IsT K H (.list ds) (.ref a) (a :: as):=by
 simp only[IsT];exact⟨a,vs,as,rfl,h,t,rfl⟩
theorem gQ {kvs:List (PyData×PyData)}{a:Addr}{ks:EG}{as:List Addr}(h:H a=some (.dct a ks))(t:aM K H kvs ks.1 as):IsT K H (.dict kvs) (.ref a) (a :: as):=by
 simp only[IsT];exact⟨a,ks,as,rfl,h,t,rfl⟩
theorem bz {ds:List PyData}{v:V}{as:List Addr}(h:IsT K H (.list ds) v as):∃a vs bs,v= .ref a/\H a=some (.lst vs)/\az K H ds vs bs/\as=a :: bs:=by
 simpa only[IsT] using h
theorem jA {ds:List PyData}{v:V}{as:List Addr}(h:IsT K H (.tuple ds) v as):∃a vs,v= .ref a/\dJ K H a vs/\az K H ds vs as:=by
 simpa only[IsT] using h
theorem de {kvs:List (PyData×PyData)}{v:V}{as:List Addr}(h:IsT K H (.dict kvs) v as):∃a ks bs,v= .ref a/\H a=some (.dct a ks)/\aM K H kvs ks.1 bs/\as=a :: bs:=by
 simpa only[IsT] using h
theorem bE {ds:List PyData}{vs:List V}{as:List Addr}(h:az K H ds vs as):vs.length=ds.length:=ao (az.toD _ _ _ h)
theorem df:∀{ds es:List PyData} {vs ws:List V} {as bs:List Addr},az K H ds vs as->az K H es ws bs->az K H (ds++es) (vs++ws) (as++bs)
 | [],es,vs,ws,as,bs,h,t=>by simp only[az] at h;obtain⟨rfl,rfl⟩:=h;exact t
 | d :: ds,es,vs,ws,as,bs,h,t=>by
  simp only[az] at h
  obtain⟨v,r,a1,a2,rfl,rfl,hv,tl⟩:=h
  rw[X5]
  exact ja hv (df tl t)
theorem pE:∀{ds:List PyData} {vs:List V} {as:List Addr} {i:Nat} {d:PyData},az K H ds vs as->ds[i]? =some d->∃v bs,vs[i]? =some v/\IsT K H d v bs/\bs.Sublist as
 | [],_,_,_,_,_,e=>by simp at e
 | c :: ds,vs,as,i,d,h,e=>by
  simp only[az] at h
  obtain⟨v,r,a1,a2,rfl,rfl,hv,tl⟩:=h
  cases i with
  | zero=>simp at e;subst e;exact⟨v,a1,rfl,hv,List.sublist_append_left _ _⟩
  | succ i=>
   obtain⟨w,bs,h1,h2,h3⟩:=pE (i:=i) (d:=d) tl (by simpa using e)
   exact⟨w,bs,by simpa using h1,h2,h3.trans (List.sublist_append_right _ _)⟩
end
def aS (K:Frag)(H H':Hp)(d:PyData)(v:V):Prop:=∃as,IsT K H' d v as/\as.Nodup/\∀a∈as,H a=none
def VR (K:Frag)(B:Hp)(φ:Nat->List Addr)(H H':Hp):Kd->PyData->V->Prop
 | .fr l,d,v=>∃as,IsT K H' d v as/\as.Nodup/\∀a∈as,(∃i∈l,a∈φ i)∨H a=none
 | .base,d,v=>aJ K B d v
 | .any,d,v=>aJ K H' d v
structure Rep (K:Frag)(B:Hp)(φ:Nat->List Addr)(Γ:aW)(σ:St)(H:Hp):Prop where
 bs:Same B H
 len:Γ.length=σ.length
 sl:∀i o d,Γ[i]? =some (some (o,d))->∃v,σ[i]? =some (some v)/\if o=true then IsT K H d v (φ i) else aJ K B d v
 nd:∀i,(φ i).Nodup
 nb:∀i,∀a∈φ i,B a=none/\∃o,H a=some o/\eS o
 dj:∀i j,i≠j->∀a∈φ i,a∉φ j
def Runs (K:Frag)(Ew:Str->Hp->Prop)(B:Hp)(φ:Nat->List Addr)(H:Hp)(m:M (Kd×PyData))(Q:VK):Prop :=
 (∃k d,m=some (.ok (k,d))/\∀v H',Same H H'->VR K B φ H H' k d v->Q v H')∨(∃c,m=some (.ex c)/\∀H',Same B H'->Ew c H')
def oe (Ew:Str->Hp->Prop)(B:Hp)(H:Hp)(m:M Bool)(Q:Bool->Hp->Prop):Prop :=
 (∃b,m=some (.ok b)/\∀H',Same H H'->Q b H')∨(∃c,m=some (.ex c)/\∀H',Same B H'->Ew c H')
def RV (K:Frag)(B H':Hp)(o:Bool)(d:PyData)(v:V):Prop :=
 if o=true then∃as,IsT K H' d v as/\as.Nodup/\∀a∈as,B a=none else aJ K H' d v
def cM (K:Frag)(Ew:Str->Hp->Prop)(B:Hp)(m:M Out)(D:Ends):Prop :=
 match m with
 | some (.ok (.nx Γ))=>∀B' φ σ H,Same B B'->Rep K B' φ Γ σ H->D.nx σ H
 | some (.ok (.bk Γ))=>∀B' φ σ H,Same B B'->Rep K B' φ Γ σ H->D.bk σ H
 | some (.ok (.ct Γ))=>∀B' φ σ H,Same B B'->Rep K B' φ Γ σ H->D.ct σ H
 | some (.ok (.rt o d))=>∀v H',Same B H'->RV K B H' o d v->D.rt v H'
 | some (.ex c)=>∀H',Same B H'->Ew c H'
 | none=>False
def tD (K:Frag)(Ew:Str->Hp->Prop)(f:EF):TE:=λσ H Q=>∃B φ Γ,Rep K B φ Γ σ H/\Runs K Ew B φ H (f Γ) Q
def D6 (K:Frag)(Ew:Str->Hp->Prop)(f:TF):TT:=λσ H Q=>∃B φ Γ,Rep K B φ Γ σ H/\oe Ew B H (f Γ) Q
def Le (K:Frag)(Ew:Str->Hp->Prop)(f:SF):TS:=λD σ H=>∃B φ Γ,Rep K B φ Γ σ H/\cM K Ew B (f Γ) D
def DE (X:Cx)(K:Frag)(Ew:Str->Hp->Prop)(e:Expr)(f:EF):Prop:=PE X e (tD K Ew f)
def DT (X:Cx)(K:Frag)(Ew:Str->Hp->Prop)(e:Expr)(f:TF):Prop:=PT X e (D6 K Ew f)
def DW (X:Cx)(K:Frag)(Ew:Str->Hp->Prop)(e:Expr)(f:TF):Prop:=PW X e (D6 K Ew f)
def DS (X:Cx)(K:Frag)(Ew:Str->Hp->Prop)(s:Stmt)(f:SF):Prop:=PS X s (Le K Ew f)
def ze (X:Cx)(K:Frag)(Ew:Str->Hp->Prop)(s:List Stmt)(f:SF):Prop:=pd X s (Le K Ew f)
theorem PE.imp {X:Cx}{e:Expr}{t t':TE}(h:PE X e t)(i:∀σ H Q,t' σ H Q->t σ H Q):PE X e t':=λpins s σ H Q I q=>h pins s σ H Q I (i σ H Q q)
theorem PT.imp {X:Cx}{e:Expr}{t t':TT}(h:PT X e t)(i:∀σ H Q,t' σ H Q->t σ H Q):PT X e t':=λpins s σ H Q I q=>h pins s σ H Q I (i σ H Q q)
theorem PW.imp {X:Cx}{e:Expr}{t t':TT}(h:PW X e t)(i:∀σ H Q,t' σ H Q->t σ H Q):PW X e t':=λw pins s σ H Q I q=>h w pins s σ H Q I (i σ H Q q)
theorem PS.imp {X:Cx}{e:Stmt}{t t':TS}(h:PS X e t)(i:∀D σ H,t' D σ H->t D σ H):PS X e t':=λpins s σ H D I q=>h pins s σ H D I (i D σ H q)
theorem pd.imp {X:Cx}{e:List Stmt}{t t':TS}(h:pd X e t)(i:∀D σ H,t' D σ H->t D σ H):pd X e t':=λpins s σ H D I q=>h pins s σ H D I (i D σ H q)
section
variable {K:Frag}{B B' H H' jB:Hp}{φ:Nat->List Addr}{Γ:aW}{σ:St}{k:Kd}{d:PyData}{v:V}{Ew:Str->Hp->Prop}
theorem Rep.same (r:Rep K B φ Γ σ H)(s:Same H H'):Rep K B φ Γ σ H' where
 bs:=r.bs.trans s
 len:=r.len
 sl:=λi o d e=>by
  obtain⟨v,h1,h2⟩:=r.sl i o d e
  refine⟨v,h1,?_⟩
  cases o with
  | true=>rw[JQ rfl] at h2⊢;exact IsT.same s _ _ _ h2
  | false=>rw[JV K5] at h2⊢;exact h2
 nd:=r.nd
 nb:=λi a ha=>⟨(r.nb i a ha).1,let ⟨o,h1,h2⟩:=(r.nb i a ha).2;⟨o,s _ _ h1,h2⟩⟩
 dj:=r.dj
theorem VR.toD (r:Same B H')(h:VR K B φ H H' k d v):aJ K H' d v:=by
 cases k with
 | fr l=>obtain⟨as,h1,_⟩:=h;exact IsT.toD _ _ _ h1
 | base=>exact aJ.same r _ _ h
 | any=>exact h
theorem VR.same (h:VR K B φ H H' k d v)(s:Same H' jB):VR K B φ H jB k d v:=by
 cases k with
 | fr l=>obtain⟨as,h1,h2,h3⟩:=h;exact⟨as,IsT.same s _ _ _ h1,h2,h3⟩
 | base=>exact h
 | any=>exact aJ.same s _ _ h
theorem VR.from (h:VR K B φ H H' k d v)(s:Same jB H):VR K B φ jB H' k d v:=by
 cases k with
 | fr l=>obtain⟨as,h1,h2,h3⟩:=h;exact⟨as,h1,h2,λa ha=>(h3 a ha).imp id λz=>s.free z⟩
 | base=>exact h
 | any=>exact h
theorem VR.li (hn:bo d=true)(h:aJ K H' d v)(l:List Nat):VR K B φ H H' (.fr l) d v:=⟨[],aJ.toT _ _ hn h,X2,λa ha=>by cases ha⟩
theorem VR.cy (r:Same B H')(h:VR K B φ H H' k d v):VR K B φ H H' (cy k d) d v:=by
 unfold Y.cy
 by_cases hn:bo d=true
 ·rw[JQ hn];exact VR.li hn (h.toD r) []
 ·rw[JV hn];exact h
theorem VR.fresh:VR K B φ H H' (.fr []) d v↔aS K H H' d v:=by
 constructor
 ·rintro⟨as,h1,h2,h3⟩
  exact⟨as,h1,h2,λa ha=>by rcases h3 a ha with⟨i,hi,_⟩ | z;cases hi;exact z⟩
 ·rintro⟨as,h1,h2,h3⟩
  exact⟨as,h1,h2,λa ha=> .inr (h3 a ha)⟩
theorem aS.li (hn:bo d=true)(h:aJ K H' d v):aS K H H' d v:=⟨[],aJ.toT _ _ hn h,X2,λa ha=>by cases ha⟩
theorem aS.from (h:aS K H H' d v)(s:Same jB H):aS K jB H' d v:=by
 obtain⟨as,h1,h2,h3⟩:=h
 exact⟨as,h1,h2,λa ha=>s.free (h3 a ha)⟩
theorem aS.lst {ds:List PyData}{a:Addr}{vs:List V}(hn:aq ds=true)(h:H' a=some (.lst vs))(t:ar K H' ds vs)(n:H a=none):aS K H H' (.list ds) (.ref a) :=
 ⟨[a],dy h (ar.toT _ _ hn t),KU.mpr ⟨by simp,X2⟩,λb hb=>by rw[K6.mp hb];exact n⟩
theorem aS.tup {ds:List PyData}{a:Addr}{vs:List V}(hn:aq ds=true)(h:dJ K H' a vs)(t:ar K H' ds vs):aS K H H' (.tuple ds) (.ref a) :=
 ⟨[],zd h (ar.toT _ _ hn t),X2,λb hb=>by cases hb⟩
theorem Runs.mono {m:M (Kd×PyData)}{Q Q':VK}(h:Runs K Ew B φ H m Q)(i:∀v H',Same H H'->Q v H'->Q' v H'):Runs K Ew B φ H m Q':=by
 rcases h with⟨k,d,e,h⟩ | h
 ·exact .inl ⟨k,d,e,λv H' s r=>i v H' s (h v H' s r)⟩
 ·exact .inr h
theorem Runs.bind {m:M (Kd×PyData)}{g:Kd×PyData->M (Kd×PyData)}{Q:VK}(r:Rep K B φ Γ σ H)(h:Runs K Ew B φ H (ap m g) Q) :
  Runs K Ew B φ H m (λv H1=>∃k d,m=some (.ok (k,d))/\VR K B φ H H1 k d v/\Rep K B φ Γ σ H1/\Same H H1/\Runs K Ew B φ H (g (k,d)) Q):=by
 match m,h with
 | some (.ok (k,d)),h=>exact .inl ⟨k,d,rfl,λv H1 s hv=>⟨k,d,rfl,hv,r.same s,s,h⟩⟩
 | some (.ex c),h=>
  refine .inr ⟨c,rfl,?_⟩
  rcases h with⟨k,d,e,_⟩ | ⟨c',e,h⟩
  ·cases e
  ·cases e;exact h
 | none,h=>
  exfalso
  rcases h with⟨k,d,e,_⟩ | ⟨c',e,h⟩
  ·cases e
  ·cases e
theorem Runs.later {m:M (Kd×PyData)}{Q:VK}{H1:Hp}(h:Runs K Ew B φ H m Q)(s:Same H H1):Runs K Ew B φ H1 m Q:=by
 rcases h with⟨k,d,e,h⟩ | h
 ·exact .inl ⟨k,d,e,λv H' s' hv=>h v H' (s.trans s') (hv.from s)⟩
 ·exact .inr h
theorem oe.later {m:M Bool}{Q:Bool->Hp->Prop}{H1:Hp}(h:oe Ew B H m Q)(s:Same H H1):oe Ew B H1 m Q:=by
 rcases h with⟨b,e,h⟩ | h
 ·exact .inl ⟨b,e,λH' s'=>h H' (s.trans s')⟩
 ·exact .inr h
theorem oe.bind {m:M Bool}{g:Bool->M Bool}{Q:Bool->Hp->Prop}(h:oe Ew B H (ap m g) Q) :
  oe Ew B H m (λb H1=>m=some (.ok b)/\Same H H1/\oe Ew B H1 (g b) Q):=by
 match m,h with
 | some (.ok b),h=>exact .inl ⟨b,rfl,λH1 s=>⟨rfl,s,h.later s⟩⟩
 | some (.ex c),h=>
  refine .inr ⟨c,rfl,?_⟩
  rcases h with⟨k,e,_⟩ | ⟨c',e,h⟩
  ·cases e
  ·cases e;exact h
 | none,h=>
  exfalso
  rcases h with⟨k,e,_⟩ | ⟨c',e,h⟩
  ·cases e
  ·cases e
end
def iD (X:Cx)(f:Value->Value->Sem Value)(g:PyData->PyData->Option PyData):Prop :=
 ∃r,oT X f r/\∀x y z u v H Q,g x y=some z->aJ X.K H x u->aJ X.K H y v->(∀w H',Same H H'->aS X.K H H' z w->Q w H')->r u v H Q
def CallD (X:Cx)(f:Value)(g:List PyData->Option PyData):Prop :=
 ∃r,hX X f r/\∀xs z us H Q,g xs=some z->ar X.K H xs us->(∀w H',Same H H'->aS X.K H H' z w->Q w H')->r us H Q
def M7 (X:Cx)(g:PyData->PyData->Option PyData):Prop :=
 ∃r,BE X r/\∀B φ H0 k x y z u v H Q,Same B H->g x y=some z->VR X.K B φ H0 H k x u->aJ X.K H y v->(∀w,VR X.K B φ H0 H (cy k z) z w->Q w H)->r u v H Q
section
variable {X:Cx}{K:Frag}{Ew:Str->Hp->Prop}{pos:Pos}
theorem EH {e:Expr}{c:V}{d:PyData}(h:PE X e (tC c))(hn:bo d=true)(hd:∀H,aJ K H d c):DE X K Ew e (eC d):=h.imp λσ H Q q=>by
 obtain⟨B,φ,Γ,r,q⟩:=q
 rcases q with⟨k,d',e,q⟩ | ⟨c',e,q⟩
 ·cases e
  exact q _ H (Same.refl H) (VR.li hn (hd H) [])
 ·cases e
theorem aB {i:Int}{j pos}:DE X K Ew (.Constant (.int i) j pos) (eC (.int i)):=EH G8 rfl λ_=>bC
theorem lS {i:Bool}{j pos}:DE X K Ew (.Constant (.bool i) j pos) (eC (.bool i)):=EH Kf rfl λ_=>cL
theorem m5 {j pos}:DE X K Ew (.Constant .none j pos) (eC .none):=EH G9 rfl λ_=>zb
theorem af (i:Nat){x:Str}(hN:X.N[i]? =some x:=by rfl)(hv:L8 X.env.scope x:=by first | exact Or.inl rfl | exact Or.inr (!4) | exact Or.inr (Or.inr rfl))(hd:(x==("__debug__":Str))=false:=by decide)
  (hcd:(x==("__classdict__":Str))=false:=by decide):DE X K Ew (.Name x pos) (eV i):=(Bu hN hv hd hcd).imp λσ H Q q=>by
 obtain⟨B,φ,Γ,r,q⟩:=q
 unfold eV at q
 match hg:Γ[i]?,q with
 | some (some (o,d)),q=>
  obtain⟨v,h1,h2⟩:=r.sl i o d hg
  refine⟨v,h1,?_⟩
  rcases q with⟨k,d',e,q⟩ | ⟨c',e,q⟩
  ·cases e
   refine q v H (Same.refl H) (VR.cy r.bs ?_)
   cases o with
   | true=>
    rw[JQ rfl] at h2
    exact⟨_,h2,r.nd i,λa ha=> .inl ⟨i,by simp,ha⟩⟩
   | false=>
    rw[JV K5] at h2
    exact h2
  ·cases e
 | some none,q=>rcases q with⟨k,d',e,q⟩ | ⟨c',e,q⟩ <;> cases e
 | none,q=>rcases q with⟨k,d',e,q⟩ | ⟨c',e,q⟩ <;> cases e
theorem pF {fa fb:EF}{g:Kd×PyData->Kd×PyData->M (Kd×PyData)}{σ:St}{H:Hp}{Q:VK}{NY:V->V->Hp->Prop}(h:tD K Ew (λΓ=>ap (fa Γ) λx=>ap (fb Γ) λy=>g x y) σ H Q)
  (i:∀B φ Γ k x k' y u v H1 H2,Rep K B φ Γ σ H2->Same H H1->Same H1 H2->VR K B φ H H2 k x u->VR K B φ H1 H2 k' y v->Runs K Ew B φ H (g (k,x) (k',y)) Q->NY u v H2) :
  tD K Ew fa σ H λu H1=>tD K Ew fb σ H1 λv H2=>NY u v H2:=by
 obtain⟨B,φ,Γ,r,q⟩:=h
 refine⟨B,φ,Γ,r,(q.bind r).mono λu H1 s1 ⟨k,x,e1,v1,r1,_,q1⟩=> ?_⟩
 refine⟨B,φ,Γ,r1,((q1.later s1).bind r1).mono λv H2 s2 ⟨k',y,e2,v2,r2,_,q2⟩=> ?_⟩
 refine i B φ Γ k x k' y u v H1 H2 r2 s1 s2 (v1.same s2) v2 ?_
 rcases q1 with⟨k0,d0,e0,q0⟩ | ⟨c0,e0,q0⟩
 ·rw[e2] at e0
  exact .inl ⟨k0,d0,e0,q0⟩
 ·rw[e2] at e0
  exact .inr ⟨c0,e0,q0⟩
theorem gR {B:Hp}{φ:Nat->List Addr}{H:Hp}{o:Option PyData}{kf:PyData->Kd}{Q:VK}(h:Runs K Ew B φ H (ap (mo o) λz=>ah (kf z,z)) Q):∃z,o=some z/\∀v H',Same H H'->VR K B φ H H' (kf z) z v->Q v H':=by
 cases o with
 | none=>rcases h with⟨k,d',e,q⟩ | ⟨c',e,q⟩ <;> cases e
 | some z=>
  rcases h with⟨k,d',e,q⟩ | ⟨c',e,q⟩
  ·cases e;exact⟨z,rfl,q⟩
  ·cases e
theorem ba {a b:Expr}{op:Operator}{fa fb:EF}{g:PyData->PyData->Option PyData}(ho:iD X (binaryOp op) g)(ha:DE X K Ew a fa)(hb:DE X K Ew b fb)(hK:X.K=K:=by rfl):DE X K Ew (.BinOp a op b pos) (cb g fa fb):=by
 obtain⟨r,hr,hx⟩:=ho
 refine(Gq hr ha hb).imp λσ H Q q=>pF q λB φ Γ k x k' y u v H1 H2 r2 s1 s2 v1 v2 q=> ?_
 obtain⟨z,e,q⟩:=gR q
 rw[hK] at hx
 exact hx x y z u v H2 Q e (v1.toD r2.bs) (v2.toD r2.bs) λw H' s f=>q w H' ((s1.trans s2).trans s) (VR.fresh.mpr (f.from (s1.trans s2)))
theorem HW {a b:Expr}{op:CmpOp}{fa fb:EF}{g:PyData->PyData->Option PyData}(ho:iD X (compareOp op) g)(ha:DE X K Ew a fa)(hb:DE X K Ew b fb)(hm:behindInMarks op b=false)(hK:X.K=K:=by rfl) :
  DE X K Ew (.Compare a [op] [b] pos) (cb g fa fb):=by
 obtain⟨r,hr,hx⟩:=ho
 refine(Eg hr ha hb hm).imp λσ H Q q=>pF q λB φ Γ k x k' y u v H1 H2 r2 s1 s2 v1 v2 q=> ?_
 obtain⟨z,e,q⟩:=gR q
 rw[hK] at hx
 exact hx x y z u v H2 Q e (v1.toD r2.bs) (v2.toD r2.bs) λw H' s f=>q w H' ((s1.trans s2).trans s) (VR.fresh.mpr (f.from (s1.trans s2)))
theorem cO {a b:Expr}{fa fb:EF}{g:PyData->PyData->Option PyData}(ho:M7 X g)(ha:DE X K Ew a fa)(hb:DE X K Ew b fb)(hs:tJ b)(hK:X.K=K:=by rfl):DE X K Ew (.Subscript a b pos) (mR g fa fb):=by
 obtain⟨r,hr,hx⟩:=ho
 refine(Gv hr ha hb hs).imp λσ H Q q=>pF q λB φ Γ k x k' y u v H1 H2 r2 s1 s2 v1 v2 q=> ?_
 obtain⟨z,e,q⟩:=gR (kf:=λz=>cy k z) q
 rw[hK] at hx
 exact hx B φ H k x y z u v H2 Q r2.bs e v1 (v2.toD r2.bs) λw hw=>q w H2 (s1.trans s2) hw
end
mutual
theorem gS:∀(d:PyData) (n:Nat),lay n d=true->d.canLay0=true/\d.depth<=n
 | .none,n,_=>by simp[PyData.canLay0,PyData.depth]
 | .bool _,n,_=>by simp[PyData.canLay0,PyData.depth]
 | .int _,n,_=>by simp[PyData.canLay0,PyData.depth]
 | .str x,n,h=>by
  have h':PyData.strOk x=true:=by cases n <;> simpa [lay] using h
  simp[PyData.canLay0,PyData.depth,h']
 | .list xs,0,h=>by simp[lay] at h
 | .list xs,n+1,h=>by
  have:=h_ xs n (by simpa [lay] using h)
  simp only[PyData.canLay0,PyData.depth]
  exact⟨this.1,by omega⟩
 | .tuple xs,0,h=>by simp[lay] at h
 | .tuple xs,n+1,h=>by
  have:=h_ xs n (by simpa [lay] using h)
  simp only[PyData.canLay0,PyData.depth]
  exact⟨this.1,by omega⟩
 | .dict _,n,h=>by cases n <;> simp[lay] at h
theorem h_:∀(ds:List PyData) (n:Nat),lays n ds=true->PyData.canLayAll0 ds=true/\PyData.depthAll ds<=n
 | [],n,_=>by simp[PyData.canLayAll0,PyData.depthAll]
 | d :: ds,n,h=>by
  have h':lay n d=true/\lays n ds=true:=by simpa [lays] using h
  have h1:=gS d n h'.1
  have h2:=h_ ds n h'.2
  simp only[PyData.canLayAll0,PyData.depthAll,h1.1,h2.1,XZ,true_and]
  omega
end
section
variable {X:Cx}{pins:List (Addr×Obj)}{σ:St}{H:Hp}{s:Shared}
mutual
theorem aJ.reads (I:Inv X pins σ H s):∀(d:PyData) (v:V) (u:Value),d.canLay0=true->aJ X.K H d v->RelV v u->∃as,Reads s.heap u d as
 | .none,v,u,_,h,r=>by
  simp only[aJ] at h;subst h
  cases(show u=Value.none from r);exact⟨_,.none⟩
 | .bool b,v,u,_,h,r=>by
  simp only[aJ] at h;subst h
  cases(show u=Value.bool b from r);exact⟨_,.bool b⟩
 | .int i,v,u,_,h,r=>by
  simp only[aJ] at h;subst h
  obtain⟨t,rfl⟩:=(show∃t,u=Value.int i t from r);exact⟨_,.int i t⟩
 | .str x,v,u,_,h,r=>by
  simp only[aJ] at h;subst h
  obtain⟨t,rfl⟩:=(show∃t,u=Value.str x t from r);exact⟨_,.str x t⟩
 | .list xs,v,u,c,h,r=>by
  simp only[aJ] at h
  obtain⟨a,vs,rfl,h1,h2⟩:=h
  cases(show u=Value.ref a from r)
  obtain⟨its,rv,⟨o,n,e,hc,_,hd⟩,_⟩:=I.list h1
  obtain⟨as,ra⟩:=ar.reads I xs vs its (by simpa [PyData.canLay0] using c) h2 rv
  exact⟨_,.list e hc hd (by simpa using ra)⟩
 | .tuple xs,v,u,c,h,r=>by
  simp only[aJ] at h
  obtain⟨a,vs,rfl,h1,h2⟩:=h
  cases(show u=Value.ref a from r)
  obtain⟨its,rv,⟨o,e,hc,n,hd⟩,_⟩:=I.tuple h1
  obtain⟨as,ra⟩:=ar.reads I xs vs its (by simpa [PyData.canLay0] using c) h2 rv
  exact⟨_,.tuple e hc hd (by simpa using ra)⟩
 | .dict _,v,u,c,h,r=>by simp[PyData.canLay0] at c
theorem ar.reads (I:Inv X pins σ H s):∀(ds:List PyData) (vs:List V) (us:List Value),PyData.canLayAll0 ds=true->ar X.K H ds vs->Vals vs us->∃as,ReadsAll s.heap us ds as
 | [],vs,us,_,h,r=>by
  simp only[ar] at h;subst h;cases r;exact⟨_,.nil⟩
 | d :: ds,vs,us,c,h,r=>by
  simp only[ar] at h
  obtain⟨v,w,rfl,h1,h2⟩:=h
  have c':d.canLay0=true/\PyData.canLayAll0 ds=true:=by simpa [PyData.canLayAll0] using c
  cases r with
  | cons r1 r2=>
   obtain⟨as,ra⟩:=aJ.reads I d v _ c'.1 h1 r1
   obtain⟨bs,rb⟩:=ar.reads I ds w _ c'.2 h2 r2
   exact⟨_,.cons ra rb⟩
end
end
theorem dM.zf {k:Nat}{A:Around}(r:dM k A):A.units+80 < cLine:=by have:=r.un;omega
section
variable {X:Cx}
theorem iD.of {f:Value->Value->Sem Value}{g:PyData->PyData->Option PyData}
  (h:∀(pins:List (Addr×Obj)) (s:Shared) (σ:St) (H:Hp) (x y z:PyData) (u v:V) (a b:Value) (Q:VK),Inv X pins σ H s->g x y=some z->aJ X.K H x u->aJ X.K H y v->RelV u a->RelV v b->
   (∀w H',Same H H'->aS X.K H H' z w->Q w H')->wpAny (!6) X.A (f a b) (EP X pins σ Q) X.xe s):iD X f g :=
 ⟨λu v H Q=>∃x y z,g x y=some z/\aJ X.K H x u/\aJ X.K H y v/\∀w H',Same H H'->aS X.K H H' z w->Q w H',
  λpins s σ H u v a b Q I ru rv ⟨x,y,z,e,hx,hy,q⟩=>h pins s σ H x y z u v a b Q I e hx hy ru rv q,
  λx y z u v H Q e hx hy q=>⟨x,y,z,e,hx,hy,q⟩⟩
theorem m6 (hu:X.A.units+80 < cLine):iD X (compareOp .Eq) xN:=iD.of λpins s σ H x y z u v a b Q I e hx hy ru rv q=>by
 unfold xN at e
 split at e
 ·rename_i c
  have c':lay 60 x=true/\lay 60 y=true:=by simpa using c
  have l1:=gS _ _ c'.1
  have l2:=gS _ _ c'.2
  obtain⟨as,ra⟩:=aJ.reads I x u a l1.1 hx ru
  obtain⟨bs,rb⟩:=aJ.reads I y v b l2.1 hy rv
  cases e
  exact SeqAt.compareEq_reads ra rb l1.1 l2.1 (!1) ⟨.bl _,H,I,rfl,q _ H (Same.refl H) (aS.li rfl cL)⟩
 ·cases e
theorem tY (hu:X.A.units+80 < cLine):iD X (compareOp .NotEq) BL:=iD.of λpins s σ H x y z u v a b Q I e hx hy ru rv q=>by
 unfold BL at e
 split at e
 ·rename_i c
  have c':lay 60 x=true/\lay 60 y=true:=by simpa using c
  have l1:=gS _ _ c'.1
  have l2:=gS _ _ c'.2
  obtain⟨as,ra⟩:=aJ.reads I x u a l1.1 hx ru
  obtain⟨bs,rb⟩:=aJ.reads I y v b l2.1 hy rv
  cases e
  exact SeqAt.compareNe_reads ra rb l1.1 l2.1 (!1) ⟨.bl _,H,I,rfl,q _ H (Same.refl H) (aS.li rfl cL)⟩
 ·cases e
theorem xU (hu:X.A.units+80 < cLine):iD X (compareOp .In) HS:=iD.of λpins s σ H x y z u v a b Q I e hx hy ru rv q=>by
 cases y <;> simp only[HS] at e <;> try (cases e;done)
 ·rename_i ys
  split at e
  ·rename_i c
   have c':lay 60 x=true/\lays 60 ys=true:=by simpa using c
   have l1:=gS _ _ c'.1
   have l2:=h_ _ _ c'.2
   obtain⟨as,ra⟩:=aJ.reads I x u a l1.1 hx ru
   obtain⟨bs,rb⟩:=aJ.reads I (.list ys) v b (by simpa [PyData.canLay0] using l2.1) hy rv
   cases e
   exact SeqAt.in_list_reads rb ra l2.1 l1.1 (!1) ⟨.bl _,H,I,rfl,q _ H (Same.refl H) (aS.li rfl cL)⟩
  ·cases e
 ·rename_i ys
  split at e
  ·rename_i c
   have c':lay 60 x=true/\lays 60 ys=true:=by simpa using c
   have l1:=gS _ _ c'.1
   have l2:=h_ _ _ c'.2
   obtain⟨as,ra⟩:=aJ.reads I x u a l1.1 hx ru
   obtain⟨bs,rb⟩:=aJ.reads I (.tuple ys) v b (by simpa [PyData.canLay0] using l2.1) hy rv
   cases e
   exact SeqAt.in_tuple_reads rb ra l2.1 l1.1 (!1) ⟨.bl _,H,I,rfl,q _ H (Same.refl H) (aS.li rfl cL)⟩
  ·cases e
theorem kE (hu:X.A.units+80 < cLine):iD X (compareOp .NotIn) gE:=iD.of λpins s σ H x y z u v a b Q I e hx hy ru rv q=>by
 cases y <;> simp only[gE] at e <;> try (cases e;done)
 ·rename_i ys
  split at e
  ·rename_i c
   have c':lay 60 x=true/\lays 60 ys=true:=by simpa using c
   have l1:=gS _ _ c'.1
   have l2:=h_ _ _ c'.2
   obtain⟨as,ra⟩:=aJ.reads I x u a l1.1 hx ru
   obtain⟨bs,rb⟩:=aJ.reads I (.list ys) v b (by simpa [PyData.canLay0] using l2.1) hy rv
   cases e
   exact SeqAt.notIn_list_reads rb ra l2.1 l1.1 (!1) ⟨.bl _,H,I,rfl,q _ H (Same.refl H) (aS.li rfl cL)⟩
  ·cases e
 ·rename_i ys
  split at e
  ·rename_i c
   have c':lay 60 x=true/\lays 60 ys=true:=by simpa using c
   have l1:=gS _ _ c'.1
   have l2:=h_ _ _ c'.2
   obtain⟨as,ra⟩:=aJ.reads I x u a l1.1 hx ru
   obtain⟨bs,rb⟩:=aJ.reads I (.tuple ys) v b (by simpa [PyData.canLay0] using l2.1) hy rv
   cases e
   exact SeqAt.notIn_tuple_reads rb ra l2.1 l1.1 (!1) ⟨.bl _,H,I,rfl,q _ H (Same.refl H) (aS.li rfl cL)⟩
  ·cases e
theorem BP {K:Frag}{H:Hp}{x:PyData}{u:V}(h:aJ K H x u):decide (u= .non)=i7 x:=by
 cases x <;> simp only[aJ] at h
 ·subst h;rfl
 ·subst h;rfl
 ·subst h;rfl
 ·subst h;rfl
 ·obtain⟨a,_,rfl,_⟩:=h;rfl
 ·obtain⟨a,_,rfl,_⟩:=h;rfl
 ·obtain⟨a,_,rfl,_⟩:=h;rfl
theorem An:iD X (compareOp .IsNot) tU:=iD.of λpins s σ H x y z u v a b Q I e hx hy ru rv q=>by
 cases y <;> simp only[tU] at e <;> try (cases e;done)
 cases e
 have hv:=lh hy
 subst hv
 exact Ef pins s σ H u .non a b Q I ru rv ⟨rfl,by rw[BP hx];exact q _ H (Same.refl H) (aS.li rfl cL)⟩
theorem iD.ints {f:Value->Value->Sem Value}{C:Int->Int->Prop}{gv:Int->Int->V}{g:PyData->PyData->Option PyData}(h:oT X f (rI C gv))
  (hg:∀x y z,g x y=some z->∃i j,x= .int i/\y= .int j/\C i j/\bo z=true/\∀K H,aJ K H z (gv i j)):iD X f g:=iD.of λpins s σ H x y z u v a b Q I e hx hy ru rv q=>by
 obtain⟨i,j,rfl,rfl,c,hn,hz⟩:=hg x y z e
 have h1:=aA hx
 have h2:=aA hy
 subst h1 h2
 exact h pins s σ H _ _ a b Q I ru rv ⟨i,j,rfl,rfl,c,q _ H (Same.refl H) (aS.li hn (hz _ _))⟩
theorem iD.zg {f:Value->Value->Sem Value}{gv:Int->Int->V}{g:PyData->PyData->Option PyData}(h:oT X f (Gn gv))
  (hg:∀x y z,g x y=some z->∃i j,x= .int i/\y= .int j/\bo z=true/\∀K H,aJ K H z (gv i j)):iD X f g:=iD.of λpins s σ H x y z u v a b Q I e hx hy ru rv q=>by
 obtain⟨i,j,rfl,rfl,hn,hz⟩:=hg x y z e
 have h1:=aA hx
 have h2:=aA hy
 subst h1 h2
 exact h pins s σ H _ _ a b Q I ru rv ⟨i,j,rfl,rfl,q _ H (Same.refl H) (aS.li hn (hz _ _))⟩
theorem t0:iD X (binaryOp .Sub) Y.vf:=iD.zg Hu λx y z e=>by
 cases x <;> cases y <;> simp only[Y.vf] at e <;> cases e
 exact⟨_,_,rfl,rfl,rfl,λ_ _=>bC⟩
theorem BQ:iD X (compareOp .Lt) JM:=iD.zg KA λx y z e=>by
 cases x <;> cases y <;> simp only[JM] at e <;> cases e
 exact⟨_,_,rfl,rfl,rfl,λ_ _=>cL⟩
theorem xV:iD X (compareOp .Gt) JN:=iD.zg KC λx y z e=>by
 cases x <;> cases y <;> simp only[JN] at e <;> cases e
 exact⟨_,_,rfl,rfl,rfl,λ_ _=>cL⟩
theorem dz:iD X (binaryOp .Mod) jZ:=iD.ints Hw λx y z e=>by
 cases x <;> cases y <;> simp only[jZ] at e <;> try (cases e;done)
 split at e
 ·rename_i c;cases e;exact⟨_,_,rfl,rfl,c,rfl,λ_ _=>bC⟩
 ·cases e
theorem zh:iD X (binaryOp .Pow) BM:=iD.ints Hx λx y z e=>by
 cases x <;> cases y <;> simp only[BM] at e <;> try (cases e;done)
 split at e
 ·rename_i c;cases e;exact⟨_,_,rfl,rfl,c,rfl,λ_ _=>bC⟩
 ·cases e
theorem gp:iD X (binaryOp .FloorDiv) jV:=iD.of λpins s σ H x y z u v a b Q I e hx hy ru rv q=>by
 cases x <;> cases y <;> simp only[jV] at e <;> try (cases e;done)
 rename_i i j
 split at e
 ·rename_i c
  cases e
  have h1:=aA hx
  have h2:=aA hy
  subst h1 h2
  obtain⟨t,rfl⟩:=ru
  obtain⟨t',rfl⟩:=rv
  refine floordiv_int (!1) ?_ (.inl (PyProof.noPylong_of_log2 ?_))
  ·rw[Int.fdiv_eq_ediv_of_nonneg i (!1)]
   exact⟨.int (i / j),H,I.tok _,⟨_,rfl⟩,q _ H (Same.refl H) (aS.li rfl bC)⟩
  ·have h3:j.natAbs.log2 < 64:=(Nat.log2_lt (!1)).mpr (!1)
   omega
 ·cases e
theorem gT:iD X (binaryOp .Add) kX:=iD.of λpins s σ H x y z u v a b Q I e hx hy ru rv q=>by
 cases x <;> cases y <;> simp only[kX] at e <;> try (cases e;done)
 ·cases e
  have h1:=aA hx
  have h2:=aA hy
  subst h1 h2
  exact Ht pins s σ H _ _ a b Q I ru rv ⟨_,_,rfl,rfl,q _ H (Same.refl H) (aS.li rfl bC)⟩
 ·rename_i x y
  split at e
  ·rename_i c
   cases e
   have h1:=h9 hx
   have h2:=h9 hy
   subst h1 h2
   obtain⟨t,rfl⟩:=ru
   obtain⟨t',rfl⟩:=rv
   exact add_str (λt' tk=>⟨.str (x++y),H,I.tok _,⟨_,rfl⟩,q _ H (Same.refl H) (aS.li rfl zc)⟩) c
  ·cases e
 ·rename_i xs ys
  split at e
  ·rename_i c
   have c':(aq xs=true/\aq ys=true)/\xs.length+ys.length<=sizeLine:=by simpa using c
   cases e
   obtain⟨p,vs,rfl,h1,h2⟩:=aZ hx
   obtain⟨p',vs',rfl,h3,h4⟩:=aZ hy
   cases ru;cases rv
   obtain⟨its,r1,⟨⟨c1,d1,PL,OE⟩,n1,ho1,hc1,_,hd1⟩,_⟩:=I.list h1
   obtain⟨its2,r2,⟨⟨c2,d2,NZ,sl2⟩,n2,ho2,hc2,_,hd2⟩,_⟩:=I.list h3
   simp only at hc1 hd1 hc2 hd2
   subst hc1 hd1 hc2 hd2
   have hz:vs.length+vs'.length<=sizeLine:=by rw[ao h2,ao h4];exact c'.2
   have hz2:its.length+its2.length<=sizeLine:=by rw[←r1.length,←r2.length];exact hz
   refine concat_meets ⟨_,ho1,rfl⟩ ⟨_,ho2,rfl⟩ noFill_list_add seq_list_add PySem.F.slot_list_add PySem.F.entry_list_add (PySem.F.args_list_add_2 _ _) (list_addW p p' its.toArray its2.toArray n1 n2 d1 d2 OE sl2 (by simpa using hz2)) ⟨ho1,ho2,?_⟩
   have ea:its.toArray++its2.toArray=(its++its2).toArray:=by simp
   rw[ea]
   have hf:=I.fresh
   refine⟨.ref _,_,I.Lb (t':=s.toks) (r1.append r2) (by rw[K1];exact hz),rfl,q _ _ (Same.upd hf) ?_⟩
   exact aS.lst (by rw[gh,c'.1.1,c'.1.2];rfl) aw (ar.same (Same.upd hf) _ _ (eM h2 h4)) hf
  ·cases e
 ·rename_i xs ys
  split at e
  ·rename_i c
   have c':(aq xs=true/\aq ys=true)/\xs.length+ys.length<=sizeLine:=by simpa using c
   cases e
   obtain⟨p,vs,rfl,h1,h2⟩:=aE hx
   obtain⟨p',vs',rfl,h3,h4⟩:=aE hy
   have l1:=ao h2
   have l2:=ao h4
   by_cases hn:vs=[]
   ·have hds:xs=[]:=List.eq_nil_of_length_eq_zero (by rw[←l1,hn];rfl)
    cases ru;cases rv
    obtain⟨its,r1,p1,_⟩:=I.tuple h1
    obtain⟨its2,r2,p2,_⟩:=I.tuple h3
    obtain⟨⟨cls,dd,data,sl⟩,ho,hc,n,hda⟩:=id p1
    obtain⟨⟨cls2,dd2,data2,sl2⟩,ho2,hc2,n2,hdb⟩:=id p2
    simp only at hc hda hc2 hdb
    subst hc hda hc2 hdb
    have hv:its=[]:=(r1.oU).mpr hn
    exact concat_meets ⟨_,ho,rfl⟩ ⟨_,ho2,rfl⟩ noFill_tuple_add seq_tuple_add PySem.F.slot_tuple_add PySem.F.entry_tuple_add (PySem.F.args_tuple_add_2 _ _)
     (tuple_addW0 p p' its.toArray its2.toArray n n2 dd dd2 sl sl2 (by simp[hv])) ⟨ho,ho2,⟨.ref p',H,I,rfl,q _ H (Same.refl H) (aS.li (by rw[bo,hds];exact c'.1.2) (by rw[hds];exact hy))⟩⟩
   ·refine En pins s σ H _ _ a b Q I ru rv ⟨p,p',vs,vs',rfl,rfl,h1,h3,hn,by omega,λe=> ?_,λe t ht=> ?_⟩
    ·have hes:ys=[]:=List.eq_nil_of_length_eq_zero (by rw[←l2,e];rfl)
     exact q _ H (Same.refl H) (aS.li (by rw[bo,hes,Xj];exact c'.1.1) (by rw[hes,Xj];exact hx))
    ·exact q _ _ (Same.upd ht) (aS.tup (by rw[gh,c'.1.1,c'.1.2];rfl) (dJ.of aw) (ar.same (Same.upd ht) _ _ (eM h2 h4)))
  ·cases e
end
section
variable {X:Cx}{K:Frag}{Ew:Str->Hp->Prop}{pos:Pos}{a b:Expr}{fa fb:EF}{ta tb:TF}
theorem zi {B:Hp}{φ:Nat->List Addr}{Γ:aW}{σ:St}{H:Hp}{Q:Bool->Hp->Prop}(r:Rep K B φ Γ σ H)(h:oe Ew B H (tE fa Γ) Q) :
  Runs K Ew B φ H (fa Γ) (λv H1=>∃c,v= .bl c/\Q c H1):=by
 unfold tE at h
 match hm:fa Γ,h with
 | some (.ok (k,d)),h=>
  refine .inl ⟨k,d,rfl,λv H' s hv=> ?_⟩
  cases d <;> try (rcases h with⟨t,e,_⟩ | ⟨c,e,_⟩ <;> cases e;done)
  rename_i t
  rcases h with⟨t',e,h⟩ | ⟨c,e,h⟩
  ·cases e
   have:=i9 (hv.toD (r.bs.trans s))
   exact⟨t,this,h H' s⟩
  ·cases e
 | some (.ex c),h=>
  rcases h with⟨t',e,h⟩ | ⟨c',e,h⟩
  ·cases e
  ·cases e;exact .inr ⟨c,rfl,h⟩
 | none,h=>rcases h with⟨t',e,h⟩ | ⟨c',e,h⟩ <;> cases e
theorem t3 (ha:DE X K Ew a fa)(he:∀whole,isTrue a X.env whole=(do let v←whole;standAt a.pos;holding [v] (truthy v)):=by intro _;rfl):DT X K Ew a (tE fa) :=
 (G_ ha he).imp λσ H Q q=>by
  obtain⟨B,φ,Γ,r,q⟩:=q
  exact⟨B,φ,Γ,r,zi r q⟩
theorem bu {op:CmpOp}{g:PyData->PyData->Option PyData}(ho:iD X (compareOp op) g)(ha:DE X K Ew a fa)(hb:DE X K Ew b fb)(hm:behindInMarks op b=false)(hK:X.K=K:=by rfl) :
  DT X K Ew (.Compare a [op] [b] pos) (tE (cb g fa fb)):=by
 obtain⟨r,hr,hx⟩:=ho
 refine(Eh hr ha hb hm).imp λσ H Q q=> ?_
 obtain⟨B,φ,Γ,r0,q⟩:=q
 refine pF (g:=λx y=>ap (mo (g x.2 y.2)) λz=>ah (.fr [],z)) (Q:=λv H1=>∃c,v= .bl c/\Q c H1) ⟨B,φ,Γ,r0,zi r0 q⟩ λB φ Γ k x k' y u v H1 H2 r2 s1 s2 v1 v2 q=> ?_
 obtain⟨z,e,q⟩:=gR (kf:=λ_=> .fr []) q
 rw[hK] at hx
 exact hx x y z u v H2 _ e (v1.toD r2.bs) (v2.toD r2.bs) λw H' s f=>q w H' ((s1.trans s2).trans s) (VR.fresh.mpr (f.from (s1.trans s2)))
theorem t5 (ha:DT X K Ew a ta):DW X K Ew (.BoolOp .And [a] pos) ta:=Ee ha
theorem HX (ha:DT X K Ew a ta):DW X K Ew (.BoolOp .Or [a] pos) ta:=Ha ha
theorem xX {rest:List Expr}(ha:DT X K Ew a ta)(hb:DW X K Ew (.BoolOp .And (b :: rest) pos) tb):DW X K Ew (.BoolOp .And (a :: b :: rest) pos) (rU ta tb) :=
 (Hb ha hb).imp λσ H Q q=>by
  obtain⟨B,φ,Γ,r,q⟩:=q
  refine⟨B,φ,Γ,r,?_⟩
  have q':=oe.bind q
  rcases q' with⟨t,e,q'⟩ | q'
  ·refine .inl ⟨t,e,λH1 s1=> ?_⟩
   obtain⟨_,_,q2⟩:=q' H1 s1
   cases t with
   | true=>rw[JQ rfl] at q2⊢;exact⟨B,φ,Γ,r.same s1,q2⟩
   | false=>
    rw[JV K5] at q2⊢
    rcases q2 with⟨t',e',q2⟩ | ⟨c,e',_⟩
    ·cases e';exact q2 H1 (Same.refl H1)
    ·cases e'
  ·exact .inr q'
theorem Lf {rest:List Expr}(ha:DT X K Ew a ta)(hb:DW X K Ew (.BoolOp .Or (b :: rest) pos) tb):DW X K Ew (.BoolOp .Or (a :: b :: rest) pos) (Ez ta tb) :=
 (Kg ha hb).imp λσ H Q q=>by
  obtain⟨B,φ,Γ,r,q⟩:=q
  refine⟨B,φ,Γ,r,?_⟩
  have q':=oe.bind q
  rcases q' with⟨t,e,q'⟩ | q'
  ·refine .inl ⟨t,e,λH1 s1=> ?_⟩
   obtain⟨_,_,q2⟩:=q' H1 s1
   cases t with
   | false=>rw[JV K5] at q2⊢;exact⟨B,φ,Γ,r.same s1,q2⟩
   | true=>
    rw[JQ rfl] at q2⊢
    rcases q2 with⟨t',e',q2⟩ | ⟨c,e',_⟩
    ·cases e';exact q2 H1 (Same.refl H1)
    ·cases e'
  ·exact .inr q'
theorem DW.dt (h:DW X K Ew a ta):DT X K Ew a ta:=PW.pt h
theorem xY (ha:DT X K Ew a ta):DT X K Ew (.UnaryOp .Not a pos) (j6 ta):=(Hd ha).imp λσ H Q q=>by
 obtain⟨B,φ,Γ,r,q⟩:=q
 refine⟨B,φ,Γ,r,?_⟩
 have q':=oe.bind q
 rcases q' with⟨t,e,q'⟩ | q'
 ·refine .inl ⟨t,e,λH1 s1=> ?_⟩
  obtain⟨_,_,q2⟩:=q' H1 s1
  rcases q2 with⟨t',e',q2⟩ | ⟨c,e',_⟩
  ·cases e';exact q2 H1 (Same.refl H1)
  ·cases e'
 ·exact .inr q'
theorem Gz {c:Expr}(hc:DT X K Ew c ta)(ha:DE X K Ew a fa)(hb:DE X K Ew b fb):DE X K Ew (.IfExp c a b pos) (Ld ta fa fb):=(Bv hc ha hb).imp λσ H Q q=>by
 obtain⟨B,φ,Γ,r,q⟩:=q
 refine⟨B,φ,Γ,r,?_⟩
 unfold Ld at q
 match hm:ta Γ,q with
 | some (.ok t),q=>
  refine .inl ⟨t,rfl,λH1 s1=> ?_⟩
  cases t with
  | true=>rw[JQ rfl];exact⟨B,φ,Γ,r.same s1,Runs.later q s1⟩
  | false=>rw[JV K5];exact⟨B,φ,Γ,r.same s1,Runs.later q s1⟩
 | some (.ex c),q=>
  rcases q with⟨k,d,e,h⟩ | ⟨c',e,h⟩
  ·cases e
  ·cases e;exact .inr ⟨c,rfl,h⟩
 | none,q=>rcases q with⟨k,d,e,h⟩ | ⟨c',e,h⟩ <;> cases e
theorem HY {op}(ha:DE X K Ew a fa):DE X K Ew (.BoolOp op [a] pos) fa:=He ha
theorem zj {B:Hp}{φ:Nat->List Addr}{Γ:aW}{σ:St}{H:Hp}{Q Q':VK}{g:PyData->M (Kd×PyData)}(r:Rep K B φ Γ σ H)(h:Runs K Ew B φ H (ap (fa Γ) λx=>g x.2) Q)
  (hg:∀d,(∀t,d≠ .bool t)->g d=none) (i:∀t H1,Same H H1->Rep K B φ Γ σ H1->Runs K Ew B φ H1 (g (.bool t)) Q->Q' (.bl t) H1):Runs K Ew B φ H (fa Γ) Q':=by
 refine(h.bind r).mono λv H1 s1 ⟨k,d,e,hv,r1,_,q⟩=> ?_
 cases d with
 | bool t=>
  have:=i9 (hv.toD r1.bs)
  subst this
  exact i t H1 s1 r1 (q.later s1)
 | _=>
  exfalso
  rw[show g _=none from hg _ (by intro t z;cases z)] at q
  rcases q with⟨k,d,e,h⟩ | ⟨c',e,h⟩ <;> cases e
theorem HZ {rest:List Expr}(ha:DE X K Ew a fa)(hb:DE X K Ew (.BoolOp .And (b :: rest) pos) fb):DE X K Ew (.BoolOp .And (a :: b :: rest) pos) (HR fa fb):=(Hf ha hb).imp λσ H Q q=>by
 obtain⟨B,φ,Γ,r,q⟩:=q
 refine⟨B,φ,Γ,r,zj (g:=λd=>match d with | .bool true=>fb Γ | .bool false=>ah (.fr [],.bool false) | _=>none) r q (λd hd=> ?_) λt H1 s1 r1 q1=>⟨t,rfl,?_⟩⟩
 ·cases d <;> first | rfl | exact absurd rfl (hd _)
 ·cases t with
  | true=>rw[JQ rfl];exact⟨B,φ,Γ,r1,q1⟩
  | false=>
   rw[JV K5]
   rcases q1 with⟨k,d,e,h⟩ | ⟨c',e,h⟩
   ·cases e;exact h _ H1 (Same.refl H1) (VR.li rfl cL [])
   ·cases e
theorem H_ (ha:DE X K Ew a fa):DE X K Ew (.UnaryOp .Not a pos) (BK fa):=(Hg ha).imp λσ H Q q=>by
 obtain⟨B,φ,Γ,r,q⟩:=q
 refine⟨B,φ,Γ,r,zj (g:=λd=>match d with | .bool t=>ah (.fr [],.bool (!t)) | _=>none) r q (λd hd=> ?_) λt H1 s1 r1 q1=>⟨t,rfl,?_⟩⟩
 ·cases d <;> first | rfl | exact absurd rfl (hd _)
 ·rcases q1 with⟨k,d,e,h⟩ | ⟨c',e,h⟩
  ·cases e;exact h _ H1 (Same.refl H1) (VR.li rfl cL [])
  ·cases e
end
open Classical in
noncomputable def gq (φ:Nat->List Addr)(H:Hp):Hp:=λa=>if∃j,a∈φ j then none else H a
theorem cv {φ:Nat->List Addr}{H:Hp}{a:Addr}(h:∀j,a∉φ j):gq φ H a=H a:=by
 unfold gq;rw[JV];rintro⟨j,z⟩;exact h j z
theorem zk {φ:Nat->List Addr}{H:Hp}{a:Addr}{j:Nat}(h:a∈φ j):gq φ H a=none:=by
 unfold gq;rw[JQ ⟨j,h⟩]
theorem jb (φ:Nat->List Addr)(H:Hp):Same (gq φ H) H:=λa o e=>by
 unfold gq at e
 split at e
 ·cases e
 ·exact e
section
variable {K:Frag}{B B' H H':Hp}{φ:Nat->List Addr}{Γ:aW}{σ:St}{k:Kd}{d:PyData}{v:V}
theorem dJ.toB {a:Addr}{xs:List V}(e:∀a o,H a=some o->¬ eS o->B' a=some o)(h:dJ K H a xs):dJ K B' a xs:=by
 rcases h with(h | ⟨o,h⟩) | h
 ·exact .inl (.inl (e _ _ h (λz=>z)))
 ·exact .inl (.inr ⟨o,e _ _ h (λz=>z)⟩)
 ·exact .inr h
mutual
theorem IsT.toB (e:∀a o,H a=some o->¬ eS o->B' a=some o):∀(d:PyData) (v:V) (as:List Addr),(∀a∈as,∀o,H a=some o->B' a=some o)->IsT K H d v as->aJ K B' d v
 | .none,v,as,_,h=>by simp only[IsT] at h;simp only[aJ];exact h.1
 | .bool b,v,as,_,h=>by simp only[IsT] at h;simp only[aJ];exact h.1
 | .int i,v,as,_,h=>by simp only[IsT] at h;simp only[aJ];exact h.1
 | .str x,v,as,_,h=>by simp only[IsT] at h;simp only[aJ];exact h.1
 | .list xs,v,as,m,h=>by
  simp only[IsT] at h;simp only[aJ]
  obtain⟨a,vs,bs,e1,h1,h2,rfl⟩:=h
  exact⟨a,vs,e1,fV.of (m a K8 _ h1),az.toB e xs vs bs (λb hb=>m b (K9 _ hb)) h2⟩
 | .tuple xs,v,as,m,h=>by
  simp only[IsT] at h;simp only[aJ]
  obtain⟨a,vs,e1,h1,h2⟩:=h
  exact⟨a,vs,e1,h1.toB e,az.toB e xs vs as m h2⟩
 | .dict kvs,v,as,m,h=>by
  simp only[IsT] at h;simp only[aJ]
  obtain⟨a,ks,bs,e1,h1,h2,rfl⟩:=h
  exact⟨a,ks,e1,.inl (m a K8 _ h1),aM.toB e kvs ks.1 bs (λb hb=>m b (K9 _ hb)) h2⟩
theorem az.toB (e:∀a o,H a=some o->¬ eS o->B' a=some o):∀(ds:List PyData) (vs:List V) (as:List Addr),(∀a∈as,∀o,H a=some o->B' a=some o)->az K H ds vs as->ar K B' ds vs
 | [],vs,as,_,h=>by simp only[az] at h;simp only[ar];exact h.1
 | d :: ds,vs,as,m,h=>by
  simp only[az] at h;simp only[ar]
  obtain⟨v,r,a1,a2,e1,rfl,h1,h2⟩:=h
  exact⟨v,r,e1,IsT.toB e d v a1 (λb hb=>m b (KW _ hb)) h1,az.toB e ds r a2 (λb hb=>m b (Kx _ hb)) h2⟩
theorem aM.toB (e:∀a o,H a=some o->¬ eS o->B' a=some o):∀(ds:List (PyData×PyData)) (ks:List (PyData×V×V)) (as:List Addr),(∀a∈as,∀o,H a=some o->B' a=some o)->aM K H ds ks as->aT K B' ds ks
 | [],ks,as,_,h=>by simp only[aM] at h;simp only[aT];exact h.1
 | (k,d) :: r,ks,as,m,h=>by
  simp only[aM] at h;simp only[aT]
  obtain⟨kv,v,q,a1,a2,e1,rfl,h1,h2,h3⟩:=h
  exact⟨kv,v,q,e1,IsT.toB e k kv [] (λb hb=>by cases hb) h1,IsT.toB e d v a1 (λb hb=>m b (KW _ hb)) h2,aM.toB e r q a2 (λb hb=>m b (Kx _ hb)) h3⟩
end
theorem Rep.mu (r:Rep K B φ Γ σ H):∀a o,H a=some o->¬ eS o->gq φ H a=some o:=λa o e n=>by
 rw[cv]
 ·exact e
 ·intro j hj
  obtain⟨o',e',m⟩:=(r.nb j a hj).2
  rw[e] at e';cases e'
  exact n m
theorem Rep.rC (r:Rep K B φ Γ σ H):Same B (gq φ H):=λa o e=>by
 rw[cv]
 ·exact r.bs a o e
 ·intro j hj
  rw[(r.nb j a hj).1] at e
  cases e
theorem Rep.base (r:Rep K B φ Γ σ H)(s:Same B B')(s':Same B' H)(n:∀j,∀a∈φ j,B' a=none):Rep K B' φ Γ σ H where
 bs:=s'
 len:=r.len
 sl:=λi o d e=>by
  obtain⟨v,h1,h2⟩:=r.sl i o d e
  refine⟨v,h1,?_⟩
  cases o with
  | true=>exact h2
  | false=>rw[JV K5] at h2⊢;exact aJ.same s _ _ h2
 nd:=r.nd
 nb:=λi a ha=>⟨n i a ha,(r.nb i a ha).2⟩
 dj:=r.dj
theorem Rep.cut (r:Rep K B φ Γ σ H):Rep K (gq φ H) φ Γ σ H:=r.base r.rC (jb _ _) λj a ha=>zk ha
def Ao (φ:Nat->List Addr)(i:Nat):Nat->List Addr:=λj=>if j=i then [] else φ j
theorem eX {φ:Nat->List Addr}{i j:Nat}{a:Addr}(h:a∈Ao φ i j):j≠i/\a∈φ j:=by
 unfold Ao at h
 split at h
 ·cases h
 ·rename_i n;exact⟨n,h⟩
theorem Rep.less {ψ:Nat->List Addr}(r:Rep K B φ Γ σ H)(hψ:∀j,ψ j=φ j∨ψ j=[])(Γ':aW)(hl:Γ'.length=Γ.length)
  (hs:∀i o d,Γ'[i]? =some (some (o,d))->(Γ[i]? =some (some (o,d))/\(o=true->ψ i=φ i))∨(o=false/\ψ i=[]/\∃o',Γ[i]? =some (some (o',d)))) :
  Same B (gq ψ H)/\Rep K (gq ψ H) ψ Γ' σ H:=by
 have sub:∀j a,a∈ψ j->a∈φ j:=λj a ha=>by
  rcases hψ j with e | e
  ·rw[e] at ha;exact ha
  ·rw[e] at ha;cases ha
 have s1:Same B (gq ψ H):=λa o e=>by
  rw[cv]
  ·exact r.bs a o e
  ·intro j hj
   rw[(r.nb j a (sub j a hj)).1] at e
   cases e
 have mu:∀a o,H a=some o->¬ eS o->gq ψ H a=some o:=λa o e n=>by
  rw[cv]
  ·exact e
  ·intro j hj
   obtain⟨o',e',m⟩:=(r.nb j a (sub j a hj)).2
   rw[e] at e';cases e'
   exact n m
 refine⟨s1,jb _ _,hl.trans r.len,λi o d e=> ?_,λj=> ?_,λj a ha=>⟨zk ha,(r.nb j a (sub j a ha)).2⟩,λi j n a ha hb=>r.dj i j n a (sub i a ha) (sub j a hb)⟩
 ·rcases hs i o d e with⟨e1,e2⟩ | ⟨rfl,e2,o',e3⟩
  ·obtain⟨v,h1,h2⟩:=r.sl i o d e1
   refine⟨v,h1,?_⟩
   cases o with
   | true=>rw[JQ rfl] at h2⊢;rw[e2 rfl];exact h2
   | false=>rw[JV K5] at h2⊢;exact aJ.same s1 _ _ h2
  ·obtain⟨v,h1,h2⟩:=r.sl i o' d e3
   refine⟨v,h1,?_⟩
   rw[JV K5]
   cases o' with
   | false=>rw[JV K5] at h2;exact aJ.same s1 _ _ h2
   | true=>
    rw[JQ rfl] at h2
    refine IsT.toB mu _ _ _ (λa ha o e=> ?_) h2
    rw[cv]
    ·exact e
    ·intro j hj
     by_cases hji:j=i
     ·subst hji;rw[e2] at hj;cases hj
     ·exact r.dj i j (Ne.symm hji) a ha (sub j a hj)
 ·rcases hψ j with e | e
  ·rw[e];exact r.nd j
  ·rw[e];exact X2
theorem BR (i:Nat)(Γ:aW):(xO i Γ).length=Γ.length:=by
 unfold xO
 split <;> simp
theorem Rep.xO (r:Rep K B φ Γ σ H)(i:Nat):Same B (gq (Ao φ i) H)/\Rep K (gq (Ao φ i) H) (Ao φ i) (xO i Γ) σ H:=by
 refine r.less (λj=> ?_) _ (BR i Γ) λj o d e=> ?_
 ·unfold Ao
  by_cases h:j=i
  ·exact .inr (JQ h)
  ·exact .inl (JV h)
 ·unfold Y.xO at e
  split at e
  ·rename_i o' d' hg
   by_cases h:j=i
   ·subst h
    have hj:j < Γ.length:=(X1.mp hg).1
    rw[U8 hj] at e
    cases e
    exact .inr ⟨rfl,JQ rfl,o',hg⟩
   ·rw[Xw (Ne.symm h)] at e
    exact .inl ⟨e,λ_=>JV h⟩
  ·rename_i hg
   by_cases h:j=i
   ·subst h
    exact absurd e (hg o d)
   ·exact .inl ⟨e,λ_=>JV h⟩
theorem Rep.xP:∀(l:List Nat) {B:Hp} {φ:Nat->List Addr} {Γ:aW},Rep K B φ Γ σ H->∃ψ,Same B (gq ψ H)/\Rep K (gq ψ H) ψ (xP l Γ) σ H/\(∀j a,a∈ψ j->a∈φ j)/\∀j∈l,ψ j=[]
 | [],B,φ,Γ,r=>⟨φ,r.rC,r.cut,λ_ _ h=>h,λj hj=>by cases hj⟩
 | i :: l,B,φ,Γ,r=>by
  obtain⟨s1,r1⟩:=r.xO i
  obtain⟨ψ,s2,r2,h3,h4⟩:=Rep.xP l r1
  refine⟨ψ,s1.trans s2,r2,λj a ha=>(eX (h3 j a ha)).2,λj hj=> ?_⟩
  rcases K0.mp hj with rfl | hj
  ·cases e:ψ j with
   | nil=>rfl
   | cons b t=>
    have:=eX (h3 j b (by rw[e];exact K8))
    exact absurd rfl this.1
  ·exact h4 j hj
theorem Rep.tV (r:Rep K B φ Γ σ H):Same B H/\Rep K H (λ_=> []) (tV Γ) σ H:=by
 have h:=r.less (ψ:=λ_=> []) (λj=> .inr rfl) (Y.tV Γ) (by simp[Y.tV]) λj o d e=>by
  unfold Y.tV at e
  rw[KY] at e
  cases hg:Γ[j]? with
  | none=>rw[hg] at e;cases e
  | some s=>
   rw[hg] at e
   cases s with
   | none=>cases e
   | some p=>cases e;exact .inr ⟨rfl,rfl,p.1,rfl⟩
 have e:gq (λ_=> []) H=H:=by
  funext a
  exact cv λj hj=>by cases hj
 rw[e] at h
 exact h
def Av (K:Frag)(B:Hp)(φ:Nat->List Addr)(H:Hp):Kd->PyData->V->Prop
 | .fr l,d,v=>∃as,IsT K H d v as/\as.Nodup/\∀a∈as,(∃i∈l,a∈φ i)∨(B a=none/\∀j,a∉φ j)
 | .base,d,v=>aJ K B d v
 | .any,d,v=>aJ K H d v
theorem VR.av {H0:Hp}(r:Rep K B φ Γ σ H0)(h:VR K B φ H0 H k d v):Av K B φ H k d v:=by
 cases k with
 | fr l=>
  obtain⟨as,h1,h2,h3⟩:=h
  refine⟨as,h1,h2,λa ha=>(h3 a ha).imp id λz=>⟨r.bs.free z,λj hj=> ?_⟩⟩
  obtain⟨o,e,_⟩:=(r.nb j a hj).2
  rw[z] at e;cases e
 | base=>exact h
 | any=>exact h
theorem Rep.put {as:List Addr}(r:Rep K B φ Γ σ H)(i:Nat)(h:IsT K H d v as)(nd:as.Nodup)(hb:∀a∈as,B a=none/\∀j,j≠i->a∉φ j) :
  Rep K B (λj=>if j=i then as else φ j) (Γ.set i (some (true,d))) (σ.set i (some v)) H where
 bs:=r.bs
 len:=by rw[XW,XW];exact r.len
 sl:=λj o d' e=>by
  by_cases hj:j=i
  ·subst hj
   by_cases hlt:j < Γ.length
   ·rw[U8 hlt] at e
    cases e
    refine⟨v,by rw[U8 (by rw[←r.len];exact hlt)],?_⟩
    rw[JQ rfl,JQ rfl];exact h
   ·rw[Xq (by rw[XW];omega)] at e
    cases e
  ·rw[Xw (Ne.symm hj)] at e
   obtain⟨w,h1,h2⟩:=r.sl j o d' e
   refine⟨w,by rw[Xw (Ne.symm hj)];exact h1,?_⟩
   simp only[JV hj]
   exact h2
 nd:=λj=>by
  by_cases hj:j=i
  ·simp only[JQ hj];exact nd
  ·simp only[JV hj];exact r.nd j
 nb:=λj a ha=>by
  by_cases hj:j=i
  ·simp only[JQ hj] at ha;exact⟨(hb a ha).1,IsT.live _ _ _ h a ha⟩
  ·simp only[JV hj] at ha;exact r.nb j a ha
 dj:=λj j' n a ha hb'=>by
  by_cases hj:j=i
  ·simp only[JQ hj] at ha
   by_cases hj':j'=i
   ·exact n (hj.trans hj'.symm)
   ·simp only[JV hj'] at hb';exact(hb a ha).2 j' hj' hb'
  ·simp only[JV hj] at ha
   by_cases hj':j'=i
   ·simp only[JQ hj'] at hb';exact(hb a hb').2 j hj ha
   ·simp only[JV hj'] at hb';exact r.dj j j' n a ha hb'
theorem Rep.EI (r:Rep K B φ Γ σ H)(i:Nat)(h:aJ K B d v):Rep K B (Ao φ i) (Γ.set i (some (false,d))) (σ.set i (some v)) H where
 bs:=r.bs
 len:=by rw[XW,XW];exact r.len
 sl:=λj o d' e=>by
  by_cases hj:j=i
  ·subst hj
   by_cases hlt:j < Γ.length
   ·rw[U8 hlt] at e
    cases e
    refine⟨v,by rw[U8 (by rw[←r.len];exact hlt)],?_⟩
    rw[JV K5];exact h
   ·rw[Xq (by rw[XW];omega)] at e
    cases e
  ·rw[Xw (Ne.symm hj)] at e
   obtain⟨w,h1,h2⟩:=r.sl j o d' e
   refine⟨w,by rw[Xw (Ne.symm hj)];exact h1,?_⟩
   unfold Ao
   simp only[JV hj]
   exact h2
 nd:=λj=>by
  unfold Ao
  by_cases hj:j=i
  ·simp only[JQ hj];exact X2
  ·simp only[JV hj];exact r.nd j
 nb:=λj a ha=>r.nb j a (eX ha).2
 dj:=λj j' n a ha hb'=>r.dj j j' n a (eX ha).2 (eX hb').2
theorem Rep.kill (r:Rep K B φ Γ σ H)(i:Nat):Rep K B (Ao φ i) (Γ.set i none) σ H where
 bs:=r.bs
 len:=by rw[XW];exact r.len
 sl:=λj o d' e=>by
  by_cases hj:j=i
  ·subst hj
   by_cases hlt:j < Γ.length
   ·rw[U8 hlt] at e;cases e
   ·rw[Xq (by rw[XW];omega)] at e;cases e
  ·rw[Xw (Ne.symm hj)] at e
   obtain⟨w,h1,h2⟩:=r.sl j o d' e
   refine⟨w,h1,?_⟩
   unfold Ao
   simp only[JV hj]
   exact h2
 nd:=λj=>by
  unfold Ao
  by_cases hj:j=i
  ·simp only[JQ hj];exact X2
  ·simp only[JV hj];exact r.nd j
 nb:=λj a ha=>r.nb j a (eX ha).2
 dj:=λj j' n a ha hb'=>r.dj j j' n a (eX ha).2 (eX hb').2
theorem jC (r:Rep K B φ Γ σ H)(i:Nat)(h:Av K B φ H k d v):∃B' φ',Same B B'/\Rep K B' φ' (iR Γ i k d) (σ.set i (some v)) H:=by
 match k,h with
 | .fr [],h=>
  obtain⟨as,h1,h2,h3⟩:=h
  exact⟨B,_,Same.refl B,r.put i h1 h2 λa ha=>by
   rcases h3 a ha with⟨_,z,_⟩ | z
   ·cases z
   ·exact⟨z.1,λj _=>z.2 j⟩⟩
 | .fr (j :: l),h=>
  obtain⟨as,h1,h2,h3⟩:=h
  obtain⟨ψ,s1,r1,sub,hl⟩:=r.xP (j :: l)
  refine⟨_,_,s1,r1.EI i ?_⟩
  refine IsT.toB (λa o e n=> ?_) _ _ _ (λa ha o e=> ?_) h1
  ·rw[cv]
   ·exact e
   ·intro j' hj'
    obtain⟨o',e',m⟩:=(r.nb j' a (sub j' a hj')).2
    rw[e] at e';cases e'
    exact n m
  ·rw[cv]
   ·exact e
   ·intro j' hj'
    rcases h3 a ha with⟨i',hi',z⟩ | z
    ·by_cases hij:i'=j'
     ·subst hij;rw[hl _ hi'] at hj';cases hj'
     ·exact r.dj i' j' hij a z (sub j' a hj')
    ·exact z.2 j' (sub j' a hj')
 | .base,h=>exact⟨B,_,Same.refl B,r.EI i h⟩
 | .any,h=>
  obtain⟨s1,r1⟩:=r.tV
  exact⟨H,_,s1,r1.EI i h⟩
end
section
variable {X:Cx}{K:Frag}{Ew:Str->Hp->Prop}{pos:Pos}{st:Stmt}{rest:List Stmt}{e:Expr}{fe:EF}{f g:SF}{t:TF}
theorem RV.base {B B' H':Hp}{o:Bool}{d:PyData}{v:V}(s:Same B B')(h:RV K B' H' o d v):RV K B H' o d v:=by
 unfold RV at h⊢
 cases o with
 | true=>
  rw[JQ rfl] at h⊢
  obtain⟨as,h1,h2,h3⟩:=h
  exact⟨as,h1,h2,λa ha=>s.free (h3 a ha)⟩
 | false=>rw[JV K5] at h⊢;exact h
theorem cM.base {B B':Hp}{m:M Out}{D:Ends}(s:Same B B')(h:cM K Ew B m D):cM K Ew B' m D:=by
 match m,h with
 | some (.ok (.nx Γ)),h=>exact λB2 φ σ H s2 r=>h B2 φ σ H (s.trans s2) r
 | some (.ok (.bk Γ)),h=>exact λB2 φ σ H s2 r=>h B2 φ σ H (s.trans s2) r
 | some (.ok (.ct Γ)),h=>exact λB2 φ σ H s2 r=>h B2 φ σ H (s.trans s2) r
 | some (.ok (.rt o d)),h=>exact λv H' s' rv=>h v H' (s.trans s') (rv.base s)
 | some (.ex c),h=>exact λH' s'=>h H' (s.trans s')
 | none,h=>exact h
theorem bQ:ze X K Ew [] eQ:=tx.imp λD σ H q=>by
 obtain⟨B,φ,Γ,r,q⟩:=q
 exact q B φ σ H (Same.refl B) r
theorem ae (h1:DS X K Ew st f)(h2:ze X K Ew rest g):ze X K Ew (st :: rest) (aC f g):=(lJ h1 h2).imp λD σ H q=>by
 obtain⟨B,φ,Γ,r,q⟩:=q
 refine⟨B,φ,Γ,r,?_⟩
 unfold aC at q
 match hm:f Γ,q with
 | some (.ok (.nx Γ')),q=>exact λB' φ' σ' H' s' r'=>⟨B',φ',Γ',r',cM.base s' q⟩
 | some (.ok (.bk Γ')),q=>exact q
 | some (.ok (.ct Γ')),q=>exact q
 | some (.ok (.rt o d)),q=>exact q
 | some (.ex c),q=>exact q
 | none,q=>cases q
theorem aj (h1:DS X K Ew st f):ze X K Ew [st] f:=oS h1
theorem gu {g:Kd×PyData->aW->M Out}{σ:St}{H:Hp}{D:Ends}{R:VK}(h:Le K Ew (λΓ=>ap (fe Γ) λx=>g x Γ) D σ H)
  (i:∀B φ Γ k d v H1,Rep K B φ Γ σ H1->Av K B φ H1 k d v->cM K Ew B (g (k,d) Γ) D->R v H1):tD K Ew fe σ H R:=by
 obtain⟨B,φ,Γ,r,q⟩:=h
 refine⟨B,φ,Γ,r,?_⟩
 have q:cM K Ew B (ap (fe Γ) λx=>g x Γ) D:=q
 match hm:fe Γ,q with
 | some (.ok (k,d)),q=>exact .inl ⟨k,d,rfl,λv H1 s hv=>i B φ Γ k d v H1 (r.same s) (hv.av r) q⟩
 | some (.ex c),q=>exact .inr ⟨c,rfl,q⟩
 | none,q=>cases q
theorem Av.toD {B:Hp}{φ:Nat->List Addr}{H:Hp}{k:Kd}{d:PyData}{v:V}(s:Same B H)(h:Av K B φ H k d v):aJ K H d v:=by
 cases k with
 | fr l=>obtain⟨as,h1,_⟩:=h;exact IsT.toD _ _ _ h1
 | base=>exact aJ.same s _ _ h
 | any=>exact h
theorem aX (he:DE X K Ew e fe):DS X K Ew (.Return (some e) pos) (cu fe):=(Bw he).imp λD σ H q=>
 gu (g:=λx _=>ah (.rt (mY x.1) x.2)) q λB φ Γ k d v H1 r a q=>by
  refine q v H1 r.bs ?_
  unfold RV
  cases k with
  | fr l=>
   simp only[mY,if_true]
   obtain⟨as,h1,h2,h3⟩:=a
   refine⟨as,h1,h2,λa ha=> ?_⟩
   rcases h3 a ha with⟨i,_,z⟩ | z
   ·exact(r.nb i a z).1
   ·exact z.1
  | base=>simp only[mY,XJ,if_false];exact aJ.same r.bs _ _ a
  | any=>simp only[mY,XJ,if_false];exact a
theorem aD {i:Nat}{x:Str}{pos':Pos}(hN:X.N.Nodup)(hi:X.N[i]? =some x)(hx:Loc X.env.scope x)(he:DE X K Ew e fe)(hs:swapsWith e (some (.Name x pos')) pos.line X.env=pure false:=by rfl)(hf:X.fn x=true∨X.env.scope.names.lookup x=some .local:=by first | exact .inl rfl | exact .inr rfl | assumption) :
  DS X K Ew (.Assign [.Name x pos'] e pos) (aL i fe):=(xE (i:=i) hN hi hx he hs hf).imp λD σ H q=>
 gu (g:=λx Γ=>ah (.nx (iR Γ i x.1 x.2))) q λB φ Γ k d v H1 r a q=>by
  obtain⟨B',φ',s',r'⟩:=jC r i a
  exact q B' φ' _ H1 s' r'
theorem t6 {i j:Nat}{x y:Str}{pos' pos2:Pos}(hN:X.N.Nodup)(hi:X.N[i]? =some x)(hx:Loc X.env.scope x)(hj:PE X (.Name y pos2) (kT j))(hs:swapsWith (.Name y pos2) (some (.Name x pos')) pos.line X.env=pure false:=by rfl)(hf:X.fn x=true∨X.env.scope.names.lookup x=some .local:=by first | exact .inl rfl | exact .inr rfl | assumption) :
  DS X K Ew (.Assign [.Name x pos'] (.Name y pos2) pos) (xQ i j):=(xE (i:=i) hN hi hx hj hs hf).imp λD σ H q=>by
 obtain⟨B,φ,Γ,r,q⟩:=q
 unfold xQ at q
 match hm:Γ[j]?,q with
 | some (some (true,d)),q=>
  obtain⟨v,h1,h2⟩:=r.sl j true d hm
  rw[JQ rfl] at h2
  refine⟨v,h1,?_⟩
  by_cases hn:bo d=true
  ·simp only[hn,if_true] at q
   exact q B _ _ H (Same.refl B) (r.put i (aJ.toT _ _ hn (IsT.toD _ _ _ h2)) X2 λa ha=>by cases ha)
  ·simp only[hn,if_false] at q
   by_cases hij:i=j
   ·simp only[hij,if_true] at q;exact False.elim q
   ·simp only[hij,if_false] at q
    refine q B _ _ H (Same.refl B) ((r.kill j).put i h2 (r.nd j) λa ha=>⟨(r.nb j a ha).1,λj' _ hj'=> ?_⟩)
    obtain⟨n1,n2⟩:=eX hj'
    exact r.dj j' j n1 a n2 ha
 | some (some (false,d)),q=>
  obtain⟨v,h1,h2⟩:=r.sl j false d hm
  rw[JV K5] at h2
  refine⟨v,h1,?_⟩
  obtain⟨B',φ',s',r'⟩:=jC (k:=cy .base d) r i (VR.av r (VR.cy r.bs (show VR K B φ H H .base d v from h2)))
  exact q B' φ' _ H s' r'
 | some none,q|none,q=>cases q
theorem gx {c:Expr}{a b:List Stmt}(hc:DT X K Ew c t)(ha:ze X K Ew a f)(hb:ze X K Ew b g):DS X K Ew (.If c a b pos) (kZ t f g):=(Bx hc ha hb).imp λD σ H q=>by
 obtain⟨B,φ,Γ,r,q⟩:=q
 refine⟨B,φ,Γ,r,?_⟩
 unfold kZ at q
 match hm:t Γ,q with
 | some (.ok true),q=>exact .inl ⟨true,rfl,λH1 s=>by show(if true=true then _ else _);rw[JQ rfl];exact⟨B,φ,Γ,r.same s,q⟩⟩
 | some (.ok false),q=>exact .inl ⟨false,rfl,λH1 s=>by show(if false=true then _ else _);rw[JV K5];exact⟨B,φ,Γ,r.same s,q⟩⟩
 | some (.ex c),q=>exact .inr ⟨c,rfl,q⟩
 | none,q=>cases q
end
def N0 (K:Frag)(B:Hp)(φ:Nat->List Addr)(H:Hp):Kd->List PyData->List V->Prop
 | .fr l,ds,vs=>∃as,az K H ds vs as/\as.Nodup/\∀a∈as,(∃i∈l,a∈φ i)∨(B a=none/\∀j,a∉φ j)
 | .base,ds,vs=>ar K B ds vs
 | .any,ds,vs=>ar K H ds vs
def tG (K:Frag)(g:GF):TG:=λv σ H Q=>∃B φ Γ k d Γ',Rep K B φ Γ σ H/\Av K B φ H k d v/\g k d Γ=some Γ'/\∀B' φ' σ',Same B B'->Rep K B' φ' Γ' σ' H->Q σ' H
def DG (X:Cx)(K:Frag)(e:Expr)(g:GF):Prop:=PG X e (tG K g)
theorem PG.imp {X:Cx}{e:Expr}{t t':TG}(h:PG X e t)(i:∀v σ H Q,t' v σ H Q->t v σ H Q):PG X e t':=λpins s σ H v u Q I r q=>h pins s σ H v u Q I r (i v σ H Q q)
def t7:List Nat->Gm
 | []=>Hk
 | i :: is=>vd (j3 i) (t7 is)
def pG (σ:St):List Nat->List V->St
 | i :: is,v :: vs=>pG (σ.set i (some v)) is vs
 | _,_=>σ
section
variable {X:Cx}{K:Frag}{Ew:Str->Hp->Prop}{pos:Pos}
theorem cP {i:Nat}{x:Str}(hN:X.N.Nodup)(hi:X.N[i]? =some x)(hx:Loc X.env.scope x)(hf:X.fn x=true∨X.env.scope.names.lookup x=some .local:=by first | exact .inl rfl | exact .inr rfl | assumption):DG X K (.Name x pos) (cN i) :=
 (bm (i:=i) hN hi hx hf).imp λv σ H Q q=>by
  obtain⟨B,φ,Γ,k,d,Γ',r,a,e,q⟩:=q
  cases e
  obtain⟨B',φ',s',r'⟩:=jC r i a
  exact q B' φ' _ s' r'
theorem lj:∀(is:List Nat) (vs:List V) (σ:St) (H:Hp) (Q:St->Hp->Prop),vs.length=is.length->Q (pG σ is vs) H->t7 is vs σ H Q
 | [],[],σ,H,Q,_,q=>⟨rfl,q⟩
 | i :: is,v :: vs,σ,H,Q,hl,q=>⟨v,vs,rfl,lj is vs _ H Q (by simpa using hl) q⟩
 | [],_ :: _,_,_,_,hl,_=>by simp at hl
 | _ :: _,[],_,_,_,hl,_=>by simp at hl
def N2:Kd->Prop
 | .fr []=>True
 | .fr (_ :: _)=>False
 | _=>True
theorem jc {H:Hp}{k:Kd}(hk:N2 k):∀(is:List Nat) (ds:List PyData) (vs:List V) {B:Hp} {φ:Nat->List Addr} {Γ:aW} {σ:St},ds.length=is.length->Rep K B φ Γ σ H->N0 K B φ H k ds vs->
  ∃B' φ',Same B B'/\Rep K B' φ' (pA Γ is k ds) (pG σ is vs) H
 | [],[],vs,B,φ,Γ,σ,_,r,a=>⟨B,φ,Same.refl B,by unfold pG pA;exact r⟩
 | [],_ :: _,_,_,_,_,_,hl,_,_=>by simp at hl
 | _ :: _,[],_,_,_,_,_,hl,_,_=>by simp at hl
 | i :: is,d :: ds,vs,B,φ,Γ,σ,hl,r,a=>by
  have hl':ds.length=is.length:=by simpa using hl
  match k,hk,a with
  | .fr [],_,a=>
   obtain⟨as,h1,h2,h3⟩:=a
   simp only[az] at h1
   obtain⟨v,vr,a1,a2,rfl,rfl,hv,tl⟩:=h1
   have h3':∀a∈a1++a2,B a=none/\∀j,a∉φ j:=λa ha=>by
    rcases h3 a ha with⟨_,z,_⟩ | z
    ·cases z
    ·exact z
   have hnd:=Xv.mp h2
   by_cases hn:bo d=true
   ·have e1:a1=[]:=IsT.nil _ _ _ hn hv
    subst e1
    have r1:=r.put i hv X2 λa ha=>by cases ha
    obtain⟨B',φ',s',r'⟩:=jc (k:=.fr []) trivial is ds vr hl' r1 ⟨a2,tl,hnd.2.1,λa ha=> .inr ⟨(h3' a (Kx _ ha)).1,λj=>by
     by_cases hj:j=i
     ·simp only[JQ hj];intro z;cases z
     ·simp only[JV hj];exact(h3' a (Kx _ ha)).2 j⟩⟩
    refine⟨B',φ',s',?_⟩
    simp only[pA,pG,cy,hn,if_true,iR]
    exact r'
   ·have r1:=r.put i hv hnd.1 λa ha=>⟨(h3' a (KW _ ha)).1,λj _=>(h3' a (KW _ ha)).2 j⟩
    obtain⟨B',φ',s',r'⟩:=jc (k:=.fr []) trivial is ds vr hl' r1 ⟨a2,tl,hnd.2.1,λa ha=> .inr ⟨(h3' a (Kx _ ha)).1,λj=>by
     by_cases hj:j=i
     ·simp only[JQ hj];intro z;exact hnd.2.2 a z a ha rfl
     ·simp only[JV hj];exact(h3' a (Kx _ ha)).2 j⟩⟩
    refine⟨B',φ',s',?_⟩
    simp only[pA,pG,cy,hn,if_false,iR]
    exact r'
  | .base,_,a=>
   have a':ar K B (d :: ds) vs:=a
   simp only[ar] at a'
   obtain⟨v,vr,rfl,hv,tl⟩:=a'
   obtain⟨B1,φ1,s1,r1⟩:=jC (k:=cy .base d) r i (VR.av r (VR.cy r.bs (show VR K B φ H H .base d v from hv)))
   obtain⟨B',φ',s',r'⟩:=jc (k:=.base) trivial is ds vr hl' r1 (ar.same s1 _ _ tl)
   exact⟨B',φ',s1.trans s',r'⟩
  | .any,_,a=>
   have a':ar K H (d :: ds) vs:=a
   simp only[ar] at a'
   obtain⟨v,vr,rfl,hv,tl⟩:=a'
   obtain⟨B1,φ1,s1,r1⟩:=jC (k:=cy .any d) r i (VR.av r (VR.cy r.bs (show VR K B φ H H .any d v from hv)))
   obtain⟨B',φ',s',r'⟩:=jc (k:=.any) trivial is ds vr hl' r1 tl
   exact⟨B',φ',s1.trans s',r'⟩
theorem Av.tup {B:Hp}{φ:Nat->List Addr}{H:Hp}{k:Kd}{ds:List PyData}{v:V}(s:Same B H)(h:Av K B φ H k (.tuple ds) v):∃a vs,v= .ref a/\dJ K H a vs/\N0 K B φ H (y_ k) ds vs/\vs.length=ds.length:=by
 match k,h with
 | .fr [],h=>
  obtain⟨as,h1,h2,h3⟩:=h
  obtain⟨a,vs,e,q,t⟩:=jA h1
  exact⟨a,vs,e,q,⟨as,t,h2,h3⟩,bE t⟩
 | .fr (j :: l),h=>
  obtain⟨as,h1,h2,h3⟩:=h
  obtain⟨a,vs,e,q,t⟩:=jA h1
  exact⟨a,vs,e,q,az.toD _ _ _ t,bE t⟩
 | .base,h=>
  obtain⟨a,vs,e,q,t⟩:=aE (show aJ K B (.tuple ds) v from h)
  exact⟨a,vs,e,s.k7 q,t,ao t⟩
 | .any,h=>
  obtain⟨a,vs,e,q,t⟩:=aE (show aJ K H (.tuple ds) v from h)
  exact⟨a,vs,e,q,t,ao t⟩
theorem vF (k:Kd):N2 (y_ k):=by
 match k with
 | .fr []=>trivial
 | .fr (_ :: _)=>trivial
 | .base=>trivial
 | .any=>trivial
theorem pH {es:List Expr}{k:Nat}{is:List Nat}(hc:X.calm=true)(hg:JL X es (t7 is))(hn:(assignEach es X.env).length=is.length:=by rfl)(hst:(assignEach es X.env).findIdx? (·.1)=none:=by rfl)(hK:X.K=K:=by rfl) :
  DG X K (.Tuple es k pos) (jx is):=(xC (n:=is.length) hc hg hn hst).imp λv σ H Q q=>by
 obtain⟨B,φ,Γ,k,d,Γ',r,a,e,q⟩:=q
 cases d <;> simp only[jx] at e <;> try (cases e;done)
 rename_i ds
 split at e
 ·rename_i hl
  cases e
  obtain⟨a',vs,rfl,hq,av,hlen⟩:=a.tup r.bs
  refine⟨a',vs,rfl,by rw[hK];exact hq,by omega,lj _ _ _ _ _ (!1) ?_⟩
  obtain⟨B',φ',s',r'⟩:=jc (vF k) is ds vs hl r av
  exact q B' φ' _ s' r'
 ·cases e
theorem Ia {tg e:Expr}{fe:EF}{g:GF}(he:DE X K Ew e fe)(hg:DG X K tg g)(hs:swapsWithSole [tg] e pos.line X.env=pure false:=by rfl)(hw:swappedStores [tg] e X.env=pure none:=by rfl)
  (h1:(assignEach [tg] X.env).map (·.2)=[assign tg X.env]:=by rfl):DS X K Ew (.Assign [tg] e pos) (Ak g fe):=(tz he hg hs hw h1).imp λD σ H q=>
 gu (g:=λx Γ=>ap (mo (g x.1 x.2 Γ)) λΓ'=>ah (.nx Γ')) q λB φ Γ k d v H1 r a q=>by
  cases e:g k d Γ with
  | none=>simp only[e] at q;exact False.elim q
  | some Γ'=>
   simp only[e] at q
   exact⟨B,φ,Γ,k,d,Γ',r,a,e,λB' φ' σ' s' r'=>q B' φ' σ' H1 s' r'⟩
structure t8 (K:Frag)(B:Hp)(J:It)(ds:List PyData):Prop where
 go:∀i H,i < ds.length->Same B H->J.go i H
 yl:∀i H x H',i < ds.length->Same B H->J.Kn i H x H'->Same H H'/\∃d,ds[i]? =some d/\∀B2,Same B B2->(∀a o,H a=none->H' a=some o->B2 a=some o)->aJ K B2 d x
 stop:∀H,Same B H->J.stop ds.length H
def vG (K:Frag)(Ew:Str->Hp->Prop)(B H:Hp)(Γ:aW)(σ:St)(R:It->Hp->Prop)(m:M (Kd×List PyData)):Prop:=match m with
 | some (.ok (k,ds))=>∀J H1 B1 ψ,Same H H1->Same B B1->Rep K B1 ψ (j0 k Γ) σ H1->t8 K B1 J ds->R J H1
 | some (.ex c)=>∀H',Same B H'->Ew c H'
 | none=>False
def tI (K:Frag)(Ew:Str->Hp->Prop)(it:IF):TI:=λσ H R=>∃B φ Γ,Rep K B φ Γ σ H/\vG K Ew B H Γ σ R (it Γ)
def DI (X:Cx)(K:Frag)(Ew:Str->Hp->Prop)(tg e:Expr)(it:IF):Prop:=PI X tg e (tI K Ew it)
theorem PI.imp {X:Cx}{tg e:Expr}{t t':TI}(h:PI X tg e t)(i:∀σ H R,t' σ H R->t σ H R):PI X tg e t':=λpins s σ H R I q=>h pins s σ H R I (i σ H R q)
theorem Rep.j0 {B H:Hp}{φ:Nat->List Addr}{Γ:aW}{σ:St}{k:Kd}{d:PyData}{v:V}(r:Rep K B φ Γ σ H)(h:Av K B φ H k d v) :
  ∃B1 ψ,Same B B1/\Rep K B1 ψ (j0 k Γ) σ H/\aJ K B1 d v:=by
 match k,h with
 | .fr [],h=>
  obtain⟨as,h1,h2,h3⟩:=h
  refine⟨gq φ H,φ,r.rC,r.cut,IsT.toB r.mu _ _ _ (λa ha o e=> ?_) h1⟩
  rw[cv]
  ·exact e
  ·rcases h3 a ha with⟨_,z,_⟩ | z
   ·cases z
   ·exact z.2
 | .fr (j :: l),h=>
  obtain⟨as,h1,h2,h3⟩:=h
  obtain⟨ψ,s1,r1,sub,hl⟩:=r.xP (j :: l)
  refine⟨_,_,s1,r1,IsT.toB (λa o e n=> ?_) _ _ _ (λa ha o e=> ?_) h1⟩
  ·rw[cv]
   ·exact e
   ·intro j' hj'
    obtain⟨o',e',m⟩:=(r.nb j' a (sub j' a hj')).2
    rw[e] at e';cases e'
    exact n m
  ·rw[cv]
   ·exact e
   ·intro j' hj'
    rcases h3 a ha with⟨i',hi',z⟩ | z
    ·by_cases hij:i'=j'
     ·subst hij;rw[hl _ hi'] at hj';cases hj'
     ·exact r.dj i' j' hij a z (sub j' a hj')
    ·exact z.2 j' (sub j' a hj')
 | .base,h=>exact⟨B,φ,Same.refl B,r,h⟩
 | .any,h=>
  obtain⟨s1,r1⟩:=r.tV
  exact⟨H,_,s1,r1,h⟩
theorem r_ {B:Hp}{a:Addr}{vs:List V}{ds:List PyData}(h:fV K B a vs)(t:ar K B ds vs):t8 K B (MK K a) ds where
 go:=λi H hi s=>by
  have hl:=ao t
  exact⟨vs,vs[i]'(!1),s.seq h,by simp⟩
 yl:=λi H x H' hi s y=>by
  obtain⟨rfl,y⟩:=y
  obtain⟨d,e,hd⟩:=g_ t (y vs (s.seq h))
  exact⟨Same.refl _,d,e,λB2 s2 _=>aJ.same s2 _ _ hd⟩
 stop:=λH s=>⟨vs,s.seq h,by rw[ao t];exact K2 _⟩
theorem BS {B:Hp}{a:Addr}{vs:List V}{ds:List PyData}(h:dJ K B a vs)(t:ar K B ds vs):t8 K B (ML K a) ds where
 go:=λi H hi s=>by
  have hl:=ao t
  exact⟨vs,vs[i]'(!1),s.k7 h,by simp⟩
 yl:=λi H x H' hi s y=>by
  obtain⟨rfl,y⟩:=y
  obtain⟨d,e,hd⟩:=g_ t (y vs (s.k7 h))
  exact⟨Same.refl _,d,e,λB2 s2 _=>aJ.same s2 _ _ hd⟩
 stop:=λH s=>⟨vs,s.k7 h,by rw[ao t];exact K2 _⟩
theorem BU {B:Hp}{m:Int}{n:Nat}:t8 K B (Ma m n) ((List.range n).map λi=> .int (m+(i:Nat))) where
 go:=λi H hi s=>by
  show i < n
  simpa using hi
 yl:=λi H x H' hi s y=>by
  obtain⟨rfl,rfl⟩:=y
  have hi':i < n:=by simpa using hi
  exact⟨Same.refl _,.int (m+(i:Nat)),by simp[hi'],λB2 s2 _=>bC⟩
 stop:=λH s=>by
  show n<=_
  simp
theorem lU {fe:EF}{g:Kd×PyData->aW->M (Kd×List PyData)}{σ:St}{H:Hp}{R:It->Hp->Prop}{R1:VK}(h:tI K Ew (λΓ=>ap (fe Γ) λx=>g x Γ) σ H R)
  (i:∀B φ Γ k d v H1,Rep K B φ Γ σ H1->Same H H1->Av K B φ H1 k d v->vG K Ew B H Γ σ R (g (k,d) Γ)->R1 v H1):tD K Ew fe σ H R1:=by
 obtain⟨B,φ,Γ,r,q⟩:=h
 refine⟨B,φ,Γ,r,?_⟩
 have q:vG K Ew B H Γ σ R (ap (fe Γ) λx=>g x Γ):=q
 match hm:fe Γ,q with
 | some (.ok (k,d)),q=>exact .inl ⟨k,d,rfl,λv H1 s hv=>i B φ Γ k d v H1 (r.same s) s (hv.av r) q⟩
 | some (.ex c),q=>exact .inr ⟨c,rfl,q⟩
 | none,q=>cases q
theorem Lg {tg l:Expr}{t t':TI}(h:PI X tg l t)(h':PI X tg l t'):PI X tg l (λσ H R=>t σ H R∨t' σ H R):=λpins s σ H R I q=>by
 rcases q with q | q
 ·exact h pins s σ H R I q
 ·exact h' pins s σ H R I q
theorem ll {tg l:Expr}{fe:EF}(hl:DE X K Ew l fe)(hK:X.K=K:=by rfl):DI X K Ew tg l (lG fe):=(Lg (yV hl) (Hn hl)).imp λσ H R q=>by
 have q0:=q
 obtain⟨B0,φ0,Γ0,r0,q0⟩:=q0
 have OG:(∃k xs,fe Γ0=some (.ok (k,.list xs)))∨(∃k xs,fe Γ0=some (.ok (k,.tuple xs)))∨∃c,fe Γ0=some (.ex c):=by
  unfold lG at q0
  match hm:fe Γ0,q0 with
  | some (.ok (k,.list xs)),q0=>exact .inl ⟨k,xs,rfl⟩
  | some (.ok (k,.tuple xs)),q0=>exact .inr (.inl ⟨k,xs,rfl⟩)
  | some (.ex c),q0=>exact .inr (.inr ⟨c,rfl⟩)
  | some (.ok (k,.none)),q0=>exact False.elim q0
  | some (.ok (k,.bool _)),q0=>exact False.elim q0
  | some (.ok (k,.int _)),q0=>exact False.elim q0
  | some (.ok (k,.str _)),q0=>exact False.elim q0
  | some (.ok (k,.dict _)),q0=>exact False.elim q0
  | none,q0=>exact False.elim q0
 rcases OG with⟨k,xs,e⟩ | ⟨k,xs,e⟩ | ⟨c,e⟩
 ·left
  refine⟨B0,φ0,Γ0,r0,.inl ⟨k,_,e,λv H1 s hv=> ?_⟩⟩
  simp only[lG,e] at q0
  obtain⟨B1,ψ,s1,r1,hd⟩:=(r0.same s).j0 (hv.av r0)
  obtain⟨a,vs,rfl,h1,h2⟩:=aZ hd
  rw[hK]
  exact⟨a,rfl,⟨vs,r1.bs.seq h1⟩,q0 _ H1 B1 ψ s s1 r1 (r_ h1 h2)⟩
 ·right
  refine⟨B0,φ0,Γ0,r0,.inl ⟨k,_,e,λv H1 s hv=> ?_⟩⟩
  simp only[lG,e] at q0
  obtain⟨B1,ψ,s1,r1,hd⟩:=(r0.same s).j0 (hv.av r0)
  obtain⟨a,vs,rfl,h1,h2⟩:=aE hd
  rw[hK]
  exact⟨a,rfl,⟨vs,r1.bs.k7 h1⟩,q0 _ H1 B1 ψ s s1 r1 (BS h1 h2)⟩
 ·left
  simp only[lG,e] at q0
  exact⟨B0,φ0,Γ0,r0,.inr ⟨c,e,q0⟩⟩
theorem dg {tg a:Expr}{fa:EF}{p:Pos}(hg:Gl X "range")(hm:X.mg "range" =none)(ha:DE X K Ew a fa)(hs:starEach [a] X.env=[(false,eval a X.env)]:=by rfl):DI X K Ew tg (.Call (.Name "range" p) [a] [] pos) (c_ fa) :=
 (Ab hg hm (bx ha cZ hs) hs).imp λσ H R q=>lU (g:=λx _=>Aj x.2) q λB φ Γ k d v H1 r s av q=>by
  replace q:vG K Ew B H Γ σ R (Aj d):=q
  cases d <;> try (exact False.elim q)
  rename_i n
  have hv:=aA (av.toD r.bs)
  subst hv
  by_cases hn:-(2^62)<=n/\n < 2^62
  ·simp only[Aj,JQ hn] at q
   refine⟨n,rfl,hn.1,hn.2,q _ H1 B φ s (Same.refl B) r ?_⟩
   have:=BU (K:=K) (B:=B) (m:=0) (n:=n.toNat)
   simpa only[Int.zero_add] using this
  ·simp only[Aj,JV hn] at q
   exact False.elim q
theorem bp {tg iter:Expr}{body:List Stmt}{it:IF}{g:GF}{fb:SF}(hp:PassesOwn (!6) X.A X.env X.xe)(hc:X.calm=true)(hi:DI X K Ew tg iter it)(hg:DG X K tg g)(hb:ze X K Ew body fb)
  (hs:∀x,foldedSetIterable iter X.env x=pure x:=by intro _;rfl):DS X K Ew (.For tg iter body [] pos) (bG it g fb):=(tF hp hc hi hg hb hs).imp λD σ H q=>by
 obtain⟨B,φ,Γ,r,q⟩:=q
 refine⟨B,φ,Γ,r,?_⟩
 unfold bG at q
 match hm:it Γ,q with
 | some (.ok (k,ds)),q=>
  intro J H1 B1 ψ s0 s1 r1 io
  have q:cM K Ew B1 (bf g fb ds (j0 k Γ)) D:=cM.base s1 q
  refine⟨λi m σ H=>m=ds.length - i/\i<=ds.length/\∃B2 φ2 Γ2,Same B1 B2/\Rep K B2 φ2 Γ2 σ H/\cM K Ew B1 (bf g fb (ds.drop i) Γ2) D,⟨ds.length,by simp,Xy _,B1,ψ,_,Same.refl B1,r1,by simpa using q⟩,?_⟩
  rintro i m σ2 H2 ⟨rfl,hi2,B2,φ2,Γ2,s2,r2,q2⟩
  by_cases hlt:i < ds.length
  ·refine .inr ⟨io.go i H2 hlt (s2.trans r2.bs),λσ' H'=>∃B3 φ3 Γ3,Same B1 B3/\Rep K B3 φ3 Γ3 σ' H'/\cM K Ew B1 (bf g fb (ds.drop (i+1)) Γ3) D,λσ' H' h'=>⟨ds.length - (i+1),by omega,rfl,hlt,h'⟩,λx H' y=> ?_⟩
   obtain⟨s3,d,e,hd⟩:=io.yl i H2 x H' hlt (s2.trans r2.bs) y
   have r3:=r2.same s3
   have xZ:aJ K (gq φ2 H') d x:=hd _ (s2.trans r3.rC) λa o e1 e2=>by
    rw[cv]
    ·exact e2
    ·intro j hj
     obtain⟨o',e',_⟩:=(r2.nb j a hj).2
     rw[e1] at e';cases e'
   have ed:ds.drop i=d :: ds.drop (i+1):=by
    rw[U5 hlt]
    congr 1
    rw[K3 hlt] at e
    exact Option.some.inj e
   rw[ed] at q2
   have q3:=q2
   simp only[bf] at q3
   cases BV:g (cy .base d) d Γ2 with
   | none=>simp only[BV] at q3;exact False.elim q3
   | some Γ3=>
    simp only[BV,bB,ay] at q3
    refine⟨gq φ2 H',φ2,Γ2,cy .base d,d,Γ3,r3.cut,VR.av r3.cut (VR.cy (jb _ _) (show VR K _ φ2 H' H' .base d x from xZ)),BV,λB4 φ4 σ4 s4 r4=> ?_⟩
    have sB:Same B1 B4:=(s2.trans r3.rC).trans s4
    refine⟨B4,φ4,Γ3,r4,?_⟩
    match hbm:fb Γ3,q3 with
    | some (.ok (.nx Γ')),q3=>exact λB' φ' σ' jB s' r'=>⟨B',φ',Γ',sB.trans s',r',q3⟩
    | some (.ok (.ct Γ')),q3=>exact λB' φ' σ' jB s' r'=>⟨B',φ',Γ',sB.trans s',r',q3⟩
    | some (.ok (.bk Γ')),q3=>exact λB' φ' σ' jB s' r'=>q3 B' φ' σ' jB (sB.trans s') r'
    | some (.ok (.rt o d)),q3=>exact λv jB s' rv=>q3 v jB (sB.trans s') (rv.base sB)
    | some (.ex c),q3=>exact λjB s'=>q3 jB (sB.trans s')
    | none,q3=>exact False.elim q3
  ·have e:i=ds.length:=by omega
   subst e
   rw[List.drop_length] at q2
   exact .inl ⟨io.stop H2 (s2.trans r2.bs),q2 B2 φ2 σ2 H2 s2 r2⟩
 | some (.ex c),q=>exact q
 | none,q=>cases q
theorem vH (n:Nat){c:Expr}{body:List Stmt}{t:TF}{fb:SF}(hp:PassesOwn (!6) X.A X.env X.xe)(hc:DT X K Ew c t)(hb:ze X K Ew body fb):DS X K Ew (.While c body [] pos) (pB n t fb):=(Bz hp hc hb).imp λD σ H q=>by
 obtain⟨B,φ,Γ,r,q⟩:=q
 refine⟨λm σ H=>∃B2 φ2 Γ2,Same B B2/\Rep K B2 φ2 Γ2 σ H/\cM K Ew B (eG m t fb Γ2) D,⟨n,B,φ,Γ,Same.refl B,r,q⟩,?_⟩
 rintro m σ2 H2 ⟨B2,φ2,Γ2,s2,r2,q2⟩
 cases m with
 | zero=>exact False.elim q2
 | succ m=>
  refine⟨B2,φ2,Γ2,r2,?_⟩
  simp only[eG] at q2
  match hm:t Γ2,q2 with
  | some (.ok true),q2=>
   refine .inl ⟨true,rfl,λH3 s3=> ?_⟩
   show(if true=true then _ else _)
   rw[JQ rfl]
   refine⟨λσ' H'=>∃B3 φ3 Γ3,Same B B3/\Rep K B3 φ3 Γ3 σ' H'/\cM K Ew B (eG m t fb Γ3) D,λσ' H' h=>⟨m,Uj _,h⟩,B2,φ2,Γ2,r2.same s3,?_⟩
   have q3:cM K Ew B (ap (fb Γ2) λo=>(match o with
    | .nx Γ'=>eG m t fb Γ'
    | .ct Γ'=>eG m t fb Γ'
    | .bk Γ'=>ah (.nx Γ')
    | .rt o d=>ah (.rt o d))) D:=q2
   match hbm:fb Γ2,q3 with
   | some (.ok (.nx Γ')),q3=>exact λB' φ' σ' jB s' r'=>⟨B',φ',Γ',s2.trans s',r',q3⟩
   | some (.ok (.ct Γ')),q3=>exact λB' φ' σ' jB s' r'=>⟨B',φ',Γ',s2.trans s',r',q3⟩
   | some (.ok (.bk Γ')),q3=>exact λB' φ' σ' jB s' r'=>q3 B' φ' σ' jB (s2.trans s') r'
   | some (.ok (.rt o d)),q3=>exact λv jB s' rv=>q3 v jB (s2.trans s') (rv.base s2)
   | some (.ex c),q3=>exact λjB s'=>q3 jB (s2.trans s')
   | none,q3=>exact False.elim q3
  | some (.ok false),q2=>
   refine .inl ⟨false,rfl,λH3 s3=> ?_⟩
   show(if false=true then _ else _)
   rw[JV K5]
   exact q2 B2 φ2 σ2 H3 s2 (r2.same s3)
  | some (.ex c),q2=>exact .inr ⟨c,rfl,λH' s'=>q2 H' (s2.trans s')⟩
  | none,q2=>exact False.elim q2
end
def t9 (K:Frag)(B:Hp)(φ:Nat->List Addr):Hp->Hp->List (Kd×PyData)->List V->Prop
 | _,_,[],vs=>vs=[]
 | H,H',x :: xs,vs=>∃v r H1,vs=v :: r/\Same H H1/\Same H1 H'/\VR K B φ H H1 x.1 x.2 v/\t9 K B φ H1 H' xs r
def tA (K:Frag)(Ew:Str->Hp->Prop)(fs:List EF):TA:=λσ H Q=>∃B φ Γ,Rep K B φ Γ σ H/\match eArgs fs Γ with
 | some (.ok xs)=>∀vs H',Same H H'->t9 K B φ H H' xs vs->Q vs H'
 | some (.ex c)=>∀H',Same B H'->Ew c H'
 | none=>False
def DA (X:Cx)(K:Frag)(Ew:Str->Hp->Prop)(es:List Expr)(fs:List EF):Prop:=PA X es (tA K Ew fs)
theorem PA.imp {X:Cx}{es:List Expr}{t t':TA}(h:PA X es t)(i:∀σ H Q,t' σ H Q->t σ H Q):PA X es t':=λpos pins s σ H Q I q=>h pos pins s σ H Q I (i σ H Q q)
section
variable {X:Cx}{K:Frag}{Ew:Str->Hp->Prop}{pos:Pos}{e:Expr}{es:List Expr}{fe:EF}{fs:List EF}
theorem am:DA X K Ew [] []:=cZ.imp λσ H Q q=>by
 obtain⟨B,φ,Γ,r,q⟩:=q
 exact q [] H (Same.refl H) (by unfold t9;rfl)
theorem ab (h1:DE X K Ew e fe)(h2:DA X K Ew es fs)(hs:starEach (e :: es) X.env=(false,eval e X.env) :: starEach es X.env:=by rfl):DA X K Ew (e :: es) (fe :: fs):=(bx h1 h2 hs).imp λσ H Q q=>by
 obtain⟨B,φ,Γ,r,q⟩:=q
 refine⟨B,φ,Γ,r,?_⟩
 simp only[eArgs] at q
 match hm:fe Γ,q with
 | some (.ok (k,d)),q=>
  refine .inl ⟨k,d,rfl,λv H1 s1 hv=>⟨B,φ,Γ,r.same s1,?_⟩⟩
  match hm2:eArgs fs Γ,q with
  | some (.ok xs),q=>exact λvs H2 s2 hvs=>q (v :: vs) H2 (s1.trans s2) (by unfold t9;exact⟨v,vs,H1,rfl,s1,s2,hv,hvs⟩)
  | some (.ex c),q=>exact q
  | none,q=>cases q
 | some (.ex c),q=>exact .inr ⟨c,rfl,q⟩
 | none,q=>cases q
theorem t9.toD {B:Hp}{φ:Nat->List Addr}:∀{xs:List (Kd×PyData)} {vs:List V} {H H':Hp},Same B H->Same H H'->t9 K B φ H H' xs vs->ar K H' (xs.map Prod.snd) vs
 | [],vs,H,H',_,_,h=>by unfold t9 at h;subst h;exact aY
 | x :: xs,vs,H,H',s,s',h=>by
  unfold t9 at h
  obtain⟨v,r,H1,rfl,s1,s2,hv,tl⟩:=h
  exact aV (aJ.same s2 _ _ (hv.toD (s.trans s1))) (t9.toD (s.trans s1) s2 tl)
theorem t9.fresh {B:Hp}{φ:Nat->List Addr}:∀{xs:List (Kd×PyData)} {vs:List V} {H H':Hp},bK xs= .fr []->Same H H'->t9 K B φ H H' xs vs->∃as,az K H' (xs.map Prod.snd) vs as/\as.Nodup/\∀a∈as,H a=none
 | [],vs,H,H',_,_,h=>by unfold t9 at h;subst h;exact⟨[],i_,X2,λa ha=>by cases ha⟩
 | (k,d) :: xs,vs,H,H',hk,s',h=>by
  match k,hk with
  | .fr [],hk=>
   unfold t9 at h
   obtain⟨v,r,H1,rfl,s1,s2,hv,tl⟩:=h
   obtain⟨as,h1,h2,h3⟩:=VR.fresh.mp hv
   obtain⟨bs,g1,g2,g3⟩:=t9.fresh (xs:=xs) (by simpa [bK] using hk) s2 tl
   refine⟨as++bs,ja (IsT.same s2 _ _ _ h1) g1,Xv.mpr ⟨h2,g2,λa ha b hb e=> ?_⟩,λa ha=> ?_⟩
   ·subst e
    obtain⟨o,e,_⟩:=IsT.live _ _ _ h1 a ha
    rw[g3 a hb] at e;cases e
   ·rcases Kk.mp ha with ha | ha
    ·exact h3 a ha
    ·exact s1.free (g3 a ha)
  | .fr (_ :: _),hk=>simp[bK] at hk
  | .base,hk=>simp[bK] at hk
  | .any,hk=>simp[bK] at hk
theorem sd (xs:List (Kd×PyData)):bK xs= .fr []∨bK xs= .any:=by
 induction xs with
 | nil=>exact .inl rfl
 | cons x xs ih=>
  obtain⟨k,d⟩:=x
  match k with
  | .fr []=>simpa [bK] using ih
  | .fr (_ :: _)=>exact .inr rfl
  | .base=>exact .inr rfl
  | .any=>exact .inr rfl
theorem kF {Γ:aW}:∀{fs:List EF} {xs:List (Kd×PyData)},eArgs fs Γ=some (.ok xs)->xs.length=fs.length
 | [],xs,h=>by simp only[eArgs,ah] at h;cases h;rfl
 | f :: fs,xs,h=>by
  simp only[eArgs] at h
  match hf:f Γ,h with
  | some (.ok x),h=>
   match hr:eArgs fs Γ,h with
   | some (.ok ys),h=>cases h;rw[Kz,Kz,kF hr]
   | some (.ex c),h=>cases h
   | none,h=>cases h
  | some (.ex c),h=>cases h
  | none,h=>cases h
theorem t9.len {B:Hp}{φ:Nat->List Addr}:∀{xs:List (Kd×PyData)} {vs:List V} {H H':Hp},t9 K B φ H H' xs vs->vs.length=xs.length
 | [],vs,H,H',h=>by unfold t9 at h;subst h;rfl
 | x :: xs,vs,H,H',h=>by
  unfold t9 at h
  obtain⟨v,r,H1,rfl,s1,s2,hv,tl⟩:=h
  rw[Kz,Kz,tl.len]
theorem oX {g:List (Kd×PyData)->M (Kd×PyData)}{σ:St}{H:Hp}{Q:VK}{R:List V->Hp->Prop}(h:tD K Ew (λΓ=>ap (eArgs fs Γ) g) σ H Q)
  (i:∀B φ Γ xs vs H1,Rep K B φ Γ σ H->Rep K B φ Γ σ H1->Same H H1->eArgs fs Γ=some (.ok xs)->t9 K B φ H H1 xs vs->Runs K Ew B φ H (g xs) Q->R vs H1):tA K Ew fs σ H R:=by
 obtain⟨B,φ,Γ,r,q⟩:=h
 refine⟨B,φ,Γ,r,?_⟩
 replace q:Runs K Ew B φ H (ap (eArgs fs Γ) g) Q:=q
 match hm:eArgs fs Γ,q with
 | some (.ok xs),q=>exact λvs H1 s hv=>i B φ Γ xs vs H1 r (r.same s) s hm hv q
 | some (.ex c),q=>
  rcases q with⟨k,d,e,_⟩ | ⟨c',e,q⟩
  ·cases e
  ·cases e;exact q
 | none,q=>rcases q with⟨k,d,e,_⟩ | ⟨c',e,q⟩ <;> cases e
theorem ci {x1}(h:DA X K Ew es fs)(hl:fs.length<=1000:=by decide):DE X K Ew (.Tuple es x1 pos) (fM fs):=(Hz h).imp λσ H Q q=>
 oX (g:=λ(xs:List (Kd×PyData))=>ah (cy (bK xs) (.tuple (xs.map Prod.snd)),.tuple (xs.map Prod.snd))) q λB φ Γ xs vs H1 r r1 s hx hv q=>by
  have hz:vs.length<=1000:=by rw[hv.len,kF hx];exact hl
  refine⟨KJ hz (by decide),λp hp=> ?_⟩
  rcases q with⟨k,d,e,q⟩ | ⟨c,e,q⟩
  ·cases e
   refine q _ _ (s.trans (Same.upd hp)) (VR.cy (r1.bs.trans (Same.upd hp)) ?_)
   rcases sd xs with hk | hk
   ·rw[hk]
    obtain⟨as,h1,h2,h3⟩:=hv.fresh hk s
    exact⟨as,zd (dJ.of aw) (az.same (Same.upd hp) _ _ _ h1),h2,λa ha=> .inr (h3 a ha)⟩
   ·rw[hk]
    exact oW (dJ.of aw) (ar.same (Same.upd hp) _ _ (hv.toD r.bs s))
  ·cases e
theorem bL (h:DA X K Ew es fs)(hl:fs.length<=1000:=by decide):DE X K Ew (.List es pos) (dw fs):=(BB h).imp λσ H Q q=>
 oX (g:=λ(xs:List (Kd×PyData))=>ah (bK xs,.list (xs.map Prod.snd))) q λB φ Γ xs vs H1 r r1 s hx hv q=>by
  have hz:vs.length<=1000:=by rw[hv.len,kF hx];exact hl
  refine⟨KJ hz (by decide),λp hp=> ?_⟩
  rcases q with⟨k,d,e,q⟩ | ⟨c,e,q⟩
  ·cases e
   refine q _ _ (s.trans (Same.upd hp)) ?_
   rcases sd xs with hk | hk
   ·rw[hk]
    obtain⟨as,h1,h2,h3⟩:=hv.fresh hk s
    refine⟨p :: as,dy aw (az.same (Same.upd hp) _ _ _ h1),KU.mpr ⟨λz=> ?_,h2⟩,λa ha=> .inr ?_⟩
    ·obtain⟨o,e,_⟩:=az.live _ _ _ h1 p z
     rw[hp] at e;cases e
    ·rcases K0.mp ha with rfl | ha
     ·exact s.free hp
     ·exact h3 a ha
   ·rw[hk]
    exact tX (fV.of aw) (ar.same (Same.upd hp) _ _ (hv.toD r.bs s))
  ·cases e
theorem vI {f:Value}{g:List PyData->Option PyData}{r:List V->Hp->VK->Prop}{σ:St}{H:Hp}{Q:VK}
  (hx:∀xs z us H Q,g xs=some z->ar K H xs us->(∀w H',Same H H'->aS K H H' z w->Q w H')->r us H Q) (q:tD K Ew (j2 g fs) σ H Q):MV r (tA K Ew fs) σ H Q :=
 oX (g:=λ(xs:List (Kd×PyData))=>ap (mo (g (xs.map Prod.snd))) λz=>ah (.fr [],z)) q λB φ Γ xs vs H1 r0 r1 s hx' hv q=>by
  obtain⟨z,e,q⟩:=gR (kf:=λ_=> .fr []) q
  exact hx _ z vs H1 Q e (hv.toD r0.bs s) λw H' s' f=>q w H' (s.trans s') (VR.fresh.mpr (f.from s))
theorem cj {x:Str}{id:String}{p:Pos}{g:List PyData->Option PyData}{Ap:List EF}(hc:CallD X (.builtin id) g)(hg:Gl X x)(hm:X.mg x=none)(hv:bootBuiltins x=some (.builtin id))(ha:DA X K Ew (e :: es) Ap)(hK:X.K=K:=by rfl)(hn:x≠ "__name__":=by decide)(hdb:(x==("__debug__":Str))=false:=by decide)
  (he:starEach (e :: es) X.env=(false,eval e X.env) :: starEach es X.env:=by rfl) (hpl:(backTo pos (starEach es X.env)).any (·.1)=false:=by rfl):DE X K Ew (.Call (.Name x p) (e :: es) [] pos) (j2 g Ap):=by
 obtain⟨r,hr,hx⟩:=hc
 rw[hK] at hx
 exact(vh hr hg hm hv ha hn hdb he hpl).imp λσ H Q q=>vI (f:=.builtin id) hx q
theorem bN {x:Str}{T:String}{p:Pos}{g:List PyData->Option PyData}{Ap:List EF}(hc:CallD X (.type T) g)(hg:Gl X x)(hm:X.mg x=none)(hv:bootBuiltins x=some (.type T))(ha:DA X K Ew (e :: es) Ap)(hK:X.K=K:=by rfl)(hn:x≠ "__name__":=by decide)(hdb:(x==("__debug__":Str))=false:=by decide)
  (he:starEach (e :: es) X.env=(false,eval e X.env) :: starEach es X.env:=by rfl) (hpl:(backTo pos (starEach es X.env)).any (·.1)=false:=by rfl):DE X K Ew (.Call (.Name x p) (e :: es) [] pos) (j2 g Ap):=by
 obtain⟨r,hr,hx⟩:=hc
 rw[hK] at hx
 exact(Ae hr hg hm hv ha hn hdb he hpl).imp λσ H Q q=>vI (f:=.type T) hx q
def ju (K:Frag)(n:Nat)(F:FF):Sp:=λvs H Q _=>∃ds,ds.length=n/\ar K H ds vs/\match F ds with
 | some (.ok (o,d))=>∀v H',Same H H'->RV K H H' o d v->Q v H'
 | _=>False
theorem EJ {n:Nat}{CX:yW}{k:Nat}{f:Addr}{fd:FuncData}{ps:List Str}{F:FF}{x:Str}{p:Pos}{Ap:List EF}{E:XK}(G:iZ X.prog X.w X.K X.mg X.base CX k f fd ps (ju K n F))(hr:dM k X.A)(hg:Gl X x)(hm:X.mg x=some (.ref f))(hk:keepIn X.K (.ref f)=true)(hb:Binds X.K fd ps [])(hx:Passes CX X E)
  (ha:DA X K Ew (e :: es) Ap) (hn:Ap.length=n:=by rfl) (hE:∀c H,¬ Ew c H:=by exact λ_ _ h=>h) (hdb:(x==("__debug__":Str))=false:=by decide) (he:starEach (e :: es) X.env=(false,eval e X.env) :: starEach es X.env:=by rfl) (hpl:(backTo pos (starEach es X.env)).any (·.1)=false:=by rfl) :
  DE X K Ew (.Call (.Name x p) (e :: es) [] pos) (aR F Ap):=(yX G hr hg hm hk hb .nil hx ha hdb he hpl).imp λσ H Q q=>
 oX (g:=λ(xs:List (Kd×PyData))=>ap (F (xs.map Prod.snd)) λr=>ah (cy (if r.1=true then .fr [] else .any) r.2,r.2)) q λB φ Γ xs vs H1 r r1 s hx' hv q=>by
  rw[Xj]
  refine⟨xs.map Prod.snd,by rw[K4,kF hx'];exact hn,hv.toD r.bs s,?_⟩
  match hF:F (xs.map Prod.snd),q with
  | some (.ok (o,d)),q=>
   intro v H' s' rv
   rcases q with⟨k,d',e,q⟩ | ⟨c,e,q⟩
   ·cases e
    refine q v H' (s.trans s') (VR.cy (r1.bs.trans s') ?_)
    unfold RV at rv
    cases o with
    | true=>
     rw[JQ rfl] at rv⊢
     obtain⟨as,h1,h2,h3⟩:=rv
     exact⟨as,h1,h2,λa ha=> .inr (s.free (h3 a ha))⟩
    | false=>
     rw[JV K5] at rv⊢
     exact rv
   ·cases e
  | some (.ex c),q=>
   rcases q with⟨k,d',e,q⟩ | ⟨c,e,q⟩
   ·cases e
   ·exact hE _ _ (q H1 r1.bs)
  | none,q=>rcases q with⟨k,d',e,q⟩ | ⟨c,e,q⟩ <;> cases e
theorem Aq {H:Hp}{ds:List PyData}{vs:List V}(N:List Str)(h:ar K H ds vs):Rep K H (λ_=> []) (da N.length ds) (start N vs) H where
 bs:=Same.refl H
 len:=by
  have:=ao h
  unfold da start
  simp[this]
 sl:=λi o d e=>by
  have hl:=ao h
  unfold da at e
  by_cases hi:i < ds.length
  ·rw[Xx (by simpa using hi),KY] at e
   cases hd:ds[i]? with
   | none=>rw[hd] at e;cases e
   | some d'=>
    rw[hd] at e
    cases e
    obtain⟨v,h1,h2⟩:=gm h hd
    refine⟨v,?_,?_⟩
    ·unfold start
     rw[Xx (by simp;omega),KY,h1];rfl
    ·rw[JV K5];exact h2
  ·rw[Xu (by simpa using hi),J2] at e
   split at e <;> cases e
 nd:=λ_=>X2
 nb:=λ_ a ha=>by cases ha
 dj:=λ_ _ _ a ha=>by cases ha
theorem D5.OH {P:Program}{w:World}{mg:Str->Option Value}{base:Heap}{x qual:Str}{st:Stmt}{f:Addr}{fd:FuncData}{N ps:List Str}{k:Nat}{fb:SF}(F:D5 K x qual st f fd)(S:aK N ps (ak st))
  (hbody:∀(cdv:Value) (A:Around) (outer:List Env) (s:Shared) (H:Hp) (E:XK),dM k (A.deeper (envOfC qual (ak st) s.heap.objs.size f cdv))->
   ze (rh y9 P w K mg base N qual (ak st) f cdv A outer s H E).Bn K (λ_ _=>False) (dY st) fb):iZ P w K mg base y9 (k+1) f fd ps (ju K ps.length (cA N.length fb)):=by
 refine F.ok S (λvs H Q E h=> ?_) λcdv A outer s H vs Q E hr h=>⟨_,hbody cdv A outer s H E hr,?_⟩
 ·obtain⟨ds,h1,h2,_⟩:=h
  rw[ao h2];exact h1
 ·obtain⟨ds,h1,h2,h3⟩:=h
  refine⟨H,_,_,Aq N h2,?_⟩
  unfold cA at h3
  match hf:fb (da N.length ds),h3 with
  | some (.ok (.rt o d)),h3=>exact h3
  | some (.ok (.nx Γ)),h3=>
   exact λB' φ σ H' s' r=>h3 .non H' (s'.trans r.bs) (by unfold RV;rw[JQ rfl];exact⟨[],aJ.toT _ _ rfl zb,X2,λa ha=>by cases ha⟩)
  | some (.ok (.bk Γ)),h3=>exact False.elim h3
  | some (.ok (.ct Γ)),h3=>exact False.elim h3
  | some (.ex c),h3=>exact False.elim h3
  | none,h3=>exact False.elim h3
end
section
variable {X:Cx}{K:Frag}{Ew:Str->Hp->Prop}{pos:Pos}
theorem VR.ofList {B:Hp}{φ:Nat->List Addr}{H0 H:Hp}{k:Kd}{ds:List PyData}{u:V}(s:Same B H)(h:VR K B φ H0 H k (.list ds) u) :
  ∃p vs,u= .ref p/\fV K H p vs/\vs.length=ds.length/\∀(j:Nat) (d:PyData),ds[j]? =some d->∃w,vs[j]? =some w/\VR K B φ H0 H k d w:=by
 cases k with
 | fr l=>
  obtain⟨as,h1,h2,h3⟩:=h
  obtain⟨a,vs,bs,rfl,e,t,rfl⟩:=bz h1
  refine⟨a,vs,rfl,fV.of e,bE t,λj d hd=> ?_⟩
  obtain⟨w,cs,hw,hT,sub⟩:=pE t hd
  have sub':cs.Sublist (a :: bs):=sub.trans (List.sublist_cons_self _ _)
  exact⟨w,hw,cs,hT,h2.sublist sub',λx hx=>h3 x (sub'.subset hx)⟩
 | base=>
  obtain⟨a,vs,rfl,e,t⟩:=aZ (show aJ K B (.list ds) u from h)
  exact⟨a,vs,rfl,s.seq e,ao t,λj d hd=>gm t hd⟩
 | any=>
  obtain⟨a,vs,rfl,e,t⟩:=aZ (show aJ K H (.list ds) u from h)
  exact⟨a,vs,rfl,e,ao t,λj d hd=>gm t hd⟩
theorem VR.Li {B:Hp}{φ:Nat->List Addr}{H0 H:Hp}{k:Kd}{ds:List PyData}{u:V}(s:Same B H)(h:VR K B φ H0 H k (.tuple ds) u) :
  ∃p vs,u= .ref p/\dJ K H p vs/\vs.length=ds.length/\∀(j:Nat) (d:PyData),ds[j]? =some d->∃w,vs[j]? =some w/\VR K B φ H0 H k d w:=by
 cases k with
 | fr l=>
  obtain⟨as,h1,h2,h3⟩:=h
  obtain⟨a,vs,rfl,e,t⟩:=jA h1
  refine⟨a,vs,rfl,e,bE t,λj d hd=> ?_⟩
  obtain⟨w,cs,hw,hT,sub⟩:=pE t hd
  exact⟨w,hw,cs,hT,h2.sublist sub,λx hx=>h3 x (sub.subset hx)⟩
 | base=>
  obtain⟨a,vs,rfl,e,t⟩:=aE (show aJ K B (.tuple ds) u from h)
  exact⟨a,vs,rfl,s.k7 e,ao t,λj d hd=>gm t hd⟩
 | any=>
  obtain⟨a,vs,rfl,e,t⟩:=aE (show aJ K H (.tuple ds) u from h)
  exact⟨a,vs,rfl,e,ao t,λj d hd=>gm t hd⟩
theorem se {ds:List PyData}{vs:List V}{i:Int}{z:PyData}(hl:vs.length=ds.length)(h:rA ds i=some z):∃j:Nat,ds[j]? =some z/\∀w,vs[j]? =some w->HE vs i=some w:=by
 unfold rA at h
 cases e:Y.nM ds.length i with
 | none=>rw[e] at h;cases h
 | some j=>
  rw[e] at h
  refine⟨j,h,λw hw=> ?_⟩
  unfold HE
  rw[show L2.nM vs.length i=Y.nM ds.length i by rw[hl];rfl,e]
  exact hw
theorem oY:M7 X kY:=⟨_,HH,λB φ H0 k x y z u v H Q s e hx hy q=>by
 cases x <;> cases y <;> simp only[kY] at e <;> try (cases e;done)
 ·rename_i x i
  split at e
  ·rename_i hz
   have h1:=h9 (hx.toD s)
   have h2:=aA hy
   subst h1 h2
   cases hc:rA x.cps.toList i with
   | none=>rw[hc] at e;cases e
   | some c=>
    rw[hc] at e
    cases e
    exact .inr (.inr ⟨x,i,c,rfl,rfl,hz,hc,q _ (by rw[show cy k (.str ⟨#[c]⟩)= .fr [] from rfl];exact VR.li rfl zc [])⟩)
  ·cases e
 ·rename_i xs i
  have h2:=aA hy
  subst h2
  obtain⟨p,vs,rfl,hq,hl,hg⟩:=VR.ofList s hx
  obtain⟨j,hj,hw⟩:=se hl e
  obtain⟨w,h3,h4⟩:=hg j z hj
  exact .inl ⟨p,vs,i,w,rfl,rfl,hq,hw w h3,q w (h4.cy s)⟩
 ·rename_i xs i
  have h2:=aA hy
  subst h2
  obtain⟨p,vs,rfl,hq,hl,hg⟩:=VR.Li s hx
  obtain⟨j,hj,hw⟩:=se hl e
  obtain⟨w,h3,h4⟩:=hg j z hj
  exact .inr (.inl ⟨p,vs,i,w,rfl,rfl,hq,hw w h3,q w (h4.cy s)⟩)⟩
theorem dh {H:Hp}{d:PyData}{us:List V}(h:ar K H [d] us):∃u,us=[u]/\aJ K H d u:=by
 simp only[ar] at h
 obtain⟨v,r,rfl,hv,rfl⟩:=h
 exact⟨v,rfl,hv⟩
theorem ck:CallD X (.builtin "len") j7:=⟨_,tM.or tP,λxs z us H Q e h q=>by
 match xs,e,h with
 | [.list ds],e,h=>
  cases e
  obtain⟨u,rfl,hu⟩:=dh h
  obtain⟨a,vs,rfl,h1,h2⟩:=aZ hu
  exact .inl ⟨a,vs,rfl,.inl h1,by rw[ao h2];exact q _ H (Same.refl H) (aS.li rfl bC)⟩
 | [.tuple ds],e,h=>
  cases e
  obtain⟨u,rfl,hu⟩:=dh h
  obtain⟨a,vs,rfl,h1,h2⟩:=aE hu
  exact .inl ⟨a,vs,rfl,.inr h1,by rw[ao h2];exact q _ H (Same.refl H) (aS.li rfl bC)⟩
 | [.str x],e,h=>
  simp only[j7] at e
  split at e
  ·rename_i hz
   cases e
   obtain⟨u,rfl,hu⟩:=dh h
   have:=h9 hu
   subst this
   exact .inr ⟨x,rfl,hz,q _ H (Same.refl H) (aS.li rfl bC)⟩
  ·cases e⟩
theorem pI:CallD X (.type "list") nN:=⟨_,tR,λxs z us H Q e h q=>by
 match xs,e,h with
 | [.list ds],e,h=>
  simp only[nN] at e
  split at e
  ·rename_i hn
   cases e
   obtain⟨u,rfl,hu⟩:=dh h
   obtain⟨a,vs,rfl,h1,h2⟩:=aZ hu
   exact⟨a,vs,rfl,.inl h1,λl hl=>q _ _ (Same.upd hl) (aS.lst hn aw (ar.same (Same.upd hl) _ _ h2) hl)⟩
  ·cases e
 | [.tuple ds],e,h=>
  simp only[nN] at e
  split at e
  ·rename_i hn
   cases e
   obtain⟨u,rfl,hu⟩:=dh h
   obtain⟨a,vs,rfl,h1,h2⟩:=aE hu
   exact⟨a,vs,rfl,.inr h1,λl hl=>q _ _ (Same.upd hl) (aS.lst hn aw (ar.same (Same.upd hl) _ _ h2) hl)⟩
  ·cases e⟩
theorem bR:CallD X (.type "tuple") eF:=⟨_,rl,λxs z us H Q e h q=>by
 match xs,e,h with
 | [.list ds],e,h=>
  simp only[eF] at e
  split at e
  ·rename_i hn
   cases e
   obtain⟨u,rfl,hu⟩:=dh h
   obtain⟨a,vs,rfl,h1,h2⟩:=aZ hu
   exact⟨a,vs,rfl,.inl ⟨h1,λl hl=>q _ _ (Same.upd hl) (aS.tup hn (dJ.of aw) (ar.same (Same.upd hl) _ _ h2))⟩⟩
  ·cases e
 | [.tuple ds],e,h=>
  simp only[eF] at e
  split at e
  ·rename_i hn
   cases e
   obtain⟨u,rfl,hu⟩:=dh h
   obtain⟨a,vs,rfl,h1,h2⟩:=aE hu
   exact⟨a,vs,rfl,.inr ⟨h1,q _ H (Same.refl H) (aS.li (by rw[bo];exact hn) hu)⟩⟩
  ·cases e⟩
def OI:PyData->String
 | .none=> "NoneType"
 | .bool _=> "bool"
 | .int _=> "int"
 | .str _=> "str"
 | .list _=> "list"
 | .tuple _=> "tuple"
 | .dict _=> "dict"
theorem EK (K:Frag):∀n∈["int","bool","str","list","tuple","dict"],∀d:PyData,PySem.W.kitOne K (.type (OI d)) (.type n)=some (pz n d):=by
 intro n hn d
 simp only[K0,List.mem_nil_iff,or_false] at hn
 rcases hn with rfl | rfl | rfl | rfl | rfl | rfl <;> cases d <;> first | rfl | (unfold PySem.W.kitOne PySem.W.kitCls;decide+kernel)
theorem Ar:hX X (.builtin "isinstance") (λxs H Q=>∃x d n,xs=[x,.ty n]/\aJ X.K H d x/\n∈["int","bool","str","list","tuple","dict"]/\Q (.bl (pz n d)) H):=by
 intro pins s σ H xs us Q I r h
 obtain⟨x,d,n,rfl,hd,hn,q⟩:=h
 obtain⟨u,w,rfl,ru,xL⟩:=r.two
 cases(show w=Value.type n from xL)
 have e:=EK X.K n hn d
 have fin:∀tk,EP X pins σ Q (.bool (pz n d)) {s with toks:=tk}:=λtk=>⟨.bl _,H,I.tok tk,rfl,q⟩
 cases d with
 | none=>have:=lh hd;subst this;cases(show u=Value.none from ru);exact PySem.W.kia_one PySem.W.kitx_none I.z_ True.intro e (λz=>nomatch z) fin
 | bool y=>have:=i9 hd;subst this;cases(show u=Value.bool y from ru);exact PySem.W.kia_one PySem.W.kitx_bool I.z_ True.intro e (λz=>nomatch z) fin
 | int i=>have:=aA hd;subst this;obtain⟨t,q⟩:=(show∃t,u=Value.int i t from ru);cases q;exact PySem.W.kia_one PySem.W.kitx_int I.z_ True.intro e (λz=>nomatch z) fin
 | str y=>have:=h9 hd;subst this;obtain⟨t,q⟩:=(show∃t,u=Value.str y t from ru);cases q;exact PySem.W.kia_one PySem.W.kitx_str I.z_ True.intro e (λz=>nomatch z) fin
 | list ds=>
  obtain⟨a,vs,rfl,h1,_⟩:=aZ hd
  cases(show u=Value.ref a from ru)
  obtain⟨its,rv,⟨o,n,h1,hc,_,hd⟩,_⟩:=I.list h1
  exact PySem.W.kia_one PySem.W.kitx_list I.z_ ⟨_,h1,hc⟩ e (λz=>nomatch z) fin
 | tuple ds=>
  obtain⟨a,vs,rfl,h1,_⟩:=aE hd
  cases(show u=Value.ref a from ru)
  obtain⟨its,rv,⟨o,h1,hc,n,hd⟩,_⟩:=I.tuple h1
  exact PySem.W.kia_one PySem.W.kitx_tuple I.z_ ⟨o,h1,hc⟩ e (λz=>nomatch z) fin
 | dict kvs=>
  obtain⟨a,ks,rfl,h1,_⟩:=b_ hd
  cases(show u=Value.ref a from ru)
  obtain⟨⟨_,_,_,_,o,es,h1,hc,_⟩,_⟩:=h1.ok I.hok
  exact PySem.W.kia_one PySem.W.kitx_dict I.z_ ⟨o,h1,hc.1⟩ e (λz=>nomatch z) fin
theorem t_ {n:String}{x:Str}{a:Expr}{fa:EF}{p p2:Pos}(hn:n∈["int","bool","str","list","tuple","dict"])(hg:Gl X "isinstance")(hm:X.mg "isinstance" =none)(ha:DE X K Ew a fa)(ht:PE X (.Name x p2) (tC (.ty n)))(hK:X.K=K:=by rfl)
  (he:starEach [a,.Name x p2] X.env=(false,eval a X.env) :: starEach [.Name x p2] X.env:=by rfl) (he2:starEach [.Name x p2] X.env=(false,eval (.Name x p2) X.env) :: starEach [] X.env:=by rfl) (hpl:(backTo pos (starEach [.Name x p2] X.env)).any (·.1)=false:=by rfl) :
  DE X K Ew (.Call (.Name "isinstance" p) [a,.Name x p2] [] pos) (vp n fa):=(vh Ar hg hm PyProof.Rows.boot_isinstance (bx ha (bx ht cZ he2) he) (by decide) (by decide) he hpl).imp λσ H Q q=>by
 obtain⟨B,φ,Γ,r,q⟩:=q
 refine⟨B,φ,Γ,r,(q.bind r).mono λu H1 s1 ⟨k,d,e1,v1,r1,_,q1⟩=> ?_⟩
 refine⟨u,d,n,rfl,by rw[hK];exact v1.toD r1.bs,hn,?_⟩
 rcases q1 with⟨k,d',e,q1⟩ | ⟨c,e,q1⟩
 ·cases e;exact q1 _ H1 s1 (VR.li rfl cL [])
 ·cases e
theorem Rep.own {B H:Hp}{φ:Nat->List Addr}{Γ:aW}{σ:St}(r:Rep K B φ Γ σ H){i:Nat}{d:PyData}(h:Γ[i]? =some (some (true,d))):∃v,σ[i]? =some (some v)/\IsT K H d v (φ i):=by
 obtain⟨v,h1,h2⟩:=r.sl i true d h
 rw[JQ rfl] at h2
 exact⟨v,h1,h2⟩
theorem Rep.chg {B H:Hp}{φ:Nat->List Addr}{Γ:aW}{σ:St}{i:Nat}{l:Addr}{o o':HO}{d:PyData}{v:V}{as:List Addr}(r:Rep K B φ Γ σ H)(hi:l∈φ i)(hl:H l=some o)(hm:eS o)(hv:σ[i]? =some (some v))
  (ht:IsT K (upd H l o') d v as) (hnd:as.Nodup) (hs:∀a∈as,a∈φ i∨(B a=none/\∀j,a∉φ j)) (hm':eS o'):Rep K B (λj=>if j=i then as else φ j) (Γ.set i (some (true,d))) σ (upd H l o'):=by
 have hB:B l=none:=(r.nb i l hi).1
 have hn:∀j,j≠i->l∉φ j:=λj hj z=>r.dj j i hj l z hi
 have r1:Rep K B φ (Γ.set i none) σ (upd H l o'):={
  bs:=r.bs.HV hB
  len:=by rw[XW];exact r.len
  sl:=λj o d' e=>by
   by_cases hj:j=i
   ·subst hj
    by_cases hlt:j < Γ.length
    ·rw[U8 hlt] at e;cases e
    ·rw[Xq (by rw[XW];omega)] at e;cases e
   ·rw[Xw (Ne.symm hj)] at e
    obtain⟨w,h1,h2⟩:=r.sl j o d' e
    refine⟨w,h1,?_⟩
    cases o with
    | true=>rw[JQ rfl] at h2⊢;exact IsT.upd hl hm _ _ _ (hn j hj) h2
    | false=>rw[JV K5] at h2⊢;exact h2
  nd:=r.nd
  nb:=λj a ha=>by
   refine⟨(r.nb j a ha).1,?_⟩
   by_cases hal:a=l
   ·subst hal;exact⟨o',aw,hm'⟩
   ·obtain⟨o2,e2,m2⟩:=(r.nb j a ha).2
    exact⟨o2,by rw[aO hal];exact e2,m2⟩
  dj:=r.dj}
 have r2:=r1.put i ht hnd λa ha=>by
  rcases hs a ha with z | z
  ·exact⟨(r.nb i a z).1,λj hj hz=>r.dj j i hj a hz z⟩
  ·exact⟨z.1,λj _=>z.2 j⟩
 rw[List.set_set] at r2
 have e:σ.set i (some v)=σ:=by
  apply List.ext_getElem?
  intro j
  by_cases hj:j=i
  ·subst hj
   have hlt:j < σ.length:=(X1.mp hv).1
   rw[U8 hlt,hv]
  ·rw[Xw (Ne.symm hj)]
 rw[e] at r2
 exact r2
variable {o e:Expr}{fe:EF}{apos cpos:Pos}
theorem eY {i:Nat}(ho:PE X o (kT i))(he:DE X K Ew e fe)(hK:X.K=K:=by rfl)
  (hbase:attributeBase o "append" X.env (eval o X.env)=eval o X.env:=by rfl)
  (hfew:((backTo cpos (starEach [e] X.env)).all (λx=> !x.1) && (backToKw cpos (keywordEach [] X.env)).all (λx=>x.1.isSome)
   && decide (([e]:List Expr).length+([]:List Keyword).length+(if ([]:List Keyword).isEmpty then 0 else 1) < 30))=true:=by rfl)
  (hline:(apos.endLine==cpos.line)=true:=by rfl) (hs:starEach [e] X.env=(false,eval e X.env) :: starEach [] X.env:=by rfl) (hplain:(backTo cpos (starEach [] X.env)).any (·.1)=false:=by rfl)
  (hsw:swapsWith (.Call (.Attribute o "append" apos) [e] [] cpos) none pos.line X.env=pure false:=by rfl) :
  DS X K Ew (.Expr (.Call (.Attribute o "append" apos) [e] [] cpos) pos) (iS i fe) :=
 (kD (y7 PySem.F.plainAttrs_list PySem.F.slot_list_append PySem.F.type_list_append mW ho (bx he cZ hs) hbase hfew hline hs hplain) hsw).imp λD σ H q=>by
  obtain⟨B,φ,Γ,r,q⟩:=q
  unfold iS at q
  match hg:Γ[i]?,q with
  | some (some (true,.list xs)),q=>
   obtain⟨v,hv,hT⟩:=r.own hg
   obtain⟨l,vs,bs,rfl,hl,ht,hφ⟩:=bz hT
   refine⟨.ref l,hv,.inl ⟨rfl,vs,fV.of hl⟩,B,φ,Γ,r,?_⟩
   match hm:fe Γ,q with
   | some (.ok (k,d)),q=>
    refine .inl ⟨k,d,rfl,λy H1 s1 hy=> ?_⟩
    have r1:=r.same s1
    have hl1:=s1 _ _ hl
    have hlen:vs.length=xs.length:=bE ht
    have av:=hy.av r
    have hli:l∈φ i:=by rw[hφ];exact K8
    match k,q,av with
    | .fr [],q,av=>
     by_cases hz:xs.length < sizeLine
     ·replace q:cM K Ew B (ah (.nx (Γ.set i (some (true,.list (xs++[d])))))) D:=by simpa only[ap,JQ hz] using q
      refine⟨l,vs,y,rfl,rfl,hl1,by omega,?_⟩
      obtain⟨as,h1,h2,h3⟩:=av
      have h3':∀a∈as,B a=none/\∀j,a∉φ j:=λa ha=>by
       rcases h3 a ha with⟨_,z,_⟩ | z
       ·cases z
       ·exact z
      have Lj:l∉as:=λz=>(h3' l z).2 i hli
      have hnd:=r.nd i
      rw[hφ] at hnd
      have hnb:l∉bs:=(KU.mp hnd).1
      refine q B _ σ _ (Same.refl B) (r1.chg (d:=.list (xs++[d])) (as:=l :: (bs++as)) hli hl1 trivial hv ?_ ?_ ?_ trivial)
      ·exact dy aw (df (az.upd hl1 trivial _ _ _ hnb (az.same s1 _ _ _ ht)) (by
        have:=ja (IsT.upd (o':=.lst (vs++[y])) hl1 trivial _ _ _ Lj h1) (i_ (K:=K))
        rwa [Xj] at this))
      ·refine KU.mpr ⟨λz=> ?_,Xv.mpr ⟨(KU.mp hnd).2,h2,λa ha b hb e=> ?_⟩⟩
       ·rcases Kk.mp z with z | z
        ·exact hnb z
        ·exact Lj z
       ·subst e
        exact(h3' a hb).2 i (by rw[hφ];exact K9 _ ha)
      ·intro a ha
       rcases K0.mp ha with rfl | ha
       ·exact .inl hli
       ·rcases Kk.mp ha with ha | ha
        ·exact .inl (by rw[hφ];exact K9 _ ha)
        ·exact .inr (h3' a ha)
     ·simp only[ap,JV hz] at q
      exact False.elim q
    | .fr [j],q,av=>
     by_cases hz:xs.length < sizeLine/\i≠j
     ·replace q:cM K Ew B (ah (.nx ((Γ.set j none).set i (some (true,.list (xs++[d])))))) D:=by simpa only[ap,JQ hz] using q
      refine⟨l,vs,y,rfl,rfl,hl1,by omega,?_⟩
      obtain⟨as,h1,h2,h3⟩:=av
      have h3':∀a∈as,a∈φ j∨(B a=none/\∀j',a∉φ j'):=λa ha=>by
       rcases h3 a ha with⟨j',z,z2⟩ | z
       ·rw[K6.mp z] at z2;exact .inl z2
       ·exact .inr z
      have Lj:l∉as:=λz=>by
       rcases h3' l z with z | z
       ·exact r.dj i j hz.2 l hli z
       ·exact z.2 i hli
      have hnd:=r.nd i
      rw[hφ] at hnd
      have hnb:l∉bs:=(KU.mp hnd).1
      have r2:=r1.kill j
      have hdi:Ao φ j i=φ i:=JV hz.2
      refine q B _ σ _ (Same.refl B) (r2.chg (d:=.list (xs++[d])) (as:=l :: (bs++as)) (by rw[hdi];exact hli) hl1 trivial hv ?_ ?_ ?_ trivial)
      ·exact dy aw (df (az.upd hl1 trivial _ _ _ hnb (az.same s1 _ _ _ ht)) (by
        have:=ja (IsT.upd (o':=.lst (vs++[y])) hl1 trivial _ _ _ Lj h1) (i_ (K:=K))
        rwa [Xj] at this))
      ·refine KU.mpr ⟨λz=> ?_,Xv.mpr ⟨(KU.mp hnd).2,h2,λa ha b hb e=> ?_⟩⟩
       ·rcases Kk.mp z with z | z
        ·exact hnb z
        ·exact Lj z
       ·subst e
        have hai:a∈φ i:=by rw[hφ];exact K9 _ ha
        rcases h3' a hb with z | z
        ·exact r.dj i j hz.2 a hai z
        ·exact z.2 i hai
      ·intro a ha
       rw[hdi]
       rcases K0.mp ha with rfl | ha
       ·exact .inl hli
       ·rcases Kk.mp ha with ha | ha
        ·exact .inl (by rw[hφ];exact K9 _ ha)
        ·rcases h3' a ha with z | z
         ·refine .inr ⟨(r.nb j a z).1,λj' hj'=> ?_⟩
          obtain⟨n1,n2⟩:=eX hj'
          exact r.dj j' j n1 a n2 z
         ·exact .inr ⟨z.1,λj' hj'=>z.2 j' (eX hj').2⟩
     ·simp only[ap,JV hz] at q
      exact False.elim q
    | .fr (_ :: _ :: _),q,_=>exact False.elim q
    | .base,q,_=>exact False.elim q
    | .any,q,_=>exact False.elim q
   | some (.ex c),q=>exact .inr ⟨c,rfl,q⟩
   | none,q=>cases q
  | some (some (true,.none)),q|some (some (true,.bool _)),q|some (some (true,.int _)),q|some (some (true,.str _)),q|some (some (true,.tuple _)),q|some (some (true,.dict _)),q|some (some (false,_)),q|some none,q|none,q=>cases q
end
section
variable {K:Frag}{H H':Hp}
theorem dJ.mv {a:Addr}{xs:List V}(e:∀a o,H a=some o->¬ eS o->H' a=some o)(h:dJ K H a xs):dJ K H' a xs:=dJ.toB e h
mutual
theorem IsT.mv (e:∀a o,H a=some o->¬ eS o->H' a=some o):∀(d:PyData) (v:V) (as:List Addr),(∀a∈as,∀o,H a=some o->H' a=some o)->IsT K H d v as->IsT K H' d v as
 | .none,v,as,_,h=>by simpa only[IsT] using h
 | .bool b,v,as,_,h=>by simpa only[IsT] using h
 | .int i,v,as,_,h=>by simpa only[IsT] using h
 | .str x,v,as,_,h=>by simpa only[IsT] using h
 | .list xs,v,as,m,h=>by
  simp only[IsT] at h⊢
  obtain⟨a,vs,bs,e1,h1,h2,rfl⟩:=h
  exact⟨a,vs,bs,e1,m a K8 _ h1,az.mv e xs vs bs (λb hb=>m b (K9 _ hb)) h2,rfl⟩
 | .tuple xs,v,as,m,h=>by
  simp only[IsT] at h⊢
  obtain⟨a,vs,e1,h1,h2⟩:=h
  exact⟨a,vs,e1,h1.mv e,az.mv e xs vs as m h2⟩
 | .dict kvs,v,as,m,h=>by
  simp only[IsT] at h⊢
  obtain⟨a,ks,bs,e1,h1,h2,rfl⟩:=h
  exact⟨a,ks,bs,e1,m a K8 _ h1,aM.mv e kvs ks.1 bs (λb hb=>m b (K9 _ hb)) h2,rfl⟩
theorem az.mv (e:∀a o,H a=some o->¬ eS o->H' a=some o):∀(ds:List PyData) (vs:List V) (as:List Addr),(∀a∈as,∀o,H a=some o->H' a=some o)->az K H ds vs as->az K H' ds vs as
 | [],vs,as,_,h=>by simpa only[az] using h
 | d :: ds,vs,as,m,h=>by
  simp only[az] at h⊢
  obtain⟨v,r,a1,a2,e1,rfl,h1,h2⟩:=h
  exact⟨v,r,a1,a2,e1,rfl,IsT.mv e d v a1 (λb hb=>m b (KW _ hb)) h1,az.mv e ds r a2 (λb hb=>m b (Kx _ hb)) h2⟩
theorem aM.mv (e:∀a o,H a=some o->¬ eS o->H' a=some o):∀(ds:List (PyData×PyData)) (ks:List (PyData×V×V)) (as:List Addr),(∀a∈as,∀o,H a=some o->H' a=some o)->aM K H ds ks as->aM K H' ds ks as
 | [],ks,as,_,h=>by simpa only[aM] using h
 | (k,d) :: r,ks,as,m,h=>by
  simp only[aM] at h⊢
  obtain⟨kv,v,q,a1,a2,e1,rfl,h1,h2,h3⟩:=h
  exact⟨kv,v,q,a1,a2,e1,rfl,IsT.mv e k kv [] (λb hb=>by cases hb) h1,IsT.mv e d v a1 (λb hb=>m b (KW _ hb)) h2,aM.mv e r q a2 (λb hb=>m b (Kx _ hb)) h3⟩
end
end
open Classical in
noncomputable def gU (D:Addr)(H:Hp):Hp:=λa=>if a=D then none else H a
theorem iE {D a:Addr}{H:Hp}(h:a≠D):gU D H a=H a:=by unfold gU;rw[JV h]
theorem jd {D:Addr}{H:Hp}:gU D H D=none:=by unfold gU;rw[JQ rfl]
theorem je {D:Addr}{H:Hp}:Same (gU D H) H:=λa o e=>by
 by_cases h:a=D
 ·subst h;rw[jd] at e;cases e
 ·rw[iE h] at e;exact e
theorem kG {D:Addr}{H H':Hp}(s:Same H H'):Same (gU D H) (gU D H'):=λa o e=>by
 by_cases h:a=D
 ·subst h;rw[jd] at e;cases e
 ·rw[iE h] at e⊢;exact s a o e
theorem sf {D:Addr}{H0 H:Hp}(h:H0 D=none)(s:Same H0 H):Same H0 (gU D H):=λa o e=>by
 rw[iE (cX e h)];exact s a o e
theorem vJ {D:Addr}{H:Hp}{o:HO}:gU D (upd H D o)=gU D H:=by
 funext a
 by_cases h:a=D
 ·subst h;rw[jd,jd]
 ·rw[iE h,iE h,aO h]
theorem As {xs:List (Kd×PyData)}{x:Kd×PyData}(h:gk (xs++[x])=some (.fr [])):gk xs=some (.fr [])/\x.1= .fr []:=by
 induction xs with
 | nil=>
  obtain⟨k,d⟩:=x
  match k,h with
  | .fr [],h=>exact⟨rfl,rfl⟩
  | .fr (_ :: _),h=>simp[gk] at h
  | .base,h=>simp[gk] at h
  | .any,h=>simp[gk] at h
 | cons y xs ih=>
  obtain⟨k,d⟩:=y
  match k,h with
  | .fr [],h=>
   simp only[U6,gk] at h⊢
   exact ih h
  | .fr (_ :: _),h=>simp[gk] at h
  | .base,h=>
   simp only[U6,gk] at h
   cases e:gk (xs++[x]) with
   | none=>rw[e] at h;cases h
   | some k=>rw[e] at h;cases h
  | .any,h=>simp[gk] at h
theorem BW {xs:List (Kd×PyData)}{k:Kd}(h:gk xs=some k):(k= .fr []∨k= .any)/\∀x∈xs,x.1= .fr []∨x.1= .base:=by
 induction xs generalizing k with
 | nil=>cases h;exact⟨.inl rfl,λx hx=>by cases hx⟩
 | cons y xs ih=>
  obtain⟨k',d⟩:=y
  match k',h with
  | .fr [],h=>
   simp only[gk] at h
   obtain⟨h1,h2⟩:=ih h
   exact⟨h1,λx hx=>by rcases K0.mp hx with rfl | hx;exact .inl rfl;exact h2 x hx⟩
  | .fr (_ :: _),h=>simp[gk] at h
  | .base,h=>
   simp only[gk] at h
   cases e:gk xs with
   | none=>rw[e] at h;cases h
   | some k2=>
    rw[e] at h;cases h
    obtain⟨h1,h2⟩:=ih e
    exact⟨.inr rfl,λx hx=>by rcases K0.mp hx with rfl | hx;exact .inr rfl;exact h2 x hx⟩
  | .any,h=>simp[gk] at h
abbrev x0:Str->Hp->Prop:=λ_ _=>False
section
variable {X:Cx}{K:Frag}{Ew:Str->Hp->Prop}{pos px:Pos}{scope:Scope}{v:Str}{F:List Str}{ix:List Nat}{elt iter:Expr}{ifs:List Expr}{it:IF}{ft:TF}{fe:EF}
theorem eZ {Y:Cx}:Bo Y [] (D6 K x0 ce):=λpins s σ H Q I q=>by
 obtain⟨B,φ,Γ,r,q⟩:=q
 rcases q with⟨b,e,q⟩ | ⟨c,e,q⟩
 ·cases e;exact Et pins s σ H Q I (q H (Same.refl H))
 ·cases e
theorem zl {Y:Cx}{c:Expr}(h:DT Y K x0 c ft):Bo Y [c] (D6 K x0 ft):=Eu h
end
theorem BX:typeLookup (.type "list_reverseiterator") "__len__" =pure none:=by(rw[typeLookup_type,builtinLookup_eq_fast]);(kernel_rfl)
theorem EL:typeLookup (.type "list_reverseiterator") "__length_hint__" =pure (some (.builtin "list_reverseiterator.__length_hint__")):=by(rw[typeLookup_type,builtinLookup_eq_fast]);(kernel_rfl)
section
variable {prog:Program}{w:World}{A:Around}{E:Z3}{s:Shared}{I:Addr}{fp wr:List Addr}{G:Array GenState->Array GenState->Prop}{n:Nat}{P:Nat->Value->Prop}{St:Nat->Shared->Prop}
theorem x4 {Q:List Value->Shared->Prop}(W:WalksS prog w A.in1 I fp wr G n P St)(hT:∀i s,St i s->s.TypeIs (.ref I) "list_reverseiterator")(st0:St 0 s)(hfp:∀b∈fp,b < s.heap.objs.size)(hI:I∈fp)
  (hn:n<=sizeLine) (hQ:∀s' acc,Moved wr G s s'->ItemsOf P acc n->Q acc.toList s'):wpAny (!3) A (collect (.ref I)) Q E s:=by
 have nS:s.heap.objs.size∉fp:=λhm=>U3 _ (hfp _ hm)
 have nI:s.heap.objs.size≠I:=λe=>nS (e ▸ hI)
 unfold collect
 refine JZ (wpAny_runValue (codeAny_builtin F.entry_proto_collect ?_));rw[Around.under_plainId F.plain_proto_collect _]
 show wpAny _ A.in1 (newList [] >>=λl=>again (.builtin "list.__iadd__" ⟨[l,.ref I],[]⟩)) _ _ s
 refine JZ (Z5 ?_);refine JW ⟨plainId_quiet F.plain_list_iadd _,codeAny_builtin F.entry_list_iadd ?_⟩;rw[Around.under_plainId F.plain_list_iadd _]
 have st1:=W.frame 0 s (s.heap.push {cls:=.type "list",data:=.seq ([]:List Value).toArray}) s.toks st0 (K2 _) (λb _ o e=>K7 _ e)
 have new1:(s.heap.push {cls:=.type "list",data:=.seq ([]:List Value).toArray}).get? s.heap.objs.size=some {cls:=.type "list",data:=.seq ([]:List Value).toArray}:=(Ky _ rfl)
 have h1:Builtin.List.listSameRef (!7) (.ref I)=false:=by(simp[Builtin.List.listSameRef,nI])
 show wpAny _ A.in1 (Builtin.List.listExtendWith (!7) (.ref I) (!7)) _ _ _;unfold Builtin.List.listExtendWith
 refine JZ (wpAny_typeOf (hT 0 _ st1) ?_)
 rw[JV (by rw[h1];decide)];refine JZ (W.self 0 _ _ _ st1 ?_);refine JZ (Z7 ?_);unfold Builtin.List.listLengthHint
 refine JZ (Z4 (hT 0 _ st1) BX ?_)
 show wpAny _ A.in1 (specialOf (Value.ref I) (Str.ofString "__length_hint__") >>=_) _ _ _;refine JZ (Z4 (hT 0 _ st1) EL ?_)
 generalize hid:("list_reverseiterator.__length_hint__":String)=id0
 wp_delta
 rw[show splitId id0=some ("list_reverseiterator","__length_hint__") from by subst hid;decide+kernel]
 subst hid
 refine JZ (wpAny_isInstance (b:=true) (hT 0 _ st1) (by rw[isSubtype_type];kernel_rfl) ?_);refine JW ?_;rw[JV (by decide)]
 refine JW ⟨plainId_quiet F.plain_extend_loop _,codeAny_extend_loopS W hn _ nS _ n 0 _ _ _ rfl (Xy _) st1 new1 (ItemsOf.nil P) λs' acc' c' hm hS' hacc=> ?_⟩
 show wpAny _ A (load s.heap.objs.size >>=_) _ _ s';refine JZ (wpAny_load hS' ?_)
 exact JW (hQ s' acc' (Moved.drop_new (o:={cls:=.type "list",data:=.seq ([]:List Value).toArray}) (tk:=s.toks) hm (K2 _)) hacc)
theorem vK {Q1:Z3}(W:WalksS prog w A.in1.in1 I fp wr G n P St)(hT:∀i s,St i s->s.TypeIs (.ref I) "list_reverseiterator")(st0:St 0 s)(hfp:∀b∈fp,b < s.heap.objs.size)(hI:I∈fp)
  (hn:n<=sizeLine) (h:∀s' acc,Moved wr G s s'->ItemsOf P acc n->Q1 (.ref s'.heap.objs.size) {s' with heap:=s'.heap.push {cls:=.type "tuple",data:=.seq acc}}) :
  codeAny (!3) A (.call (.builtin "tuple.__new__") ⟨[.type "tuple",.ref I],[]⟩) (wants Q1 E) s:=by
 refine codeAny_of_tree ?_
 show wpAny _ A.in1 (do checkBuiltinCall "tuple.__new__" ⟨[.type "tuple",.ref I],[]⟩;again (.builtin "tuple.__new__" ⟨[.type "tuple",.ref I],[]⟩)) _ _ s;refine JZ (wpAny_of_eq (F.newCall_tuple_1 _) (JW ⟨plainId_quiet F.plain_tuple_new _,codeAny_builtin F.entry_tuple_new ?_⟩))
 rw[Around.under_plainId F.plain_tuple_new _];have hsub:=sub_tuple_self;have hinit:=init_tuple_lookup;have hmh:=madeHere_tuple;have hTI:=hT 0 s st0
 wp_walk using wpAny_typeOf hTI,x4 W hT st0 hfp hI hn
 intro s' acc hm hacc
 show wpAny _ _ (Builtin.Tuple.tupleExact acc.toList.toArray >>=λv=>ret v) _ _ _;unfold Builtin.Tuple.tupleExact
 refine JZ (Z5 ?_ (by show acc.toList.toArray.size<=sizeLine;(simp only[Array.toArray_toList]);(rw[hacc.1]);exact hn));refine JW ?_
 have e:acc.toList.toArray=acc:=(by simp)
 rw[e];exact h s' acc hm hacc
theorem ua {Q:Z3}(W:WalksS prog w A.in1.in1.in1 I fp wr G n P St)(hT:∀i s,St i s->s.TypeIs (.ref I) "list_reverseiterator")(st0:St 0 s)(hfp:∀b∈fp,b < s.heap.objs.size)(hI:I∈fp)
  (hn:n<=sizeLine) (hQ:∀s' acc,Moved wr G s s'->ItemsOf P acc n->Q (.ref s'.heap.objs.size) {s' with heap:=s'.heap.push {cls:=.type "tuple",data:=.seq acc}}):wpAny (!3) A (call (.type "tuple") [.ref I]) Q E s:=by
 refine callType_codes (Q₁:=λobj s1=>s1.TypeIs obj "tuple" /\Q obj s1) F.called_tuple (F.typeCall_tuple_1 _) F.entry_object_init (vK W hT st0 hfp hI hn λs' acc hm hacc=>⟨⟨_,Ky _ rfl,rfl⟩,hQ s' acc hm hacc⟩) λobj s1 q=> ?_
 exact⟨q.1,F.args_object_init_2 obj _,object_init_meets F.called_tuple.init.lookup F.called_tuple.made (by decide) prog w A.in1 _ s1 ⟨q.1,rfl,q.2⟩⟩
end
section
variable {X:Cx}{K:Frag}{Ew:Str->Hp->Prop}{pos pos2 p p2:Pos}{a e o:Expr}{ta:TE}{fa fe:EF}{apos cpos:Pos}
def EM (K:Frag)(ta:TE):TE:=λσ H Q=>ta σ H λx H1=>∃q ys,x= .ref q/\fV K H1 q ys/\∀t,H1 t=none->Q (.ref t) (upd H1 t (.tup ys.reverse))
theorem Au {its:List Value}{acc:Array Value}(h:ItemsOf (λi v=>its.toArray[its.toArray.size - 1 - i]? =some v) acc its.toArray.size):acc=its.reverse.toArray:=by
 apply Array.ext'
 apply List.ext_getElem?
 intro i
 have hs:acc.toList.length=its.length:=by simpa using h.1
 by_cases hi:i < its.length
 ·have hi':i < acc.toList.length:=by omega
  have e1:acc.toList[i]? =some (acc.toList[i]'hi'):=K3 hi'
  have e2:=h.2 i (acc.toList[i]'hi') (by rw[←Uy];exact e1)
  rw[e1,List.getElem?_reverse hi,←e2]
  simp
 ·rw[Xq (!1),Xq (by simp;omega)]
theorem Aw (hc:X.calm=true)(hg:Gl X "tuple")(hm:X.mg "tuple" =none)(hg2:Gl X "reversed")(hm2:X.mg "reversed" =none)(ha:PE X a ta)
  (hs:starEach [a] X.env=(false,eval a X.env) :: starEach [] X.env:=by rfl) (hpl:(backTo pos2 (starEach [] X.env)).any (·.1)=false:=by rfl)
  (hs2:starEach [.Call (.Name "reversed" p2) [a] [] pos2] X.env=(false,eval (.Call (.Name "reversed" p2) [a] [] pos2) X.env) :: starEach [] X.env:=by rfl) (pJ:(backTo pos (starEach [] X.env)).any (·.1)=false:=by rfl)
  (hnil:backTo pos (starEach [] X.env)=[]:=by rfl) :
  PE X (.Call (.Name "tuple" p) [.Call (.Name "reversed" p2) [a] [] pos2] [] pos) (EM X.K ta):=by
 intro pins s σ H Q I h
 refine wpAny_Call_Name_kw (fK I hg hm PyProof.Rows.boot_tuple ?_)
 refine PyProof.Rows.callWith_type1 ?_ hs2 pJ
 rw[hs2]
 show wpAny _ _ (spliced ((false,eval (.Call (.Name "reversed" p2) [a] [] pos2) X.env) :: backTo pos (starEach [] X.env))) _ _ s
 refine Calls.spliced_cons ?_
 refine wpAny_Call_Name_kw (fK I hg2 hm2 PyProof.Rows.boot_reversed ?_)
 refine PyProof.Rows.callWith_type1 (cW (bx ha cZ hs pos2 pins s σ H (λvs H1=>match vs with
  | [x]=>∃q ys,x= .ref q/\fV X.K H1 q ys/\∀t,H1 t=none->Q (.ref t) (upd H1 t (.tup ys.reverse))
  | _=>False) I h) λus s1 ⟨vs,H1,I1,r1,q1⟩=> ?_) hs hpl
 match vs,r1,q1 with
 | [x],r1,q1=>
  obtain⟨q,ys,rfl,hq,fin⟩:=q1
  obtain⟨u,rfl,ru⟩:=r1.one
  cases ru
  obtain⟨its,rv,pl,hz⟩:=I1.list hq
  refine call_reversed_list pl.isList ?_
  rw[hnil]
  refine Calls.spliced_nil ?_
  have hfr:=I1.fresh
  have I2:Inv X pins σ H1 {s1 with heap:=s1.heap.push (revObj q ((its.toArray.size:Int) - 1))}:=I1.kept (t':=s1.toks) λb u e=>K7 _ e
  have hit:(s1.heap.push (revObj q ((its.toArray.size:Int) - 1))).IsRevIter s1.heap.objs.size q ((its.toArray.size:Int) - 1):=⟨_,Ky _ rfl,rfl,rfl⟩
  have OJ:(s1.heap.push (revObj q ((its.toArray.size:Int) - 1))).IsList q its.toArray:=pl.isList.at λo e=>K7 _ e
  have hq1:q < s1.heap.objs.size:=let ⟨o,_,e,_⟩:=pl;Kv e
  have hne:q≠s1.heap.objs.size:=X4 hq1
  have hh:X.A.in1.in1.in1.handled=none:=I1.ok.hd hc
  have hl:=rv.length
  refine ua (Walks.toS (Walks.listRev (prog:=X.prog) (w:=X.w) hh s1.heap.objs.size q hne its.toArray)) (λi s st=>st.2.1.typeIs) ⟨Xy _,by simpa using hit,OJ⟩ (λb hb=> ?_) (by simp) (by rw[Kj];omega) λs' acc hm hacc=> ?_
  ·have:b=s1.heap.objs.size∨b=q:=by simpa using hb
   show b < (s1.heap.push _).objs.size
   rw[XY]
   rcases this with z | z
   ·rw[z];exact Uj _
   ·rw[z];exact UU hq1
  ·rw[Au hacc]
   obtain⟨h',g',d',t',os'⟩:=s'
   obtain rfl:g'=s1.gens:=hm.gens
   obtain rfl:d'=s1.drawn:=hm.drawn
   obtain rfl:os'=s1.os:=hm.os
   have fo:=I1.n_ (H':=H1) (K2 s1.heap.objs.size) hfr
   have I3:Inv X pins σ H1 {s1 with heap:=h',toks:=t'}:=Inv.turned (s:={s1 with heap:=s1.heap.push (revObj q ((its.toArray.size:Int) - 1))}) (h':=h') (t':=t') (it:=s1.heap.objs.size) I2 (λb o hb e=>hm.heap b o (by simpa using hb) e) hfr fo.2.1 fo.2.2.2.1 fo.2.2.2.2.1 fo.2.2.2.2.2
   refine⟨.ref h'.objs.size,_,I3.laid (t':=t') (a:=h'.objs.size) (o:=.tup ys.reverse) (λb u e=>K7 _ e) (K2 _) ⟨by rw[UK];exact hz,its.reverse,rv.reverse,IsTup.new _ _⟩,rfl,fin _ I3.fresh⟩
 | [],r1,q1=>exact False.elim q1
 | _ :: _ :: _,r1,q1=>exact False.elim q1
theorem sg (hc:X.calm=true)(hg:Gl X "tuple")(hm:X.mg "tuple" =none)(hg2:Gl X "reversed")(hm2:X.mg "reversed" =none)(ha:DE X K Ew a fa)(hK:X.K=K:=by rfl)
  (hs:starEach [a] X.env=(false,eval a X.env) :: starEach [] X.env:=by rfl) (hpl:(backTo pos2 (starEach [] X.env)).any (·.1)=false:=by rfl)
  (hs2:starEach [.Call (.Name "reversed" p2) [a] [] pos2] X.env=(false,eval (.Call (.Name "reversed" p2) [a] [] pos2) X.env) :: starEach [] X.env:=by rfl) (pJ:(backTo pos (starEach [] X.env)).any (·.1)=false:=by rfl)
  (hnil:backTo pos (starEach [] X.env)=[]:=by rfl) :
  DE X K Ew (.Call (.Name "tuple" p) [.Call (.Name "reversed" p2) [a] [] pos2] [] pos) (Ey vt fa):=(Aw hc hg hm hg2 hm2 ha hs hpl hs2 pJ hnil).imp λσ H Q q=>by
 obtain⟨B,φ,Γ,r0,q⟩:=q
 refine⟨B,φ,Γ,r0,(q.bind r0).mono λu H1 s1 ⟨k,x,e1,v1,r1,_,q1⟩=> ?_⟩
 obtain⟨z,e,q⟩:=gR (kf:=λ_=> .fr []) q1
 cases x <;> simp only[vt] at e <;> try (cases e;done)
 split at e
 ·rename_i xs hn
  cases e
  obtain⟨p,vs,rfl,h1,h2⟩:=aZ (v1.toD r1.bs)
  rw[hK]
  refine⟨p,vs,rfl,h1,λt ht=>q _ _ (s1.trans (Same.upd ht)) (VR.fresh.mpr (aS.tup ?_ (dJ.of aw) (ar.same (Same.upd ht) _ _ (lQ h2))))⟩
  exact aQ.mpr λx hx=>aQ.mp hn x (Uz.mp hx)
 ·cases e
theorem jD:iD X (binaryOp .Mult) rq:=iD.ints Hv λx y z e=>by
 cases x <;> cases y <;> simp only[rq] at e <;> try (cases e;done)
 split at e
 ·rename_i c;cases e;exact⟨_,_,rfl,rfl,c,rfl,λ_ _=>bC⟩
 ·cases e
theorem Runs.no {B H:Hp}{φ:Nat->List Addr}{Q:VK}(h:Runs K Ew B φ H none Q):False:=by
 rcases h with⟨k,d,e,_⟩ | ⟨c,e,_⟩ <;> cases e
theorem Runs.ret {B H:Hp}{φ:Nat->List Addr}{Q:VK}{k:Kd}{d:PyData}(h:Runs K Ew B φ H (ah (k,d)) Q):∀v H',Same H H'->VR K B φ H H' k d v->Q v H':=by
 rcases h with⟨k',d',e,q⟩ | ⟨c,e,_⟩
 ·cases e;exact q
 ·cases e
theorem BY {k:Kd}(h:isNew k=true):k= .fr []:=by
 match k,h with
 | .fr [],_=>rfl
theorem BZ {B H:Hp}{φ:Nat->List Addr}{Q:VK}{k:Kd}{x y:PyData}(h:Runs K Ew B φ H (Ai k x y) Q):∃xs n,k= .fr []/\x= .list xs/\y= .int n/\
  (aq xs=true/\ -(2^63)<=n/\n < 2^63/\xs.length*n.toNat<=sizeLine)/\∀v H',Same H H'->VR K B φ H H' (.fr []) (.list (List.replicate n.toNat xs).flatten) v->Q v H':=by
 unfold Ai at h
 by_cases hk:isNew k=true
 ·rw[JQ hk] at h
  cases x <;> try (exact(Runs.no h).elim)
  rename_i xs
  replace h:Runs K Ew B φ H (Ah xs y) Q:=h
  cases y <;> try (exact(Runs.no h).elim)
  rename_i n
  by_cases hc:aq xs=true/\ -(2^63)<=n/\n < 2^63/\xs.length*n.toNat<=sizeLine
  ·rw[Ah,JQ hc] at h
   exact⟨xs,n,BY hk,rfl,rfl,hc,h.ret⟩
  ·rw[Ah,JV hc] at h
   exact(Runs.no h).elim
 ·rw[JV hk] at h
  exact(Runs.no h).elim
theorem B5 {b:Expr}{fb:EF}(ha:DE X K Ew a fa)(hb:DE X K Ew b fb):DE X K Ew (.BinOp a .Mult b pos) (EA fa fb) :=
 (Gq HM ha hb).imp λσ H Q q=>pF (g:=λx y=>Ai x.1 x.2 y.2) q λB φ Γ k x k' y u v H1 H2 r2 s1 s2 v1 v2 q=>by
  obtain⟨xs,n,rfl,rfl,rfl,⟨hn,c1,c2,c3⟩,q⟩:=BZ q
  obtain⟨as,h1,h2,h3⟩:=v1
  obtain⟨l,vs,bs,rfl,hl,ht,rfl⟩:=bz h1
  have hv:=aA (v2.toD r2.bs)
  subst hv
  have hd:=az.toD _ _ _ ht
  exact⟨l,n,vs,rfl,rfl,hl,c1,c2,by rw[ao hd];exact c3,λp hp=>q _ _ ((s1.trans s2).trans (Same.upd hp)) (VR.fresh.mpr (aS.from (aS.lst (vo hn _) aw (ar.same (Same.upd hp) _ _ (vE _ hd)) hp) (s1.trans s2)))⟩
open AutoSeq1 in
theorem EN (T:String)(hT:T= "list" ∨T= "tuple")(l b:Addr)(xs ys:Array Value)(n m:Nat)(dd:Option Addr)(sl:Array (Option Value))(h0:¬ (!xs.isEmpty && Builtin.List.listTooLong (xs.size+ys.size))=true)(h1:xs.size<=sizeLine)(h2:xs.size+ys.size<=sizeLine+1)(hlb:l≠b) :
  Meets (Builtin.«list.extend» ⟨[.ref l,.ref b],[]⟩) (λ_ R s=>s.heap.get? l=some {cls:=.type "list",data:=.seq xs n}/\s.heap.get? b=some ⟨.type T,dd,.seq ys m,sl⟩/\R (.ok (.ret Value.none)) {s with heap:=s.heap.update l (Obj.mapSeq λx=>x++ys)}) :=
 .of_wp λprog w A R s q=>by
  obtain⟨hp,g,d,tk,os⟩:=s
  obtain⟨hl,hb,q⟩:=q
  have f1:=AutoSeq1.idx_int;have f2:=AutoSeq1.sub_tuple_tuple;have f3:=AutoSeq1.sub_list_list;have f4:=AutoSeq1.sub_tuple_list;have f5:=AutoSeq1.sub_list_tuple
  have hz:(xs++ys).size<=sizeLine+1:=by(rw[Array.size_append]);exact h2
  rcases hT with rfl | rfl
  ·(wp_walk using (wpAny_updateSeq hl rfl (hz:=h1) (_hz':=hz)),wpAny_loadPart' hl,wpAny_loadPart' hb);exact⟨_,rfl,q⟩
  ·(wp_walk using (wpAny_updateSeq hl rfl (hz:=h1) (_hz':=hz)),wpAny_loadPart' hl,wpAny_loadPart' hb);exact⟨_,rfl,q⟩
def B6 (K:Frag):V->List V->Hp->VK->Prop:=λx vs H Q=>∃l b xs zs,x= .ref l/\vs=[.ref b]/\H l=some (.lst xs)/\(l=b->∃o,K.lookup b=some o)/\(fV K H b zs∨dJ K H b zs)/\xs.length+zs.length<=sizeLine/\Q .non (upd H l (.lst (xs++zs)))
theorem zm:La X "list.extend" (B6 X.K):=by
 intro pins s σ H x vs v us Q I rx rv h
 obtain⟨l,b,xs,zs,rfl,rfl,hH,hlb,hB,hz,q⟩:=h
 replace hlb:l≠b:=λz=>by
  obtain⟨o,ho⟩:=hlb z
  have:=(I.bs b o (I.ok.mod.L7 b o ho)).2
  rw[←z,hH] at this
  cases this
 cases rx
 obtain⟨u,rfl,ru⟩:=rv.one
 cases ru
 obtain⟨z,its,n,r,hl,e⟩:=I.Ep hH
 have main:∀(T:String) (hT:T= "list" ∨T= "tuple") (its2:List Value) (dd:Option Addr) (sl:Array (Option Value)) (m:Nat),Vals zs its2->s.heap.get? b=some ⟨.type T,dd,.seq its2.toArray m,sl⟩->wpAny (!6) X.A (call (.builtin "list.extend") [.ref l,.ref b]) (EP X pins σ Q) X.xe s:=λT hT its2 dd sl m r2 e2=>by
  have hl2:=r2.length
  have hsz:its.toArray.size+its2.toArray.size<=sizeLine:=by rw[Kj,Kj];omega
  have BH:¬ (!its.toArray.isEmpty && Builtin.List.listTooLong (its.toArray.size+its2.toArray.size))=true:=λw=>by
   rw[vk hsz,Bool.and_false] at w
   cases w
  refine call_meets F.slot_list_extend ⟨_,e,rfl⟩ F.entry_list_extend (F.args_list_extend_2 _ _) (EN T hT l b its.toArray its2.toArray n m dd sl BH (by rw[Kj];omega) (!1) hlb) ⟨e,e2,?_⟩
  refine⟨.non,_,I.HK (t':=s.toks) (its':=its++its2) hH e (by simp) (r.append r2) ?_,rfl,q⟩
  (rw[K1]);omega
 rcases hB with hB | hB
 ·obtain⟨its2,r2,⟨⟨c2,d2,NZ,sl2⟩,n2,ho2,hc2,_,hd2⟩,hz2⟩:=I.list hB
  simp only at hc2 hd2
  subst hc2 hd2
  exact main "list" (.inl rfl) its2 d2 sl2 n2 r2 ho2
 ·obtain⟨its2,r2,⟨⟨c2,d2,NZ,sl2⟩,ho2,hc2,n2,hd2⟩,hz2⟩:=I.tuple hB
  simp only at hc2 hd2
  subst hc2 hd2
  exact main "tuple" (.inr rfl) its2 d2 sl2 n2 r2 ho2
theorem Ib {i:Nat}(ho:PE X o (kT i))(he:DE X K Ew e fe)(hK:X.K=K:=by rfl)
  (hbase:attributeBase o "extend" X.env (eval o X.env)=eval o X.env:=by rfl)
  (hfew:((backTo cpos (starEach [e] X.env)).all (λx=> !x.1) && (backToKw cpos (keywordEach [] X.env)).all (λx=>x.1.isSome)
   && decide (([e]:List Expr).length+([]:List Keyword).length+(if ([]:List Keyword).isEmpty then 0 else 1) < 30))=true:=by rfl)
  (hline:(apos.endLine==cpos.line)=true:=by rfl) (hs:starEach [e] X.env=(false,eval e X.env) :: starEach [] X.env:=by rfl) (hplain:(backTo cpos (starEach [] X.env)).any (·.1)=false:=by rfl)
  (hsw:swapsWith (.Call (.Attribute o "extend" apos) [e] [] cpos) none pos.line X.env=pure false:=by rfl) :
  DS X K Ew (.Expr (.Call (.Attribute o "extend" apos) [e] [] cpos) pos) (xS i fe) :=
 (kD (y7 PySem.F.plainAttrs_list PySem.F.slot_list_extend PySem.F.type_list_extend zm ho (bx he cZ hs) hbase hfew hline hs hplain) hsw).imp λD σ H q=>by
  obtain⟨B,φ,Γ,r,q⟩:=q
  unfold xS at q
  match hg:Γ[i]?,q with
  | some (some (true,.list xs)),q=>
   obtain⟨v,hv,hT⟩:=r.own hg
   obtain⟨l,vs,bs,rfl,hl,ht,hφ⟩:=bz hT
   refine⟨.ref l,hv,.inl ⟨rfl,vs,fV.of hl⟩,B,φ,Γ,r,?_⟩
   match hm:fe Γ,q with
   | some (.ok (k,d)),q=>
    refine .inl ⟨k,d,rfl,λy H1 s1 hy=> ?_⟩
    have r1:=r.same s1
    have hl1:=s1 _ _ hl
    have hlen:vs.length=xs.length:=bE ht
    have hli:l∈φ i:=by rw[hφ];exact K8
    replace q:cM K Ew B (match xR k d with
     | some ys=>if aq ys=true/\xs.length+ys.length<=sizeLine then ah (.nx (Γ.set i (some (true,.list (xs++ys))))) else none
     | none=>none) D:=q
    have hd:=hy.toD r1.bs
    have hnd:=r.nd i
    rw[hφ] at hnd
    have hnb:l∉bs:=(KU.mp hnd).1
    have main:∀(b:Addr) (ws:List V) (ys:List PyData),y= .ref b->xR k d=some ys->(l=b->∃o,K.lookup b=some o)->(fV K H1 b ws∨dJ K H1 b ws)->ar K H1 ys ws->B6 X.K (.ref l) [y] H1 λ_ H1=>D.nx σ H1:=λb ws ys ey ei M8 hb hws=>by
     rw[ei] at q
     by_cases hc:aq ys=true/\xs.length+ys.length<=sizeLine
     ·replace q:cM K Ew B (ah (.nx (Γ.set i (some (true,.list (xs++ys)))))) D:=by simpa only[JQ hc] using q
      subst ey
      refine⟨l,b,vs,ws,rfl,rfl,hl1,by rw[hK];exact M8,by rw[hK];exact hb,by rw[ao hws];omega,?_⟩
      refine q B _ σ _ (Same.refl B) (r1.chg (d:=.list (xs++ys)) (as:=l :: bs) hli hl1 trivial hv ?_ hnd (λa ha=> .inl (by rw[hφ];exact ha)) trivial)
      have h1:=az.upd (o':=.lst (vs++ws)) hl1 trivial _ _ _ hnb (az.same s1 _ _ _ ht)
      have h2:=az.upd (o':=.lst (vs++ws)) hl1 trivial _ _ _ (show l∉[] by simp) (ar.toT _ _ hc.1 hws)
      have h3:=df h1 h2
      rw[Xj] at h3
      exact dy aw h3
     ·simp only[JV hc] at q
      exact False.elim q
    cases d <;> try (exact False.elim q)
    ·rename_i ys
     match k,hy,q,main with
     | .fr [],hy,q,main=>
      obtain⟨as,h1,h2,h3⟩:=hy
      obtain⟨b,ws,cs,ey,hb,hws,rfl⟩:=bz h1
      refine main b ws ys ey rfl (λz=> ?_) (.inl (fV.of hb)) (az.toD _ _ _ hws)
      rcases h3 b K8 with⟨_,w,_⟩ | w
      ·cases w
      ·rw[←z,hl] at w;cases w
     | .base,hy,q,main=>
      obtain⟨b,ws,ey,hb,hws⟩:=aZ (show aJ K B (.list ys) y from hy)
      refine main b ws ys ey rfl (λz=> ?_) (.inl (r1.bs.seq hb)) (ar.same r1.bs _ _ hws)
      have hB:=(r.nb i l hli).1
      rcases hb with(w | ⟨o,w⟩) | ⟨o,_,_,w,_⟩
      ·rw[←z,hB] at w;cases w
      ·rw[←z,hB] at w;cases w
      ·exact⟨o,w⟩
     | .fr (_ :: _),hy,q,main=>exact False.elim q
     | .any,hy,q,main=>exact False.elim q
    ·rename_i ys
     obtain⟨b,ws,ey,hb,hws⟩:=aE hd
     refine main b ws ys ey rfl (λz=> ?_) (.inr hb) hws
     rcases hb with(w | ⟨o,w⟩) | ⟨o,_,_,w,_⟩
     ·rw[←z,hl1] at w;cases w
     ·rw[←z,hl1] at w;cases w
     ·exact⟨o,w⟩
   | some (.ex c),q=>exact .inr ⟨c,rfl,q⟩
   | none,q=>cases q
  | some (some (true,.none)),q|some (some (true,.bool _)),q|some (some (true,.int _)),q|some (some (true,.str _)),q|some (some (true,.tuple _)),q|some (some (true,.dict _)),q|some (some (false,_)),q|some none,q|none,q=>cases q
end
section
variable {X:Cx}{K:Frag}{Ew:Str->Hp->Prop}{pos pos2 p p2:Pos}{a e o j:Expr}{ta:TE}{fa fe fj:EF}{apos cpos:Pos}
theorem ub {i:Nat}(ho:PE X o (kT i))(hj:DE X K Ew j fj)(he:DE X K Ew e fe)
  (ha:∀v,assign (.Subscript o j p) X.env v=(do
   let ov←holding [v] (eval o X.env)
   let iv←holding [v,ov] (eval j X.env)
   standAt p
   holding [v,ov,iv] (setItem ov iv v)
   release [v,ov,iv] []):=by intro _;rfl)
  (hs:swapsWithSole [.Subscript o j p] e pos.line X.env=pure false:=by rfl) (hw:swappedStores [.Subscript o j p] e X.env=pure none:=by rfl)
  (h1:(assignEach [.Subscript o j p] X.env).map (·.2)=[assign (.Subscript o j p) X.env]:=by rfl):DS X K Ew (.Assign [.Subscript o j p] e pos) (Al i fj fe) :=
 (tz he (xD ho hj set_list ha) hs hw h1).imp λD σ H q=>
  gu (g:=λx Γ=>match Γ[i]? with
   | some (some (true,.list xs))=>ap (fj Γ) λy=>match y.2 with
    | .int n=>match Y.nM xs.length n with
     | some m=>if bo x.2 && aq xs then ah (.nx (Γ.set i (some (true,.list (xs.set m x.2))))) else none
     | none=>none
    | _=>none
   | _=>none) q λB φ Γ k d y H1 r av q=>by
   match hg:Γ[i]?,q with
   | some (some (true,.list xs)),q=>
    obtain⟨v,hv,hT⟩:=r.own hg
    obtain⟨l,vs,bs,rfl,hl,ht,hφ⟩:=bz hT
    have hli:l∈φ i:=by rw[hφ];exact K8
    refine⟨.ref l,hv,B,φ,Γ,r,?_⟩
    match hm:fj Γ,q with
    | some (.ok (k',d')),q=>
     refine .inl ⟨k',d',rfl,λw H2 s2 hw=> ?_⟩
     have r2:=r.same s2
     cases d' <;> try (exact False.elim q)
     rename_i n
     have:=aA (hw.toD r2.bs)
     subst this
     replace q:cM K Ew B (match Y.nM xs.length n with
      | some m=>if bo d && aq xs then ah (.nx (Γ.set i (some (true,.list (xs.set m d))))) else none
      | none=>none) D:=q
     match hix:Y.nM xs.length n,q with
     | some m,q=>
      replace q:cM K Ew B (if bo d && aq xs then ah (.nx (Γ.set i (some (true,.list (xs.set m d))))) else none) D:=q
      by_cases hc:(bo d && aq xs)=true
      ·rw[JQ hc] at q
       have hc':bo d=true/\aq xs=true:=by simpa using hc
       have hlen:=bE ht
       refine⟨l,vs,n,m,rfl,rfl,s2 _ _ hl,by rw[hlen];exact hix,?_⟩
       have hbs:bs=[]:=az.nil _ _ _ hc'.2 ht
       subst hbs
       have hds:=ar.same s2 _ _ (az.toD _ _ _ ht)
       have hdd:=aJ.same s2 _ _ (av.toD r.bs)
       have hns:aq (xs.set m d)=true:=aQ.mpr λx hx=>by
        rcases List.mem_or_eq_of_mem_set hx with z | z
        ·exact aQ.mp hc'.2 x z
        ·rw[z];exact hc'.1
       have hnew:=az.upd (o':=.lst (vs.set m y)) (s2 _ _ hl) trivial _ _ _ (show l∉[] by simp) (ar.toT _ _ hns (vD m hds hdd))
       exact q B _ σ _ (Same.refl B) (r2.chg (d:=.list (xs.set m d)) (as:=[l]) hli (s2 _ _ hl) trivial hv (dy aw hnew) (KU.mpr ⟨by simp,X2⟩) (λa ha=> .inl (by rw[K6.mp ha];exact hli)) trivial)
      ·rw[JV hc] at q
       exact False.elim q
     | none,q=>cases q
    | some (.ex c),q=>exact .inr ⟨c,rfl,q⟩
    | none,q=>cases q
   | some (some (true,.none)),q|some (some (true,.bool _)),q|some (some (true,.int _)),q|some (some (true,.str _)),q|some (some (true,.tuple _)),q|some (some (true,.dict _)),q|some (some (false,_)),q|some none,q|none,q=>cases q
end
theorem B7 {X:Cx}{K:Frag}{Ew:Str->Hp->Prop}{st:Stmt}:DS X K Ew st BN:=By.imp λD σ H q=>by
 obtain⟨B,φ,Γ,r,q⟩:=q
 exact False.elim q
theorem M9 {P:Program}{w:World}{K:Frag}{mg:Str->Option Value}{base:Heap}{x qual:Str}{st:Stmt}{f:Addr}{fd:FuncData}{N ps:List Str}(k n m:Nat){fb:SF}(hn:N.length=n)(hm:ps.length=m)(F:D5 K x qual st f fd)(S:aK N ps (ak st))
  (hbody:∀(cdv:Value) (A:Around) (outer:List Env) (s:Shared) (H:Hp) (E:XK),dM k (A.deeper (envOfC qual (ak st) s.heap.objs.size f cdv))->
   ze (rh y9 P w K mg base N qual (ak st) f cdv A outer s H E).Bn K (λ_ _=>False) (dY st) fb):iZ P w K mg base y9 (k+1) f fd ps (ju K m (cA n fb)):=by
 subst hn hm
 exact F.OH S hbody
theorem B8 {K:Frag}{H:Hp}{a:Addr}{ns:List Int}{F:FF}(hS:fV K H a (ns.map V.int))(h:∃o,F [.list (ns.map PyData.int)]=some (.ok (o,.bool true))):ju K 1 F [.ref a] H (λv _=>v= .bl true) λ_ _ _=>False:=by
 obtain⟨o,h⟩:=h
 refine⟨[.list (ns.map PyData.int)],rfl,aV (tX hS (mZ ns)) aY,?_⟩
 rw[h]
 intro v H' s r
 unfold RV at r
 cases o with
 | true=>rw[JQ rfl] at r;obtain⟨as,h1,_⟩:=r;exact i9 (IsT.toD _ _ _ h1)
 | false=>rw[JV K5] at r;exact i9 r
section
variable {prog:Program}{w:World}{A:Around}{E:Z3}{s:Shared}
theorem k8 {t sl:Addr}{items:Array Value}{vl vu:Value}{lo hi:Option Int}{Q:Z3}(ht:IsTup s.heap t items)(hs:s.heap.IsSliceOf sl vl vu .none)(pl:IsPart vl lo)(pu:IsPart vu hi)
  (hw:HT.dL items.size 0 lo=0/\HT.dL items.size items.size hi=items.size) (h:Q (.ref t) s):wpAny (!3) A (getItem (.ref t) (.ref sl)) Q E s:=by
 obtain⟨os,hos,hcs,hds⟩:=id hs
 have hTs:s.TypeIs (.ref sl) "slice":=⟨os,hos,hcs⟩
 unfold getItem
 try with_reducible refine Z7 ?_
 first | refine JZ (JW ?_) | skip
 refine JZ (wpAny_sequenceKey ht.typeIs (by decide) ?_)
 refine JZ (wpAny_callSpecial?_slot (name:=Str.ofString "__getitem__") ht.typeIs PyProof.Rows.slot_tuple_getitem
  (Z6 PyProof.Rows.slot_tuple_getitem ht.typeIs entry_tuple_getitem ?_ (args_tuple_getitem _ _)))
 show wpAny _ _ (Builtin.Tuple.tupleItemsOf (.ref t) >>=_) _ _ s
 refine JZ (tupleItemsOf_ ht ?_)
 refine JZ (wpAny_typeOf hTs ?_)
 rw[JQ (by decide)]
 refine JZ (HT.i6 hs pl pu ?_)
 have hyes:(((HT.dL items.size 0 lo:Nat):Int)==0 && (1:Int)==1 && (HT.dL items.size items.size hi - HT.dL items.size 0 lo)==items.size)=true:=by
  rw[hw.1,hw.2];simp
 show wpAny _ _ (if (((HT.dL items.size 0 lo:Nat):Int)==0 && (1:Int)==1 && (HT.dL items.size items.size hi - HT.dL items.size 0 lo)==items.size)=true then _ else _) _ _ s
 rw[JQ hyes]
 unfold Builtin.Tuple.tupleIsExact
 refine JZ ?_
 first
  | exact JZ (wpAny_typeOf ht.typeIs (JW (JZ (wpAny_rule (JW ⟨_,rfl,JW h⟩)))))
  | (
    refine JZ (wpAny_typeOf ht.typeIs (JW ?_))
    rw[JQ (by decide)]
    exact JZ (wpAny_rule (JW ⟨_,rfl,JW h⟩)))
end
theorem vL {K:Frag}{H:Hp}{ds:List PyData}{vs:List V}(h:ar K H ds vs)(lo hi:Option Int):ar K H (cutD ds lo hi) (vi vs lo hi):=by
 have e:cutD ds lo hi=(ds.drop (HT.dL ds.length 0 lo)).take (HT.dL ds.length ds.length hi - HT.dL ds.length 0 lo):=rfl
 rw[e]
 unfold vi
 rw[ao h]
 exact rY _ (rZ _ h)
theorem pK {ds:List PyData}(h:aq ds=true)(lo hi:Option Int):aq (cutD ds lo hi)=true:=aQ.mpr λx hx=>aQ.mp h x (U1 (U2 hx))
section
variable {X:Cx}{K:Frag}{Ew:Str->Hp->Prop}{pos p2:Pos}{e:Expr}{fe:EF}{lo hi st:Option Expr}{fl fh fs:Option EF}
def M_ (K:Frag):V->Option Int->Option Int->Hp->VK->Prop:=λx lo hi H Q=>∃d z,aJ K H d x/\Md d lo hi=some z/\∀v H',Same H H'->aS K H H' z v->Q v H'
theorem Na:Gs X (M_ X.K):=by
 intro pins s σ H x v vl vu lo hi sl Q I rx hs pl pu h
 obtain⟨d,z,hd,hz,q⟩:=h
 cases d <;> simp only[Md] at hz <;> try (cases hz;done)
 ·rename_i ds
  split at hz
  ·rename_i hn
   cases hz
   obtain⟨a,xs,rfl,hx,hi'⟩:=aZ hd
   exact Eo pins s σ H _ v vl vu lo hi sl Q I rx hs pl pu ⟨a,xs,rfl,hx,λp hp=>q _ _ (Same.upd hp) (aS.lst (pK hn lo hi) aw (ar.same (Same.upd hp) _ _ (vL hi' lo hi)) hp)⟩
  ·cases hz
 ·rename_i ds
  split at hz
  ·rename_i hn
   cases hz
   obtain⟨a,xs,rfl,hx,hi'⟩:=aE hd
   by_cases hw:HT.dL xs.length 0 lo=0/\HT.dL xs.length xs.length hi=xs.length
   ·cases rx
    obtain⟨its,r,ht,hz⟩:=I.tuple hx
    have hlen:its.toArray.size=xs.length:=by rw[Kj];exact r.length.symm
    refine⟨"tuple",_,PyProof.Rows.slot_tuple_getitem.lookup,ht.typeIs,?_⟩
    refine k8 ht hs pl pu (by rw[hlen];exact hw) ⟨.ref a,H,I,rfl,q _ H (Same.refl H) (aS.li (by rw[bo];exact pK hn lo hi) ?_)⟩
    have e:cutD ds lo hi=ds:=by
     have e:cutD ds lo hi=(ds.drop (HT.dL ds.length 0 lo)).take (HT.dL ds.length ds.length hi - HT.dL ds.length 0 lo):=rfl
     rw[e,←ao hi',hw.1,hw.2,Y6,Nat.sub_zero]
     exact U9 (by rw[ao hi'];exact K2 _)
    rw[e]
    exact hd
   ·exact HD pins s σ H _ v vl vu lo hi sl Q I rx hs pl pu ⟨a,xs,rfl,hx,hw,λp hp=>q _ _ (Same.upd hp) (aS.tup (pK hn lo hi) (dJ.of aw) (ar.same (Same.upd hp) _ _ (vL hi' lo hi)))⟩
  ·cases hz
def tO (K:Frag)(Ew:Str->Hp->Prop)(f:Option EF):TO:=λσ H Q=>∃B φ Γ,Rep K B φ Γ σ H/\((∃o,oE f Γ=some (.ok o)/\∀H',Same H H'->Q o H')∨(∃c,oE f Γ=some (.ex c)/\∀H',Same B H'->Ew c H'))
def Mf (X:Cx)(K:Frag)(Ew:Str->Hp->Prop)(e:Option Expr)(f:Option EF):Prop:=PO X e (tO K Ew f)
theorem PO.imp {X:Cx}{e:Option Expr}{t t':TO}(h:PO X e t)(i:∀σ H Q,t' σ H Q->t σ H Q):PO X e t':=λpins s σ H Q I q=>h pins s σ H Q I (i σ H Q q)
theorem B9:Mf X K Ew none none:=Ek.imp λσ H Q q=>by
 obtain⟨B,φ,Γ,r,q⟩:=q
 rcases q with⟨o,e,q⟩ | ⟨c,e,_⟩
 ·cases e;exact q H (Same.refl H)
 ·cases e
theorem B_ (he:DE X K Ew e fe):Mf X K Ew (some e) (some fe):=(Em he).imp λσ H Q q=>by
 obtain⟨B,φ,Γ,r,q⟩:=q
 refine⟨B,φ,Γ,r,?_⟩
 have e0:oE (some fe) Γ=ap (fe Γ) λx=>oI x.2:=rfl
 rw[e0] at q
 match hm:fe Γ,q with
 | some (.ok (k,d)),q=>
  refine .inl ⟨k,d,rfl,λv H' s hv=> ?_⟩
  cases d <;> try (rcases q with⟨o,e,_⟩ | ⟨c,e,_⟩ <;> cases e;done)
  rename_i n
  have:=aA (hv.toD (r.bs.trans s))
  subst this
  rcases q with⟨o,e,q⟩ | ⟨c,e,_⟩
  ·cases e;exact⟨n,rfl,q H' s⟩
  ·cases e
 | some (.ex c),q=>
  rcases q with⟨o,e,q⟩ | ⟨c',e,q⟩
  ·cases e
  ·cases e;exact .inr ⟨c,rfl,q⟩
 | none,q=>rcases q with⟨o,e,_⟩ | ⟨c,e,_⟩ <;> cases e
theorem zn {fo:Option EF}{B H:Hp}{φ:Nat->List Addr}{Γ:aW}{σ:St}{g:Option Int->M (Kd×PyData)}{Q:VK}{R:Option Int->Hp->Prop}(r:Rep K B φ Γ σ H)(h:Runs K Ew B φ H (ap (oE fo Γ) g) Q)
  (i:∀o H1,Same H H1->Rep K B φ Γ σ H1->Runs K Ew B φ H1 (g o) Q->R o H1):tO K Ew fo σ H R:=by
 refine⟨B,φ,Γ,r,?_⟩
 match hm:oE fo Γ,h with
 | some (.ok o),h=>exact .inl ⟨o,rfl,λH1 s=>i o H1 s (r.same s) (Runs.later h s)⟩
 | some (.ex c),h=>
  rcases h with⟨k,d,e,_⟩ | ⟨c',e,h⟩
  ·cases e
  ·cases e;exact .inr ⟨c,rfl,h⟩
 | none,h=>exact(Runs.no h).elim
theorem Ll (he:DE X K Ew e fe)(hl:Mf X K Ew lo fl)(hu:Mf X K Ew hi fh)(hK:X.K=K:=by rfl):DE X K Ew (.Subscript e (.Slice lo hi none p2) pos) (Me fe fl fh):=(BD Na he hl hu).imp λσ H Q q=>by
 obtain⟨B,φ,Γ,r,q⟩:=q
 refine⟨B,φ,Γ,r,(q.bind r).mono λu H1 s1 ⟨k,x,e1,v1,r1,_,q1⟩=> ?_⟩
 refine zn r1 (q1.later s1) λl H2 s2 r2 q2=>zn r2 q2 λh H3 s3 r3 q3=> ?_
 obtain⟨z,ez,q⟩:=gR (kf:=λ_=> .fr []) q3
 rw[hK]
 exact⟨x,z,aJ.same (s2.trans s3) _ _ (v1.toD r1.bs),ez,λv H' s f=>q v H' s (VR.fresh.mpr f)⟩
end
theorem zo:Manifest.owners.lookup (String.ofList ['d','e','s','r','e','v','e','r'].reverse)=some Manifest.sig_reversed:=by(kernel_rfl)
theorem dP:Slot "reversed" "__next__" "reversed.__next__" :=
 .of (owner:="reversed") (n:="__next__") (by(rw[typeLookup_type,builtinLookup_eq_fast]);kernel_rfl) (!5) (!5) (!5) (by first | exact .inl (!5) | exact .inr (!5)) (by(rw[isSubtype_type]);kernel_rfl)
theorem lV:entryFor table "reversed.__next__" =some Builtin.«reversed.__next__»:=entryFor_of_tree (by(kernel_rfl))
theorem lX (a:Value):argsOk "reversed.__next__" ⟨[a],[]⟩:=by
 unfold argsOk;rw[signature?_of (id:="reversed.__next__") (n:=['_','_','t','x','e','n','_','_']) (o:=['d','e','s','r','e','v','e','r']) (by(kernel_rfl)) zo];(kernel_rfl)
theorem la:Slot "reversed" "__iter__" "reversed.__iter__" :=
 .of (owner:="reversed") (n:="__iter__") (by(rw[typeLookup_type,builtinLookup_eq_fast]);kernel_rfl) (!5) (!5) (!5) (by first | exact .inl (!5) | exact .inr (!5)) (by(rw[isSubtype_type]);kernel_rfl)
theorem uc (a:Value):argsOk "reversed.__iter__" ⟨[a],[]⟩:=by
 unfold argsOk;rw[signature?_of (id:="reversed.__iter__") (n:=['_','_','r','e','t','i','_','_']) (o:=['d','e','s','r','e','v','e','r']) (by(kernel_rfl)) zo];(kernel_rfl)
theorem ud:entryFor table "reversed.__iter__" =some Builtin.«dict_keyiterator.__iter__» :=
 entryFor_alias (id':="dict_keyiterator.__iter__") (by(kernel_rfl)) (by first | rfl | decide+kernel | (unfold String.splitOn;simp+decide [String.splitOnAux])) (!5) (by(kernel_rfl))
theorem Ax:typeLookup (.type "tuple") "__reversed__" =pure none:=by(rw[typeLookup_type,builtinLookup_eq_fast]);(kernel_rfl)
theorem ue:isSubtype (.type "tuple") (.type "dict")=pure false:=by(rw[isSubtype_type]);(kernel_rfl)
def m7 (t:Addr)(i:Int):Obj:={cls:=.type "reversed",data:=.fields #[.ref t,rawInt i]}
def nO (h:Heap)(a t:Addr)(i:Int):Prop:=h.get? a=some (m7 t i)
section
variable {prog:Program}{w:World}{A:Around}{E:Z3}{s:Shared}
theorem uf {t:Addr}{items:Array Value}{Q1:Z3}(ht:IsTup s.heap t items)(hz:items.size<=sizeLine)
  (h:∀tk,Q1 (!7) {s with heap:=s.heap.push (m7 t ((items.size:Int) - 1)),toks:=tk}) :
  codeAny (!3) A (.call (.builtin "reversed.__new__") ⟨[.type "reversed",.ref t],[]⟩) (wants Q1 E) s:=by
 refine codeAny_of_tree ?_
 show wpAny _ A.in1 (do checkBuiltinCall "reversed.__new__" ⟨[.type "reversed",.ref t],[]⟩;again (.builtin "reversed.__new__" ⟨[.type "reversed",.ref t],[]⟩)) _ _ s;refine JZ (wpAny_of_eq (F.newCall_reversed_1 _) (JW ⟨plainId_quiet F.plain_reversed_new _,codeAny_builtin F.entry_reversed_new ?_⟩))
 rw[Around.under_plainId F.plain_reversed_new _];unfold Builtin.«reversed.__new__»
 refine JZ (wpAny_of_eq (newClass_reversed _) ?_)
 try dsimp only
 refine JZ (wpAny_of_eq (a:=()) (by first | rfl | kernel_rfl) ?_);refine JZ (wpAny_of_eq (a:=()) (by first | rfl | kernel_rfl) ?_)
 try dsimp only
 refine JZ (Z4 ht.typeIs Ax ?_)
 have hT:=ht.typeIs
 have hd:=ue
 have hget:=PyProof.Rows.slot_tuple_getitem.lookup
 show wpAny _ _ (_ >>=_) _ _ _
 refine JZ ?_
 wp_delta
 refine JZ (wpAny_isInstance hT hd ?_);rw[JV K5]
 refine JZ (Z4 hT hget ?_)
 try dsimp only
 rw[JQ (!5)]
 refine JW ?_
 rw[JV (by decide)]
 have Nb:=j4
 refine JZ (len_tuple ht (!1) ?_)
 refine JZ (wpAny_of_eq (a:=some ((items.size:Nat):Int)) (by first | rfl | kernel_rfl) ?_)
 try dsimp only
 refine JZ ?_
 wp_delta
 exact Z5 (JW (h _))
theorem lq:TypeCalled "reversed" "reversed.__new__" "object.__init__" :=
 ⟨by decide+kernel,by decide+kernel,⟨_,_,F.mro_reversed⟩,F.made_reversed,by decide+kernel,by(rw[isSubtype_type]);kernel_rfl,.of (owner:="object") (n:="__init__") (by(rw[typeLookup_type,builtinLookup_eq_fast]);kernel_rfl) (!5) (!5) (!5) (by first | exact .inl (!5) | exact .inr (!5)) (by(rw[isSubtype_type]);kernel_rfl)⟩
theorem Ca {t:Addr}{items:Array Value}{Q:Z3}(ht:IsTup s.heap t items)(hz:items.size<=sizeLine)
  (h:∀tk,Q (!7) {s with heap:=s.heap.push (m7 t ((items.size:Int) - 1)),toks:=tk}):wpAny (!3) A (call (.type "reversed") [.ref t]) Q E s:=by
 refine callType_codes (Q₁:=λobj s1=>s1.TypeIs obj "reversed" /\Q obj s1) lq (F.typeCall_reversed_1 _) F.entry_object_init (uf ht hz λtk=>⟨⟨_,Ky _ rfl,rfl⟩,h tk⟩) λobj s1 q=> ?_
 exact⟨q.1,F.args_object_init_2 obj _,object_init_meets lq.init.lookup lq.made (by decide) prog w A.in1 _ s1 ⟨q.1,rfl,q.2⟩⟩
theorem eH {it t:Addr}{i:Int}(h:nO s.heap it t i):s.TypeIs (.ref it) "reversed":=⟨_,h,rfl⟩
theorem Cb {it t:Addr}{i:Nat}{items:Array Value}{x:Value}{Q:Option Value->Shared->Prop}(hit:nO s.heap it t (i:Int))(ht:IsTup s.heap t items)(hz:items.size<=sizeLine)(hx:items[i]? =some x)
  (hQ:∀h' tk,nO h' it t ((i:Int) - 1)->Heap.SameBut it s.heap h'->Q (some x) {s with heap:=h',toks:=tk}):wpAny (!3) A (pyNext (.ref it)) Q E s:=by
 unfold pyNext
 refine JZ (wpAny_attempt (wpAny_callSpecial?_slot (name:=Str.ofString "__next__") (eH hit) dP (Z6 dP (eH hit) lV ?_ (lX _))))
 unfold Builtin.«reversed.__next__»
 refine JZ (wpAny_of_eq (a:=(Value.ref it,[])) rfl ?_)
 try dsimp only
 refine JZ (wpAny_field hit rfl (x:=.ref t) rfl ?_)
 refine JZ (wpAny_field hit rfl (x:=rawInt (i:Int)) rfl ?_)
 show wpAny _ _ (if (i:Int) < 0 then _ else _) _ _ _
 rw[JV (!1)]
 refine JZ (Z4 ht.typeIs PyProof.Rows.slot_tuple_getitem.lookup ?_)
 rw[JV (by decide)]
 refine JZ (wpAny_mkInt ?_)
 have hi:i < items.size:=(Array.getElem?_eq_some_iff.mp hx).1
 have Nb:=j4
 have hg:wpAny (!3) A.in1 (getItem (.ref t) (.int (i:Int) s.toks)) (λr s'=>r=x/\s'={s with toks:=s.toks+1}) (λ_ _=>False) {s with toks:=s.toks+1} :=
  getItem_tuple (k:=(i:Int)) (j:=i) ht (!1) (!1) (seqIndex_of (!1) (!1)) hx ⟨rfl,rfl⟩
 refine JZ (wpAny_attempt (wpAny_mono hg (λr s' q=> ?_) λ_ _ q=>False.elim q))
 obtain⟨rfl,rfl⟩:=q
 refine JZ (wpAny_field hit rfl (x:=rawInt (i:Int)) rfl ?_)
 show wpAny _ _ (setField (.ref it) 1 (rawInt ((i:Int) - 1)) >>=_) _ _ _
 refine JZ (wpAny_setField hit rfl (by simp) ?_)
 refine JW ⟨_,rfl,JW (hQ _ _ ?_ (Heap.SameBut.update ..))⟩
 exact XX (Obj.mapFields (·.setIfInBounds 1 (rawInt ((i:Int) - 1)))) hit rfl
theorem EO {it t:Addr}{Q:Option Value->Shared->Prop}(hh:A.handled=none)(hit:nO s.heap it t (-1))
  (hQ:∀h' tk,Heap.ExtBut it s.heap h'->Q none {s with heap:=h',toks:=tk}):wpAny (!3) A (pyNext (.ref it)) Q E s:=by
 unfold pyNext
 refine JZ (wpAny_attempt (wpAny_callSpecial?_slot (name:=Str.ofString "__next__") (eH hit) dP (Z6 dP (eH hit) lV ?_ (lX _))))
 unfold Builtin.«reversed.__next__»
 refine JZ (wpAny_of_eq (a:=(Value.ref it,[])) rfl ?_)
 try dsimp only
 refine JZ (wpAny_field hit rfl (x:=.ref t) rfl ?_)
 refine JZ (wpAny_field hit rfl (x:=rawInt (-1)) rfl ?_)
 show wpAny _ _ (if (-1:Int) < 0 then _ else _) _ _ _
 rw[JQ (by decide)]
 refine JZ (wpAny_rule ?_)
 refine JZ ?_
 wp_delta
 refine JZ (wpAny_setField hit rfl (by simp) ?_)
 have hit2:=XX (Obj.mapFields (·.setIfInBounds 1 (rawInt (-1)))) hit rfl
 refine wpAny_setField hit2 rfl (by simp) ?_
 refine JZ ?_
 (first | show wpAny _ _ (newExc (.type "StopIteration") [] >>=_) _ _ _ | (wp_delta;show wpAny _ _ (newExc (.type "StopIteration") [] >>=_) _ _ _))
 refine JZ ?_;simp only[newExc,newTuple];refine JZ (Z5 ?_ (by size_fits));refine JZ (m:=firstArgMember _ _) (wpAny_of_eq (a:=Value.none) (by first | rfl | (simp only[firstArgMember];rfl)) ?_);refine Z5 ?_ (by size_fits)
 simp only[raiseNew];refine JZ (wpAny_handled ?_);(first | rw[show A.in1.handled=none from hh] | rw[hh])
 refine JZ (JW (wpAny_throw ?_));refine JZ (wpAny_isInstance (T:="StopIteration") (b:=true) ⟨_,Ky _ rfl,rfl⟩ isSubtype_stop ?_)
 exact JW (hQ _ _ ((((Heap.SameBut.update ..).extBut.trans (Heap.SameBut.update ..).extBut).push _).push _))
theorem vM {it t:Addr}{i:Int}{Q:Z3}(hit:nO s.heap it t i)(h:Q (.ref it) s):wpAny (!3) A (pyIter (.ref it)) Q E s:=by
 refine wpAny_pyIter_slot (eH hit) la (Z6 la (eH hit) ud ?_ (uc _))
 show wpAny _ _ (ret (.ref it)) _ _ s;exact JW ⟨_,rfl,"reversed",_,eH hit,dP.lookup,h⟩
end
def Mh (K:Frag)(a:Addr)(n:Nat):It :=
 ⟨λi H=>i < n/\∃xs,dJ K H a xs/\xs.length=n,λi H x H'=>H'=H/\∀xs,dJ K H a xs->xs[n - 1 - i]? =some x,λi _=>n<=i⟩
theorem Cc {P:Program}{w:World}{K:Frag}{tg:Expr}(a it:Addr)(n:Nat):Turn P w K tg (Mh K a n) [it] it (λi h=>i<=n/\nO h it a ((n:Int) - 1 - i)) where
 mem:=by simp
 obj:=λi h st b hb=>by
  have z:b=it:=by simpa using hb
  subst z
  exact⟨_,st.2,λv z=>by cases z⟩
 keep:=λi h h' st k=>⟨st.1,k it (by simp) _ st.2⟩
 item:=by
  intro X hP hw hK hc i pins s σ H E I hf st hg;subst hP hw hK
  obtain⟨hi,xs,hq,hl⟩:=hg
  obtain⟨its,rv,p,hz⟩:=I.tuple hq
  have hx:xs[n - 1 - i]? =some (xs[n - 1 - i]'(!1)):=K3 _
  obtain⟨u,hu,ru⟩:=rv.get hx
  obtain⟨f0,f1,f2,f3,f4,f5⟩:=hf it (by simp)
  have hlen:=rv.length
  have hst:=st.2
  rw[show(n:Int) - 1 - (i:Int)=((n - 1 - i:Nat):Int) by omega] at hst
  refine Cb (i:=n - 1 - i) (x:=u) hst p (by rw[Kj];omega) (by simpa using hu) λh' tk st' sb=> ?_
  have I1:Inv X pins σ H {s with heap:=h',toks:=tk}:=I.turned (t':=tk) (λb o hb e=>(sb.2 b hb).trans e) f0 f1 f3 f4 f5
  rw[show((n - 1 - i:Nat):Int) - 1=(n:Int) - 1 - ((i+1:Nat):Int) by omega] at st'
  exact⟨u,rfl,yU (s:={s with heap:=h',toks:=tk}) st' rfl rfl (by decide) ⟨_,H,I1,ru,⟨rfl,λys hy=>by rw[I.mU hy hq];exact hx⟩,⟨by omega,st'⟩,λb hb=>(hf b hb).1⟩⟩
 done:=by
  intro X hP hw hK hc i pins s σ H E I hf st hg;subst hP hw hK
  have hi:n<=i:=hg
  obtain⟨f0,f1,f2,f3,f4,f5⟩:=hf it (by simp)
  have hst:=st.2
  rw[show(n:Int) - 1 - (i:Int)= -1 by have:=st.1;omega] at hst
  exact EO (I.ok.hd hc) hst λh' tk eb=>⟨rfl,I.turned (t':=tk) (λb o hb e=>eb b o hb e) f0 f1 f3 f4 f5⟩
 self:=λA i s Q E st h=>vM st.2 h
section
variable {X:Cx}{K:Frag}{Ew:Str->Hp->Prop}{pos p:Pos}{tg a:Expr}{ta:TE}{fa:EF}
def Nc (K:Frag)(ta:TE):TI:=λσ H R=>ta σ H λx H1=>∃q xs,x= .ref q/\dJ K H1 q xs/\R (Mh K q xs.length) H1
theorem Ic (hg:Gl X "reversed")(hm:X.mg "reversed" =none)(ha:PE X a ta)(hs:starEach [a] X.env=[(false,eval a X.env)]:=by rfl):PI X tg (.Call (.Name "reversed" p) [a] [] pos) (Nc X.K ta):=by
 intro pins s σ H R I h
 refine Call_ (fK I hg hm PyProof.Rows.boot_reversed (PyProof.Rows.callWith_type1 (cW (bx ha cZ hs pos pins s σ H (λvs H1=>match vs with
  | [x]=>∃q xs,x= .ref q/\dJ X.K H1 q xs/\R (Mh X.K q xs.length) H1
  | _=>False) I h) λus s1 ⟨vs,H1,I1,r1,q1⟩=> ?_) hs rfl))
 match vs,r1,q1 with
 | [x],r1,q1=>
  obtain⟨q,xs,rfl,hq,fin⟩:=q1
  obtain⟨u,rfl,ru⟩:=r1.one
  cases ru
  obtain⟨its,rv,pl,hz⟩:=I1.tuple hq
  have hl:=rv.length
  refine Ca pl (by rw[Kj];omega) λtk=> ?_
  have I2:Inv X pins σ H1 {s1 with heap:=s1.heap.push (m7 q ((its.toArray.size:Int) - 1)),toks:=tk}:=I1.kept (t':=tk) λb u e=>K7 _ e
  have hit:nO (s1.heap.push (m7 q ((its.toArray.size:Int) - 1))) s1.heap.objs.size q ((its.toArray.size:Int) - 1):=Ky _ rfl
  refine vM hit ⟨s1.heap.objs.size,[s1.heap.objs.size],_,_,H1,rfl,I2,Cc q _ xs.length,⟨Xy _,?_⟩,λb hb=> ?_,fin⟩
  ·have e:((its.toArray.size:Int) - 1)=(xs.length:Int) - 1 - ((0:Nat):Int):=by rw[Kj,←hl];simp
   exact(congrArg (λz=>nO (s1.heap.push (m7 q ((its.toArray.size:Int) - 1))) s1.heap.objs.size q z) e).mp hit
  ·have e:b=s1.heap.objs.size:=by simpa using hb
   subst e
   exact I1.n_ (K2 _) I1.fresh
 | [],r1,q1=>exact False.elim q1
 | _ :: _ :: _,r1,q1=>exact False.elim q1
theorem Cd {B:Hp}{a:Addr}{vs:List V}{ds:List PyData}(h:dJ K B a vs)(t:ar K B ds vs):t8 K B (Mh K a vs.length) ds.reverse where
 go:=λi H hi s=>by
  have hl:=ao t
  exact⟨by rw[UK] at hi;omega,vs,s.k7 h,rfl⟩
 yl:=λi H x H' hi s y=>by
  obtain⟨rfl,y⟩:=y
  have hl:=ao t
  rw[UK] at hi
  obtain⟨d,e,hd⟩:=g_ t (y vs (s.k7 h))
  exact⟨Same.refl _,d,by rw[List.getElem?_reverse hi,←hl];exact e,λB2 s2 _=>aJ.same s2 _ _ hd⟩
 stop:=λH s=>by
  show vs.length<=_
  rw[UK,ao t];exact K2 _
theorem Ie (hc:X.calm=true)(hg:Gl X "reversed")(hm:X.mg "reversed" =none)(ha:DE X K Ew a fa)(hK:X.K=K:=by rfl)(hs:starEach [a] X.env=[(false,eval a X.env)]:=by rfl):DI X K Ew tg (.Call (.Name "reversed" p) [a] [] pos) (BO fa) :=
 (Ic hg hm ha hs).imp λσ H R q=>lU (g:=λx _=>EB x.1 x.2) q λB φ Γ k d v H1 r s av q=>by
  replace q:vG K Ew B H Γ σ R (EB k d):=q
  cases d <;> try (exact False.elim q)
  rename_i ds
  obtain⟨B1,ψ,s1,r1,hd⟩:=r.j0 av
  obtain⟨a,vs,rfl,h1,h2⟩:=aE hd
  rw[hK]
  exact⟨a,vs,rfl,r1.bs.k7 h1,q _ H1 B1 ψ s s1 r1 (Cd h1 h2)⟩
end
end L2
namespace Y
open PySem
def pL (xs:List PyData):PyData->Option (Nat×List PyData)
 | .int k=>(nM xs.length k).bind λm=>match xs[m]? with
  | some (.list ys)=>if aq ys then some (m,ys) else none
  | _=>none
 | _=>none
theorem x5 {xs:List PyData}{d:PyData}{p:Nat×List PyData}(h:pL xs d=some p):∃k,d= .int k/\nM xs.length k=some p.1/\xs[p.1]? =some (.list p.2)/\aq p.2=true:=by
 obtain⟨k,rfl⟩:∃k,d= .int k:=by
  cases d <;> first | exact⟨_,rfl⟩ | exact absurd h (by simp[pL])
 simp only[pL] at h
 cases e:nM xs.length k with
 | none=>rw[e] at h;cases h
 | some m=>
  rw[e] at h
  simp only[Option.bind_some] at h
  split at h
  ·rename_i ys hy
   split at h
   ·rename_i hn
    cases h
    exact⟨k,rfl,e,hy,hn⟩
   ·cases h
  ·cases h
def Lm (k:Nat):PyData->Bool
 | .int i=>i==(k:Int)
 | _=>false
def in4:PyData->Bool
 | .int i=>decide (0<=i) && decide (i < 4)
 | _=>false
def vN (xs:List PyData):List PyData:=(([0,1,2,3]:List Nat).filter λk=>xs.any (Lm k)).map λ(k:Nat)=> .int (k:Int)
def j8:PyData->Option PyData
 | .list xs=>if xs.all in4=true then some (.list (vN xs)) else none
 | _=>none
def Mi:PyData->PyData->Option PyData
 | .int i,.int j=>some (.bool (decide (j<=i)))
 | _,_=>none
theorem zp (i j:Int):Mi (.int i) (.int j)=some (.bool (decide (j<=i))):=rfl
end Y
namespace L2
open PySem PySem.Spec PyProof.Rows Y
section
variable {K:Frag}{B H:Hp}{φ:Nat->List Addr}{Γ:aW}{σ:St}
theorem ug:∀{xs:List PyData} {vs:List V} {bs:List Addr} {m:Nat} {ys:List PyData},az K H xs vs bs->bs.Nodup->xs[m]? =some (.list ys)->aq ys=true->
  ∃b ws,vs[m]? =some (.ref b)/\H b=some (.lst ws)/\az K H ys ws []/\b∈bs/\∀ys' ws',az K (upd H b (.lst ws')) ys' ws' []->az K (upd H b (.lst ws')) (xs.set m (.list ys')) vs bs
 | [],vs,bs,m,ys,h,_,e,_=>by simp at e
 | x :: xs,vs,bs,0,ys,h,nd,e,hn=>by
  simp only[az] at h
  obtain⟨v,r,a1,a2,rfl,rfl,h1,h2⟩:=h
  have ex:x= .list ys:=by simpa using e
  subst ex
  obtain⟨b,ws,cs,rfl,hb,ht,rfl⟩:=bz h1
  have hc:=az.nil _ _ _ hn ht
  subst hc
  refine⟨b,ws,rfl,hb,ht,by simp,λys' ws' h'=> ?_⟩
  simp only[List.set_cons_zero,az]
  have nb:b∉a2:=by
   have:=KU.mp (show(b :: a2).Nodup by simpa using nd)
   exact this.1
  exact⟨.ref b,r,[b],a2,rfl,rfl,dy aw h',az.upd hb trivial _ _ _ nb h2⟩
 | x :: xs,vs,bs,m+1,ys,h,nd,e,hn=>by
  simp only[az] at h
  obtain⟨v,r,a1,a2,rfl,rfl,h1,h2⟩:=h
  obtain⟨n1,n2,n3⟩:=Xv.mp nd
  obtain⟨b,ws,e1,hb,ht,hm,hs⟩:=ug h2 n2 (by simpa using e) hn
  refine⟨b,ws,by simpa using e1,hb,ht,Kx _ hm,λys' ws' h'=> ?_⟩
  simp only[List.set_cons_succ,az]
  exact⟨v,r,a1,a2,rfl,rfl,IsT.upd hb trivial _ _ _ (λz=>n3 _ z _ hm rfl) h1,hs ys' ws' h'⟩
end
end L2
namespace L2
open PySem Y
mutual
def vO:PyData->Nat
 | .tuple xs=>uh xs+1
 | _=>1
def uh:List PyData->Nat
 | []=>0
 | d :: ds=>vO d+uh ds
end
mutual
def gN (h:Heap):PyData->Value->Prop
 | .int i,v=>∃t,v= .int i t
 | .none,v=>v= .none
 | .tuple ds,v=>∃a o items n,v= .ref a/\h.get? a=some o/\o.cls= .type "tuple" /\o.data= .seq items n/\gV h ds items.toList
 | _,_=>False
def gV (h:Heap):List PyData->List Value->Prop
 | [],vs=>vs=[]
 | d :: ds,vs=>∃v r,vs=v :: r/\gN h d v/\gV h ds r
end
mutual
theorem gN.reads {h:Heap}:∀(d:PyData) (v:Value),gN h d v->Reads h v d []
 | .int i,v,x=>by simp only[gN] at x;obtain⟨t,rfl⟩:=x;exact .int i t
 | .none,v,x=>by simp only[gN] at x;subst x;exact .none
 | .tuple ds,v,x=>by
  simp only[gN] at x
  obtain⟨a,o,items,n,rfl,h1,h2,h3,h4⟩:=x
  exact .tuple h1 h2 h3 (gV.reads ds _ h4)
 | .bool _,v,x=>by simp only[gN] at x
 | .str _,v,x=>by simp only[gN] at x
 | .list _,v,x=>by simp only[gN] at x
 | .dict _,v,x=>by simp only[gN] at x
theorem gV.reads {h:Heap}:∀(ds:List PyData) (vs:List Value),gV h ds vs->ReadsAll h vs ds []
 | [],vs,x=>by simp only[gV] at x;subst x;exact .nil
 | d :: ds,vs,x=>by
  simp only[gV] at x
  obtain⟨v,r,rfl,h1,h2⟩:=x
  exact .cons (gN.reads d v h1) (gV.reads ds r h2)
end
mutual
theorem jf:∀(n:Nat) (d:PyData),nest n d=true->d.canLay0=true
 | _,.int _,_=>rfl
 | _,.none,_=>rfl
 | n+1,.tuple ds,x=>by rw[nest] at x;simp only[PyData.canLay0];exact sh n ds x
 | 0,.tuple _,x=>by simp[nest] at x
 | 0,.bool _,x=>by simp[nest] at x
 | 0,.str _,x=>by simp[nest] at x
 | 0,.list _,x=>by simp[nest] at x
 | 0,.dict _,x=>by simp[nest] at x
 | _+1,.bool _,x=>by simp[nest] at x
 | _+1,.str _,x=>by simp[nest] at x
 | _+1,.list _,x=>by simp[nest] at x
 | _+1,.dict _,x=>by simp[nest] at x
theorem sh:∀(n:Nat) (ds:List PyData),nests n ds=true->PyData.canLayAll0 ds=true
 | _,[],_=>rfl
 | n,d :: ds,x=>by
  rw[nests,X9] at x
  simp only[PyData.canLayAll0,jf n d x.1,sh n ds x.2,XZ]
end
mutual
theorem pM:∀(n:Nat) (d:PyData),nest n d=true->d.depth<=n+1
 | _,.int _,_=>by simp[PyData.depth]
 | _,.none,_=>by simp[PyData.depth]
 | n+1,.tuple ds,x=>by rw[nest] at x;have:=nP n ds x;simp only[PyData.depth];omega
 | 0,.tuple _,x=>by simp[nest] at x
 | 0,.bool _,x=>by simp[nest] at x
 | 0,.str _,x=>by simp[nest] at x
 | 0,.list _,x=>by simp[nest] at x
 | 0,.dict _,x=>by simp[nest] at x
 | _+1,.bool _,x=>by simp[nest] at x
 | _+1,.str _,x=>by simp[nest] at x
 | _+1,.list _,x=>by simp[nest] at x
 | _+1,.dict _,x=>by simp[nest] at x
theorem nP:∀(n:Nat) (ds:List PyData),nests n ds=true->PyData.depthAll ds<=n+1
 | _,[],_=>by simp[PyData.depthAll]
 | n,d :: ds,x=>by
  rw[nests,X9] at x
  have h1:=pM n d x.1
  have h2:=nP n ds x.2
  simp only[PyData.depthAll];omega
end
mutual
theorem pN:∀(n:Nat) (x y:PyData),nest n x=true->nest n y=true->PyData.eqv x y=true->x=y
 | _,.none,.none,_,_,_=>rfl
 | _,.int i,.int j,_,_,h=>by simp[PyData.eqv] at h;rw[h]
 | n+1,.tuple xs,.tuple ys,hx,hy,h=>by
  rw[nest] at hx hy
  simp only[PyData.eqv] at h
  rw[sj n xs ys hx hy h]
 | 0,.tuple _,_,hx,_,_=>by simp[nest] at hx
 | 0,_,.tuple _,_,hy,_=>by simp[nest] at hy
 | _,.none,.int _,_,_,h=>by simp[PyData.eqv] at h
 | _,.none,.tuple _,_,_,h=>by simp[PyData.eqv] at h
 | _,.int _,.none,_,_,h=>by simp[PyData.eqv] at h
 | _,.int _,.tuple _,_,_,h=>by simp[PyData.eqv] at h
 | _,.tuple _,.none,_,_,h=>by simp[PyData.eqv] at h
 | _,.tuple _,.int _,_,_,h=>by simp[PyData.eqv] at h
 | n,.bool _,_,hx,_,_=>by cases n <;> simp[nest] at hx
 | n,.str _,_,hx,_,_=>by cases n <;> simp[nest] at hx
 | n,.list _,_,hx,_,_=>by cases n <;> simp[nest] at hx
 | n,.dict _,_,hx,_,_=>by cases n <;> simp[nest] at hx
 | n,_,.bool _,_,hy,_=>by cases n <;> simp[nest] at hy
 | n,_,.str _,_,hy,_=>by cases n <;> simp[nest] at hy
 | n,_,.list _,_,hy,_=>by cases n <;> simp[nest] at hy
 | n,_,.dict _,_,hy,_=>by cases n <;> simp[nest] at hy
theorem sj:∀(n:Nat) (xs ys:List PyData),nests n xs=true->nests n ys=true->PyData.eqvAll xs ys=true->xs=ys
 | _,[],[],_,_,_=>rfl
 | n,x :: xs,y :: ys,hx,hy,h=>by
  rw[nests,X9] at hx hy
  simp only[PyData.eqvAll,X9] at h
  rw[pN n x y hx.1 hy.1 h.1,sj n xs ys hx.2 hy.2 h.2]
 | _,[],_ :: _,_,_,h=>by simp[PyData.eqvAll] at h
 | _,_ :: _,[],_,_,h=>by simp[PyData.eqvAll] at h
end
section
variable {prog:Program}{w:World}{A:Around}{E:Z3}{s:Shared}
theorem Ay {Q:Int->Shared->Prop}(hu:A.units < cLine)(h:Q vz {s with toks:=s.toks+1}):wpAny (!3) A (pyHash .none) Q E s:=by
 have hT:=typeIs_none s
 unfold pyHash;unfold pyHashByItsType
 refine JZ (wpAny_cRoomFor_or (.inr hu) ?_);refine JZ (Z4 hT F.slot_NoneType_hash.lookup ?_)
 rw[JV (by decide)]
 refine JZ (Z4 hT F.slot_NoneType_hash.lookup ?_)
 show wpAny _ _ (callSpecialIfBoundUnlessNone? .none "__hash__" _ >>=_) Q E s
 refine JZ (wpAny_callSpecialIfBoundUnlessNone?_slot hT F.slot_NoneType_hash (Z6 F.slot_NoneType_hash hT F.entry_NoneType_hash ?_ (F.args_NoneType_hash_1 _)))
 show wpAny _ _ (retInt 0xFCA86420) _ _ s
 refine wpAny_ret_mkInt ?_
 exact JW h
mutual
theorem zq:∀(n:Nat) (d:PyData) {A:Around} {E:Z3} {s:Shared} {v:Value} {Q:Int->Shared->Prop},nest n d=true->gN s.heap d v->A.units+n < cLine->Q (fH d) {s with toks:=s.toks+vO d}->wpAny (!3) A (pyHash v) Q E s
 | n,.int i,A,E,s,v,Q,_,x,_,h=>by
  simp only[gN] at x;obtain⟨t,rfl⟩:=x
  exact(intKind prog w).pyHash (k:=i) (by simp[intKind,Value.isInt]) h
 | n,.none,A,E,s,v,Q,_,x,hu,h=>by
  simp only[gN] at x;subst x
  exact Ay (!1) h
 | n+1,.tuple ds,A,E,s,v,Q,hn,x,hu,h=>by
  rw[nest] at hn
  simp only[gN] at x
  obtain⟨a,o,items,m,rfl,ho,hc,hd,hi⟩:=x
  have hT:s.TypeIs (.ref a) "tuple":=⟨o,ho,hc⟩
  unfold pyHash;unfold pyHashByItsType
  refine JZ (wpAny_cRoomFor_or (.inr (!1)) ?_);refine JZ (Z4 hT F.slot_tuple_hash.lookup ?_)
  rw[JV (by rw[beq_builtin_none];decide)]
  refine JZ (Z4 hT F.slot_tuple_hash.lookup ?_)
  show wpAny (!3) A (callSpecialIfBoundUnlessNone? (.ref a) "__hash__" _ >>=_) Q E s
  refine JZ (wpAny_callSpecialIfBoundUnlessNone?_slot hT F.slot_tuple_hash (Z6 F.slot_tuple_hash hT F.entry_tuple_hash ?_ (F.args_tuple_hash_1 _)))
  show wpAny (!3) A.in1 (Builtin.Tuple.tupleItemsOf (.ref a) >>=_) _ _ s
  refine JZ (wpAny_tupleItemsOf ho hd ?_);refine JZ ?_
  rw[←Array.forIn_toList]
  refine sk n ds #[] hn hi (by show A.units+1+n < cLine;omega) λb hb=> ?_
  rw[YZ] at hb
  show wpAny (!3) A.in1 (retInt (Builtin.Tuple.tupleHashOf b.toList)) _ _ _
  rw[hb]
  refine wpAny_ret_mkInt ?_
  simp only[fH,reduceHash,vO] at h
  show wpAny (!3) A (if (decide (-(2:Int)^63<=Builtin.Tuple.tupleHashOf (jy ds)) && decide (Builtin.Tuple.tupleHashOf (jy ds) < 2^63))=true then _ else _) Q E _
  by_cases hr:(decide (-(2:Int)^63<=Builtin.Tuple.tupleHashOf (jy ds)) && decide (Builtin.Tuple.tupleHashOf (jy ds) < 2^63))=true
  ·rw[JQ hr];rw[JQ hr] at h
   exact JW (by simpa [Nat.add_assoc] using h)
  ·rw[JV hr];rw[JV hr] at h
   exact JZ (wpAny_rule (JW (by simpa [Nat.add_assoc] using h)))
 | 0,.tuple _,_,_,_,_,_,hn,_,_,_=>by simp[nest] at hn
 | n,.bool _,_,_,_,_,_,hn,_,_,_=>by cases n <;> simp[nest] at hn
 | n,.str _,_,_,_,_,_,hn,_,_,_=>by cases n <;> simp[nest] at hn
 | n,.list _,_,_,_,_,_,hn,_,_,_=>by cases n <;> simp[nest] at hn
 | n,.dict _,_,_,_,_,_,hn,_,_,_=>by cases n <;> simp[nest] at hn
theorem sk:∀(n:Nat) (ds:List PyData) {A:Around} {E:Z3} {s:Shared} {vs:List Value} {Q:Array Int->Shared->Prop} (b0:Array Int),nests n ds=true->gV s.heap ds vs->A.units+n < cLine->
  (∀b:Array Int,b.toList=b0.toList++jy ds->Q b {s with toks:=s.toks+uh ds})->
  wpAny (!3) A (forIn vs b0 λx r=>do let y←pyHash x;pure (ForInStep.yield (r.push y))) Q E s
 | _,[],A,E,s,vs,Q,b0,_,x,_,h=>by
  simp only[gV] at x;subst x
  rw[List.forIn_nil]
  exact JW (h b0 (by simp[jy]))
 | n,d :: ds,A,E,s,vs,Q,b0,hn,x,hu,h=>by
  simp only[gV] at x
  obtain⟨v,r,rfl,h1,h2⟩:=x
  rw[nests,X9] at hn
  rw[Jw]
  refine JZ (JZ (zq n d hn.1 h1 hu (JW ?_)))
  refine sk n ds (s:={s with toks:=s.toks+vO d}) (b0.push (fH d)) hn.2 h2 hu λb hb=> ?_
  have:=h b (by rw[hb];simp[jy])
  simpa [uh,Nat.add_assoc] using this
end
mutual
theorem vP:∀(n:Nat) (d:PyData) {A:Around} {E:Z3} {s:Shared} {v:Value} {Q:Bool->Shared->Prop},nest n d=true->gN s.heap d v->Q true s->wpAny (!3) A (eqIsQuiet n v) Q E s
 | n,.int i,A,E,s,v,Q,_,x,h=>by
  simp only[gN] at x;obtain⟨t,rfl⟩:=x
  rw[eqIsQuiet_byValue n rfl];exact JW h
 | n,.none,A,E,s,v,Q,_,x,h=>by
  simp only[gN] at x;subst x
  rw[eqIsQuiet_byValue n rfl];exact JW h
 | n+1,.tuple ds,A,E,s,v,Q,hn,x,h=>by
  rw[nest] at hn
  simp only[gN] at x
  obtain⟨a,o,items,m,rfl,ho,hc,hd,hi⟩:=x
  have hT:s.TypeIs (.ref a) "tuple":=⟨o,ho,hc⟩
  unfold eqIsQuiet
  refine JZ (Z4 hT F.slot_tuple_eq.lookup ?_);dsimp only
  refine JZ (wpAny_isInstance hT isSubtype_tuple_tuple ?_)
  simp only[Bool.not_true,XJ,if_false]
  refine JZ (wpAny_seqItems ho hd ?_);refine JZ ?_
  show wpAny (!3) A (forIn items _ _) _ E s
  rw[←Array.forIn_toList]
  exact sm n ds hn hi (JW h)
 | 0,.tuple _,_,_,_,_,_,hn,_,_=>by simp[nest] at hn
 | n,.bool _,_,_,_,_,_,hn,_,_=>by cases n <;> simp[nest] at hn
 | n,.str _,_,_,_,_,_,hn,_,_=>by cases n <;> simp[nest] at hn
 | n,.list _,_,_,_,_,_,hn,_,_=>by cases n <;> simp[nest] at hn
 | n,.dict _,_,_,_,_,_,hn,_,_=>by cases n <;> simp[nest] at hn
theorem sm:∀(n:Nat) (ds:List PyData) {A:Around} {E:Z3} {s:Shared} {vs:List Value} {Q:Option Bool×PUnit->Shared->Prop},nests n ds=true->gV s.heap ds vs->Q (none,PUnit.unit) s->
  wpAny (!3) A (forIn vs ((none,PUnit.unit):Option Bool×PUnit) λx r=>do let y←eqIsQuiet n x;if (!y)=true then pure (ForInStep.done (some false,PUnit.unit)) else pure (ForInStep.yield (none,PUnit.unit))) Q E s
 | _,[],A,E,s,vs,Q,_,x,h=>by
  simp only[gV] at x;subst x
  rw[List.forIn_nil]
  exact JW h
 | n,d :: ds,A,E,s,vs,Q,hn,x,h=>by
  simp only[gV] at x
  obtain⟨v,r,rfl,h1,h2⟩:=x
  rw[nests,X9] at hn
  rw[Jw]
  refine JZ (JZ (vP n d hn.1 h1 ?_))
  simp only[Bool.not_true,XJ,if_false]
  exact JW (sm n ds hn.2 h2 h)
end
end
section
variable {prog:Program}{w:World}{K:Type}[DecidableEq K]{knd:HeapKind prog w K}{A:Around}{E:Z3}{s:Shared}
theorem Nd {d a:Addr}{xs:List (K×Addr×Value)}{k:K}{v:Value}{Q:Unit->Shared->Prop}(hu:knd.room A)(hkey:knd.is s.heap k a)(hm:s.heap.DictOfH knd d xs)(hsz:xs.length<=sizeLine)
  (hQ:∀h',h'.DictOfH knd d (storedH xs k a v)->Heap.SameBut d s.heap h'->Q () {s with heap:=h'}):wpAny (!3) A (dictSetHashed d (.ref a) (knd.hash k) v) Q E s:=by
 obtain⟨o,es,ep,ho,hc,hd,he,his,hn⟩:=hm
 have hes:es.size<=sizeLine:=by rw[size_of_entries he];exact hsz
 unfold dictSetHashed
 refine Z7 ?_
 refine JZ (wpAny_dictFind_heap hu hkey ho hd he his hn (λhno=> ?_) λj p hj=> ?_)
 ·have h1:=storedH_new (atKey_none_of_get hno) a v
  refine JZ (wpAny_rule (wpAny_updateDictKeys (hz:=hes) ho hd (hQ _ ⟨_,_,ep+1,XX _ ho (Obj.isFreed_of_dict (Obj.data_mapDictKeys hd _)),hc.mapDictKeys _,Obj.data_mapDictKeys hd _,?_,λx hx=> ?_,?_⟩ (Heap.SameBut.update ..))))
  ·rw[h1];simp[he,entryOfKey]
  ·rw[h1] at hx
   rcases Kk.mp hx with hx | hx
   ·exact knd.keeps (his x hx) ho hd (Heap.SameBut.update ..)
   ·rw[K6.mp hx];exact knd.keeps hkey ho hd (Heap.SameBut.update ..)
  ·rw[h1,X0,Xv]
   refine⟨hn,KU.mpr ⟨by simp,X2⟩,λx hx y hy e=>not_mem_keys_of_get hno ?_⟩
   have hy':y=k:=by simpa using hy
   rw[←hy',←e];exact hx
 ·have h1:=storedH_old (atKey_of_get hn hj) a v
  refine JZ (wpAny_rule (JZ (wpAny_updateDict ho hd (wpAny_point (hQ _ ⟨_,_,ep,XX _ ho (Obj.isFreed_of_dict (Obj.data_mapDict hd _)),hc.mapDict _,Obj.data_mapDict hd _,?_,λx hx=> ?_,?_⟩ (Heap.SameBut.update ..))))))
  ·rw[h1]
   have:=modify_map_putAt (entryOfKey knd) (λe:DictEntry=>{e with val:=v}) k v (λ_ _=>rfl) hn hj
   rw[←he] at this;obtain⟨l⟩:=es;simpa using this
  ·rw[h1] at hx
   obtain⟨y,hy,rfl⟩:=Kw.mp hx
   unfold putAt;split <;> exact knd.keeps (his y hy) ho hd (Heap.SameBut.update ..)
  ·rw[h1,keys_map_putAt];exact hn
def e7 (xs more:List (K×Addr×Value)):List (K×Addr×Value):=more.foldl (λacc x=>storedH acc x.1 x.2.1 x.2.2) xs
theorem vQ (xs:List (K×Addr×Value))(k:K)(a:Addr)(v:Value):(storedH xs k a v).length<=xs.length+1:=by
 unfold storedH;split
 ·rw[K4];omega
 ·rw[K1,X3];exact K2 _
theorem nQ:∀(more xs:List (K×Addr×Value)),(e7 xs more).length<=xs.length+more.length
 | [],xs=>K2 _
 | x :: more,xs=>by
  have h1:=nQ more (storedH xs x.1 x.2.1 x.2.2)
  have h2:=vQ xs x.1 x.2.1 x.2.2
  show(e7 (storedH xs x.1 x.2.1 x.2.2) more).length<=_
  rw[Kz];omega
theorem uk {xs more:List (K×Addr×Value)}{i:Nat}{x:K×Addr×Value}(h:more[i]? =some x):e7 xs (more.take (i+1))=storedH (e7 xs (more.take i)) x.1 x.2.1 x.2.2:=by
 unfold e7;rw[J8,h,List.foldl_append];rfl
theorem Ig {nm:String}{d o:Addr}{xs more:List (K×Addr×Value)}{Q:Unit->Shared->Prop}(hu:knd.room A)(hdo:d≠o)(hoS:(o==sysModules)=false)(hx0:xs≠[])
  (hd:s.heap.DictOfH knd d xs) (ho:s.heap.DictOfH knd o more) (hsz:xs.length+more.length<=sizeLine)
  (hQ:∀h',h'.DictOfH knd d (e7 xs more)->Heap.SameBut d s.heap h'->Q () {s with heap:=h'}):wpAny (!3) A (Builtin.Dict.mergeDict nm d o) Q E s:=by
 obtain⟨od,esd,epd,hod,hcd,hdd,hed,Nf,hnd⟩:=id hd
 obtain⟨oo,eso,epo,hoo,hco,hdo',heo,Ih,hno⟩:=id ho
 have hlen:eso.size=more.length:=size_of_entries heo
 unfold Builtin.Dict.mergeDict
 rw[JV (by simpa using hdo)]
 unfold Builtin.Dict.showsAll
 rw[JV (by rw[hoS];exact K5)]
 refine JZ (JW ?_);refine JZ (wpAny_dictEntries hoo hdo' ?_)
 have loop:wpAny (!3) A (do
   let epoch←dictEpoch o;let l←dictEntries o
   forIn [:l.size] PUnit.unit λi (_:PUnit)=>(do
     let l'←dictEntries o
     match l'[i]? with
      | some e=>do
       holding [e.key,e.val] (dictSetHashed d e.key e.hash e.val)
       let ep'←dictEpoch o
       if (
         ep' !=epoch)=true then do
         (unsupported (toString nm++toString ":source-changed-during-callback"):Sem PUnit);pure (ForInStep.yield PUnit.unit)
        else pure (ForInStep.yield PUnit.unit)
      | _=>do
       (unsupported "internal:dict-merge":Sem PUnit);pure (ForInStep.yield PUnit.unit):Sem (ForInStep PUnit))
   pure ()) Q E s:=by
  refine JZ (wpAny_dictEpoch hoo hdo' ?_);refine JZ (wpAny_dictEntries hoo hdo' ?_);refine JZ ?_
  rw[Std.Legacy.Range.forIn_eq_forIn_range'];simp only[Std.Legacy.Range.size,Nat.sub_zero,Nat.add_sub_cancel,Nat.div_one]
  refine wpAny_forIn_list _ (λrest _ s'=>∃h' i,s'={s with heap:=h'}/\rest=List.range' i (eso.size - i)/\i<=eso.size/\h'.DictOfH knd d (e7 xs (more.take i))/\h'.get? o=some oo/\Heap.SameBut d s.heap h')
   _ ?_ ?_ _ _ ⟨s.heap,0,rfl,by simp,Xy _,by simpa [e7] using hd,hoo,Heap.SameBut.refl _ _⟩
  ·rintro x rest b s' ⟨h',i,rfl,hr,hi,hd',hoo',hs'⟩
   have hlt:i < eso.size:=Nat.lt_of_not_le λh=>by rw[Nat.sub_eq_zero_of_le h] at hr;simp at hr
   obtain⟨rfl,hrest⟩:x=i/\rest=List.range' (i+1) (eso.size - (i+1)):=by
    rw[show eso.size - i=(eso.size - (i+1))+1 by omega,List.range'_succ] at hr;injection hr with h1 h2;exact⟨h1,h2⟩
   refine JZ (wpAny_dictEntries hoo' hdo' ?_)
   have N3:x < more.length:=by omega
   have hkv:more[x]? =some more[x]:=K3 N3
   have hen:eso[x]? =some (entryOfKey knd more[x]):=by rw[entry_at heo x,hkv];rfl
   rw[hen]
   have hmx:(e7 xs (more.take x)).length<=sizeLine:=by
    have e1:=nQ (more.take x) xs
    rw[Xk] at e1;omega
   have hkx:knd.is h' more[x].1 more[x].2.1:=knd.keeps (Ih _ (UX N3)) hod hdd hs'
   refine JZ (Z7 (Nd (s:={s with heap:=h'}) hu hkx hd' hmx λh'' hd'' hs''=> ?_))
   have hoo'':h''.get? o=some oo:=(hs''.2 o (Ne.symm hdo)).trans hoo'
   refine JZ (wpAny_dictEpoch hoo'' hdo' ?_)
   rw[JV (by simp)]
   exact JW ⟨h'',x+1,rfl,hrest,hlt,by rw[uk hkv];exact hd'',hoo'',hs'.trans hs''⟩
  ·rintro b s' ⟨h',i,rfl,hr,hi,hd',hoo',hs'⟩
   have hin:i=eso.size:=Jz hi (Nat.le_of_not_lt λh=>by
    rw[show eso.size - i=(eso.size - (i+1))+1 by omega,List.range'_succ] at hr;exact nomatch hr)
   refine JW (hQ h' ?_ hs')
   rw[hin,hlen,J4] at hd';exact hd'
 dsimp only
 split
 ·refine JZ (wpAny_dictEntries hod hdd ?_)
  split
  ·rename_i hemp
   have h0:esd= #[]:=Array.isEmpty_iff.mp hemp
   rw[h0] at hed
   exact absurd (by simpa using hed) hx0
  ·exact loop
 ·exact loop
theorem pO {α:Type}(f:α->Int)(c:Int):∀(l:List α),(l.map f).Nodup->(l.filter λx=>f x==c).length<=1
 | [],_=>Xy _
 | x :: l,h=>by
  rw[KZ,KU] at h
  rw[Y7]
  by_cases hx:(f x==c)=true
  ·rw[JQ hx,Kz]
   have:l.filter (λx=>f x==c)=[]:=List.filter_eq_nil_iff.mpr λy hy hz=>h.1 (by
    rw[eq_of_beq hx,←eq_of_beq hz];exact Yj hy)
   rw[this];exact K2 _
  ·rw[JV hx];exact pO f c l h.2
theorem Ln {nm:String}{d o:Addr}{more:List (K×Addr×Value)}{Q:Unit->Shared->Prop}(hdo:d≠o)(hoS:(o==sysModules)=false)(hm0:more≠[])
  (hT:∀x∈more,s.TypeIs (.ref x.2.1) "tuple") (hh:(more.map λx=>knd.hash x.1).Nodup)
  (hd:s.heap.DictOfH knd d []) (ho:s.heap.DictOfH knd o more) (hsz:more.length<=sizeLine)
  (hQ:∀h',h'.DictOfH knd d more->Heap.SameBut d s.heap h'->Q () {s with heap:=h'}):wpAny (!3) A (Builtin.Dict.mergeDict nm d o) Q E s:=by
 obtain⟨od,esd,epd,hod,hcd,hdd,hed,Nf,hnd⟩:=id hd
 obtain⟨oo,eso,epo,hoo,hco,hdo',heo,Ih,hno⟩:=id ho
 have hlen:eso.size=more.length:=size_of_entries heo
 have h0:esd= #[]:=by obtain⟨l⟩:=esd;simpa using hed
 subst h0
 unfold Builtin.Dict.mergeDict
 rw[JV (by simpa using hdo)]
 unfold Builtin.Dict.showsAll
 rw[JV (by rw[hoS];exact K5)]
 refine JZ (JW ?_);refine JZ (wpAny_dictEntries hoo hdo' ?_)
 have few:(eso.all λe=>(keyPart e.key).isSome)=false:=by
  obtain⟨x,r,rfl⟩:=List.exists_cons_of_ne_nil hm0
  obtain⟨l⟩:=eso
  simp only at heo
  subst heo
  simp[entryOfKey,keyPart]
 dsimp only
 rw[few]
 simp only[Bool.and_false,Bool.not_false,if_true]
 refine JZ (wpAny_dictEntries hod hdd ?_)
 rw[JQ (show(#[]:Array DictEntry).isEmpty=true from rfl)]
 refine JZ ?_
 unfold Builtin.Dict.entriesForEmpty
 refine JZ (wpAny_dictEntries hoo hdo' ?_);refine JZ ?_
 rw[←Array.forIn_toList]
 refine wpAny_forIn_list _ (λrest _ s'=>s'=s/\∀e∈rest,e∈eso.toList) _ ?_ ?_ _ _ ⟨rfl,λe he=>he⟩
 ·rintro e rest b s' ⟨rfl,hr⟩
  obtain⟨x,hx,rfl⟩:∃x∈more,entryOfKey knd x=e:=by
   have:=hr e K8
   rw[heo] at this
   obtain⟨x,hx,he⟩:=Kw.mp this
   exact⟨x,hx,he⟩
  have hT1:=hT x hx
  have hone:¬ (eso.filter λy=>y.hash==(entryOfKey knd x).hash).size > 1:=by
   have e1:(eso.toList.map DictEntry.hash).Nodup:=by rw[heo,KQ];exact hh
   have:=pO DictEntry.hash (entryOfKey knd x).hash eso.toList e1
   rw[←Kq,Array.toList_filter];omega
  unfold Builtin.Dict.quietEq
  refine JZ ?_
  show wpAny (!3) A (specialOf (.ref x.2.1) "__eq__" >>=_) _ E _
  refine JZ (Z4 hT1 F.slot_tuple_eq.lookup (JW ?_))
  rw[show((some (Value.builtin "tuple.__eq__")==some (Value.builtin "object.__eq__"))=false) by decide]
  simp only[Bool.not_false,if_true]
  rw[JV hone]
  exact JW ⟨rfl,λe he=>hr e (K9 _ he)⟩
 ·rintro b s' ⟨rfl,_⟩
  refine JW ?_
  have hne:eso.isEmpty=false:=by
   cases hz:eso.isEmpty with
   | false=>rfl
   | true=>rw[Array.isEmpty_iff.mp hz] at hlen;exact absurd (Yq.mp hlen.symm) hm0
  rw[hne]
  simp only[Bool.not_false,if_true]
  refine JZ (wpAny_updateDictKeysTo hod hdd (JW (hQ _ ⟨_,_,epd+1,XX _ hod (Obj.isFreed_of_dict (Obj.data_mapDictKeys hdd _)),hcd.mapDictKeys _,Obj.data_mapDictKeys hdd _,heo,λx hx=>knd.keeps (Ih x hx) hod hdd (Heap.SameBut.update ..),hno⟩ (Heap.SameBut.update ..))) (!1))
end
mutual
theorem gN.keep {h h':Heap}(k:∀b o items n,h.get? b=some o->o.data= .seq items n->h'.get? b=some o):∀(d:PyData) (v:Value),gN h d v->gN h' d v
 | .int i,v,x=>by simp only[gN] at x⊢;exact x
 | .none,v,x=>by simp only[gN] at x⊢;exact x
 | .tuple ds,v,x=>by
  simp only[gN] at x⊢
  obtain⟨a,o,items,n,rfl,h1,h2,h3,h4⟩:=x
  exact⟨a,o,items,n,rfl,k a o items n h1 h3,h2,h3,gV.keep k ds _ h4⟩
 | .bool _,v,x=>by simp only[gN] at x
 | .str _,v,x=>by simp only[gN] at x
 | .list _,v,x=>by simp only[gN] at x
 | .dict _,v,x=>by simp only[gN] at x
theorem gV.keep {h h':Heap}(k:∀b o items n,h.get? b=some o->o.data= .seq items n->h'.get? b=some o):∀(ds:List PyData) (vs:List Value),gV h ds vs->gV h' ds vs
 | [],vs,x=>by simp only[gV] at x⊢;exact x
 | d :: ds,vs,x=>by
  simp only[gV] at x⊢
  obtain⟨v,r,rfl,h1,h2⟩:=x
  exact⟨v,r,rfl,gN.keep k d v h1,gV.keep k ds r h2⟩
end
def NK:={ds:List PyData // nests 7 ds=true}
noncomputable instance:DecidableEq NK:=λ_ _=>Classical.propDecidable _
def NK.d (k:NK):PyData:=.tuple k.1
theorem NK.n (k:NK):nest 8 k.d=true:=by rw[NK.d,nest];exact k.2
theorem NK.inj {x y:NK}(h:x.d=y.d):x=y:=Subtype.ext (PyData.tuple.inj h)
noncomputable def bA (prog:Program)(w:World):HeapKind prog w NK where
 is:=λh k a=>gN h k.d (.ref a)
 hash:=λk=>fH k.d
 draws:=λk=>vO k.d
 room:=λA=>A.units+10 < cLine
 inj:=λ{h a x y} hx hy=>NK.inj (SeqAt.Reads.unique _ _ _ _ _ (jf 8 _ x.n) (gN.reads _ _ hx) (gN.reads _ _ hy))
 keeps:=λ{h h' k a d o es ep} x ho hd hs=>gN.keep (λb ob items n hb hdb=>(hs.2 b λe=>by subst e;rw[ho] at hb;cases hb;rw[hd] at hdb;cases hdb).trans hb) _ _ x
 pyHash:=λ{A E s k a Q} hu x h=>zq 8 k.d k.n x (!1) h
 eqBool:=λ{A E s x y a b Q} hu hx hy h=>by
  have h1:=SeqAt.eqAt_reads x.d y.d A s (.ref a) (.ref b) [] [] (gN.reads _ _ hx) (gN.reads _ _ hy) (jf 8 _ x.n) (jf 8 _ y.n) (by
   have:=pM 8 _ x.n
   have:min x.d.depth y.d.depth<=9:=KJ (Nat.min_le_left _ _) this
   omega)
  refine h1 prog w E Q ?_
  have e:PyData.eqv x.d y.d=decide (x=y):=by
   rw[Yv,JJ]
   refine⟨λz=>NK.inj (pN 8 _ _ x.n y.n z),λz=> ?_⟩
   rw[z];exact SeqAt.eqv_refl _ (jf 8 _ y.n)
  rw[e];exact h
 quiet:=λ{A E s k a Q} x h=>vP 8 k.d k.n x h
section
variable {prog:Program}{w:World}{K:Type}[DecidableEq K]{knd:HeapKind prog w K}{A:Around}{E:Z3}{s:Shared}
theorem ul {h h':Heap}{d:Addr}{xs:List (K×Addr×Value)}(hm:h.DictOfH knd d xs)(k:∀b o,h.get? b=some o->h'.get? b=some o)(hi:∀x∈xs,knd.is h' x.1 x.2.1):h'.DictOfH knd d xs:=by
 obtain⟨o,es,ep,ho,hc,hd,he,his,hn⟩:=hm
 exact⟨o,es,ep,k _ _ ho,hc,hd,he,hi,hn⟩
theorem Lo {o:Addr}{more:List (K×Addr×Value)}{Q:Z3}(hoS:(o==sysModules)=false)(ho:s.heap.DictOfH knd o more)(hm0:more≠[])(hsz:more.length<=sizeLine)
  (hT:∀x∈more,s.TypeIs (.ref x.2.1) "tuple") (hh:(more.map λx=>knd.hash x.1).Nodup)
  (hi:∀x∈more,knd.is (s.heap.push {cls:=.type "dict",data:=.dict #[]}) x.1 x.2.1)
  (h:∀h',h'.DictOfH knd s.heap.objs.size more->Heap.SameBut s.heap.objs.size (s.heap.push {cls:=.type "dict",data:=.dict #[]}) h'->Q (!7) {s with heap:=h'}) :
  wpAny (!3) A (call (.type "dict") [.ref o]) Q E s:=by
 refine callType_codes (Q₁:=λobj s₁=>obj= .ref s.heap.objs.size/\s₁={s with heap:=s.heap.push {cls:=.type "dict",data:=.dict #[]}}) F.kt_called_dict (F.kt_typeCall_dict_1 _) F.entry_dict_init (kt_code_dict_new _ ⟨rfl,rfl⟩) λobj s₁ hs₁=> ?_
 obtain⟨rfl,rfl⟩:=hs₁
 have hk:∀b u,s.heap.get? b=some u->(s.heap.push {cls:=.type "dict",data:=.dict #[]}).get? b=some u:=λb u e=>K7 _ e
 have hnew:(s.heap.push {cls:=.type "dict",data:=.dict #[]}).DictOfH knd s.heap.objs.size []:=Heap.DictOfH.new s.heap
 have ho':=ul ho hk hi
 have hdo:s.heap.objs.size≠o:=by
  obtain⟨_,_,_,hg,_⟩:=ho
  exact λe=>absurd (Kv hg) (by rw[e];exact U3 _)
 have hT1:Shared.TypeIs {s with heap:=s.heap.push {cls:=.type "dict",data:=.dict #[]}} (!7) "dict":=hnew.typeIs (s:={s with heap:=s.heap.push {cls:=.type "dict",data:=.dict #[]}})
 have hT2:Shared.TypeIs {s with heap:=s.heap.push {cls:=.type "dict",data:=.dict #[]}} (.ref o) "dict":=ho'.typeIs (s:={s with heap:=s.heap.push {cls:=.type "dict",data:=.dict #[]}})
 refine⟨hT1,F.args_dict_init_2 _ _,?_⟩
 unfold Builtin.«dict.__init__»;refine JZ ?_
 unfold Builtin.Dict.selfAndRest;refine JZ (wpAny_notOrdered_dict hT1 ?_)
 show wpAny (!3) _ (pure (s.heap.objs.size,[Value.ref o])) _ _ _;refine JW ?_
 show wpAny (!3) _ (Builtin.Dict.updateFrom "dict.__init__" s.heap.objs.size (.ref o) [] .none) _ _ _;unfold Builtin.Dict.updateFrom
 refine JZ (wpAny_typeOf hT2 ?_);rw[JV (by decide)]
 refine JZ ?_;unfold Builtin.Dict.merge;refine JZ ?_;unfold Builtin.Dict.readDirectly
 refine JZ (wpAny_isInstance hT2 isSubtype_dict_dict ?_);simp only[Bool.not_true,XJ,if_false]
 refine JZ (Z4 hT2 F.slot_dict_iter.lookup (JW ?_));simp only[beq_self_eq_true,if_true];refine JZ (JW ?_)
 refine Ln (s:={s with heap:=s.heap.push {cls:=.type "dict",data:=.dict #[]}}) hdo hoS hm0 (λx hx=>let ⟨ob,e,c⟩:=hT x hx;⟨ob,hk _ _ e,c⟩) hh hnew ho' hsz λh' hd' hs'=> ?_
 show wpAny (!3) _ (Builtin.Dict.addKeywords s.heap.objs.size [] >>=_) _ _ _
 exact JZ (JW (JW ⟨rfl,h h' hd' hs'⟩))
theorem ER (d o:Addr)(hdo:d≠o)(hoS:(o==sysModules)=false) :
  MeetsIn prog w (Builtin.«dict.update» ⟨[.ref d,.ref o],[]⟩) (λA R s=>knd.room A.in1/\∃xs more,xs≠[]/\s.heap.DictOfH knd d xs/\s.heap.DictOfH knd o more/\xs.length+more.length<=sizeLine/\
   ∀h',h'.DictOfH knd d (e7 xs more)->Heap.SameBut d s.heap h'->R (.ok (.ret .none)) {s with heap:=h'}) :=
 .of_wp λA R s ⟨hu,xs,more,hx0,hd,ho,hsz,h⟩=>by
  unfold Builtin.«dict.update»;refine JZ ?_
  unfold Builtin.Dict.selfAndRest;refine JZ (wpAny_notOrdered_dict hd.typeIs ?_)
  show wpAny (!3) _ (pure (d,[Value.ref o])) _ _ s;refine JW ?_
  show wpAny (!3) _ (Builtin.Dict.updateFrom "dict.update" d (.ref o) [] .none) _ _ s;unfold Builtin.Dict.updateFrom
  refine JZ (wpAny_typeOf ho.typeIs ?_);rw[JV (by decide)]
  refine JZ ?_;unfold Builtin.Dict.merge;refine JZ ?_;unfold Builtin.Dict.readDirectly
  refine JZ (wpAny_isInstance ho.typeIs isSubtype_dict_dict ?_);simp only[Bool.not_true,XJ,if_false]
  refine JZ (Z4 ho.typeIs F.slot_dict_iter.lookup (JW ?_));simp only[beq_self_eq_true,if_true];refine JZ (JW ?_)
  refine Ig hu hdo hoS hx0 hd ho hsz λh' hd' hs'=> ?_
  show wpAny (!3) _ (Builtin.Dict.addKeywords d [] >>=_) _ _ _
  exact JZ (JW (JW ⟨.none,rfl,h h' hd' hs'⟩))
end
end L2
namespace L2
open PySem PySem.Spec PyProof.Rows Y
section
variable {X:Cx}{pins:List (Addr×Obj)}{σ:St}{H:Hp}{s:Shared}
mutual
theorem aJ.Ce (I:Inv X pins σ H s):∀(n:Nat) (d:PyData) (v:V) (u:Value),nest n d=true->aJ X.K H d v->RelV v u->gN s.heap d u
 | n,.int i,v,u,_,h,r=>by
  have:=aA h
  subst this
  obtain⟨t,rfl⟩:=r
  simp only[gN];exact⟨t,rfl⟩
 | n,.none,v,u,_,h,r=>by
  have:=lh h
  subst this
  cases r
  simp only[gN]
 | n+1,.tuple ds,v,u,hn,h,r=>by
  rw[Y.nest] at hn
  obtain⟨a,vs,rfl,h1,h2⟩:=aE h
  cases r
  obtain⟨its,rv,⟨o,e,hc,m,hd⟩,_⟩:=I.tuple h1
  simp only[gN]
  exact⟨a,o,its.toArray,m,rfl,e,hc,hd,by simpa using ar.Ce I n ds vs its hn h2 rv⟩
 | 0,.tuple _,_,_,hn,_,_=>by simp[Y.nest] at hn
 | n,.bool _,_,_,hn,_,_=>by cases n <;> simp[Y.nest] at hn
 | n,.str _,_,_,hn,_,_=>by cases n <;> simp[Y.nest] at hn
 | n,.list _,_,_,hn,_,_=>by cases n <;> simp[Y.nest] at hn
 | n,.dict _,_,_,hn,_,_=>by cases n <;> simp[Y.nest] at hn
theorem ar.Ce (I:Inv X pins σ H s):∀(n:Nat) (ds:List PyData) (vs:List V) (us:List Value),nests n ds=true->ar X.K H ds vs->Vals vs us->gV s.heap ds us
 | n,[],vs,us,_,h,r=>by
  simp only[ar] at h;subst h;cases r;simp only[gV]
 | n,d :: ds,vs,us,hn,h,r=>by
  rw[nests,X9] at hn
  simp only[ar] at h
  obtain⟨v,w,rfl,h1,h2⟩:=h
  cases r with
  | cons r1 r2=>
   simp only[gV]
   exact⟨_,_,rfl,aJ.Ce I n d v _ hn.1 h1 r1,ar.Ce I n ds w _ hn.2 h2 r2⟩
end
end
section
variable {K:Frag}{H:Hp}
theorem hJ:∀{kvs:List (PyData×PyData)} {ks:List (PyData×V×V)},aT K H kvs ks->ks.map (·.1)=kvs.map (·.1)
 | [],ks,t=>by simp only[aT] at t;subst t;rfl
 | (k,d) :: r,ks,t=>by
  simp only[aT] at t
  obtain⟨kv,v,q,rfl,_,_,h3⟩:=t
  rw[KZ,KZ,hJ h3]
end
theorem lY {k:PyData}(h:db k=true):∃ds,k= .tuple ds/\nests 7 ds=true:=by
 cases k <;> first | exact⟨_,rfl,h⟩ | exact absurd h (by simp[db])
mutual
theorem Cf:∀(n:Nat) (d:PyData),nest n d=true->bo d=true
 | _,.int _,_=>rfl
 | _,.none,_=>rfl
 | n+1,.tuple ds,x=>by rw[Y.nest] at x;rw[bo];exact m8 n ds x
 | 0,.tuple _,x=>by simp[Y.nest] at x
 | n,.bool _,x=>by cases n <;> simp[Y.nest] at x
 | n,.str _,x=>by cases n <;> simp[Y.nest] at x
 | n,.list _,x=>by cases n <;> simp[Y.nest] at x
 | n,.dict _,x=>by cases n <;> simp[Y.nest] at x
theorem m8:∀(n:Nat) (ds:List PyData),nests n ds=true->aq ds=true
 | _,[],_=>rfl
 | n,d :: ds,x=>by
  rw[nests,X9] at x
  rw[aq,Cf n d x.1,m8 n ds x.2];rfl
end
theorem lZ {k:PyData}(h:db k=true):bo k=true:=by
 obtain⟨ds,rfl,h⟩:=lY h
 rw[bo];exact m8 7 ds h
theorem x6 (x y:NK):PyData.eqv x.d y.d=decide (x=y):=by
 rw[Yv,JJ]
 refine⟨λz=>NK.inj (pN 8 _ _ x.n y.n z),λz=> ?_⟩
 rw[z];exact SeqAt.eqv_refl _ (jf 8 _ y.n)
def Rk (q:PyData×V×V)(x:NK×Addr×Value):Prop:=q.1=x.1.d/\q.2.1= .ref x.2.1/\RelV q.2.2 x.2.2
theorem um:∀{ks:List (PyData×V×V)} {xs:List (NK×Addr×Value)},Paired Rk ks xs->ks.map (·.1)=xs.map (·.1.d)
 | _,_,.nil=>rfl
 | _,_,.cons r t=>by rw[KZ,KZ,r.1,um t]
theorem Paired.len {α β:Type}{F:α->β->Prop}:∀{l:List α} {m:List β},Paired F l m->l.length=m.length
 | _,_,.nil=>rfl
 | _,_,.cons _ t=>by rw[Kz,Kz,Paired.len t]
theorem vR {ks:List (PyData×V×V)}{xs:List (NK×Addr×Value)}(p:Paired Rk ks xs):(ks.map (·.1)).Nodup↔(xs.map (·.1)).Nodup:=by
 rw[um p]
 have e:xs.map (·.1.d)=(xs.map (·.1)).map NK.d:=by rw[KQ];rfl
 rw[e]
 exact⟨λh=>List.Pairwise.of_map _ (λa b hab e=>hab (by rw[e])) h,λh=>List.Pairwise.map _ (λa b hab e=>hab (NK.inj e)) h⟩
section
variable {X:Cx}{pins:List (Addr×Obj)}{σ:St}{H:Hp}{s:Shared}
theorem Cg (I:Inv X pins σ H s):∀{kvs:List (PyData×PyData)} {ks:List (PyData×V×V)} {es:List DictEntry},aT X.K H kvs ks->(∀k∈ks,db k.1=true)->
  Paired (λ(k:PyData×V×V) (e:DictEntry)=>e.hash=fH k.1/\RelV k.2.1 e.key/\RelV k.2.2 e.val) ks es->
  ∃xs,Paired Rk ks xs/\es=xs.map (entryOfKey (bA X.prog X.w))/\∀x∈xs,gN s.heap x.1.d (.ref x.2.1)
 | [],ks,es,t,_,p=>by
  simp only[aT] at t;subst t;cases p
  exact⟨[],.nil,rfl,λx hx=>by cases hx⟩
 | (k,d) :: r,ks,es,t,hk,p=>by
  simp only[aT] at t
  obtain⟨kv,v,q,rfl,h1,h2,h3⟩:=t
  cases p with
  | @cons _ e _ es' hp pt=>
   obtain⟨xs,p1,e1,k1⟩:=Cg I h3 (λx hx=>hk x (K9 _ hx)) pt
   obtain⟨ds,rfl,hn⟩:=lY (hk _ K8)
   obtain⟨b,vs,rfl,g1,g2⟩:=aE h1
   obtain⟨eh,ek,ev⟩:=e
   obtain⟨q1,q2,q3⟩:=hp
   cases(show ek=Value.ref b from q2)
   have OL:eh=fH (.tuple ds):=q1
   subst OL
   refine⟨(⟨ds,hn⟩,b,ev) :: xs,.cons ⟨rfl,rfl,q3⟩ p1,by rw[e1];rfl,λx hx=> ?_⟩
   rcases K0.mp hx with rfl | hx
   ·exact aJ.Ce I 8 (.tuple ds) (.ref b) (.ref b) (by rw[Y.nest];exact hn) h1 rfl
   ·exact k1 x hx
theorem uo {P:PyData->Bool}{kvs:List (PyData×PyData)}{ks:List (PyData×V×V)}(t:aT X.K H kvs ks)(h:(kvs.all λp=>P p.1)=true):∀k∈ks,P k.1=true:=λk hk=>by
 have:k.1∈kvs.map (·.1):=by rw[←hJ t];exact Yj hk
 obtain⟨p,hp,e⟩:=Kw.mp this
 rw[←e];exact Uw.mp h p hp
theorem jE (I:Inv X pins σ H s){a:Addr}{kvs:List (PyData×PyData)}{ks:EG}(e:Rd H a (.dct a ks))(t:aT X.K H kvs ks.1)(ht:gF kvs=true) :
  ∃xs,s.heap.DictOfH (bA X.prog X.w) a xs/\Paired Rk ks.1 xs/\(a==sysModules)=false/\ks.1.length<=sizeLine/\∀x∈xs,gN s.heap x.1.d (.ref x.2.1):=by
 obtain⟨⟨hl,hs,hk,hn,o,es,ho,hc,hd,p⟩,_⟩:=(show dH X.prog X.w H s.heap a (.dct a ks) from e.ok I.hok)
 obtain⟨xs,p1,e1,k1⟩:=Cg I t (uo t ht) p
 exact⟨xs,⟨o,es,ks.2,ho,hc,hd,e1,k1,(vR p1).mp hn⟩,p1,hs,hl,k1⟩
theorem Inv.big' (I:Inv X pins σ H s):sysModules < s.heap.objs.size:=by
 have h:mainGlobals < s.heap.objs.size:=(I.mod.glob.keeps I.bk).lt
 exact Nat.lt_trans (by decide) h
end
theorem jF {P:Program}{w:World}{h':Heap}{a:Addr}:∀{ks:List (PyData×V×V)} {xs:List (NK×Addr×Value)},ks.length<=sizeLine->(a==sysModules)=false->Paired Rk ks xs->h'.DictOfH (bA P w) a xs->∃ep,pD a (ks,ep) h':=by
 intro ks xs hl hs p dd
 obtain⟨o,es,ep,ho,hc,hd,he,his,hn⟩:=dd
 have key:∀{ks:List (PyData×V×V)} {xs:List (NK×Addr×Value)},Paired Rk ks xs->(∀k∈ks,db k.1=true)/\Paired (λ(k:PyData×V×V) (e:DictEntry)=>e.hash=fH k.1/\RelV k.2.1 e.key/\RelV k.2.2 e.val) ks (xs.map (entryOfKey (bA P w))):=by
  intro ks xs p
  induction p with
  | nil=>exact⟨(λk hk=>by cases hk),.nil⟩
  | @cons q x qs xs r t ih=>
   refine⟨λk hk=> ?_,?_⟩
   ·rcases K0.mp hk with rfl | hk
    ·rw[r.1];exact x.1.2
    ·exact ih.1 k hk
   ·exact .cons ⟨by rw[r.1];rfl,by rw[r.2.1];rfl,r.2.2⟩ ih.2
 obtain⟨k1,k2⟩:=key p
 exact⟨ep,hl,hs,.inl k1,(vR p).mpr hn,o,es,ho,hc,hd,by rw[he];exact k2⟩
theorem jG {P:Program}{w:World}{H:Hp}{h':Heap}{a:Addr}{ks:EG}(h:pD a ks h'):dH P w H h' a (.dct a ks):=by
 refine⟨h,?_,λh1 h2 q k=> ?_⟩
 ·obtain⟨_,_,_,_,o,_,ho,_⟩:=h;exact⟨o,ho⟩
 ·obtain⟨a1,a2,a3,a4,o,es,ho,r⟩:=q
  exact⟨a1,a2,a3,a4,o,es,k o ho,r⟩
def re (q:PyData×V×V)(x:Int×Value):Prop:=q.1= .int x.1/\q.2.1= .int x.1/\RelV q.2.2 x.2
theorem vS:∀{ks:List (PyData×V×V)} {xs:List (Int×Value)},Paired re ks xs->ks.map (·.1)=xs.map λx=>PyData.int x.1
 | _,_,.nil=>rfl
 | _,_,.cons r t=>by rw[KZ,KZ,r.1,vS t]
theorem sq {ks:List (PyData×V×V)}{xs:List (Int×Value)}(p:Paired re ks xs):(ks.map (·.1)).Nodup↔(xs.map (·.1)).Nodup:=by
 rw[vS p]
 have e:(xs.map λx=>PyData.int x.1)=(xs.map (·.1)).map PyData.int:=by rw[KQ];rfl
 rw[e]
 exact⟨λh=>List.Pairwise.of_map _ (λa b hab e=>hab (by rw[e])) h,λh=>List.Pairwise.map _ (λa b hab e=>hab (PyData.int.inj e)) h⟩
theorem pP {k:PyData}(h:xT k=true):∃i,k= .int i:=by
 cases k <;> first | exact⟨_,rfl⟩ | exact absurd h (by simp[xT])
section
variable {X:Cx}{pins:List (Addr×Obj)}{σ:St}{H:Hp}{s:Shared}
theorem zr:∀{kvs:List (PyData×PyData)} {ks:List (PyData×V×V)} {es:List DictEntry},aT X.K H kvs ks->(∀k∈ks,xT k.1=true)->
  Paired (λ(k:PyData×V×V) (e:DictEntry)=>e.hash=fH k.1/\RelV k.2.1 e.key/\RelV k.2.2 e.val) ks es->
  ∃xs,Paired re ks xs/\Pairs (intKind X.prog X.w) es xs/\∀e∈es,∃k,(intKind X.prog X.w).is k e.key=true/\e.hash=(intKind X.prog X.w).hash k
 | [],ks,es,t,_,p=>by
  simp only[aT] at t;subst t;cases p
  exact⟨[],.nil,.nil,λe he=>by cases he⟩
 | (k,d) :: r,ks,es,t,hk,p=>by
  simp only[aT] at t
  obtain⟨kv,v,q,rfl,h1,h2,h3⟩:=t
  cases p with
  | @cons _ e _ es' hp pt=>
   obtain⟨xs,p1,e1,k1⟩:=zr h3 (λx hx=>hk x (K9 _ hx)) pt
   obtain⟨i,rfl⟩:=pP (hk _ K8)
   have:=aA h1
   subst this
   obtain⟨q1,⟨tk,q2⟩,q3⟩:=hp
   have hi:(intKind X.prog X.w).is i e.key=true:=by rw[q2];simp[intKind,Value.isInt]
   refine⟨(i,e.val) :: xs,.cons ⟨rfl,rfl,q3⟩ p1,.cons hi rfl e1,λx hx=> ?_⟩
   rcases K0.mp hx with z | z
   ·subst z;exact⟨i,hi,q1⟩
   ·exact k1 x z
theorem iF (I:Inv X pins σ H s){a:Addr}{kvs:List (PyData×PyData)}{ks:EG}(e:Rd H a (.dct a ks))(t:aT X.K H kvs ks.1)(ht:allI kvs=true) :
  ∃xs,s.heap.DictOf (intKind X.prog X.w) a xs/\Paired re ks.1 xs/\(a==sysModules)=false/\ks.1.length<=sizeLine:=by
 obtain⟨⟨hl,hs,hk,hn,o,es,ho,hc,hd,p⟩,_⟩:=(show dH X.prog X.w H s.heap a (.dct a ks) from e.ok I.hok)
 obtain⟨xs,p1,e1,k1⟩:=zr t (uo t ht) p
 exact⟨xs,⟨o,es,ks.2,ho,hc,hd,λe he=>k1 e (by simpa using he),e1,(sq p1).mp hn⟩,p1,hs,hl⟩
end
theorem pQ {P:Program}{w:World}{h':Heap}{a:Addr}{ks:List (PyData×V×V)}{xs:List (Int×Value)}(hl:ks.length<=sizeLine)(hs:(a==sysModules)=false)(p:Paired re ks xs)(dd:h'.DictOf (intKind P w) a xs):∃ep,pD a (ks,ep) h':=by
 obtain⟨o,es,ep,ho,hc,hd,hk,hp,hn⟩:=dd
 have key:∀{ks:List (PyData×V×V)} {xs:List (Int×Value)} {es:List DictEntry},Paired re ks xs->Pairs (intKind P w) es xs->(∀e∈es,∃k,(intKind P w).is k e.key=true/\e.hash=(intKind P w).hash k)->
   (∀k∈ks,xT k.1=true)/\Paired (λ(k:PyData×V×V) (e:DictEntry)=>e.hash=fH k.1/\RelV k.2.1 e.key/\RelV k.2.2 e.val) ks es:=by
  intro ks xs es p
  induction p generalizing es with
  | nil=>intro q _;cases q;exact⟨(λk hk=>by cases hk),.nil⟩
  | @cons q x qs xs r t ih=>
   intro pq hk
   cases pq with
   | @cons e _ es' _ h1 h2 h3=>
    obtain⟨i1,i2⟩:=ih h3 λe he=>hk e (K9 _ he)
    obtain⟨k,k1,k2⟩:=hk e K8
    have:k=x.1:=(intKind P w).inj _ _ _ k1 h1
    subst this
    obtain⟨tk,et⟩:=Value.isInt_shape h1
    refine⟨λz hz=> ?_,.cons ⟨by rw[r.1];exact k2,by rw[r.2.1];exact⟨tk,et⟩,by rw[h2];exact r.2.2⟩ i2⟩
    rcases K0.mp hz with rfl | hz
    ·rw[r.1];rfl
    ·exact i1 z hz
 obtain⟨k1,k2⟩:=key p hp λe he=>hk e (by simpa using he)
 exact⟨ep,hl,hs,.inr k1,(sq p).mpr hn,o,es,ho,hc,hd,k2⟩
def l4 (ks:List (PyData×V×V))(k:PyData)(kv v:V):List (PyData×V×V):=if (ks.any λp=>PyData.eqv p.1 k)=true then ks.map λp=>if PyData.eqv p.1 k=true then (p.1,p.2.1,v) else p else ks++[(k,kv,v)]
def pR (ks ms:List (PyData×V×V)):List (PyData×V×V):=ms.foldl (λacc p=>l4 acc p.1 p.2.1 p.2.2) ks
theorem kH (k:NK):∀{ks:List (PyData×V×V)} {xs:List (NK×Addr×Value)},Paired Rk ks xs->(atKey xs k).isSome=ks.any λq=>PyData.eqv q.1 k.d
 | _,_,.nil=>rfl
 | _,_,.cons (a:=q) (b:=x) r t=>by
  have ih:=kH k t
  rw[YJ,r.1,x6,←ih]
  unfold atKey
  rw[U4]
  cases hd:decide (x.1=k) <;> simp
theorem pS {f:PyData×V×V->PyData×V×V}{g:NK×Addr×Value->NK×Addr×Value}(h:∀q x,Rk q x->Rk (f q) (g x)):∀{ks:List (PyData×V×V)} {xs:List (NK×Addr×Value)},Paired Rk ks xs->Paired Rk (ks.map f) (xs.map g)
 | _,_,.nil=> .nil
 | _,_,.cons r t=> .cons (h _ _ r) (pS h t)
theorem j9 {q:PyData×V×V}{x:NK×Addr×Value}(h:Rk q x):∀{ks:List (PyData×V×V)} {xs:List (NK×Addr×Value)},Paired Rk ks xs->Paired Rk (ks++[q]) (xs++[x])
 | _,_,.nil=> .cons h .nil
 | _,_,.cons r t=> .cons r (j9 h t)
theorem pT {ks:List (PyData×V×V)}{xs:List (NK×Addr×Value)}(p:Paired Rk ks xs)(k:NK)(a:Addr){v:V}{u:Value}(rv:RelV v u):Paired Rk (l4 ks k.d (.ref a) v) (storedH xs k a u):=by
 unfold l4 storedH
 rw[kH k p]
 split
 ·refine pS (λq x r=> ?_) p
  unfold putAt
  rw[r.1,x6]
  by_cases hx:x.1=k
  ·rw[JQ (Z9 hx),JQ hx];exact⟨rfl,r.2.1,rv⟩
  ·rw[JV (by rw[Z8 hx];exact K5),JV hx];exact r
 ·exact j9 ⟨rfl,rfl,rv⟩ p
theorem nU:∀{ms:List (PyData×V×V)} {ys:List (NK×Addr×Value)},Paired Rk ms ys->∀{ks:List (PyData×V×V)} {xs:List (NK×Addr×Value)},Paired Rk ks xs->Paired Rk (pR ks ms) (e7 xs ys)
 | _,_,.nil,_,_,p=>p
 | _,_,.cons (a:=q) (b:=y) r t,ks,xs,p=>by
  have h1:=pT p y.1 y.2.1 r.2.2
  rw[←r.1,←r.2.1] at h1
  exact nU t h1
theorem Ii (i j:Int):PyData.eqv (.int i) (.int j)=decide (i=j):=by
 have:PyData.eqv (.int i) (.int j)=(i==j):=by simp[PyData.eqv]
 rw[this,Yv];simp
theorem l5 (k:Int):∀{ks:List (PyData×V×V)} {xs:List (Int×Value)},Paired re ks xs->(valueAt xs k).isSome=(ks.any λq=>PyData.eqv q.1 (.int k))/\(xs.any λkv=>decide (kv.1=k))=(ks.any λq=>PyData.eqv q.1 (.int k))
 | _,_,.nil=>⟨rfl,rfl⟩
 | _,_,.cons (a:=q) (b:=x) r t=>by
  obtain⟨h1,h2⟩:=l5 k t
  rw[YJ,YJ,r.1,Ii,←h2]
  refine⟨?_,rfl⟩
  rw[h2,←h1]
  unfold valueAt
  rw[U4]
  cases hd:decide (x.1=k) <;> simp[hd]
theorem nV {f:PyData×V×V->PyData×V×V}{g:Int×Value->Int×Value}(h:∀q x,re q x->re (f q) (g x)):∀{ks:List (PyData×V×V)} {xs:List (Int×Value)},Paired re ks xs->Paired re (ks.map f) (xs.map g)
 | _,_,.nil=> .nil
 | _,_,.cons r t=> .cons (h _ _ r) (nV h t)
theorem l6 {q:PyData×V×V}{x:Int×Value}(h:re q x):∀{ks:List (PyData×V×V)} {xs:List (Int×Value)},Paired re ks xs->Paired re (ks++[q]) (xs++[x])
 | _,_,.nil=> .cons h .nil
 | _,_,.cons r t=> .cons r (l6 h t)
theorem nX {ks:List (PyData×V×V)}{xs:List (Int×Value)}(p:Paired re ks xs)(k:Int){v:V}{u:Value}(rv:RelV v u):Paired re (l4 ks (.int k) (.int k) v) (stored xs k u):=by
 unfold l4 stored
 rw[(l5 k p).2]
 split
 ·refine nV (λq x r=> ?_) p
  rw[r.1,Ii]
  by_cases hx:x.1=k
  ·rw[JQ (Z9 hx),JQ hx];exact⟨rfl,r.2.1,rv⟩
  ·rw[JV (by rw[Z8 hx];exact K5),JV hx];exact r
 ·exact l6 ⟨rfl,rfl,rv⟩ p
theorem l7:∀{ms:List (PyData×V×V)} {ys:List (Int×Value)},Paired re ms ys->∀{ks:List (PyData×V×V)} {xs:List (Int×Value)},Paired re ks xs->Paired re (pR ks ms) (merged xs ys)
 | _,_,.nil,_,_,p=>p
 | _,_,.cons (a:=q) (b:=y) r t,ks,xs,p=>by
  have h1:=nX p y.1 r.2.2
  rw[←r.1,←r.2.1] at h1
  exact l7 t h1
theorem pU (ks:List (PyData×V×V))(k:PyData)(kv v:V):(l4 ks k kv v).length<=ks.length+1:=by
 unfold l4;split
 ·rw[K4];omega
 ·rw[K1,X3];exact K2 _
theorem sr:∀(ms ks:List (PyData×V×V)),(pR ks ms).length<=ks.length+ms.length
 | [],ks=>K2 _
 | m :: ms,ks=>by
  have h1:=sr ms (l4 ks m.1 m.2.1 m.2.2)
  have h2:=pU ks m.1 m.2.1 m.2.2
  show(pR (l4 ks m.1 m.2.1 m.2.2) ms).length<=_
  rw[Kz];omega
section
variable {K:Frag}{H:Hp}
theorem gy {kvs:List (PyData×PyData)}{ks:List (PyData×V×V)}(t:aT K H kvs ks):ks.length=kvs.length:=by
 have:=congrArg List.length (hJ t);simpa using this
theorem j_ {kvs:List (PyData×PyData)}{ks:List (PyData×V×V)}(t:aT K H kvs ks)(k:PyData):(ks.any λq=>PyData.eqv q.1 k)=lg kvs k:=by
 have h1:∀{α:Type} (l:List (PyData×α)),(l.any λq=>PyData.eqv q.1 k)=(l.map (·.1)).any λx=>PyData.eqv x k:=λl=>by rw[List.any_map];rfl
 unfold lg
 rw[h1,h1,hJ t]
theorem pV {k d:PyData}{v:V}(hv:aJ K H d v):∀{kvs:List (PyData×PyData)} {ks:List (PyData×V×V)},aT K H kvs ks->
  aT K H (kvs.map λp=>if PyData.eqv p.1 k=true then (p.1,d) else p) (ks.map λp=>if PyData.eqv p.1 k=true then (p.1,p.2.1,v) else p)
 | [],ks,t=>by simp only[aT] at t;subst t;simp only[Ju,aT]
 | (k',d') :: r,ks,t=>by
  simp only[aT] at t
  obtain⟨kv,v',q,rfl,h1,h2,h3⟩:=t
  rw[KZ,KZ]
  by_cases he:PyData.eqv k' k=true
  ·simp only[JQ he,aT];exact⟨kv,v,_,rfl,h1,hv,pV hv h3⟩
  ·simp only[JV he,aT];exact⟨kv,v',_,rfl,h1,h2,pV hv h3⟩
theorem su {k d:PyData}{kv v:V}(hk:aJ K H k kv)(hv:aJ K H d v):∀{kvs:List (PyData×PyData)} {ks:List (PyData×V×V)},aT K H kvs ks->aT K H (kvs++[(k,d)]) (ks++[(k,kv,v)])
 | [],ks,t=>by simp only[aT] at t;subst t;simp only[YZ,aT];exact⟨kv,v,[],rfl,hk,hv,rfl⟩
 | (k',d') :: r,ks,t=>by
  simp only[aT] at t
  obtain⟨kv',v',q,rfl,h1,h2,h3⟩:=t
  rw[U6,U6]
  simp only[aT]
  exact⟨kv',v',_,rfl,h1,h2,su hk hv h3⟩
theorem pX {kvs:List (PyData×PyData)}{ks:List (PyData×V×V)}{k d:PyData}{kv v:V}(t:aT K H kvs ks)(hk:aJ K H k kv)(hv:aJ K H d v):aT K H (putK kvs k d) (l4 ks k kv v):=by
 unfold putK l4
 rw[j_ t]
 split
 ·exact pV hv t
 ·exact su hk hv t
theorem sv:∀{more:List (PyData×PyData)} {ms:List (PyData×V×V)},aT K H more ms->∀{kvs:List (PyData×PyData)} {ks:List (PyData×V×V)},aT K H kvs ks->aT K H (k_ kvs more) (pR ks ms)
 | [],ms,t,kvs,ks,h=>by simp only[aT] at t;subst t;exact h
 | (k,d) :: r,ms,t,kvs,ks,h=>by
  simp only[aT] at t
  obtain⟨kv,v,q,rfl,h1,h2,h3⟩:=t
  exact sv h3 (pX h h1 h2)
theorem kI:∀{kvs:List (PyData×PyData)} {ks:List (PyData×V×V)},aT K H kvs ks->(∀p∈kvs,bo p.1=true)->dO kvs=true->aM K H kvs ks []
 | [],ks,t,_,_=>by simp only[aT] at t;subst t;simp only[aM];exact⟨trivial,trivial⟩
 | (k,d) :: r,ks,t,hk,hn=>by
  simp only[aT] at t
  obtain⟨kv,v,q,rfl,h1,h2,h3⟩:=t
  have hn':bo d=true/\dO r=true:=by
   unfold dO at hn;rw[KZ,aq,X9] at hn;exact hn
  simp only[aM]
  exact⟨kv,v,q,[],[],rfl,rfl,aJ.toT _ _ (hk _ K8) h1,aJ.toT _ _ hn'.1 h2,kI h3 (λp hp=>hk p (K9 _ hp)) hn'.2⟩
theorem l8:∀{kvs:List (PyData×PyData)} {ks:List (PyData×V×V)} {as:List Addr},aM K H kvs ks as->dO kvs=true->as=[]
 | [],ks,as,t,_=>by simp only[aM] at t;exact t.2
 | (k,d) :: r,ks,as,t,hn=>by
  simp only[aM] at t
  obtain⟨kv,v,q,a1,a2,rfl,rfl,h1,h2,h3⟩:=t
  have hn':bo d=true/\dO r=true:=by
   unfold dO at hn;rw[KZ,aq,X9] at hn;exact hn
  rw[IsT.nil _ _ _ hn'.1 h2,l8 h3 hn'.2];rfl
end
section
variable {K:Frag}{H:Hp}
mutual
theorem IsT.pY:∀(d:PyData) (v:V) (as:List Addr),IsT K H d v as->as=[]->bo d=true
 | .none,_,_,_,_=>rfl
 | .bool _,_,_,_,_=>rfl
 | .int _,_,_,_,_=>rfl
 | .str _,_,_,_,_=>rfl
 | .list xs,v,as,h,e=>by obtain⟨a,vs,bs,_,_,_,z⟩:=bz h;rw[e] at z;cases z
 | .dict xs,v,as,h,e=>by obtain⟨a,vs,bs,_,_,_,z⟩:=de h;rw[e] at z;cases z
 | .tuple xs,v,as,h,e=>by
  obtain⟨a,vs,_,_,h2⟩:=jA h
  rw[bo];exact az.pY xs vs as h2 e
theorem az.pY:∀(ds:List PyData) (vs:List V) (as:List Addr),az K H ds vs as->as=[]->aq ds=true
 | [],_,_,_,_=>rfl
 | d :: ds,vs,as,h,e=>by
  simp only[az] at h
  obtain⟨v,r,a1,a2,rfl,rfl,h1,h2⟩:=h
  have:=List.append_eq_nil_iff.mp e
  rw[aq,IsT.pY d v a1 h1 this.1,az.pY ds r a2 h2 this.2];rfl
end
theorem oZ:∀{kvs:List (PyData×PyData)} {ks:List (PyData×V×V)} {as:List Addr},aM K H kvs ks as->∀p∈kvs,bo p.1=true
 | [],ks,as,t,p,hp=>by cases hp
 | (k,d) :: r,ks,as,t,p,hp=>by
  simp only[aM] at t
  obtain⟨kv,v,q,a1,a2,rfl,rfl,h1,h2,h3⟩:=t
  rcases K0.mp hp with rfl | hp
  ·exact IsT.pY _ _ _ h1 rfl
  ·exact oZ h3 p hp
end
theorem pZ {kvs:List (PyData×PyData)}{k d:PyData}(h:dO kvs=true)(hd:bo d=true):dO (putK kvs k d)=true:=by
 unfold dO at h⊢
 rw[aQ] at h⊢
 intro x hx
 unfold putK at hx
 split at hx
 ·rw[KQ] at hx
  obtain⟨p,hp,rfl⟩:=Kw.mp hx
  simp only[Function.comp]
  split
  ·exact hd
  ·exact h _ (Yj hp)
 ·rw[X0] at hx
  rcases Kk.mp hx with hx | hx
  ·exact h x hx
  ·have:x=d:=by simpa using hx
   rw[this];exact hd
theorem sw:∀{more kvs:List (PyData×PyData)},dO more=true->dO kvs=true->dO (k_ kvs more)=true
 | [],kvs,_,h=>h
 | (k,d) :: r,kvs,hm,h=>by
  have hn':bo d=true/\dO r=true:=by
   unfold dO at hm;rw[KZ,aq,X9] at hm;exact hm
  exact sw (kvs:=putK kvs k d) hn'.2 (pZ h hn'.1)
end L2
namespace L2
open PySem PySem.Spec PyProof.Rows Y
section
variable {X:Cx}{K:Frag}{Ew:Str->Hp->Prop}
theorem hU {kvs:k6}{x:PyData}(h:dN kvs x=true):(∃ds,x= .tuple ds/\nests 7 ds=true/\gF kvs=true)∨(∃i,x= .int i/\allI kvs=true):=by
 unfold dN at h
 rw[Bool.or_eq_true,X9,X9] at h
 rcases h with⟨a,b⟩ | ⟨a,b⟩
 ·obtain⟨ds,e,n⟩:=lY a;exact .inl ⟨ds,e,n,b⟩
 ·obtain⟨i,e⟩:=pP a;exact .inr ⟨i,e,b⟩
theorem Ij (hu:X.A.units+80 < cLine){pins:List (Addr×Obj)}{s:Shared}{σ:St}{H:Hp}{x:PyData}{kvs:k6}{u v:V}{a b:Value}{Q:VK}(I:Inv X pins σ H s)(hk:dN kvs x=true)(hx:aJ X.K H x u)(hy:aJ X.K H (.dict kvs) v)(ru:RelV u a)(rv:RelV v b)
  (q:∀w H',Same H H'->aS X.K H H' (.bool (lg kvs x)) w->Q w H'):wpAny (!6) X.A (compareOp .In a b) (EP X pins σ Q) X.xe s:=by
 obtain⟨ad,ks,rfl,hr,t⟩:=b_ hy
 cases(show b=Value.ref ad from rv)
 rcases hU hk with⟨ds,rfl,hn,ht⟩ | ⟨i,rfl,ht⟩
 ·obtain⟨xs,dd,p,hs,hl,_⟩:=jE I hr t ht
  obtain⟨bk,vs,rfl,g1,g2⟩:=aE hx
  cases(show a=Value.ref bk from ru)
  obtain⟨kk,hkk⟩:∃kk:NK,kk.d= .tuple ds:=⟨⟨ds,hn⟩,rfl⟩
  have uq:gN s.heap kk.d (.ref bk):=by rw[hkk];exact aJ.Ce I 8 (.tuple ds) (.ref bk) (.ref bk) (by rw[Y.nest];exact hn) hx rfl
  refine wpAny_in_heap (knd:=bA X.prog X.w) (k:=kk) (show X.A.units+1+10 < cLine by omega) uq hs dd ?_
  rw[kH _ p,j_ t,hkk]
  exact⟨.bl _,H,I.tok _,rfl,q _ H (Same.refl H) (aS.li rfl cL)⟩
 ·obtain⟨xs,dd,p,hs,hl⟩:=iF I hr t ht
  have:=aA hx
  subst this
  obtain⟨tk,rfl⟩:=ru
  refine wpAny_in_of (knd:=intKind X.prog X.w) (k:=i) (by simp[intKind,Value.isInt]) hs dd.mapOf ?_
  rw[(l5 i p).1,j_ t]
  exact⟨.bl _,H,I.tok _,rfl,q _ H (Same.refl H) (aS.li rfl cL)⟩
theorem Az (hu:X.A.units+80 < cLine){pins:List (Addr×Obj)}{s:Shared}{σ:St}{H:Hp}{x:PyData}{kvs:k6}{u v:V}{a b:Value}{Q:VK}(I:Inv X pins σ H s)(hk:dN kvs x=true)(hx:aJ X.K H x u)(hy:aJ X.K H (.dict kvs) v)(ru:RelV u a)(rv:RelV v b)
  (q:∀w H',Same H H'->aS X.K H H' (.bool (!lg kvs x)) w->Q w H'):wpAny (!6) X.A (compareOp .NotIn a b) (EP X pins σ Q) X.xe s:=by
 obtain⟨ad,ks,rfl,hr,t⟩:=b_ hy
 cases(show b=Value.ref ad from rv)
 rcases hU hk with⟨ds,rfl,hn,ht⟩ | ⟨i,rfl,ht⟩
 ·obtain⟨xs,dd,p,hs,hl,_⟩:=jE I hr t ht
  obtain⟨bk,vs,rfl,g1,g2⟩:=aE hx
  cases(show a=Value.ref bk from ru)
  obtain⟨kk,hkk⟩:∃kk:NK,kk.d= .tuple ds:=⟨⟨ds,hn⟩,rfl⟩
  have uq:gN s.heap kk.d (.ref bk):=by rw[hkk];exact aJ.Ce I 8 (.tuple ds) (.ref bk) (.ref bk) (by rw[Y.nest];exact hn) hx rfl
  refine wpAny_notIn_heap (knd:=bA X.prog X.w) (k:=kk) (show X.A.units+1+10 < cLine by omega) uq hs dd ?_
  rw[kH _ p,j_ t,hkk]
  exact⟨.bl _,H,I.tok _,rfl,q _ H (Same.refl H) (aS.li rfl cL)⟩
 ·obtain⟨xs,dd,p,hs,hl⟩:=iF I hr t ht
  have:=aA hx
  subst this
  obtain⟨tk,rfl⟩:=ru
  refine wpAny_notIn_of (knd:=intKind X.prog X.w) (k:=i) (by simp[intKind,Value.isInt]) hs dd.mapOf ?_
  rw[(l5 i p).1,j_ t]
  exact⟨.bl _,H,I.tok _,rfl,q _ H (Same.refl H) (aS.li rfl cL)⟩
theorem zt (hu:X.A.units+80 < cLine):iD X (compareOp .In) vA:=iD.of λpins s σ H x y z u v a b Q I e hx hy ru rv q=>by
 cases y with
 | dict kvs=>
  simp only[vA] at e
  split at e
  ·rename_i hk
   cases e
   exact Ij hu I hk hx hy ru rv q
  ·cases e
 | _=>
  obtain⟨r,op,lift⟩:=xU (X:=X) hu
  refine op pins s σ H u v a b Q I ru rv (lift x _ z u v H Q ?_ hx hy q)
  exact e
theorem lr (hu:X.A.units+80 < cLine):iD X (compareOp .NotIn) eU:=iD.of λpins s σ H x y z u v a b Q I e hx hy ru rv q=>by
 cases y with
 | dict kvs=>
  simp only[eU] at e
  split at e
  ·rename_i hk
   cases e
   exact Az hu I hk hx hy ru rv q
  ·cases e
 | _=>
  obtain⟨r,op,lift⟩:=kE (X:=X) hu
  refine op pins s σ H u v a b Q I ru rv (lift x _ z u v H Q ?_ hx hy q)
  exact e
theorem vT:hX X (.type "dict") (λus H Q=>∃a kvs ks,us=[.ref a]/\Rd H a (.dct a ks)/\aT X.K H kvs ks.1/\gF kvs=true/\kvs.isEmpty=false/\(kvs.map λp=>fH p.1).Nodup/\∀l ep,H l=none->Q (.ref l) (upd H l (.dct l (ks.1,ep)))):=by
 intro pins s σ H us vs Q I r h
 obtain⟨a,kvs,ks,rfl,hr,t,hat,h0,hh,q⟩:=h
 obtain⟨u,rfl,rx⟩:=vals1 r
 cases(show u=Value.ref a from rx)
 obtain⟨xs,dd,p,hs,hl,hk⟩:=jE I hr t hat
 have hpl:=Paired.len p
 have hkl:=gy t
 have hx0:xs≠[]:=λz=>by
  rw[z] at hpl
  have:kvs.length=0:=by rw[←hkl,hpl];rfl
  rw[Yq.mp this] at h0;cases h0
 refine Lo (knd:=bA X.prog X.w) hs dd hx0 (!1) (λx hx=> ?_) ?_ (λx hx=> ?_) λh' sC sb=> ?_
 ·have:=hk x hx
  simp only[NK.d,gN] at this
  obtain⟨b,o,items,n,e,h1,h2,_⟩:=this
  cases e
  exact⟨o,h1,h2⟩
 ·have e1:(xs.map λx=>(bA X.prog X.w).hash x.1)=(ks.1.map (·.1)).map fH:=by rw[um p,KQ];rfl
  rw[e1,hJ t,KQ];exact hh
 ·exact gN.keep (λb o items n hb _=>K7 _ hb) _ _ (hk x hx)
 ·obtain⟨ep,ph⟩:=jF hl (beq_eq_false_iff_ne.mpr (Ne.symm (X4 I.big'))) p sC
  refine⟨.ref s.heap.objs.size,_,I.laid (a:=s.heap.objs.size) (o:=.dct s.heap.objs.size (ks.1,ep)) (t':=s.toks) (λb u hb=> ?_) (K2 _) (jG ph),rfl,q _ ep I.fresh⟩
  exact(sb.2 b (X4 (Kv hb))).trans (K7 _ hb)
theorem ES {kvs:List (PyData×PyData)}{ks:List (PyData×V×V)}{H:Hp}(t:aT K H kvs ks)(hk:∀k∈ks,db k.1=true):∀p∈kvs,bo p.1=true:=λp hp=>by
 have:p.1∈ks.map (·.1):=by rw[hJ t];exact Yj hp
 obtain⟨k,hk1,e⟩:=Kw.mp this
 rw[←e];exact lZ (hk k hk1)
theorem x8:CallD X (.type "dict") oV:=⟨_,vT,
 λxs z us H Q e h q=>by
  match xs,e,h with
  | [.dict kvs],e,h=>
   simp only[oV] at e
   split at e
   ·rename_i hc
    cases e
    obtain⟨u,rfl,hu⟩:=dh h
    obtain⟨a,ks,rfl,hr,t⟩:=b_ hu
    have hk:=uo (X:=X) t hc.2.1
    exact⟨a,kvs,ks,rfl,hr,t,hc.2.1,hc.1,hc.2.2.2,λl ep hl=>q _ _ (Same.upd hl) ⟨[l],gQ aw (kI (aT.same (Same.upd hl) _ _ t) (ES t hk) hc.2.2.1),KU.mpr ⟨by simp,X2⟩,λb hb=>by rw[K6.mp hb];exact hl⟩⟩
   ·cases e⟩
end
section
variable {X:Cx}{K:Frag}{Ew:Str->Hp->Prop}{pos pos2 p p2:Pos}{a e o j:Expr}{ta:TE}{fa fe fj:EF}{apos cpos:Pos}
def Lp (K:Frag):V->V->V->Hp->(Hp->Prop)->Prop:=λo i v H Q=>∃a ks kvs k,o= .ref a/\H a=some (.dct a ks)/\aT K H kvs ks.1/\aJ K H k i/\dN kvs k=true/\ks.1.length < sizeLine/\∀ep,Q (upd H a (.dct a (l4 ks.1 k i v,ep)))
theorem zu (hu:X.A.units+80 < cLine):Hj X (Lp X.K):=by
 intro pins s σ H o i v ov iv u Q I ro ri rv h
 obtain⟨a,ks,kvs,k,rfl,hH,t,hk,hkt,hl,q⟩:=h
 cases(show ov=Value.ref a from ro)
 rcases hU hkt with⟨ds,rfl,hn,ht⟩ | ⟨n,rfl,ht⟩
 ·obtain⟨b,vs,rfl,_,_⟩:=aE hk
  cases(show iv=Value.ref b from ri)
  obtain⟨xs,dd,p,hs,hl0,_⟩:=jE I (.inl hH) t ht
  have hpl:=Paired.len p
  obtain⟨kk,hkk⟩:∃kk:NK,kk.d= .tuple ds:=⟨⟨ds,hn⟩,rfl⟩
  have uq:gN s.heap kk.d (.ref b):=by rw[hkk];exact aJ.Ce I 8 (.tuple ds) (.ref b) (.ref b) (by rw[Y.nest];exact hn) hk rfl
  refine wpAny_setItem_heap (knd:=bA X.prog X.w) (k:=kk) (hsz:=by omega) (show X.A.units+1+10 < cLine by omega) uq dd λh' sC sb=> ?_
  have hp:=pT p kk b rv
  rw[hkk] at hp
  have hlen:=pU ks.1 (.tuple ds) (.ref b) v
  obtain⟨ep,ph⟩:=jF (!1) hs hp sC
  refine⟨_,I.write (x:=a) (e:=a) (by rw[hH];trivial) (.inl rfl) (λc w hc hw=>(sb.2 c hc).trans hw) ?_ (jG ph),q ep⟩
  obtain⟨ob,_,_,ho,_⟩:=sC
  exact⟨ob,ho⟩
 ·have:=aA hk
  subst this
  obtain⟨tk,rfl⟩:=ri
  obtain⟨xs,dd,p,hs,hl0⟩:=iF I (.inl hH) t ht
  have hpl:=Paired.len p
  refine wpAny_setItem_pairs (knd:=intKind X.prog X.w) (k:=n) (hsz:=by omega) (by simp[intKind,Value.isInt]) dd λh' sC sb=> ?_
  have hp:=nX p n rv
  have hlen:=pU ks.1 (.int n) (.int n) v
  obtain⟨ep,ph⟩:=pQ (!1) hs hp sC
  refine⟨_,I.write (x:=a) (e:=a) (by rw[hH];trivial) (.inl rfl) (λc w hc hw=>(sb.2 c hc).trans hw) ?_ (jG ph),q ep⟩
  obtain⟨ob,_,_,ho,_⟩:=sC
  exact⟨ob,ho⟩
theorem ur {kvs:k6}{x:PyData}(h:dN kvs x=true):bo x=true:=by
 rcases hU h with⟨ds,rfl,hn,_⟩ | ⟨i,rfl,_⟩
 ·exact lZ hn
 ·rfl
theorem ET (hu:X.A.units+80 < cLine){i:Nat}(ho:PE X o (kT i))(hj:DE X K Ew j fj)(he:DE X K Ew e fe)(hK:X.K=K:=by rfl)
  (ha:∀v,assign (.Subscript o j p) X.env v=(do
   let ov←holding [v] (eval o X.env)
   let iv←holding [v,ov] (eval j X.env)
   standAt p
   holding [v,ov,iv] (setItem ov iv v)
   release [v,ov,iv] []):=by intro _;rfl)
  (hs:swapsWithSole [.Subscript o j p] e pos.line X.env=pure false:=by rfl) (hw:swappedStores [.Subscript o j p] e X.env=pure none:=by rfl)
  (h1:(assignEach [.Subscript o j p] X.env).map (·.2)=[assign (.Subscript o j p) X.env]:=by rfl):DS X K Ew (.Assign [.Subscript o j p] e pos) (pC i fj fe) :=
 (tz he (xD ho hj (zu hu) ha) hs hw h1).imp λD σ H q=>
  gu (g:=λx Γ=>match Γ[i]? with
   | some (some (true,.dict kvs))=>ap (fj Γ) λy=>if dN kvs y.2=true/\bo x.2=true/\dO kvs=true/\kvs.length < sizeLine then ah (.nx (Γ.set i (some (true,.dict (putK kvs y.2 x.2))))) else none
   | _=>none) q λB φ Γ k d y H1 r av q=>by
   subst hK
   match hg:Γ[i]?,q with
   | some (some (true,.dict kvs)),q=>
    obtain⟨v,hv,hT⟩:=r.own hg
    obtain⟨l,ks,bs,rfl,hl,ht,hφ⟩:=de hT
    have hli:l∈φ i:=by rw[hφ];exact K8
    refine⟨.ref l,hv,B,φ,Γ,r,?_⟩
    match hm:fj Γ,q with
    | some (.ok (k',d')),q=>
     refine .inl ⟨k',d',rfl,λw H2 s2 hw=> ?_⟩
     have r2:=r.same s2
     replace q:cM X.K Ew B (if dN kvs d'=true/\bo d=true/\dO kvs=true/\kvs.length < sizeLine then ah (.nx (Γ.set i (some (true,.dict (putK kvs d' d))))) else none) D:=q
     by_cases hc:dN kvs d'=true/\bo d=true/\dO kvs=true/\kvs.length < sizeLine
     ·rw[JQ hc] at q
      obtain⟨c1,c2,c3,c4⟩:=hc
      have hbs:bs=[]:=l8 ht c3
      subst hbs
      have hdk:=aT.same s2 _ _ (aM.toD _ _ _ ht)
      have hkd:=hw.toD r2.bs
      have hdd:=aJ.same s2 _ _ (av.toD r.bs)
      refine⟨l,ks,kvs,d',rfl,s2 _ _ hl,hdk,hkd,c1,by rw[gy hdk];exact c4,λep=> ?_⟩
      have hkn:∀p∈kvs,bo p.1=true:=λp hp=>by
       have:=ht
       exact oZ ht p hp
      have Ik:=pX hdk hkd hdd
      have hn2:∀p∈putK kvs d' d,bo p.1=true:=λp hp=>by
       unfold putK at hp
       split at hp
       ·obtain⟨q',hq',rfl⟩:=Kw.mp hp
        split
        ·exact hkn q' hq'
        ·exact hkn q' hq'
       ·rcases Kk.mp hp with hp | hp
        ·exact hkn p hp
        ·rw[K6.mp hp];exact ur c1
      have hnew:=aM.upd (o':=.dct l (l4 ks.1 d' w y,ep)) (s2 _ _ hl) trivial _ _ _ (show l∉[] by simp) (kI Ik hn2 (pZ c3 c2))
      exact q B _ σ _ (Same.refl B) (r2.chg (d:=.dict (putK kvs d' d)) (as:=[l]) hli (s2 _ _ hl) trivial hv (gQ aw hnew) (KU.mpr ⟨by simp,X2⟩) (λa ha=> .inl (by rw[K6.mp ha];exact hli)) trivial)
     ·rw[JV hc] at q
      exact False.elim q
    | some (.ex c),q=>exact .inr ⟨c,rfl,q⟩
    | none,q=>cases q
   | some (some (true,.none)),q|some (some (true,.bool _)),q|some (some (true,.int _)),q|some (some (true,.str _)),q|some (some (true,.tuple _)),q|some (some (true,.list _)),q|some (some (false,_)),q|some none,q|none,q=>cases q
end
section
variable {X:Cx}{K:Frag}{Ew:Str->Hp->Prop}{pos pos2 p p2:Pos}{a e o j:Expr}{ta:TE}{fa fe fj:EF}{apos cpos:Pos}
theorem DS.or {st:Stmt}{f f1 f2:SF}(h1:DS X K Ew st f1)(h2:DS X K Ew st f2)(hf:∀Γ,f Γ=f1 Γ∨f Γ=f2 Γ):DS X K Ew st f:=λpins s σ H D I q=>by
 obtain⟨B,φ,Γ,r,q⟩:=q
 rcases hf Γ with z | z
 ·exact h1 pins s σ H D I ⟨B,φ,Γ,r,by rw[←z];exact q⟩
 ·exact h2 pins s σ H D I ⟨B,φ,Γ,r,by rw[←z];exact q⟩
theorem zv (hu:X.A.units+80 < cLine){i:Nat}(ho:PE X o (kT i))(hj:DE X K Ew j fj)(he:DE X K Ew e fe)(hK:X.K=K:=by rfl)
  (ha:∀v,assign (.Subscript o j p) X.env v=(do
   let ov←holding [v] (eval o X.env)
   let iv←holding [v,ov] (eval j X.env)
   standAt p
   holding [v,ov,iv] (setItem ov iv v)
   release [v,ov,iv] []):=by intro _;rfl)
  (hs:swapsWithSole [.Subscript o j p] e pos.line X.env=pure false:=by rfl) (hw:swappedStores [.Subscript o j p] e X.env=pure none:=by rfl)
  (h1:(assignEach [.Subscript o j p] X.env).map (·.2)=[assign (.Subscript o j p) X.env]:=by rfl):DS X K Ew (.Assign [.Subscript o j p] e pos) (rW i fj fe):=by
 refine DS.or (ET hu ho hj he hK ha hs hw h1) (ub ho hj he ha hs hw h1) λΓ=> ?_
 unfold rW
 match hg:Γ[i]? with
 | some (some (true,.dict kvs))=>exact .inl rfl
 | some (some (true,.none))=>exact .inr rfl
 | some (some (true,.bool _))=>exact .inr rfl
 | some (some (true,.int _))=>exact .inr rfl
 | some (some (true,.str _))=>exact .inr rfl
 | some (some (true,.tuple _))=>exact .inr rfl
 | some (some (true,.list _))=>exact .inr rfl
 | some (some (false,_))=>exact .inr rfl
 | some none=>exact .inr rfl
 | none=>exact .inr rfl
theorem EU {kvs:List (PyData×PyData)}{k d:PyData}(h:∀p∈kvs,bo p.1=true)(hk:bo k=true):∀p∈putK kvs k d,bo p.1=true:=λp hp=>by
 unfold putK at hp
 split at hp
 ·obtain⟨q',hq',rfl⟩:=Kw.mp hp
  split
  ·exact h q' hq'
  ·exact h q' hq'
 ·rcases Kk.mp hp with hp | hp
  ·exact h p hp
  ·rw[K6.mp hp];exact hk
theorem vU:∀{more kvs:List (PyData×PyData)},(∀p∈more,bo p.1=true)->(∀p∈kvs,bo p.1=true)->∀p∈k_ kvs more,bo p.1=true
 | [],kvs,_,h=>h
 | (k,d) :: r,kvs,hm,h=>vU (kvs:=putK kvs k d) (λp hp=>hm p (K9 _ hp)) (EU h (hm _ K8))
def N4 (H:Hp)(x:V):Prop:=∃a ks,x= .ref a/\Rd H a (.dct a ks)
theorem Ci {pins:List (Addr×Obj)}{σ:St}{H:Hp}{s:Shared}{x:V}{v:Value}(I:Inv X pins σ H s)(r:RelV x v)(t:N4 H x):s.TypeIs v "dict" /\∀b,v= .ref b->∃ob,s.heap.get? b=some ob/\ob.dict=none:=by
 obtain⟨a,ks,rfl,hr⟩:=t
 cases(show v=Value.ref a from r)
 obtain⟨⟨_,_,_,_,o,es,ho,hc,_⟩,_⟩:=(show dH X.prog X.w H s.heap a (.dct a ks) from hr.ok I.hok)
 refine⟨⟨o,ho,hc.1⟩,λb e=> ?_⟩
 cases e
 exact⟨o,ho,hc.2.1⟩
def OM (r:V->List V->Hp->VK->Prop)(to:TE)(t:TA):TE:=λσ H Q=>to σ H λx H1=>N4 H1 x/\t σ H1 λxs H2=>r x xs H2 Q
theorem GA {es:List Expr}{to:TE}{t:TA}{name:Str}{id:String}{r:V->List V->Hp->VK->Prop}(slot:Slot "dict" name id)(hty:typeOf (.builtin id)=pure (.type "method_descriptor"))(hm:Gu X id r)(ho:PE X o to)(ha:PA X (e :: es) t)
  (hbase:attributeBase o name X.env (eval o X.env)=eval o X.env)
  (hfew:((backTo cpos (starEach (e :: es) X.env)).all (λx=> !x.1) && (backToKw cpos (keywordEach [] X.env)).all (λx=>x.1.isSome)
   && decide ((e :: es).length+([]:List Keyword).length+(if ([]:List Keyword).isEmpty then 0 else 1) < 30))=true)
  (hline:(apos.endLine==cpos.line)=true) (hs:starEach (e :: es) X.env=(false,eval e X.env) :: starEach es X.env) (hplain:(backTo cpos (starEach es X.env)).any (·.1)=false) :
  PE X (.Call (.Attribute o name apos) (e :: es) [] cpos) (OM r to t):=by
 intro pins s σ H Q I h
 refine wpAny_Call_method_late hbase hfew hline rfl (cW (ho pins s σ H _ I h) λv s1 ⟨x,H1,I1,r1,ty,q1⟩=> ?_)
 obtain⟨h1,h2⟩:=Ci I1 r1 ty
 refine⟨"dict",id,PySem.F.plainAttrs_dict,slot,hty,h1,h2,?_⟩
 have hA:=ha cpos pins s1 σ H1 _ I1 q1
 rw[hs] at hA⊢
 refine Calls.callWith_builtin (by show(false || (backTo cpos (starEach es X.env)).any (·.1))=false;rw[hplain] <;> rfl) (Calls.evalArgs_plain ?_)
 exact cW hA λus s2 ⟨vs,H2,I2,r2,q2⟩=>hm pins s2 σ H2 x vs v us Q I2 r1 r2 q2
def Lq (kvs more:k6):Prop:=(kvs.isEmpty=false/\gF kvs=true/\gF more=true)∨(allI kvs=true/\allI more=true)
def Ng (K:Frag):V->List V->Hp->VK->Prop:=λx vs H Q=>∃a b kvs ks more ms,x= .ref a/\vs=[.ref b]/\a≠b/\H a=some (.dct a ks)/\aT K H kvs ks.1/\Rd H b (.dct b ms)/\aT K H more ms.1/\Lq kvs more/\kvs.length+more.length<=sizeLine/\∀ep,Q .non (upd H a (.dct a (pR ks.1 ms.1,ep)))
theorem Il (hu:X.A.units+80 < cLine):La X "dict.update" (Ng X.K):=by
 intro pins s σ H x vs v us Q I rx rv h
 obtain⟨a,b,kvs,ks,more,ms,rfl,rfl,hab,hH,t,hr,t2,hok,hz,q⟩:=h
 cases(show v=Value.ref a from rx)
 obtain⟨u,rfl,ru⟩:=rv.one
 cases(show u=Value.ref b from ru)
 have e3:=gy t
 have e4:=gy t2
 have hlen:=sr ms.1 ks.1
 rcases hok with⟨h0,at1,at2⟩ | ⟨ON,OO⟩
 ·obtain⟨xs,dd,p,hs,hl,_⟩:=jE I (.inl hH) t at1
  obtain⟨ys,dd2,p2,hs2,hl2,_⟩:=jE I hr t2 at2
  have e1:=Paired.len p
  have e2:=Paired.len p2
  have hx0:xs≠[]:=λz=>by
   rw[z] at e1
   have:kvs.length=0:=by rw[←e3,e1];rfl
   rw[Yq.mp this] at h0;cases h0
  refine call_meetsIn PySem.F.slot_dict_update dd.typeIs PySem.F.entry_dict_update (PySem.F.args_dict_update_2 _ _) (ER (knd:=bA X.prog X.w) a b hab hs2) ⟨show X.A.units+1+10 < cLine by omega,xs,ys,hx0,dd,dd2,by omega,λh' sC sb=> ?_⟩
  obtain⟨ep,ph⟩:=jF (!1) hs (nU p2 p) sC
  refine⟨.non,_,I.write (x:=a) (e:=a) (t':=s.toks) (by rw[hH];trivial) (.inl rfl) (λc w hc hw=>(sb.2 c hc).trans hw) ?_ (jG ph),rfl,q ep⟩
  obtain⟨ob,_,_,ho,_⟩:=sC
  exact⟨ob,ho⟩
 ·obtain⟨xs,dd,p,hs,hl⟩:=iF I (.inl hH) t ON
  obtain⟨ys,dd2,p2,hs2,hl2⟩:=iF I hr t2 OO
  have e1:=Paired.len p
  have e2:=Paired.len p2
  refine call_meetsIn PySem.F.slot_dict_update dd.typeIs PySem.F.entry_dict_update (PySem.F.args_dict_update_2 _ _) (meets_dict_update (intKind X.prog X.w) a b hab hs2) ⟨xs,ys,dd,dd2,by omega,λh' sC _ sb=> ?_⟩
  obtain⟨ep,ph⟩:=pQ (!1) hs (l7 p2 p) sC
  refine⟨.non,_,I.write (x:=a) (e:=a) (t':=s.toks) (by rw[hH];trivial) (.inl rfl) (λc w hc hw=>(sb.2 c hc).trans hw) ?_ (jG ph),rfl,q ep⟩
  obtain⟨ob,_,_,ho,_⟩:=sC
  exact⟨ob,ho⟩
theorem Cj (hu:X.A.units+80 < cLine){i:Nat}(ho:PE X o (kT i))(he:DE X K Ew e fe)(hK:X.K=K:=by rfl)
  (hbase:attributeBase o "update" X.env (eval o X.env)=eval o X.env:=by rfl)
  (hfew:((backTo cpos (starEach [e] X.env)).all (λx=> !x.1) && (backToKw cpos (keywordEach [] X.env)).all (λx=>x.1.isSome)
   && decide (([e]:List Expr).length+([]:List Keyword).length+(if ([]:List Keyword).isEmpty then 0 else 1) < 30))=true:=by rfl)
  (hline:(apos.endLine==cpos.line)=true:=by rfl) (hs:starEach [e] X.env=(false,eval e X.env) :: starEach [] X.env:=by rfl) (hplain:(backTo cpos (starEach [] X.env)).any (·.1)=false:=by rfl)
  (hsw:swapsWith (.Call (.Attribute o "update" apos) [e] [] cpos) none pos.line X.env=pure false:=by rfl) :
  DS X K Ew (.Expr (.Call (.Attribute o "update" apos) [e] [] cpos) pos) (rV i fe) :=
 (kD (GA PySem.F.slot_dict_update PySem.F.type_dict_update (Il hu) ho (bx he cZ hs) hbase hfew hline hs hplain) hsw).imp λD σ H q=>by
  subst hK
  obtain⟨B,φ,Γ,r,q⟩:=q
  unfold rV at q
  match hg:Γ[i]?,q with
  | some (some (true,.dict kvs)),q=>
   obtain⟨v,hv,hT⟩:=r.own hg
   obtain⟨l,ks,bs,rfl,hl,ht,hφ⟩:=de hT
   have hli:l∈φ i:=by rw[hφ];exact K8
   refine⟨.ref l,hv,⟨l,ks,rfl,.inl hl⟩,B,φ,Γ,r,?_⟩
   match hm:fe Γ,q with
   | some (.ok (k,d)),q=>
    refine .inl ⟨k,d,rfl,λy H1 s1 hy=> ?_⟩
    have r1:=r.same s1
    have hl1:=s1 _ _ hl
    replace q:cM X.K Ew B (match vC i k kvs d with
     | some kvs'=>ah (.nx (Γ.set i (some (true,.dict kvs'))))
     | none=>none) D:=q
    cases d <;> try (exact False.elim q)
    rename_i more
    by_cases hc:ED i k=true/\((kvs.isEmpty=false/\gF kvs=true/\gF more=true)∨(allI kvs=true/\allI more=true))/\dO kvs=true/\dO more=true/\kvs.length+more.length<=sizeLine
    ·simp only[vC,JQ hc] at q
     obtain⟨c1,c2,c3,c4,c5⟩:=hc
     have hd:=hy.toD r1.bs
     obtain⟨b,ms,rfl,hr,t2⟩:=b_ hd
     have hbs:bs=[]:=l8 ht c3
     subst hbs
     have hdk:=aT.same s1 _ _ (aM.toD _ _ _ ht)
     have hlb:l≠b:=λz=>by
      subst z
      cases k with
      | fr js=>
       obtain⟨as,h1,h2,h3⟩:=hy
       obtain⟨a',ks',bs',e1,e2,e3,e4⟩:=de h1
       cases e1
       rcases h3 l (by rw[e4];exact K8) with⟨jj,hj1,hj2⟩ | z
       ·by_cases hji:jj=i
        ·subst hji
         simp only[ED,Bool.not_eq_true',List.contains_eq_mem,decide_eq_false_iff_not] at c1
         exact c1 hj1
        ·exact r.dj jj i hji l hj2 hli
       ·rw[hl] at z;cases z
      | base=>
       have hb:aJ X.K B (.dict more) (.ref l):=hy
       obtain⟨a',ks',e1,e2,_⟩:=b_ hb
       cases e1
       have hn:=(r.nb i l hli).1
       rcases e2 with e2 | ⟨_,e2⟩ <;> (rw[hn] at e2;cases e2)
      | any=>simp[ED] at c1
     have hkn:=oZ ht
     have htn:∀p∈k_ kvs more,bo p.1=true:=vU (λp hp=>by
      rcases c2 with⟨_,_,z⟩ | ⟨_,z⟩
      ·exact lZ (Uw.mp z p hp)
      ·obtain⟨i,e⟩:=pP (Uw.mp z p hp);rw[e];rfl) hkn
     refine⟨l,b,kvs,ks,more,ms,rfl,rfl,hlb,hl1,hdk,hr,t2,c2,c5,λep=> ?_⟩
     have hnew:=aM.upd (o':=.dct l (pR ks.1 ms.1,ep)) hl1 trivial _ _ _ (show l∉[] by simp) (kI (sv t2 hdk) htn (sw c4 c3))
     exact q B _ σ _ (Same.refl B) (r1.chg (d:=.dict (k_ kvs more)) (as:=[l]) hli hl1 trivial hv (gQ aw hnew) (KU.mpr ⟨by simp,X2⟩) (λa ha=> .inl (by rw[K6.mp ha];exact hli)) trivial)
    ·simp only[vC,JV hc] at q
     exact False.elim q
   | some (.ex c),q=>exact .inr ⟨c,rfl,q⟩
   | none,q=>cases q
  | some (some (true,.none)),q|some (some (true,.bool _)),q|some (some (true,.int _)),q|some (some (true,.str _)),q|some (some (true,.tuple _)),q|some (some (true,.list _)),q|some (some (false,_)),q|some none,q|none,q=>cases q
end
section
variable {X:Cx}{K:Frag}{Ew:Str->Hp->Prop}{pos:Pos}{ke ve:Expr}{fk fv:EF}
theorem Ck {prog:Program}{w:World}{A:Around}{E:Z3}{s:Shared}{env:Env}{ke ve:Expr}{pos:Pos}{Q:Z3}
  (h:wpAny (!3) A (eval ke env) (λkv s₁=>wpAny (!3) A (eval ve env) (λvv s₂=>wpAny (!3) A (dictSet s.heap.objs.size kv vv) (λ_ s₃=>Q (!7) s₃) E s₂) E s₁) E
   {s with heap:=s.heap.push {cls:=.type "dict",data:=.dict #[]}}):wpAny (!3) A (eval (.Dict [some ke] [ve] pos) env) Q E s:=by
 rw[arm_eval_Dict]
 have hsh:(evalEachOpt [some ke] env).zip ((evalEach [ve] env).map λv=>do let x←v;standAt pos;pure x)=[(eval ke env,do let x←eval ve env;standAt pos;pure x)].map λp=>(some p.1,p.2):=rfl
 rw[hsh,dictDisplay_pairs _ (by simp) (by simp)]
 refine JZ (wpAny_standAt ?_);refine JZ ?_
 unfold subDict
 refine JZ (wpAny_alloc ?_);refine JZ (Z7 ?_)
 rw[JQ (by simp)]
 refine JZ (evalPairs_cons (wpAny_mono h (λkv s₁ h₁=>JZ (wpAny_mono h₁ (λvv s₂ h₂=> ?_) λ_ _ e=>e)) λ_ _ e=>e))
 refine JZ (wpAny_standAt (JW (evalPairs_nil (Z7 ?_))))
 rw[Jw]
 refine JZ (JZ (JZ (wpAny_mono h₂ (λ_ s₃ h₃=>JW ?_) λ_ _ e=>e)))
 dsimp only;rw[List.forIn_nil]
 exact JW (JW (JW (JW h₃)))
theorem o0 (hK:X.K=K:=by rfl):DE X K Ew (.Dict [] [] pos) lO:=by
 subst hK
 intro pins s σ H Q I q
 obtain⟨B,φ,Γ,r,q⟩:=q
 have hp:H s.heap.objs.size=none:=I.fresh
 have hd0:(s.heap.push {cls:=.type "dict",data:=.dict #[]}).DictOfH (bA X.prog X.w) s.heap.objs.size []:=Heap.DictOfH.new s.heap
 have hs0:(s.heap.objs.size==sysModules)=false:=beq_eq_false_iff_ne.mpr (Ne.symm (X4 I.big'))
 obtain⟨GB,Nh⟩:=jF (ks:=[]) (Xy _) hs0 .nil hd0
 have I1:Inv X pins σ (upd H s.heap.objs.size (.dct s.heap.objs.size ([],GB))) {s with heap:=s.heap.push {cls:=.type "dict",data:=.dict #[]},toks:=s.toks} :=
  I.laid (λ_ _ e=>K7 _ e) (K2 _) (jG Nh)
 rcases q with⟨_,_,e,q⟩ | ⟨_,e,_⟩
 ·cases e
  refine wpAny_Dict_empty ⟨.ref s.heap.objs.size,_,I1,rfl,q _ _ (Same.upd hp) (VR.fresh.mpr ⟨[s.heap.objs.size],gQ aw (by simp only[aM];exact⟨trivial,trivial⟩),KU.mpr ⟨by simp,X2⟩,λa ha=>by rw[K6.mp ha];exact hp⟩)⟩
 ·cases e
theorem zw (hu:X.A.units+80 < cLine)(hk:DE X K Ew ke fk)(hv:DE X K Ew ve fv)(hK:X.K=K:=by rfl):DE X K Ew (.Dict [some ke] [ve] pos) (vB fk fv):=by
 subst hK
 intro pins s σ H Q I q
 obtain⟨B,φ,Γ,r,q⟩:=q
 have hp:H s.heap.objs.size=none:=I.fresh
 have hd0:(s.heap.push {cls:=.type "dict",data:=.dict #[]}).DictOfH (bA X.prog X.w) s.heap.objs.size []:=Heap.DictOfH.new s.heap
 have hs0:(s.heap.objs.size==sysModules)=false:=beq_eq_false_iff_ne.mpr (Ne.symm (X4 I.big'))
 obtain⟨GB,Nh⟩:=jF (ks:=[]) (Xy _) hs0 .nil hd0
 have I1:Inv X pins σ (upd H s.heap.objs.size (.dct s.heap.objs.size ([],GB))) {s with heap:=s.heap.push {cls:=.type "dict",data:=.dict #[]},toks:=s.toks} :=
  I.laid (λ_ _ e=>K7 _ e) (K2 _) (jG Nh)
 generalize hP:s.heap.objs.size=P at*
 have s1:Same H (upd H P (.dct P ([],GB))):=Same.upd hp
 have r1:=r.same s1
 have q:Runs X.K Ew B φ H (ap (fk Γ) λx=>ap (fv Γ) λy=>if dN [] x.2=true/\bo y.2=true then ah (.fr [],.dict [(x.2,y.2)]) else none) Q:=q
 have hroom:(bA X.prog X.w).room X.A:=show X.A.units+10 < cLine by omega
 match hm:fk Γ,q with
 | some (.ok (k,d)),q=>
  replace q:Runs X.K Ew B φ H (ap (fv Γ) λy=>if dN [] d=true/\bo y.2=true then ah (.fr [],.dict [(d,y.2)]) else none) Q:=q
  match hm2:fv Γ,q with
  | some (.ok (k2,d2)),q=>
   replace q:Runs X.K Ew B φ H (if dN [] d=true/\bo d2=true then ah (.fr [],.dict [(d,d2)]) else none) Q:=q
   by_cases hc:dN [] d=true/\bo d2=true
   ·rw[JQ hc] at q
    obtain⟨c1,c2⟩:=hc
    rcases q with⟨_,_,e,q⟩ | ⟨c,e,_⟩
    ·cases e
     subst hP
     refine Ck (cW (hk pins _ σ _ (λv H2=>Same (upd H s.heap.objs.size (.dct s.heap.objs.size ([],GB))) H2/\VR X.K B φ (upd H s.heap.objs.size (.dct s.heap.objs.size ([],GB))) H2 k d v) I1 ⟨B,φ,Γ,r1,.inl ⟨k,d,hm,λv H2 s2 hv2=>⟨s2,hv2⟩⟩⟩) λu st1 ⟨x,H2,I2,rx,s12,vx⟩=> ?_)
     have r2:=r1.same s12
     refine cW (hv pins _ σ _ (λv H3=>Same H2 H3/\VR X.K B φ H2 H3 k2 d2 v) I2 ⟨B,φ,Γ,r2,.inl ⟨k2,d2,hm2,λv H3 s3 GC=>⟨s3,GC⟩⟩⟩) λu2 st2 ⟨y,H3,I3,ry,Mj,vy⟩=> ?_
     have r3:=r2.same Mj
     have hkd:=aJ.same Mj _ _ (vx.toD r2.bs)
     have OP:=vy.toD r3.bs
     have hp3:H3 s.heap.objs.size=some (.dct s.heap.objs.size ([],GB)):=Mj _ _ (s12 _ _ aw)
     have fin:∀(h':Heap) (t':Nat),Heap.SameBut s.heap.objs.size st2.heap h'->(∃ep,pD s.heap.objs.size ([(d,x,y)],ep) h')->EP X pins σ Q (!7) {st2 with heap:=h',toks:=t'}:=λh' t' sb ⟨ep,ph⟩=>by
      refine⟨.ref s.heap.objs.size,_,I3.write (x:=s.heap.objs.size) (e:=s.heap.objs.size) (t':=t') (by rw[hp3];trivial) (.inl rfl) (λc w hc hw=>(sb.2 c hc).trans hw) ?_ (jG ph),rfl,?_⟩
      ·obtain⟨_,_,_,_,ob,_,ho,_⟩:=ph;exact⟨ob,ho⟩
      ·have sA:Same H H3:=s1.trans (s12.trans Mj)
       refine q _ _ (sA.HV hp) (VR.fresh.mpr ⟨[s.heap.objs.size],gQ aw ?_,KU.mpr ⟨by simp,X2⟩,λa ha=>by rw[K6.mp ha];exact hp⟩)
       have hdk:aT X.K H3 [(d,d2)] [(d,x,y)]:=by simp only[aT];exact⟨_,_,_,rfl,hkd,OP,rfl⟩
       have htk:=kI hdk (λp hp=>by rw[K6.mp hp];exact ur c1) (show dO [(d,d2)]=true by unfold dO;rw[KZ,Ju,aq,aq,c2];rfl)
       exact aM.upd hp3 trivial _ _ _ (show s.heap.objs.size∉[] by simp) htk
     rcases hU c1 with⟨ds,rfl,hn,_⟩ | ⟨n,rfl,_⟩
     ·obtain⟨b,vs,rfl,_,_⟩:=aE hkd
      cases(show u=Value.ref b from rx)
      obtain⟨xs,dd,p,hs,hl,_⟩:=jE I3 (.inl hp3) (show aT X.K H3 [] [] by simp only[aT]) rfl
      cases p
      obtain⟨kk,hkk⟩:∃kk:NK,kk.d= .tuple ds:=⟨⟨ds,hn⟩,rfl⟩
      refine wpAny_dictSet_heap (knd:=bA X.prog X.w) (k:=kk) (hsz:=Xy _) hroom (by show gN _ kk.d _;rw[hkk];exact aJ.Ce I3 8 (.tuple ds) (.ref b) (.ref b) (by rw[Y.nest];exact hn) hkd rfl) dd λh' sC sb=>fin h' _ sb ?_
      have hpr:Paired Rk [(PyData.tuple ds,V.ref b,y)] [(kk,b,u2)]:=.cons ⟨hkk.symm,rfl,ry⟩ .nil
      exact jF (ks:=[(PyData.tuple ds,V.ref b,y)]) (show 1<=sizeLine by decide) hs0 hpr sC
     ·have:=aA hkd
      subst this
      obtain⟨tk,rfl⟩:=rx
      obtain⟨xs,dd,p,hs,hl⟩:=iF I3 (.inl hp3) (show aT X.K H3 [] [] by simp only[aT]) rfl
      cases p
      refine wpAny_dictSet_pairs (knd:=intKind X.prog X.w) (k:=n) (hsz:=Xy _) (by simp[intKind,Value.isInt]) dd λh' sC sb=>fin h' _ sb ?_
      have hpr:Paired re [(PyData.int n,V.int n,y)] [(n,u2)]:=.cons ⟨rfl,rfl,ry⟩ .nil
      exact pQ (ks:=[(PyData.int n,V.int n,y)]) (show 1<=sizeLine by decide) hs0 hpr sC
    ·cases e
   ·rw[JV hc] at q
    rcases q with⟨_,_,e,_⟩ | ⟨_,e,_⟩ <;> cases e
  | some (.ex c),q=>
   rcases q with⟨_,_,e,_⟩ | ⟨c',e,q⟩
   ·cases e
   ·cases e
    subst hP
    refine Ck (cW (hk pins _ σ _ (λv H2=>Same (upd H s.heap.objs.size (.dct s.heap.objs.size ([],GB))) H2) I1 ⟨B,φ,Γ,r1,.inl ⟨k,d,hm,λv H2 s2 hv2=>s2⟩⟩) λu st1 ⟨x,H2,I2,rx,s12⟩=> ?_)
    exact cW (hv pins _ σ _ (λv H3=>False) I2 ⟨B,φ,Γ,r1.same s12,.inr ⟨c,hm2,q⟩⟩) λu2 st2 ⟨_,_,_,_,z⟩=>False.elim z
  | none,q=>rcases q with⟨_,_,e,_⟩ | ⟨_,e,_⟩ <;> cases e
 | some (.ex c),q=>
  rcases q with⟨_,_,e,_⟩ | ⟨c',e,q⟩
  ·cases e
  ·cases e
   subst hP
   exact Ck (cW (hk pins _ σ _ (λv H2=>False) I1 ⟨B,φ,Γ,r1,.inr ⟨c,hm,q⟩⟩) λu st1 ⟨_,_,_,_,z⟩=>False.elim z)
 | none,q=>rcases q with⟨_,_,e,_⟩ | ⟨_,e,_⟩ <;> cases e
end
end L2
namespace Y
open PySem
def AA (i:Nat)(fk:EF)(j:Nat):SF:=λΓ=>match Γ[i]? with
 | some (some (true,.dict kvs))=>ap (fk Γ) λx=>match Γ[j]? with
  | some (some (_,.int n))=>if db x.2=true/\gF kvs=true/\kvs.length < sizeLine then (match za kvs x.2 (.int n) with
   | some kvs'=>ah (.nx (Γ.set i (some (true,.dict kvs'))))
   | none=>none) else none
  | _=>none
 | _=>none
def AB (k:Kd):PyData->M (Kd×List PyData)
 | .dict kvs=>if gF kvs=true then ah (k,kvs.map λp=> .tuple [p.1,p.2]) else none
 | _=>none
def ut (e:EF):IF:=λΓ=>ap (e Γ) λx=>AB x.1 x.2
def p0:PyData->Option PyData
 | .int n=>if 0<=n/\n<=100000 then some (.list ((List.range n.toNat).map λi=> .int (i:Nat))) else none
 | _=>none
def intOf:PyData->Option Int
 | .int i=>some i
 | _=>none
def uv:List Int->Int
 | []=>0
 | i :: l=>l.foldl (λa b=>if b < a then b else a) i
def sD:List PyData->Option PyData
 | [.list xs]=>(xs.mapM intOf).bind λl=>if l.isEmpty=false then some (.int (uv l)) else none
 | _=>none
def insI (x:Int):List Int->List Int
 | []=> [x]
 | y :: l=>if x<=y then x :: y :: l else y :: insI x l
def vV (l:List Int):List Int:=l.foldr insI []
end Y
namespace L2
open PySem PySem.Spec PyProof.Rows Y
def iT (ks:List (PyData×V×V))(k:PyData):Option V:=(ks.find? λp=>PyData.eqv p.1 k).map (·.2.2)
theorem uw (k:NK):∀{ks:List (PyData×V×V)} {xs:List (NK×Addr×Value)},Paired Rk ks xs->(∀w,iT ks k.d=some w->∃p,atKey xs k=some p/\RelV w p.2)/\(iT ks k.d=none->atKey xs k=none)
 | _,_,.nil=>⟨λw h=>by simp[iT] at h,λ_=>rfl⟩
 | _,_,.cons (a:=q) (b:=x) r t=>by
  obtain⟨h1,h2⟩:=uw k t
  unfold iT atKey at*
  rw[U4,U4,r.1,x6]
  cases hd:decide (x.1=k) with
  | true=>
   refine⟨λw h=> ?_,λh=>by simp at h⟩
   simp only[U0,Option.some.injEq] at h⊢
   subst h
   exact⟨_,rfl,r.2.2⟩
  | false=>exact⟨h1,h2⟩
theorem vW (k:Int):∀{ks:List (PyData×V×V)} {xs:List (Int×Value)},Paired re ks xs->∀w,iT ks (.int k)=some w->∃u,valueAt xs k=some u/\RelV w u
 | _,_,.nil=>λw h=>by simp[iT] at h
 | _,_,.cons (a:=q) (b:=x) r t=>by
  have h1:=vW k t
  unfold iT valueAt at*
  rw[U4,U4,r.1,Ii]
  cases hd:decide (x.1=k) with
  | true=>
   intro w h
   simp only[U0,Option.some.injEq] at h⊢
   subst h
   exact⟨_,rfl,r.2.2⟩
  | false=>exact h1
theorem kJ {K:Frag}{H:Hp}{k:PyData}:∀{kvs:k6} {ks:List (PyData×V×V)},aT K H kvs ks->∀z,jz kvs k=some z->∃w,iT ks k=some w/\aJ K H z w
 | [],ks,t,z,h=>by simp[jz] at h
 | (k',d') :: r,ks,t,z,h=>by
  simp only[aT] at t
  obtain⟨kv,v',q,rfl,h1,h2,h3⟩:=t
  unfold jz iT at*
  rw[U4] at h⊢
  simp only at h⊢
  cases he:PyData.eqv k' k with
  | true=>
   rw[he] at h
   simp only[U0,Option.some.injEq] at h⊢
   subst h
   exact⟨_,rfl,h2⟩
  | false=>
   rw[he] at h
   exact kJ h3 z h
theorem sE {K:Frag}{H:Hp}{k:PyData}:∀{kvs:k6} {ks:List (PyData×V×V)} {as:List Addr},aM K H kvs ks as->∀z,jz kvs k=some z->∃w bs,iT ks k=some w/\IsT K H z w bs/\bs.Sublist as
 | [],ks,as,t,z,h=>by simp[jz] at h
 | (k',d') :: r,ks,as,t,z,h=>by
  simp only[aM] at t
  obtain⟨kv,v',q,a1,a2,rfl,rfl,h1,h2,h3⟩:=t
  unfold jz iT at*
  rw[U4] at h⊢
  simp only at h⊢
  cases he:PyData.eqv k' k with
  | true=>
   rw[he] at h
   simp only[U0,Option.some.injEq] at h⊢
   subst h
   exact⟨_,a1,rfl,h2,List.sublist_append_left _ _⟩
  | false=>
   rw[he] at h
   obtain⟨w,bs,g1,g2,g3⟩:=sE h3 z h
   exact⟨w,bs,g1,g2,g3.trans (List.sublist_append_right _ _)⟩
section
variable {X:Cx}{K:Frag}{Ew:Str->Hp->Prop}
def Lr (K:Frag):R2:=λx y H Q=>∃a ks kvs k w,x= .ref a/\Rd H a (.dct a ks)/\aT K H kvs ks.1/\aJ K H k y/\dN kvs k=true/\iT ks.1 k=some w/\Q w H
theorem Im (hu:X.A.units+80 < cLine):BE X (Lr X.K):=by
 intro value slice pins s σ H x y v u Q I rx ry h hs
 obtain⟨a,ks,kvs,k,w,rfl,hr,t,hk,hom,hg,q⟩:=h
 cases(show v=Value.ref a from rx)
 rcases hU hom with⟨ds,rfl,hn,ht⟩ | ⟨i,rfl,ht⟩
 ·obtain⟨xs,dd,p,Ni,hl,_⟩:=jE I hr t ht
  obtain⟨bk,vs,rfl,g1,g2⟩:=aE hk
  cases(show u=Value.ref bk from ry)
  obtain⟨kk,hkk⟩:∃kk:NK,kk.d= .tuple ds:=⟨⟨ds,hn⟩,rfl⟩
  have uq:gN s.heap kk.d (.ref bk):=by rw[hkk];exact aJ.Ce I 8 (.tuple ds) (.ref bk) (.ref bk) (by rw[Y.nest];exact hn) hk rfl
  rw[←hkk] at hg
  obtain⟨pp,hpp,xL⟩:=(uw kk p).1 w hg
  exact subscriptTail_builtinR (x:=pp.2) dd.typeIs PySem.F.slot_dict_getitem.lookup (wpAny_getItem_heap (knd:=bA X.prog X.w) (k:=kk) (show X.A.units+1+10 < cLine by omega) uq dd hpp ⟨rfl,w,H,I.tok _,xL,q⟩) hs
 ·obtain⟨xs,dd,p,Ni,hl⟩:=iF I hr t ht
  have:=aA hk
  subst this
  obtain⟨tk,rfl⟩:=ry
  obtain⟨uu,OQ,xL⟩:=vW i p w hg
  exact subscriptTail_builtinR (x:=uu) dd.typeIs PySem.F.slot_dict_getitem.lookup (wpAny_getItem_of (knd:=intKind X.prog X.w) (k:=i) (by simp[intKind,Value.isInt]) dd.mapOf OQ ⟨rfl,w,H,I.tok _,xL,q⟩) hs
theorem Nj (hu:X.A.units+80 < cLine):M7 X EC:=by
 obtain⟨r,hr,lift⟩:=oY (X:=X)
 refine⟨_,(Im hu).or hr,λB φ H0 k x y z u v H Q s e hx hy q=> ?_⟩
 cases x with
 | dict kvs=>
  simp only[EC] at e
  split at e
  ·rename_i hom
   refine .inl ?_
   cases k with
   | fr l=>
    obtain⟨as,h1,h2,h3⟩:=hx
    obtain⟨a,ks,bs,rfl,e1,e2,rfl⟩:=de h1
    obtain⟨w,cs,g1,g2,g3⟩:=sE e2 z e
    refine⟨a,ks,kvs,y,w,rfl,.inl e1,aM.toD _ _ _ e2,hy,hom,g1,q w ?_⟩
    have hsub:cs.Sublist (a :: bs):=g3.trans (List.sublist_cons_self _ _)
    have hv:VR X.K B φ H0 H (.fr l) z w:=⟨cs,g2,h2.sublist hsub,λb hb=>h3 b (hsub.subset hb)⟩
    exact hv.cy s
   | base=>
    have hb:aJ X.K B (.dict kvs) u:=hx
    obtain⟨a,ks,rfl,e1,e2⟩:=b_ hb
    obtain⟨w,g1,g2⟩:=kJ e2 z e
    have hv:VR X.K B φ H0 H .base z w:=g2
    exact⟨a,ks,kvs,y,w,rfl,s.rd e1,aT.same s _ _ e2,hy,hom,g1,q w (hv.cy s)⟩
   | any=>
    have hb:aJ X.K H (.dict kvs) u:=hx
    obtain⟨a,ks,rfl,e1,e2⟩:=b_ hb
    obtain⟨w,g1,g2⟩:=kJ e2 z e
    have hv:VR X.K B φ H0 H .any z w:=g2
    exact⟨a,ks,kvs,y,w,rfl,e1,e2,hy,hom,g1,q w (hv.cy s)⟩
  ·cases e
 | _=>
  refine .inr (lift B φ H0 k _ y z u v H Q s ?_ hx hy q)
  exact e
end
section
variable {prog:Program}{w:World}{K:Type}[DecidableEq K]{knd:HeapKind prog w K}{A:Around}{E:Z3}{s:Shared}
theorem Nk {d a:Addr}{xs:List (K×Addr×Value)}{k:K}{v:Value}{Q:Z3}(hu:knd.room A)(hkey:knd.is s.heap k a)(hm:s.heap.DictOfH knd d xs)(hsz:xs.length<=sizeLine)
  (h1:∀p,atKey xs k=some p->Q p.2 {s with toks:=s.toks+knd.draws k})
  (h2:atKey xs k=none->∀h',h'.DictOfH knd d (xs++[(k,a,v)])->Heap.SameBut d s.heap h'->Q v {s with heap:=h',toks:=s.toks+knd.draws k}):wpAny (!3) A (dictSetDefault d (.ref a) v) Q E s:=by
 obtain⟨o,es,ep,ho,hc,hd,he,his,hn⟩:=hm
 have hes:es.size<=sizeLine:=by rw[size_of_entries he];exact hsz
 unfold dictSetDefault
 refine Z7 ?_
 refine JZ (knd.pyHash hu hkey ?_)
 refine JZ (wpAny_dictFind_heap (s:={s with toks:=s.toks+knd.draws k}) hu hkey ho hd he his hn (λhno=> ?_) λj p hj=> ?_)
 ·refine JZ (wpAny_rule ?_)
  refine JZ (wpAny_updateDictKeys (hz:=hes) (s:={s with toks:=s.toks+knd.draws k}) ho hd (JW (h2 (atKey_none_of_get hno) _ ⟨_,_,ep+1,XX _ ho (Obj.isFreed_of_dict (Obj.data_mapDictKeys hd _)),hc.mapDictKeys _,Obj.data_mapDictKeys hd _,?_,λx hx=> ?_,?_⟩ (Heap.SameBut.update ..))))
  ·simp[he,entryOfKey]
  ·rcases Kk.mp hx with hx | hx
   ·exact knd.keeps (his x hx) ho hd (Heap.SameBut.update ..)
   ·rw[K6.mp hx];exact knd.keeps hkey ho hd (Heap.SameBut.update ..)
  ·rw[X0,Xv]
   refine⟨hn,KU.mpr ⟨by simp,X2⟩,λx hx y hy e=>not_mem_keys_of_get hno ?_⟩
   have hy':y=k:=by simpa using hy
   rw[←hy',←e];exact hx
 ·refine JZ (wpAny_dictEntries (s:={s with toks:=s.toks+knd.draws k}) ho hd ?_)
  rw[entry_at he j,hj]
  exact JZ (wpAny_rule (JW (h1 p (atKey_of_get hn hj))))
theorem Cm (d a:Addr)(v:Value)(hd:(d==sysModules)=false) :
  MeetsIn prog w (Builtin.«dict.setdefault» ⟨[.ref d,.ref a,v],[]⟩) (λA R s=>knd.room A.in1/\∃k xs,knd.is s.heap k a/\s.heap.DictOfH knd d xs/\xs.length<=sizeLine/\
   (∀p,atKey xs k=some p->R (.ok (.ret p.2)) {s with toks:=s.toks+knd.draws k})/\
   (atKey xs k=none->∀h',h'.DictOfH knd d (xs++[(k,a,v)])->Heap.SameBut d s.heap h'->R (.ok (.ret v)) {s with heap:=h',toks:=s.toks+knd.draws k})) :=
 .of_wp λA R s ⟨hu,k,xs,hk,hm,hsz,h1,h2⟩=>by
  unfold Builtin.«dict.setdefault»;refine JZ ?_
  unfold Builtin.Dict.keyAndDefault;refine JZ (wpAny_notOrdered_dict hm.typeIs ?_)
  show wpAny (!3) _ (pure (d,Value.ref a,some v)) _ _ s;refine JW ?_
  show wpAny (!3) _ (if (d==sysModules)=true then _ else (dictSetDefault d (.ref a) v >>=_)) _ _ s
  rw[JV (by rw[hd];exact K5)]
  exact JZ (Nk hu hk hm hsz (λp hp=>JW ⟨p.2,rfl,h1 p hp⟩) λhn h' hm' hs'=>JW ⟨v,rfl,h2 hn h' hm' hs'⟩)
end
section
variable {X:Cx}
def OS (K:Frag):V->List V->Hp->VK->Prop:=λx vs H Q=>∃a kvs ks k kv lv,x= .ref a/\vs=[kv,lv]/\H a=some (.dct a ks)/\aT K H kvs ks.1/\aJ K H k kv/\db k=true/\gF kvs=true/\ks.1.length < sizeLine/\
 (∀w,iT ks.1 k=some w->Q w H)/\(iT ks.1 k=none->∀ep,Q lv (upd H a (.dct a (ks.1++[(k,kv,lv)],ep))))
theorem Ls (hu:X.A.units+80 < cLine):La X "dict.setdefault" (OS X.K):=by
 intro pins s σ H x vs v us Q I rx rv h
 obtain⟨a,kvs,ks,k,kv,lv,rfl,rfl,hH,t,hk,hkt,hat,hz,q1,q2⟩:=h
 cases(show v=Value.ref a from rx)
 cases rv with
 | cons r1 r2=>
  obtain⟨u2,rfl,r3⟩:=(show Vals [lv] _ from r2).one
  obtain⟨ds,rfl,hn⟩:=lY hkt
  obtain⟨bk,zs,rfl,g1,g2⟩:=aE hk
  rename_i u1
  cases(show u1=Value.ref bk from r1)
  obtain⟨xs,dd,p,hs,hl,_⟩:=jE I (.inl hH) t hat
  have e1:=Paired.len p
  obtain⟨kk,hkk⟩:∃kk:NK,kk.d= .tuple ds:=⟨⟨ds,hn⟩,rfl⟩
  have uq:gN s.heap kk.d (.ref bk):=by rw[hkk];exact aJ.Ce I 8 (.tuple ds) (.ref bk) (.ref bk) (by rw[Y.nest];exact hn) hk rfl
  rw[←hkk] at q1 q2
  obtain⟨ga,gb⟩:=uw kk p
  refine call_meetsIn PySem.F.slot_dict_setdefault dd.typeIs PySem.F.entry_dict_setdefault (PySem.F.args_dict_setdefault_3 _ _ _) (Cm (knd:=bA X.prog X.w) a bk u2 hs) ⟨show X.A.units+1+10 < cLine by omega,kk,xs,uq,dd,by omega,λpp hpp=> ?_,λhno h' sC sb=> ?_⟩
  ·cases hg:iT ks.1 kk.d with
   | none=>rw[gb hg] at hpp;cases hpp
   | some w=>
    obtain⟨p',hp',xL⟩:=ga w hg
    rw[hpp] at hp'
    cases hp'
    exact⟨w,H,I.tok _,xL,q1 w hg⟩
  ·have hg:iT ks.1 kk.d=none:=by
    cases hg:iT ks.1 kk.d with
    | none=>rfl
    | some w=>obtain⟨p',hp',_⟩:=ga w hg;rw[hno] at hp';cases hp'
   have hpr:Paired Rk (ks.1++[(kk.d,V.ref bk,lv)]) (xs++[(kk,bk,u2)]):=j9 ⟨rfl,rfl,r3⟩ p
   obtain⟨ep,ph⟩:=jF (by rw[K1,X3];omega) hs hpr sC
   refine⟨lv,_,I.write (x:=a) (e:=a) (by rw[hH];trivial) (.inl rfl) (λc w hc hw=>(sb.2 c hc).trans hw) ?_ (jG ph),r3,q2 hg ep⟩
   obtain⟨ob,_,_,ho,_⟩:=sC
   exact⟨ob,ho⟩
end
def Nl (n:PyData):PyData->Option PyData
 | .list xs=>if aq xs=true/\xs.length < sizeLine then some (.list (xs++[n])) else none
 | _=>none
theorem vX (k' v:PyData)(r:k6)(k n:PyData):za ((k',v) :: r) k n=if PyData.eqv k' k=true then (Nl n v).map λz=>(k',z) :: r else (za r k n).map ((k',v) :: ·):=by
 cases v <;> simp only[za,Nl] <;> split <;> try rfl
 split <;> rfl
theorem vY {k n:PyData}:∀{kvs:k6},jz kvs k=none->za kvs k n=some (kvs++[(k,.list [n])])
 | [],_=>rfl
 | (k',v) :: r,h=>by
  unfold jz at h
  rw[U4] at h
  simp only at h
  cases he:PyData.eqv k' k with
  | true=>rw[he] at h;cases h
  | false=>
   rw[he] at h
   rw[vX,JV (by rw[he];exact K5),vY (kvs:=r) h];rfl
section
variable {K:Frag}{H:Hp}
theorem vZ {k:PyData}{n:Int}:∀{kvs kvs':k6} {ks:List (PyData×V×V)} {bs:List Addr} {z:PyData},aM K H kvs ks bs->bs.Nodup->jz kvs k=some z->za kvs k (.int n)=some kvs'->
  ∃l vs,iT ks k=some (.ref l)/\H l=some (.lst vs)/\l∈bs/\vs.length < sizeLine/\aM K (upd H l (.lst (vs++[.int n]))) kvs' ks bs
 | [],kvs',ks,bs,z,t,_,g,_=>by simp[jz] at g
 | (k',d') :: r,kvs',ks,bs,z,t,hnd,g,e=>by
  simp only[aM] at t
  obtain⟨kv,v',q,a1,a2,rfl,rfl,h1,h2,h3⟩:=t
  rw[Xv] at hnd
  obtain⟨n1,n2,n3⟩:=hnd
  unfold jz at g
  rw[U4] at g
  simp only at g
  rw[vX] at e
  unfold iT
  rw[U4]
  simp only
  cases he:PyData.eqv k' k with
  | true=>
   rw[he] at g
   rw[JQ he] at e
   cases d' <;> simp only[Nl] at e <;> try (cases e;done)
   rename_i xs
   by_cases hc:aq xs=true/\xs.length < sizeLine
   ·rw[JQ hc] at e
    cases e
    obtain⟨l,vs,cs,rfl,hl,ht,rfl⟩:=bz h2
    have hcs:cs=[]:=az.nil _ _ _ hc.1 ht
    subst hcs
    have hlen:=bE ht
    refine⟨l,vs,rfl,hl,by simp,by omega,?_⟩
    simp only[aM]
    refine⟨kv,.ref l,q,[l],a2,rfl,rfl,IsT.upd hl trivial _ _ _ (by simp) h1,?_,?_⟩
    ·have h4:=az.upd (o':=.lst (vs++[.int n])) hl trivial _ _ _ (show l∉[] by simp) ht
     have h5:az K (upd H l (.lst (vs++[.int n]))) [PyData.int n] [V.int n] []:=ar.toT _ _ rfl (aV bC aY)
     exact dy aw (df h4 h5)
    ·exact aM.upd hl trivial _ _ _ (λz=>n3 l (by simp) l z rfl) h3
   ·rw[JV hc] at e;cases e
  | false=>
   rw[he] at g
   rw[JV (by rw[he];exact K5)] at e
   cases hs:za r k (.int n) with
   | none=>rw[hs] at e;cases e
   | some r'=>
    rw[hs] at e
    cases e
    obtain⟨l,vs,i1,i2,i3,i4,i5⟩:=vZ h3 n2 g hs
    refine⟨l,vs,i1,i2,Kx _ i3,i4,?_⟩
    simp only[aM]
    exact⟨kv,v',q,a1,a2,rfl,rfl,IsT.upd i2 trivial _ _ _ (by simp) h1,IsT.upd i2 trivial _ _ _ (λz=>n3 l z l i3 rfl) h2,i5⟩
theorem m9 {k d:PyData}{kv v:V}{cs:List Addr}(hk:IsT K H k kv [])(hv:IsT K H d v cs):∀{kvs:k6} {ks:List (PyData×V×V)} {bs:List Addr},aM K H kvs ks bs->aM K H (kvs++[(k,d)]) (ks++[(k,kv,v)]) (bs++cs)
 | [],ks,bs,t=>by
  simp only[aM] at t
  obtain⟨rfl,rfl⟩:=t
  simp only[YZ,aM]
  exact⟨kv,v,[],cs,[],rfl,by simp,hk,hv,rfl,rfl⟩
 | (k',d') :: r,ks,bs,t=>by
  simp only[aM] at t
  obtain⟨kv',v',q,a1,a2,rfl,rfl,h1,h2,h3⟩:=t
  rw[U6,U6]
  simp only[aM]
  exact⟨kv',v',_,a1,a2++cs,rfl,by rw[X5],h1,h2,m9 hk hv h3⟩
theorem sF {k:PyData}:∀{kvs:k6} {ks:List (PyData×V×V)},aT K H kvs ks->jz kvs k=none->iT ks k=none
 | [],ks,t,h=>by simp only[aT] at t;subst t;rfl
 | (k',d') :: r,ks,t,h=>by
  simp only[aT] at t
  obtain⟨kv,v',q,rfl,h1,h2,h3⟩:=t
  unfold jz iT at*
  rw[U4] at h⊢
  simp only at h⊢
  cases he:PyData.eqv k' k with
  | true=>rw[he] at h;cases h
  | false=>rw[he] at h;exact sF h3 h
end
section
variable {X:Cx}{K:Frag}{Ew:Str->Hp->Prop}{pos lp p1:Pos}{ke o ne:Expr}{fk:EF}{JO EV Nm JP:Pos}
theorem GD (hu:X.A.units+80 < cLine){i j:Nat}(ho:PE X o (kT i))(hk:DE X K Ew ke fk)(hn:PE X ne (kT j))(hK:X.K=K:=by rfl)
  (hb1:attributeBase o "setdefault" X.env (eval o X.env)=eval o X.env:=by rfl)
  (hf1:((backTo EV (starEach [ke,.List [] lp] X.env)).all (λx=> !x.1) && (backToKw EV (keywordEach [] X.env)).all (λx=>x.1.isSome)
   && decide (([ke,.List [] lp]:List Expr).length+([]:List Keyword).length+(if ([]:List Keyword).isEmpty then 0 else 1) < 30))=true:=by rfl)
  (hl1:(JO.endLine==EV.line)=true:=by rfl) (hs1:starEach [ke,.List [] lp] X.env=(false,eval ke X.env) :: starEach [.List [] lp] X.env:=by rfl) (hp1:(backTo EV (starEach [.List [] lp] X.env)).any (·.1)=false:=by rfl)
  (hs0:starEach [.List [] lp] X.env=(false,eval (.List [] lp) X.env) :: starEach [] X.env:=by rfl)
  (hb2:attributeBase (.Call (.Attribute o "setdefault" JO) [ke,.List [] lp] [] EV) "append" X.env (eval (.Call (.Attribute o "setdefault" JO) [ke,.List [] lp] [] EV) X.env)=eval (.Call (.Attribute o "setdefault" JO) [ke,.List [] lp] [] EV) X.env:=by rfl)
  (hf2:((backTo JP (starEach [ne] X.env)).all (λx=> !x.1) && (backToKw JP (keywordEach [] X.env)).all (λx=>x.1.isSome)
   && decide (([ne]:List Expr).length+([]:List Keyword).length+(if ([]:List Keyword).isEmpty then 0 else 1) < 30))=true:=by rfl)
  (hl2:(Nm.endLine==JP.line)=true:=by rfl) (hs2:starEach [ne] X.env=(false,eval ne X.env) :: starEach [] X.env:=by rfl) (hp2:(backTo JP (starEach [] X.env)).any (·.1)=false:=by rfl)
  (hsw:swapsWith (.Call (.Attribute (.Call (.Attribute o "setdefault" JO) [ke,.List [] lp] [] EV) "append" Nm) [ne] [] JP) none pos.line X.env=pure false:=by rfl) :
  DS X K Ew (.Expr (.Call (.Attribute (.Call (.Attribute o "setdefault" JO) [ke,.List [] lp] [] EV) "append" Nm) [ne] [] JP) pos) (AA i fk j) :=
 (kD (y7 PySem.F.plainAttrs_list PySem.F.slot_list_append PySem.F.type_list_append mW
  (GA PySem.F.slot_dict_setdefault PySem.F.type_dict_setdefault (Ls hu) ho (bx hk (bx (BB cZ) cZ hs0) hs1) hb1 hf1 hl1 hs1 hp1) (bx hn cZ hs2) hb2 hf2 hl2 hs2 hp2) hsw).imp λD σ H q=>by
  subst hK
  obtain⟨B,φ,Γ,r,q⟩:=q
  unfold AA at q
  match hg:Γ[i]?,q with
  | some (some (true,.dict kvs)),q=>
   obtain⟨v,hv,hT⟩:=r.own hg
   obtain⟨l,ks,bs,rfl,hl,ht,hφ⟩:=de hT
   have hli:l∈φ i:=by rw[hφ];exact K8
   have hnd:=r.nd i
   rw[hφ,KU] at hnd
   refine⟨.ref l,hv,⟨l,ks,rfl,.inl hl⟩,B,φ,Γ,r,?_⟩
   match hm:fk Γ,q with
   | some (.ok (k,d)),q=>
    refine .inl ⟨k,d,rfl,λy H1 s1 hy=> ?_⟩
    have r1:=r.same s1
    have hl1:=s1 _ _ hl
    have ht1:=aM.same s1 _ _ _ ht
    have hkd:=hy.toD r1.bs
    replace q:cM X.K Ew B (match Γ[j]? with
     | some (some (_,.int n))=>if db d=true/\gF kvs=true/\kvs.length < sizeLine then (match za kvs d (.int n) with
      | some kvs'=>ah (.nx (Γ.set i (some (true,.dict kvs'))))
      | none=>none) else none
     | _=>none) D:=q
    match hj:Γ[j]?,q with
    | some (some (ob,.int n)),q=>
     obtain⟨vj,hvj,Mk⟩:=r1.sl j ob (.int n) hj
     have hvn:vj= .int n:=by
      cases ob with
      | true=>rw[JQ rfl] at Mk;exact aA (IsT.toD _ _ _ Mk)
      | false=>rw[JV K5] at Mk;exact aA Mk
     subst hvn
     replace q:cM X.K Ew B (if db d=true/\gF kvs=true/\kvs.length < sizeLine then (match za kvs d (.int n) with
      | some kvs'=>ah (.nx (Γ.set i (some (true,.dict kvs'))))
      | none=>none) else none) D:=q
     by_cases hc:db d=true/\gF kvs=true/\kvs.length < sizeLine
     ·rw[JQ hc] at q
      obtain⟨c1,c2,c3⟩:=hc
      refine⟨Xy _,λp hp=> ?_⟩
      have s2:Same H1 (upd H1 p (.lst [])):=Same.upd hp
      have r2:=r1.same s2
      have AD:=aM.same s2 _ _ _ ht1
      have EW:=aM.toD _ _ _ AD
      have hpl:p≠l:=λz=>by rw[z,hl1] at hp;cases hp
      have hl2:upd H1 p (.lst []) l=some (.dct l ks):=by rw[aO (Ne.symm hpl)];exact hl1
      have Lu:=aJ.same s2 _ _ hkd
      refine⟨l,kvs,ks,d,y,.ref p,rfl,rfl,hl2,EW,Lu,c1,c2,by rw[gy EW];exact c3,λw hw=> ?_,λhw ep=> ?_⟩
      ·cases JR:jz kvs d with
       | none=>rw[sF EW JR] at hw;cases hw
       | some z=>
        cases hsd:za kvs d (.int n) with
        | none=>rw[hsd] at q;exact False.elim q
        | some kvs'=>
         rw[hsd] at q
         obtain⟨m,vs,i1,i2,i3,i4,i5⟩:=vZ AD hnd.2 JR hsd
         rw[hw] at i1
         cases i1
         have hmi:m∈φ i:=by rw[hφ];exact K9 _ i3
         have hml:m≠l:=λz=>hnd.1 (z ▸ i3)
         refine⟨.inl ⟨rfl,vs,fV.of i2⟩,.int n,hvj,m,vs,.int n,rfl,rfl,i2,i4,?_⟩
         refine q B _ σ _ (Same.refl B) (r2.chg (d:=.dict kvs') (as:=l :: bs) hmi i2 trivial hv (gQ (by rw[aO (Ne.symm hml)];exact hl2) i5) (KU.mpr hnd) (λa ha=> .inl (by rw[hφ];exact ha)) trivial)
      ·have JR:jz kvs d=none:=by
        cases JR:jz kvs d with
        | none=>rfl
        | some z=>obtain⟨w,g1,_⟩:=kJ EW z JR;rw[hw] at g1;cases g1
       rw[vY JR] at q
       have hp3:upd (upd H1 p (.lst [])) l (.dct l (ks.1++[(d,y,.ref p)],ep)) p=some (.lst []):=by rw[aO hpl,aw]
       refine⟨.inl ⟨rfl,[],fV.of hp3⟩,.int n,hvj,p,[],.int n,rfl,rfl,hp3,by decide,?_⟩
       have N5:IsT X.K (upd H1 p (.lst [])) d y []:=aJ.toT _ _ (lZ c1) Lu
       have OT:B p=none:=r1.bs.free hp
       have hpφ:∀j,p∉φ j:=λj z=>by obtain⟨_,o,ho,_⟩:=r1.nb j p z;rw[hp] at ho;cases ho
       have hpb:p∉bs:=λz=>hpφ i (by rw[hφ];exact K9 _ z)
       have EX:(l :: (bs++[p])).Nodup:=by
        rw[KU,Xv]
        refine⟨λz=> ?_,hnd.2,KU.mpr ⟨by simp,X2⟩,λa ha b hb e=>hpb ?_⟩
        ·rcases Kk.mp z with z | z
         ·exact hnd.1 z
         ·exact hpl (K6.mp z).symm
        ·rw[←K6.mp hb,←e];exact ha
       have mid:aM X.K (upd H1 p (.lst [])) (kvs++[(d,.list [])]) (ks.1++[(d,y,.ref p)]) (bs++[p]):=m9 N5 (dy aw i_) AD
       have r3:=r2.chg (o':=.dct l (ks.1++[(d,y,.ref p)],ep)) (d:=.dict (kvs++[(d,.list [])])) (as:=l :: (bs++[p])) hli hl2 trivial hv (gQ aw (aM.upd hl2 trivial _ _ _ (λz=>by rw[KU] at EX;exact EX.1 z) mid)) EX (λa ha=>by
        rcases K0.mp ha with z | z
        ·rw[z];exact .inl hli
        ·rcases Kk.mp z with z | z
         ·exact .inl (by rw[hφ];exact K9 _ z)
         ·rw[K6.mp z];exact .inr ⟨OT,hpφ⟩) trivial
       have hpi:p∈(λj'=>if j'=i then l :: (bs++[p]) else φ j') i:=by simp
       have Nn:aM X.K (upd (upd H1 p (.lst [])) l (.dct l (ks.1++[(d,y,.ref p)],ep))) kvs ks.1 bs:=aM.upd hl2 trivial _ _ _ hnd.1 AD
       have Np:=aM.upd (o':=.lst ([]++[.int n])) hp3 trivial _ _ _ hpb Nn
       have Nq:IsT X.K (upd (upd (upd H1 p (.lst [])) l (.dct l (ks.1++[(d,y,.ref p)],ep))) p (.lst ([]++[.int n]))) d y []:=IsT.upd hp3 trivial _ _ _ (by simp) (IsT.upd hl2 trivial _ _ _ (by simp) N5)
       have h5:az X.K (upd (upd (upd H1 p (.lst [])) l (.dct l (ks.1++[(d,y,.ref p)],ep))) p (.lst ([]++[.int n]))) [PyData.int n] [V.int n] []:=ar.toT _ _ rfl (aV bC aY)
       have fin2:=m9 Nq (dy (a:=p) (vs:=[V.int n]) aw h5) Np
       have r4:=r3.chg (o':=.lst ([]++[.int n])) (d:=.dict (kvs++[(d,.list [.int n])])) (as:=l :: (bs++[p])) hpi hp3 trivial hv (gQ (by rw[aO (Ne.symm hpl),aw]) fin2) EX (λa ha=> .inl (by simpa using ha)) trivial
       rw[List.set_set] at r4
       exact q B _ σ _ (Same.refl B) r4
     ·rw[JV hc] at q
      exact False.elim q
    | some (some (_,.none)),q|some (some (_,.bool _)),q|some (some (_,.str _)),q|some (some (_,.list _)),q|some (some (_,.tuple _)),q|some (some (_,.dict _)),q|some none,q|none,q=>cases q
   | some (.ex c),q=>exact .inr ⟨c,rfl,q⟩
   | none,q=>cases q
  | some (some (true,.none)),q|some (some (true,.bool _)),q|some (some (true,.int _)),q|some (some (true,.str _)),q|some (some (true,.tuple _)),q|some (some (true,.list _)),q|some (some (false,_)),q|some none,q|none,q=>cases q
end
end L2
namespace Y
open PySem
def ka (n:Nat)(ds:List PyData)(w:PyData):aW:=ds.map (λd=>some (false,d))++some (true,w) :: List.replicate (n - (ds.length+1)) none
def runIO (n ir:Nat)(f:SF):List PyData->PyData->M (PyData×PyData):=λds w=>ap (f (ka n ds w)) λo=>match o with
 | .nx Γ=>(match Γ[ir]?,Γ[ds.length]? with
  | some (some (true,.list xs)),some (some (true,.dict kvs))=>ah (.list xs,.dict kvs)
  | _,_=>none)
 | _=>none
def lu:Kd->Bool
 | .base=>true
 | _=>false
def zx (iw:Nat)(F:List PyData->PyData->M (PyData×PyData))(f1 f2:EF)(g:GF)(b:SF):SF:=λΓ=>match Γ[iw]? with
 | some (some (true,.dict kvs))=>ap (f1 Γ) λx=>ap (f2 Γ) λy=>if lu x.1=true/\lu y.1=true then (match F [x.2,y.2] (.dict kvs) with
  | some (.ok (.list ds,.dict kvs'))=>bf g b ds (Γ.set iw (some (true,.dict kvs')))
  | _=>none) else none
 | _=>none
end Y
namespace L2
open PySem PySem.Spec PyProof.Rows Y
section
variable {K:Frag}{H H':Hp}
theorem dJ.via (e:∀a o,H a=some o->¬ eS o->H' a=some o){a:Addr}{xs:List V}(h:dJ K H a xs):dJ K H' a xs:=by
 rcases h with(h | ⟨o,h⟩) | h
 ·exact .inl (.inl (e _ _ h (λz=>z)))
 ·exact .inl (.inr ⟨o,e _ _ h (λz=>z)⟩)
 ·exact .inr h
mutual
theorem IsT.via (e:∀a o,H a=some o->¬ eS o->H' a=some o):∀(d:PyData) (v:V) (as:List Addr),(∀a∈as,∀o,H a=some o->H' a=some o)->IsT K H d v as->IsT K H' d v as
 | .none,v,as,_,h=>by simpa only[IsT] using h
 | .bool b,v,as,_,h=>by simpa only[IsT] using h
 | .int i,v,as,_,h=>by simpa only[IsT] using h
 | .str x,v,as,_,h=>by simpa only[IsT] using h
 | .list xs,v,as,n,h=>by
  simp only[IsT] at h⊢
  obtain⟨a,vs,bs,e1,h1,h2,rfl⟩:=h
  exact⟨a,vs,bs,e1,n a K8 _ h1,az.via e xs vs bs (λb hb=>n b (K9 _ hb)) h2,rfl⟩
 | .tuple xs,v,as,n,h=>by
  simp only[IsT] at h⊢
  obtain⟨a,vs,e1,h1,h2⟩:=h
  exact⟨a,vs,e1,h1.via e,az.via e xs vs as n h2⟩
 | .dict kvs,v,as,n,h=>by
  simp only[IsT] at h⊢
  obtain⟨a,ks,bs,e1,h1,h2,rfl⟩:=h
  exact⟨a,ks,bs,e1,n a K8 _ h1,aM.via e kvs ks.1 bs (λb hb=>n b (K9 _ hb)) h2,rfl⟩
theorem az.via (e:∀a o,H a=some o->¬ eS o->H' a=some o):∀(ds:List PyData) (vs:List V) (as:List Addr),(∀a∈as,∀o,H a=some o->H' a=some o)->az K H ds vs as->az K H' ds vs as
 | [],vs,as,_,h=>by simpa only[az] using h
 | d :: ds,vs,as,n,h=>by
  simp only[az] at h⊢
  obtain⟨v,r,a1,a2,e1,rfl,h1,h2⟩:=h
  exact⟨v,r,a1,a2,e1,rfl,IsT.via e d v a1 (λb hb=>n b (KW _ hb)) h1,az.via e ds r a2 (λb hb=>n b (Kx _ hb)) h2⟩
theorem aM.via (e:∀a o,H a=some o->¬ eS o->H' a=some o):∀(ds:List (PyData×PyData)) (ks:List (PyData×V×V)) (as:List Addr),(∀a∈as,∀o,H a=some o->H' a=some o)->aM K H ds ks as->aM K H' ds ks as
 | [],ks,as,_,h=>by simpa only[aM] using h
 | (k,d) :: r,ks,as,n,h=>by
  simp only[aM] at h⊢
  obtain⟨kv,v,q,a1,a2,e1,rfl,h1,h2,h3⟩:=h
  exact⟨kv,v,q,a1,a2,e1,rfl,IsT.via e k kv [] (λb hb=>by cases hb) h1,IsT.via e d v a1 (λb hb=>n b (KW _ hb)) h2,aM.via e r q a2 (λb hb=>n b (Kx _ hb)) h3⟩
end
end
section
variable {X:Cx}{K:Frag}{Ew:Str->Hp->Prop}{iw:Nat}{a:Addr}{pos p:Pos}{st:Stmt}{rest ss:List Stmt}{f g:SF}{t:TF}{o j e:Expr}{fe fj:EF}{apos cpos:Pos}
def Hold (iw:Nat)(a:Addr)(σ:St):Prop:=σ[iw]? =some (some (.ref a))
theorem Hold.set {σ:St}{i:Nat}{v:Option V}(h:Hold iw a σ)(hi:i≠iw):Hold iw a (σ.set i v):=by
 unfold Hold
 rw[Xw hi];exact h
theorem Hold.sets:∀{is:List Nat} {vs:List V} {σ:St},(∀i∈is,i≠iw)->Hold iw a σ->Hold iw a (pG σ is vs)
 | [],vs,σ,_,h=>by cases vs <;> exact h
 | i :: is,[],σ,_,h=>h
 | i :: is,v :: vs,σ,n,h=>Hold.sets (is:=is) (vs:=vs) (λj hj=>n j (K9 _ hj)) (h.set (n i K8))
def Io (iw:Nat)(a:Addr)(D:Ends):Ends:={nx:=λσ H=>Hold iw a σ->D.nx σ H,rt:=D.rt,bk:=λσ H=>Hold iw a σ->D.bk σ H,ct:=λσ H=>Hold iw a σ->D.ct σ H}
def tZ (K:Frag)(Ew:Str->Hp->Prop)(iw:Nat)(a:Addr)(f:SF):TS:=λD σ H=>Hold iw a σ/\Le K Ew f (Io iw a D) σ H
def ZS (X:Cx)(K:Frag)(Ew:Str->Hp->Prop)(iw:Nat)(a:Addr)(s:Stmt)(f:SF):Prop:=PS X s (tZ K Ew iw a f)
def Ip (X:Cx)(K:Frag)(Ew:Str->Hp->Prop)(iw:Nat)(a:Addr)(s:List Stmt)(f:SF):Prop:=pd X s (tZ K Ew iw a f)
theorem EY:Ip X K Ew iw a [] eQ:=tx.imp λD σ H q=>by
 obtain⟨z,B,φ,Γ,r,q⟩:=q
 exact q B φ σ H (Same.refl B) r z
theorem zy (h:ZS X K Ew iw a st f):Ip X K Ew iw a [st] f:=oS h
theorem Co (h1:ZS X K Ew iw a st f)(h2:Ip X K Ew iw a rest g):Ip X K Ew iw a (st :: rest) (aC f g):=(lJ h1 h2).imp λD σ H q=>by
 obtain⟨z,B,φ,Γ,r,q⟩:=q
 refine⟨z,B,φ,Γ,r,?_⟩
 unfold aC at q
 match hm:f Γ,q with
 | some (.ok (.nx Γ')),q=>exact λB' φ' σ' H' s' r' z'=>⟨z',B',φ',Γ',r',cM.base s' q⟩
 | some (.ok (.bk Γ')),q=>exact q
 | some (.ok (.ct Γ')),q=>exact q
 | some (.ok (.rt o d)),q=>exact q
 | some (.ex c),q=>exact q
 | none,q=>cases q
theorem Lw {c:Expr}{x y:List Stmt}(hc:DT X K Ew c t)(hx:Ip X K Ew iw a x f)(hy:Ip X K Ew iw a y g):ZS X K Ew iw a (.If c x y pos) (kZ t f g):=(Bx hc hx hy).imp λD σ H q=>by
 obtain⟨z,B,φ,Γ,r,q⟩:=q
 refine⟨B,φ,Γ,r,?_⟩
 unfold kZ at q
 match hm:t Γ,q with
 | some (.ok true),q=>exact .inl ⟨true,rfl,λH1 s=>by show(if true=true then _ else _);rw[JQ rfl];exact⟨z,B,φ,Γ,r.same s,q⟩⟩
 | some (.ok false),q=>exact .inl ⟨false,rfl,λH1 s=>by show(if false=true then _ else _);rw[JV K5];exact⟨z,B,φ,Γ,r.same s,q⟩⟩
 | some (.ex c),q=>exact .inr ⟨c,rfl,q⟩
 | none,q=>cases q
theorem Iq {i:Nat}{x:Str}{pos':Pos}(hN:X.N.Nodup)(hi:X.N[i]? =some x)(hx:Loc X.env.scope x)(he:DE X K Ew e fe)(hw:i≠iw:=by decide)(hs:swapsWith e (some (.Name x pos')) pos.line X.env=pure false:=by rfl)(hf:X.fn x=true∨X.env.scope.names.lookup x=some .local:=by first | exact .inl rfl | exact .inr rfl | assumption) :
  ZS X K Ew iw a (.Assign [.Name x pos'] e pos) (aL i fe):=(xE (i:=i) hN hi hx he hs hf).imp λD σ H q=>
 gu (g:=λx Γ=>ah (.nx (iR Γ i x.1 x.2))) q.2 λB φ Γ k d v H1 r a q'=>by
  obtain⟨B',φ',s',r'⟩:=jC r i a
  exact q' B' φ' _ H1 s' r' (q.1.set hw)
def N6 (K:Frag)(iw:Nat)(a:Addr)(g:GF):TG:=λv σ H Q=>Hold iw a σ/\tG K g v σ H (λσ' H'=>Hold iw a σ'->Q σ' H')
theorem Lx {es:List Expr}{k:Nat}{is:List Nat}(hc:X.calm=true)(hg:JL X es (t7 is))(hw:∀i∈is,i≠iw:=by decide)(hn:(assignEach es X.env).length=is.length:=by rfl)(hst:(assignEach es X.env).findIdx? (·.1)=none:=by rfl)(hK:X.K=K:=by rfl) :
  PG X (.Tuple es k pos) (N6 K iw a (jx is)):=(xC (n:=is.length) hc hg hn hst).imp λv σ H Q q=>by
 obtain⟨z,B,φ,Γ,k,d,Γ',r,av,e,q⟩:=q
 cases d <;> simp only[jx] at e <;> try (cases e;done)
 rename_i ds
 split at e
 ·rename_i hl
  cases e
  obtain⟨a',vs,rfl,hq,av,hlen⟩:=av.tup r.bs
  refine⟨a',vs,rfl,by rw[hK];exact hq,by omega,lj _ _ _ _ _ (!1) ?_⟩
  obtain⟨B',φ',s',r'⟩:=jc (vF k) is ds vs hl r av
  exact q B' φ' _ s' r' (z.sets hw)
 ·cases e
theorem Ir {tg iter:Expr}{body:List Stmt}{it:IF}{g:GF}{fb:SF}(hp:PassesOwn (!6) X.A X.env X.xe)(hc:X.calm=true)(hi:DI X K Ew tg iter it)(hg:PG X tg (N6 K iw a g))(hb:Ip X K Ew iw a body fb)
  (hs:∀x,foldedSetIterable iter X.env x=pure x:=by intro _;rfl):ZS X K Ew iw a (.For tg iter body [] pos) (bG it g fb):=(tF hp hc hi hg hb hs).imp λD σ H q=>by
 obtain⟨z,B,φ,Γ,r,q⟩:=q
 refine⟨B,φ,Γ,r,?_⟩
 unfold bG at q
 match hm:it Γ,q with
 | some (.ok (k,ds)),q=>
  intro J H1 B1 ψ s0 s1 r1 io
  have q:cM K Ew B1 (bf g fb ds (j0 k Γ)) (Io iw a D):=cM.base s1 q
  refine⟨λi m σ H=>m=ds.length - i/\i<=ds.length/\Hold iw a σ/\∃B2 φ2 Γ2,Same B1 B2/\Rep K B2 φ2 Γ2 σ H/\cM K Ew B1 (bf g fb (ds.drop i) Γ2) (Io iw a D),⟨ds.length,by simp,Xy _,z,B1,ψ,_,Same.refl B1,r1,by simpa using q⟩,?_⟩
  rintro i m σ2 H2 ⟨rfl,hi2,z2,B2,φ2,Γ2,s2,r2,q2⟩
  by_cases hlt:i < ds.length
  ·refine .inr ⟨io.go i H2 hlt (s2.trans r2.bs),λσ' H'=>Hold iw a σ'/\∃B3 φ3 Γ3,Same B1 B3/\Rep K B3 φ3 Γ3 σ' H'/\cM K Ew B1 (bf g fb (ds.drop (i+1)) Γ3) (Io iw a D),λσ' H' h'=>⟨ds.length - (i+1),by omega,rfl,hlt,h'⟩,λx H' y=> ?_⟩
   obtain⟨s3,d,e,hd⟩:=io.yl i H2 x H' hlt (s2.trans r2.bs) y
   have r3:=r2.same s3
   have xZ:aJ K (gq φ2 H') d x:=hd _ (s2.trans r3.rC) λb o e1 e2=>by
    rw[cv]
    ·exact e2
    ·intro j hj
     obtain⟨o',e',_⟩:=(r2.nb j b hj).2
     rw[e1] at e';cases e'
   have ed:ds.drop i=d :: ds.drop (i+1):=by
    rw[U5 hlt]
    congr 1
    rw[K3 hlt] at e
    exact Option.some.inj e
   rw[ed] at q2
   have q3:=q2
   simp only[bf] at q3
   cases BV:g (cy .base d) d Γ2 with
   | none=>simp only[BV] at q3;exact False.elim q3
   | some Γ3=>
    simp only[BV,bB,ay] at q3
    refine⟨z2,gq φ2 H',φ2,Γ2,cy .base d,d,Γ3,r3.cut,VR.av r3.cut (VR.cy (jb _ _) (show VR K _ φ2 H' H' .base d x from xZ)),BV,λB4 φ4 σ4 s4 r4 z4=> ?_⟩
    have sB:Same B1 B4:=(s2.trans r3.rC).trans s4
    refine⟨z4,B4,φ4,Γ3,r4,?_⟩
    match hbm:fb Γ3,q3 with
    | some (.ok (.nx Γ')),q3=>exact λB' φ' σ' jB s' r' z'=>⟨z',B',φ',Γ',sB.trans s',r',q3⟩
    | some (.ok (.ct Γ')),q3=>exact λB' φ' σ' jB s' r' z'=>⟨z',B',φ',Γ',sB.trans s',r',q3⟩
    | some (.ok (.bk Γ')),q3=>exact λB' φ' σ' jB s' r' z'=>q3 B' φ' σ' jB (sB.trans s') r' z'
    | some (.ok (.rt o d)),q3=>exact λv jB s' rv=>q3 v jB (sB.trans s') (rv.base sB)
    | some (.ex c),q3=>exact λjB s'=>q3 jB (sB.trans s')
    | none,q3=>exact False.elim q3
  ·have e:i=ds.length:=by omega
   subst e
   rw[List.drop_length] at q2
   exact .inl ⟨io.stop H2 (s2.trans r2.bs),q2 B2 φ2 σ2 H2 s2 r2 z2⟩
 | some (.ex c),q=>exact q
 | none,q=>cases q
end
end L2
namespace L2
open PySem PySem.Spec PyProof.Rows Y
section
variable {X:Cx}{K:Frag}{Ew:Str->Hp->Prop}{iw:Nat}{a:Addr}{pos p pos':Pos}{st:Stmt}{rest ss:List Stmt}{f g:SF}{o j e:Expr}{fe fj:EF}{apos cpos:Pos}
theorem EZ (hu:X.A.units+80 < cLine){i:Nat}(ho:PE X o (kT i))(hj:DE X K Ew j fj)(he:DE X K Ew e fe)(hK:X.K=K:=by rfl)
  (ha:∀v,assign (.Subscript o j p) X.env v=(do
   let ov←holding [v] (eval o X.env)
   let iv←holding [v,ov] (eval j X.env)
   standAt p
   holding [v,ov,iv] (setItem ov iv v)
   release [v,ov,iv] []):=by intro _;rfl)
  (hs:swapsWithSole [.Subscript o j p] e pos.line X.env=pure false:=by rfl) (hw:swappedStores [.Subscript o j p] e X.env=pure none:=by rfl)
  (h1:(assignEach [.Subscript o j p] X.env).map (·.2)=[assign (.Subscript o j p) X.env]:=by rfl):ZS X K Ew iw a (.Assign [.Subscript o j p] e pos) (pC i fj fe) :=
 (tz he (xD ho hj (zu hu) ha) hs hw h1).imp λD σ H q=>
  gu (g:=λx Γ=>match Γ[i]? with
   | some (some (true,.dict kvs))=>ap (fj Γ) λy=>if dN kvs y.2=true/\bo x.2=true/\dO kvs=true/\kvs.length < sizeLine then ah (.nx (Γ.set i (some (true,.dict (putK kvs y.2 x.2))))) else none
   | _=>none) q.2 λB φ Γ k d y H1 r av q'=>by
   have z:=q.1
   replace q:=q'
   clear q'
   subst hK
   match hg:Γ[i]?,q with
   | some (some (true,.dict kvs)),q=>
    obtain⟨v,hv,hT⟩:=r.own hg
    obtain⟨l,ks,bs,rfl,hl,ht,hφ⟩:=de hT
    have hli:l∈φ i:=by rw[hφ];exact K8
    refine⟨.ref l,hv,B,φ,Γ,r,?_⟩
    match hm:fj Γ,q with
    | some (.ok (k',d')),q=>
     refine .inl ⟨k',d',rfl,λw H2 s2 hw=> ?_⟩
     have r2:=r.same s2
     replace q:cM X.K Ew B (if dN kvs d'=true/\bo d=true/\dO kvs=true/\kvs.length < sizeLine then ah (.nx (Γ.set i (some (true,.dict (putK kvs d' d))))) else none) (Io iw a D):=q
     by_cases hc:dN kvs d'=true/\bo d=true/\dO kvs=true/\kvs.length < sizeLine
     ·rw[JQ hc] at q
      obtain⟨c1,c2,c3,c4⟩:=hc
      have hbs:bs=[]:=l8 ht c3
      subst hbs
      have hdk:=aT.same s2 _ _ (aM.toD _ _ _ ht)
      have hkd:=hw.toD r2.bs
      have hdd:=aJ.same s2 _ _ (av.toD r.bs)
      refine⟨l,ks,kvs,d',rfl,s2 _ _ hl,hdk,hkd,c1,by rw[gy hdk];exact c4,λep=> ?_⟩
      have hkn:∀p∈kvs,bo p.1=true:=λp hp=>by
       have:=ht
       exact oZ ht p hp
      have Ik:=pX hdk hkd hdd
      have hn2:∀p∈putK kvs d' d,bo p.1=true:=λp hp=>by
       unfold putK at hp
       split at hp
       ·obtain⟨q',hq',rfl⟩:=Kw.mp hp
        split
        ·exact hkn q' hq'
        ·exact hkn q' hq'
       ·rcases Kk.mp hp with hp | hp
        ·exact hkn p hp
        ·rw[K6.mp hp];exact ur c1
      have hnew:=aM.upd (o':=.dct l (l4 ks.1 d' w y,ep)) (s2 _ _ hl) trivial _ _ _ (show l∉[] by simp) (kI Ik hn2 (pZ c3 c2))
      exact q B _ σ _ (Same.refl B) (r2.chg (d:=.dict (putK kvs d' d)) (as:=[l]) hli (s2 _ _ hl) trivial hv (gQ aw hnew) (KU.mpr ⟨by simp,X2⟩) (λb ha=> .inl (by rw[K6.mp ha];exact hli)) trivial) z
     ·rw[JV hc] at q
      exact False.elim q
    | some (.ex c),q=>exact .inr ⟨c,rfl,q⟩
    | none,q=>cases q
   | some (some (true,.none)),q|some (some (true,.bool _)),q|some (some (true,.int _)),q|some (some (true,.str _)),q|some (some (true,.tuple _)),q|some (some (true,.list _)),q|some (some (false,_)),q|some none,q|none,q=>cases q
theorem Iu {i:Nat}(ho:PE X o (kT i))(he:DE X K Ew e fe)(hK:X.K=K:=by rfl)
  (hbase:attributeBase o "extend" X.env (eval o X.env)=eval o X.env:=by rfl)
  (hfew:((backTo cpos (starEach [e] X.env)).all (λx=> !x.1) && (backToKw cpos (keywordEach [] X.env)).all (λx=>x.1.isSome)
   && decide (([e]:List Expr).length+([]:List Keyword).length+(if ([]:List Keyword).isEmpty then 0 else 1) < 30))=true:=by rfl)
  (hline:(apos.endLine==cpos.line)=true:=by rfl) (hs:starEach [e] X.env=(false,eval e X.env) :: starEach [] X.env:=by rfl) (hplain:(backTo cpos (starEach [] X.env)).any (·.1)=false:=by rfl)
  (hsw:swapsWith (.Call (.Attribute o "extend" apos) [e] [] cpos) none pos.line X.env=pure false:=by rfl) :
  ZS X K Ew iw a (.Expr (.Call (.Attribute o "extend" apos) [e] [] cpos) pos) (xS i fe) :=
 (kD (y7 PySem.F.plainAttrs_list PySem.F.slot_list_extend PySem.F.type_list_extend zm ho (bx he cZ hs) hbase hfew hline hs hplain) hsw).imp λD σ H q=>by
  obtain⟨z,B,φ,Γ,r,q⟩:=q
  unfold xS at q
  match hg:Γ[i]?,q with
  | some (some (true,.list xs)),q=>
   obtain⟨v,hv,hT⟩:=r.own hg
   obtain⟨l,vs,bs,rfl,hl,ht,hφ⟩:=bz hT
   refine⟨.ref l,hv,.inl ⟨rfl,vs,fV.of hl⟩,B,φ,Γ,r,?_⟩
   match hm:fe Γ,q with
   | some (.ok (k,d)),q=>
    refine .inl ⟨k,d,rfl,λy H1 s1 hy=> ?_⟩
    have r1:=r.same s1
    have hl1:=s1 _ _ hl
    have hlen:vs.length=xs.length:=bE ht
    have hli:l∈φ i:=by rw[hφ];exact K8
    replace q:cM K Ew B (match xR k d with
     | some ys=>if aq ys=true/\xs.length+ys.length<=sizeLine then ah (.nx (Γ.set i (some (true,.list (xs++ys))))) else none
     | none=>none) (Io iw a D):=q
    have hd:=hy.toD r1.bs
    have hnd:=r.nd i
    rw[hφ] at hnd
    have hnb:l∉bs:=(KU.mp hnd).1
    have main:∀(b:Addr) (ws:List V) (ys:List PyData),y= .ref b->xR k d=some ys->(l=b->∃o,K.lookup b=some o)->(fV K H1 b ws∨dJ K H1 b ws)->ar K H1 ys ws->B6 X.K (.ref l) [y] H1 λ_ H1=>D.nx σ H1:=λb ws ys ey ei M8 hb hws=>by
     rw[ei] at q
     by_cases hc:aq ys=true/\xs.length+ys.length<=sizeLine
     ·replace q:cM K Ew B (ah (.nx (Γ.set i (some (true,.list (xs++ys)))))) (Io iw a D):=by simpa only[JQ hc] using q
      subst ey
      refine⟨l,b,vs,ws,rfl,rfl,hl1,by rw[hK];exact M8,by rw[hK];exact hb,by rw[ao hws];omega,?_⟩
      refine q B _ σ _ (Same.refl B) (r1.chg (d:=.list (xs++ys)) (as:=l :: bs) hli hl1 trivial hv ?_ hnd (λa ha=> .inl (by rw[hφ];exact ha)) trivial) z
      have h1:=az.upd (o':=.lst (vs++ws)) hl1 trivial _ _ _ hnb (az.same s1 _ _ _ ht)
      have h2:=az.upd (o':=.lst (vs++ws)) hl1 trivial _ _ _ (show l∉[] by simp) (ar.toT _ _ hc.1 hws)
      have h3:=df h1 h2
      rw[Xj] at h3
      exact dy aw h3
     ·simp only[JV hc] at q
      exact False.elim q
    cases d <;> try (exact False.elim q)
    ·rename_i ys
     match k,hy,q,main with
     | .fr [],hy,q,main=>
      obtain⟨as,h1,h2,h3⟩:=hy
      obtain⟨b,ws,cs,ey,hb,hws,rfl⟩:=bz h1
      refine main b ws ys ey rfl (λz=> ?_) (.inl (fV.of hb)) (az.toD _ _ _ hws)
      rcases h3 b K8 with⟨_,w,_⟩ | w
      ·cases w
      ·rw[←z,hl] at w;cases w
     | .base,hy,q,main=>
      obtain⟨b,ws,ey,hb,hws⟩:=aZ (show aJ K B (.list ys) y from hy)
      refine main b ws ys ey rfl (λz=> ?_) (.inl (r1.bs.seq hb)) (ar.same r1.bs _ _ hws)
      have hB:=(r.nb i l hli).1
      rcases hb with(w | ⟨o,w⟩) | ⟨o,_,_,w,_⟩
      ·rw[←z,hB] at w;cases w
      ·rw[←z,hB] at w;cases w
      ·exact⟨o,w⟩
     | .fr (_ :: _),hy,q,main=>exact False.elim q
     | .any,hy,q,main=>exact False.elim q
    ·rename_i ys
     obtain⟨b,ws,ey,hb,hws⟩:=aE hd
     refine main b ws ys ey rfl (λz=> ?_) (.inr hb) hws
     rcases hb with(w | ⟨o,w⟩) | ⟨o,_,_,w,_⟩
     ·rw[←z,hl1] at w;cases w
     ·rw[←z,hl1] at w;cases w
     ·exact⟨o,w⟩
   | some (.ex c),q=>exact .inr ⟨c,rfl,q⟩
   | none,q=>cases q
  | some (some (true,.none)),q|some (some (true,.bool _)),q|some (some (true,.int _)),q|some (some (true,.str _)),q|some (some (true,.tuple _)),q|some (some (true,.dict _)),q|some (some (false,_)),q|some none,q|none,q=>cases q
def Ml (K:Frag)(Ew:Str->Hp->Prop)(iw:Nat)(a:Addr)(ir:Nat)(f:SF):TS:=λD σ H=>Hold iw a σ/\∃B φ Γ,Rep K B φ Γ σ H/\match f Γ with
 | some (.ok (.nx Γ'))=>(∃o d,Γ'[ir]? =some (some (o,d)))/\∀B' φ' σ' H' v,Same B B'->Rep K B' φ' Γ' σ' H'->Hold iw a σ'->σ'[ir]? =some (some v)->D.rt v H'
 | _=>False
theorem Cp {ir:Nat}(he:PE X e (kT ir)):pd X [.Return (some e) pos] (Ml K Ew iw a ir eQ):=(oS (Bw he)).imp λD σ H q=>by
 obtain⟨z,B,φ,Γ,r,⟨o,d,e⟩,q⟩:=q
 obtain⟨v,hv,_⟩:=r.sl ir o d e
 exact⟨v,hv,q B φ σ H v (Same.refl B) r z hv⟩
theorem v4 {ir:Nat}(h1:ZS X K Ew iw a st f)(h2:pd X rest (Ml K Ew iw a ir g))(hE:∀c H,¬ Ew c H:=by exact λ_ _ h=>h):pd X (st :: rest) (Ml K Ew iw a ir (aC f g)):=(lJ h1 h2).imp λD σ H q=>by
 obtain⟨z,B,φ,Γ,r,q⟩:=q
 refine⟨z,B,φ,Γ,r,?_⟩
 unfold aC at q
 match hm:f Γ,q with
 | some (.ok (.nx Γ')),q=>
  refine λB' φ' σ' H' s' r' z'=>⟨z',B',φ',Γ',r',?_⟩
  have q:match g Γ' with
   | some (.ok (.nx Γ'))=>(∃o d,Γ'[ir]? =some (some (o,d)))/\∀B' φ' σ' H' v,Same B B'->Rep K B' φ' Γ' σ' H'->Hold iw a σ'->σ'[ir]? =some (some v)->D.rt v H'
   | _=>False:=q
  match hm2:g Γ',q with
  | some (.ok (.nx Γ2)),q=>exact⟨q.1,λB2 φ2 σ2 H2 v s2=>q.2 B2 φ2 σ2 H2 v (s'.trans s2)⟩
  | some (.ok (.bk Γ2)),q|some (.ok (.ct Γ2)),q|some (.ok (.rt o d)),q|some (.ex c),q|none,q=>cases q
 | some (.ok (.bk Γ')),q|some (.ok (.ct Γ')),q|some (.ok (.rt o d)),q|some (.ex c),q|none,q=>cases q
end
def Iv (K:Frag)(n:Nat)(F:List PyData->PyData->M (PyData×PyData)):Sp:=λvs H Q _=>∃(B:Hp) (ds:List PyData) (kvs:k6) (ws:List V) (a:Addr) (as:List Addr),ds.length=n/\vs=ws++[.ref a]/\Same B H/\ar K B ds ws/\IsT K H (.dict kvs) (.ref a) as/\as.Nodup/\(∀x∈as,B x=none/\∃o,H x=some o/\eS o)/\match F ds (.dict kvs) with
 | some (.ok (.list xs,.dict kvs'))=>∀v H' a1 a2,Same B H'->IsT K H' (.list xs) v a1->IsT K H' (.dict kvs') (.ref a) a2->a1.Nodup->a2.Nodup->(∀x∈a1,x∉a2)->(∀x,x∈a1∨x∈a2->B x=none/\∃o,H' x=some o/\eS o)->Q v H'
 | _=>False
theorem x9 {n:Nat}{ds:List PyData}{w:PyData}{i:Nat}{o:Bool}{d:PyData}(h:(ka n ds w)[i]? =some (some (o,d))):(i < ds.length/\ds[i]? =some d/\o=false)∨(i=ds.length/\d=w/\o=true):=by
 unfold ka at h
 by_cases hi:i < ds.length
 ·rw[Xx (by simpa using hi),KY] at h
  cases hd:ds[i]? with
  | none=>rw[hd] at h;cases h
  | some d'=>rw[hd] at h;cases h;exact .inl ⟨hi,rfl,rfl⟩
 ·rw[Xu (by simpa using hi),K4] at h
  by_cases h0:i=ds.length
  ·subst h0
   rw[Nat.sub_self] at h
   cases h
   exact .inr ⟨rfl,rfl,rfl⟩
  ·obtain⟨m,hm⟩:∃m,i - ds.length=m+1:=⟨i - ds.length - 1,by omega⟩
   rw[hm,J1,J2] at h
   split at h <;> cases h
theorem x_ {K:Frag}{B H:Hp}{ds:List PyData}{w:PyData}{ws:List V}{v:V}{as:List Addr}(N:List Str)(hN:ds.length+1<=N.length)(s:Same B H)(h:ar K B ds ws)(ht:IsT K H w v as)(hnd:as.Nodup)(hb:∀x∈as,B x=none/\∃o,H x=some o/\eS o) :
  Rep K B (λi=>if i=ds.length then as else []) (ka N.length ds w) (start N (ws++[v])) H:=by
 have hl:=ao h
 exact {
  bs:=s
  len:=by
   unfold ka start
   simp only[K1,K4,Kz,Uu,Y2,hl]
   omega
  sl:=λi o d e=>by
   rcases x9 e with⟨h1,h2,rfl⟩ | ⟨rfl,rfl,rfl⟩
   ·obtain⟨u,h3,h4⟩:=gm h h2
    refine⟨u,?_,by rw[JV K5];exact h4⟩
    unfold start
    rw[Xx (by rw[K4,K1,hl];omega),KY,Xx (!1),h3];rfl
   ·refine⟨v,?_,by rw[JQ rfl,JQ rfl];exact ht⟩
    unfold start
    rw[Xx (by rw[K4,K1,hl,X3];omega),KY,Xu (!1),hl,Nat.sub_self];rfl
  nd:=λi=>by
   show(if i=ds.length then as else []).Nodup
   split
   ·exact hnd
   ·exact X2
  nb:=λi x hx=>by
   replace hx:x∈(if i=ds.length then as else []):=hx
   split at hx
   ·exact hb x hx
   ·cases hx
  dj:=λi k hik x hx hx'=>by
   replace hx:x∈(if i=ds.length then as else []):=hx
   replace hx':x∈(if k=ds.length then as else []):=hx'
   split at hx
   ·split at hx'
    ·omega
    ·cases hx'
   ·cases hx}
theorem Nr {P:Program}{w:World}{K:Frag}{mg:Str->Option Value}{base:Heap}{x qual:Str}{st:Stmt}{f:Addr}{fd:FuncData}{N ps:List Str}(k n m ir:Nat){fb:SF}(hn:N.length=n)(hm:ps.length=m+1)(F:D5 K x qual st f fd)(S:aK N ps (ak st))(OU:ir≠m)(hmn:m+1<=n)
  (hbody:∀(cdv:Value) (A:Around) (outer:List Env) (s:Shared) (H:Hp) (E:XK) (a:Addr),dM k (A.deeper (envOfC qual (ak st) s.heap.objs.size f cdv))->
   pd (rh y9 P w K mg base N qual (ak st) f cdv A outer s H E).Bn (dY st) (Ml K (λ_ _=>False) m a ir fb)):iZ P w K mg base y9 (k+1) f fd ps (Iv K m (runIO n ir fb)):=by
 subst hn
 refine F.ok S (λvs H Q E h=> ?_) λcdv A outer s H vs Q E hr h=> ?_
 ·obtain⟨B,ds,kvs,ws,a,as,h1,rfl,_,h2,_⟩:=h
  rw[K1,ao h2,h1,hm];rfl
 ·obtain⟨B,ds,kvs,ws,a,as,h1,rfl,h3,h4,h5,h6,h7,h8⟩:=h
  subst h1
  refine⟨_,hbody cdv A outer s H E a hr,?_,B,_,_,x_ N hmn h3 h4 h5 h6 h7,?_⟩
  ·unfold Hold start
   have hl:=ao h4
   rw[Xx (by rw[K4,K1,hl,X3];omega),KY,Xu (!1),hl,Nat.sub_self];rfl
  ·unfold runIO at h8
   match hf:fb (ka N.length ds (.dict kvs)),h8 with
   | some (.ok (.nx Γ)),h8=>
    simp only[ap] at h8
    match e1:Γ[ir]?,e2:Γ[ds.length]?,h8 with
    | some (some (true,.list xs)),some (some (true,.dict kvs')),h8=>
     refine⟨⟨true,.list xs,e1⟩,λB' φ' σ' H' v s' r' z' hv=> ?_⟩
     obtain⟨v1,g1,g2⟩:=r'.own e1
     obtain⟨v2,g3,g4⟩:=r'.own e2
     rw[hv] at g1
     cases g1
     rw[show σ'[ds.length]? =some (some (V.ref a)) from z'] at g3
     cases g3
     refine h8 v H' _ _ (s'.trans r'.bs) g2 g4 (r'.nd ir) (r'.nd _) (λy hy=>r'.dj ir _ OU y hy) λy hy=> ?_
     have nb:B' y=none/\∃o,H' y=some o/\eS o:=by
      rcases hy with hy | hy
      ·exact r'.nb ir y hy
      ·exact r'.nb _ y hy
     exact⟨s'.free nb.1,nb.2⟩
   | some (.ok (.bk Γ)),h8=>exact False.elim h8
   | some (.ok (.ct Γ)),h8=>exact False.elim h8
   | some (.ok (.rt o d)),h8=>exact False.elim h8
   | some (.ex c),h8=>exact False.elim h8
   | none,h8=>exact False.elim h8
section
variable {X:Cx}{K:Frag}{Ew:Str->Hp->Prop}{pos pos' p:Pos}
theorem AE {ds:List PyData}{g:GF}{fb:SF}{D:Ends}{J:It}{B1 H1:Hp}{ψ:Nat->List Addr}{Γ1:aW}{σ:St}(r1:Rep K B1 ψ Γ1 σ H1)(io:t8 K B1 J ds)(q:cM K Ew B1 (bf g fb ds Γ1) D) :
  ∃W:Nat->Nat->St->Hp->Prop,(∃m,W 0 m σ H1)/\∀i m σ H,W i m σ H->(J.stop i H/\D.nx σ H)∨(J.go i H/\∃N:St->Hp->Prop,(∀σ' H',N σ' H'->∃m',m' < m/\W (i+1) m' σ' H')/\∀x H',J.Kn i H x H'->tG K g x σ H' λσ2 H2=>Le K Ew fb {D with nx:=N,ct:=N,bk:=D.nx} σ2 H2):=by
 refine⟨λi m σ H=>m=ds.length - i/\i<=ds.length/\∃B2 φ2 Γ2,Same B1 B2/\Rep K B2 φ2 Γ2 σ H/\cM K Ew B1 (bf g fb (ds.drop i) Γ2) D,⟨ds.length,by simp,Xy _,B1,ψ,_,Same.refl B1,r1,by simpa using q⟩,?_⟩
 rintro i m σ2 H2 ⟨rfl,hi2,B2,φ2,Γ2,s2,r2,q2⟩
 by_cases hlt:i < ds.length
 ·refine .inr ⟨io.go i H2 hlt (s2.trans r2.bs),λσ' H'=>∃B3 φ3 Γ3,Same B1 B3/\Rep K B3 φ3 Γ3 σ' H'/\cM K Ew B1 (bf g fb (ds.drop (i+1)) Γ3) D,λσ' H' h'=>⟨ds.length - (i+1),by omega,rfl,hlt,h'⟩,λx H' y=> ?_⟩
  obtain⟨s3,d,e,hd⟩:=io.yl i H2 x H' hlt (s2.trans r2.bs) y
  have r3:=r2.same s3
  have xZ:aJ K (gq φ2 H') d x:=hd _ (s2.trans r3.rC) λa o e1 e2=>by
   rw[cv]
   ·exact e2
   ·intro j hj
    obtain⟨o',e',_⟩:=(r2.nb j a hj).2
    rw[e1] at e';cases e'
  have ed:ds.drop i=d :: ds.drop (i+1):=by
   rw[U5 hlt]
   congr 1
   rw[K3 hlt] at e
   exact Option.some.inj e
  rw[ed] at q2
  have q3:=q2
  simp only[bf] at q3
  cases BV:g (cy .base d) d Γ2 with
  | none=>simp only[BV] at q3;exact False.elim q3
  | some Γ3=>
   simp only[BV,bB,ay] at q3
   refine⟨gq φ2 H',φ2,Γ2,cy .base d,d,Γ3,r3.cut,VR.av r3.cut (VR.cy (jb _ _) (show VR K _ φ2 H' H' .base d x from xZ)),BV,λB4 φ4 σ4 s4 r4=> ?_⟩
   have sB:Same B1 B4:=(s2.trans r3.rC).trans s4
   refine⟨B4,φ4,Γ3,r4,?_⟩
   match hbm:fb Γ3,q3 with
   | some (.ok (.nx Γ')),q3=>exact λB' φ' σ' jB s' r'=>⟨B',φ',Γ',sB.trans s',r',q3⟩
   | some (.ok (.ct Γ')),q3=>exact λB' φ' σ' jB s' r'=>⟨B',φ',Γ',sB.trans s',r',q3⟩
   | some (.ok (.bk Γ')),q3=>exact λB' φ' σ' jB s' r'=>q3 B' φ' σ' jB (sB.trans s') r'
   | some (.ok (.rt o d)),q3=>exact λv jB s' rv=>q3 v jB (sB.trans s') (rv.base sB)
   | some (.ex c),q3=>exact λjB s'=>q3 jB (sB.trans s')
   | none,q3=>exact False.elim q3
 ·have e:i=ds.length:=by omega
  subst e
  rw[List.drop_length] at q2
  exact .inl ⟨io.stop H2 (s2.trans r2.bs),q2 B2 φ2 σ2 H2 s2 r2⟩
def hide (as:List Addr)(H:Hp):Hp:=λb=>if b∈as then none else H b
theorem zA {as:List Addr}{H:Hp}{b:Addr}(h:b∈as):hide as H b=none:=JQ h
theorem ic {as:List Addr}{H:Hp}{b:Addr}(h:b∉as):hide as H b=H b:=JV h
theorem AF (as:List Addr)(H:Hp):Same (hide as H) H:=λb o e=>by
 by_cases h:b∈as
 ·rw[zA h] at e;cases e
 ·rwa [ic h] at e
theorem Rep.swap {B H H':Hp}{φ:Nat->List Addr}{Γ:aW}{σ:St}{iw:Nat}{a:Addr}{d:PyData}{as:List Addr}(r:Rep K B φ Γ σ H)(hv:σ[iw]? =some (some (.ref a)))(s:Same (hide (φ iw) H) H')(ht:IsT K H' d (.ref a) as)(hn:as.Nodup)(hb:∀x∈as,hide (φ iw) H x=none/\∃o,H' x=some o/\eS o) :
  Rep K B (λj=>if j=iw then as else φ j) (Γ.set iw (some (true,d))) σ H':=by
 have sB:Same B (hide (φ iw) H):=λb o e=>by
  by_cases h:b∈φ iw
  ·rw[(r.nb iw b h).1] at e;cases e
  ·rw[ic h];exact r.bs b o e
 have mu:∀b o,H b=some o->¬ eS o->H' b=some o:=λb o e n=>s b o (by
  rw[ic]
  ·exact e
  ·intro h
   obtain⟨o',e',m⟩:=(r.nb iw b h).2
   rw[e] at e';cases e'
   exact n m)
 have ot:∀j,j≠iw->∀b∈φ j,∀o,H b=some o->H' b=some o:=λj hj b hb o e=>s b o (by
  rw[ic (r.dj j iw hj b hb)];exact e)
 exact {
  bs:=sB.trans s
  len:=by rw[XW];exact r.len
  sl:=λj o d' e=>by
   by_cases hj:j=iw
   ·subst hj
    by_cases hlt:j < Γ.length
    ·rw[U8 hlt] at e
     cases e
     exact⟨.ref a,hv,by rw[JQ rfl,JQ rfl];exact ht⟩
    ·rw[Xq (by rw[XW];omega)] at e;cases e
   ·rw[Xw (Ne.symm hj)] at e
    obtain⟨v,h1,h2⟩:=r.sl j o d' e
    refine⟨v,h1,?_⟩
    cases o with
    | true=>
     rw[JQ rfl] at h2⊢
     rw[JV hj]
     exact IsT.via mu _ _ _ (ot j hj) h2
    | false=>rwa [JV K5] at h2⊢
  nd:=λj=>by
   show(if j=iw then as else φ j).Nodup
   split
   ·exact hn
   ·exact r.nd j
  nb:=λj x hx=>by
   replace hx:x∈(if j=iw then as else φ j):=hx
   split at hx
   ·exact⟨sB.free (hb x hx).1,(hb x hx).2⟩
   ·rename_i hj
    obtain⟨h1,o,h2,h3⟩:=r.nb j x hx
    exact⟨h1,o,ot j hj x hx o h2,h3⟩
  dj:=λi j hij x hx hx'=>by
   replace hx:x∈(if i=iw then as else φ i):=hx
   replace hx':x∈(if j=iw then as else φ j):=hx'
   have key:∀m,m≠iw->x∈φ m->x∈as->False:=λm hm h1 h2=>by
    obtain⟨_,o,e,_⟩:=r.nb m x h1
    have:=(hb x h2).1
    rw[ic (r.dj m iw hm x h1),e] at this
    cases this
   split at hx
   ·split at hx'
    ·omega
    ·rename_i hj;exact key j hj hx' hx
   ·split at hx'
    ·rename_i hi _;exact key i hi hx hx'
    ·exact r.dj i j hij x hx hx'}
theorem E1 {iw:Nat}{tg e1 e2 ew:Expr}{body:List Stmt}{f1 f2:EF}{g:GF}{fb:SF}{CX:yW}{k:Nat}{f:Addr}{fd:FuncData}{ps:List Str}{F:List PyData->PyData->M (PyData×PyData)}{x:Str}{E:XK}
  (hp:PassesOwn (!6) X.A X.env X.xe) (hc:X.calm=true) (G:iZ X.prog X.w X.K X.mg X.base CX k f fd ps (Iv K 2 F)) (hr:dM k X.A) (OV:Gl X x) (hm:X.mg x=some (.ref f)) (hk:keepIn X.K (.ref f)=true) (hb:Binds X.K fd ps []) (hx:Passes CX X E)
  (h1:DE X K Ew e1 f1) (h2:DE X K Ew e2 f2) (hw:PE X ew (kT iw)) (hg:DG X K tg g) (hbd:ze X K Ew body fb) (hK:X.K=K:=by rfl) (hdb:(x==("__debug__":Str))=false:=by decide)
  (s1:starEach [e1,e2,ew] X.env=(false,eval e1 X.env) :: starEach [e2,ew] X.env:=by rfl) (s2:starEach [e2,ew] X.env=(false,eval e2 X.env) :: starEach [ew] X.env:=by rfl) (s3:starEach [ew] X.env=(false,eval ew X.env) :: starEach [] X.env:=by rfl)
  (hpl:(backTo pos (starEach [e2,ew] X.env)).any (·.1)=false:=by rfl) (hs:∀y,foldedSetIterable (.Call (.Name x p) [e1,e2,ew] [] pos) X.env y=pure y:=by intro _;rfl) :
  DS X K Ew (.For tg (.Call (.Name x p) [e1,e2,ew] [] pos) body [] pos') (zx iw F f1 f2 g fb) :=
 (tF hp hc (yV (yX G hr OV hm hk hb .nil hx (bx h1 (bx h2 (bx hw cZ s3) s2) s1) hdb s1 hpl)) hg hbd hs).imp λD σ H q=>by
  subst hK
  obtain⟨B,φ,Γ,r,q⟩:=q
  unfold zx at q
  match hgw:Γ[iw]?,q with
  | some (some (true,.dict kvs)),q=>
   obtain⟨v3,GC,hT⟩:=r.own hgw
   obtain⟨a,ks,bs,rfl,hl,ht,hφ⟩:=de hT
   refine⟨B,φ,Γ,r,?_⟩
   match hm1:f1 Γ,q with
   | none,q=>cases q
   | some (.ex c),q=>exact .inr ⟨c,rfl,q⟩
   | some (.ok (k1,d1)),q=>
    refine .inl ⟨k1,d1,rfl,λv1 H1 t1 hv1=>⟨B,φ,Γ,r.same t1,?_⟩⟩
    match hm2:f2 Γ,q with
    | none,q=>cases q
    | some (.ex c),q=>exact .inr ⟨c,rfl,q⟩
    | some (.ok (k2,d2)),q=>
     refine .inl ⟨k2,d2,rfl,λv2 H2 t2 hv2=>⟨.ref a,GC,?_⟩⟩
     have q5:cM X.K Ew B (if lu k1=true/\lu k2=true then (match F [d1,d2] (.dict kvs) with
      | some (.ok (.list ds,.dict kvs'))=>bf g fb ds (Γ.set iw (some (true,.dict kvs')))
      | _=>none) else none) D:=q
     by_cases hbb:lu k1=true/\lu k2=true
     ·rw[JQ hbb] at q5
      obtain⟨b1,b2⟩:=hbb
      cases k1 <;> first | (cases b1;done) | skip
      cases k2 <;> first | (cases b2;done) | skip
      have r2:=(r.same t1).same t2
      have sB:Same B (hide (φ iw) H2):=λb o e=>by
       by_cases h:b∈φ iw
       ·rw[(r2.nb iw b h).1] at e;cases e
       ·rw[ic h];exact r2.bs b o e
      have w1:aJ X.K (hide (φ iw) H2) d1 v1:=aJ.same sB _ _ (show aJ X.K B d1 v1 from hv1)
      have w2:aJ X.K (hide (φ iw) H2) d2 v2:=aJ.same sB _ _ (show aJ X.K B d2 v2 from hv2)
      refine⟨hide (φ iw) H2,[d1,d2],kvs,[v1,v2],a,φ iw,rfl,rfl,AF _ _,aV w1 (aV w2 aY),IsT.same t2 _ _ _ (IsT.same t1 _ _ _ hT),r.nd iw,λy hy=>⟨zA hy,(r2.nb iw y hy).2⟩,?_⟩
      match hF:F [d1,d2] (.dict kvs),q5 with
      | some (.ok (.list ds,.dict kvs')),q5=>
       intro v H3 a1 a2 z1 z2 z3 z4 z5 z6 z7
       have r3:=r2.swap GC z1 z3 z5 λy hy=>z7 y (.inr hy)
       have av:Av X.K B (λj=>if j=iw then a2 else φ j) H3 (.fr []) (.list ds) v:=⟨a1,z2,z4,λy hy=> .inr ⟨sB.free (z7 y (.inl hy)).1,λj hj=>by
        replace hj:y∈(if j=iw then a2 else φ j):=hj
        split at hj
        ·exact z6 y hy hj
        ·rename_i hji
         obtain⟨_,o,e,_⟩:=r2.nb j y hj
         have:=(z7 y (.inl hy)).1
         rw[ic (r2.dj j iw hji y hj),e] at this
         cases this⟩⟩
       obtain⟨B1,ψ,OW,r4,hD⟩:=r3.j0 av
       obtain⟨al,vs,rfl,hq,hds⟩:=aZ hD
       exact⟨al,rfl,⟨vs,r4.bs.seq hq⟩,AE r4 (r_ hq hds) (cM.base OW q5)⟩
      | some (.ok (.list ds,.none)),q5=>exact False.elim q5
      | some (.ok (.list ds,.bool _)),q5=>exact False.elim q5
      | some (.ok (.list ds,.int _)),q5=>exact False.elim q5
      | some (.ok (.list ds,.str _)),q5=>exact False.elim q5
      | some (.ok (.list ds,.tuple _)),q5=>exact False.elim q5
      | some (.ok (.list ds,.list _)),q5=>exact False.elim q5
      | some (.ok (.none,_)),q5=>exact False.elim q5
      | some (.ok (.bool _,_)),q5=>exact False.elim q5
      | some (.ok (.int _,_)),q5=>exact False.elim q5
      | some (.ok (.str _,_)),q5=>exact False.elim q5
      | some (.ok (.tuple _,_)),q5=>exact False.elim q5
      | some (.ok (.dict _,_)),q5=>exact False.elim q5
      | some (.ex c),q5=>exact False.elim q5
      | none,q5=>exact False.elim q5
     ·rw[JV hbb] at q5
      exact False.elim q5
  | some (some (true,.none)),q|some (some (true,.bool _)),q|some (some (true,.int _)),q|some (some (true,.str _)),q|some (some (true,.tuple _)),q|some (some (true,.list _)),q|some (some (false,_)),q|some none,q|none,q=>cases q
end
section
variable {X:Cx}{K:Frag}{Ew:Str->Hp->Prop}{pos pos2 p p2:Pos}{a:Expr}{ta:TE}{fa:EF}
theorem nY:∀{xs:List V} {us:List Value},xs.length=us.length->(∀(i:Nat) (x:V) (u:Value),xs[i]? =some x->us[i]? =some u->RelV x u)->Vals xs us
 | [],[],_,_=> .nil
 | [],_ :: _,h,_=>by simp at h
 | _ :: _,[],h,_=>by simp at h
 | x :: xs,u :: us,h,k=> .cons (k 0 x u rfl rfl) (nY (by simpa using h) λi y w e1 e2=>k (i+1) y w (by simpa using e1) (by simpa using e2))
theorem ya {n:Nat}{acc:Array Value}(h:ItemsOf (λi v=>∃t,v= .int (0+(i:Nat)*1) t) acc n):Vals ((List.range n).map λ(i:Nat)=>V.int (i:Int)) acc.toList:=by
 refine nY (by simp[h.1]) λi v u e1 e2=> ?_
 have hi:i < n:=by
  have:=(X1.mp e1).1
  simpa using this
 rw[KY,Y9 hi] at e1
 cases e1
 obtain⟨t,rfl⟩:=h.2 i u (by rw[←Uy];exact e2)
 exact⟨t,by simp⟩
def Iw (ta:TE):TE:=λσ H Q=>ta σ H λx H1=>∃n:Int,x= .int n/\0<=n/\n<=100000/\∀t,H1 t=none->Q (.ref t) (upd H1 t (.lst ((List.range n.toNat).map λ(i:Nat)=>V.int (i:Int))))
theorem Cq (hc:X.calm=true)(hg:Gl X "list")(hm:X.mg "list" =none)(hg2:Gl X "range")(hm2:X.mg "range" =none)(ha:PE X a ta)
  (hs:starEach [a] X.env=(false,eval a X.env) :: starEach [] X.env:=by rfl) (hpl:(backTo pos2 (starEach [] X.env)).any (·.1)=false:=by rfl)
  (hs2:starEach [.Call (.Name "range" p2) [a] [] pos2] X.env=(false,eval (.Call (.Name "range" p2) [a] [] pos2) X.env) :: starEach [] X.env:=by rfl) (pJ:(backTo pos (starEach [] X.env)).any (·.1)=false:=by rfl)
  (hnil:backTo pos (starEach [] X.env)=[]:=by rfl) :
  PE X (.Call (.Name "list" p) [.Call (.Name "range" p2) [a] [] pos2] [] pos) (Iw ta):=by
 intro pins s σ H Q I h
 refine wpAny_Call_Name_kw (fK I hg hm PyProof.Rows.boot_list ?_)
 refine PyProof.Rows.callWith_type1 ?_ hs2 pJ
 rw[hs2]
 show wpAny _ _ (spliced ((false,eval (.Call (.Name "range" p2) [a] [] pos2) X.env) :: backTo pos (starEach [] X.env))) _ _ s
 refine Calls.spliced_cons ?_
 refine wpAny_Call_Name_kw (fK I hg2 hm2 boot_range ?_)
 refine PyProof.Rows.callWith_type1 (cW (bx ha cZ hs pos2 pins s σ H (λvs H1=>match vs with
  | [x]=>∃n:Int,x= .int n/\0<=n/\n<=100000/\∀t,H1 t=none->Q (.ref t) (upd H1 t (.lst ((List.range n.toNat).map λ(i:Nat)=>V.int (i:Int))))
  | _=>False) I h) λus s1 ⟨vs,H1,I1,r1,q1⟩=> ?_) hs hpl
 match vs,r1,q1 with
 | [x],r1,q1=>
  obtain⟨n,rfl,n0,n1,fin⟩:=q1
  obtain⟨u,rfl,ru⟩:=r1.one
  obtain⟨t,rfl⟩:=ru
  refine call_range_1 ?_
  rw[hnil]
  refine Calls.spliced_nil ?_
  have hh:X.A.handled=none:=I1.ok.hd hc
  have hsz:(s1.heap.push {cls:=.type "range",data:=.fields #[.int 0 s1.toks,.int n t,.int 1 (s1.toks+1)]}).objs.size=s1.heap.objs.size+1:=XY ..
  refine call_list_range (n:=n.toNat) (by first | exact hh | simpa using hh) (IsRange.new ..) (small_one (!1) (!1) (!1) (!1)) (by rw[rangeSize_one];split <;> omega) (KJ (show n.toNat<=100000 by omega) (by decide)) λh' tk acc c hk hS' hacc=> ?_
  have hv:=ya hacc
  refine⟨.ref _,_,I1.laid (h':=h') (t':=tk) (a:=(s1.heap.push {cls:=.type "range",data:=.fields #[.int 0 s1.toks,.int n t,.int 1 (s1.toks+1)]}).objs.size) (o:=.lst ((List.range n.toNat).map λ(i:Nat)=>V.int (i:Int))) (λb u e=>hk b u (K7 _ e)) (by rw[hsz];exact Y5 _) ⟨?_,acc.toList,c,hv,by simpa using hS'⟩,rfl,fin _ (I1.hok.fresh (by rw[hsz];exact Y5 _))⟩
  rw[K4,X8]
  exact KJ (show n.toNat<=100000 by omega) (by decide)
 | [],r1,q1=>exact False.elim q1
 | _ :: _ :: _,r1,q1=>exact False.elim q1
theorem Cr (hc:X.calm=true)(hg:Gl X "list")(hm:X.mg "list" =none)(hg2:Gl X "range")(hm2:X.mg "range" =none)(ha:DE X K Ew a fa)(hK:X.K=K:=by rfl)
  (hs:starEach [a] X.env=(false,eval a X.env) :: starEach [] X.env:=by rfl) (hpl:(backTo pos2 (starEach [] X.env)).any (·.1)=false:=by rfl)
  (hs2:starEach [.Call (.Name "range" p2) [a] [] pos2] X.env=(false,eval (.Call (.Name "range" p2) [a] [] pos2) X.env) :: starEach [] X.env:=by rfl) (pJ:(backTo pos (starEach [] X.env)).any (·.1)=false:=by rfl)
  (hnil:backTo pos (starEach [] X.env)=[]:=by rfl) :
  DE X K Ew (.Call (.Name "list" p) [.Call (.Name "range" p2) [a] [] pos2] [] pos) (Ey p0 fa):=(Cq hc hg hm hg2 hm2 ha hs hpl hs2 pJ hnil).imp λσ H Q q=>by
 obtain⟨B,φ,Γ,r0,q⟩:=q
 refine⟨B,φ,Γ,r0,(q.bind r0).mono λu H1 s1 ⟨k,x,e1,v1,r1,_,q1⟩=> ?_⟩
 obtain⟨z,e,q⟩:=gR (kf:=λ_=> .fr []) q1
 cases x <;> simp only[p0] at e <;> try (cases e;done)
 split at e
 ·rename_i n hn
  cases e
  have:=aA (v1.toD r1.bs)
  subst this
  refine⟨n,rfl,hn.1,hn.2,λt ht=>q _ _ (s1.trans (Same.upd ht)) (VR.fresh.mpr (aS.lst ?_ aw ?_ (s1.free ht)))⟩
  ·exact aU _ (λ_=>rfl) _
  ·have:=mZ (K:=K) (H:=upd H1 t (.lst ((List.range n.toNat).map λ(i:Nat)=>V.int (i:Int)))) ((List.range n.toNat).map λ(i:Nat)=>(i:Int))
   rw[KQ,KQ] at this
   exact this
 ·cases e
end
theorem AG (i:Int)(l:List Int)(x:Int):uv (i :: (l++[x]))=if x < uv (i :: l) then x else uv (i :: l):=by
 show(l++[x]).foldl (λa b=>if b < a then b else a) i=_
 rw[List.foldl_append];rfl
theorem v5 (i:Int)(l:List Int):∀k,k<=l.length->(i :: l).getD (argBest (λa b=>decide ((i :: l).getD a 0 < (i :: l).getD b 0)) k) 0=uv (i :: l.take k)
 | 0,_=>rfl
 | k+1,h=>by
  have ih:=v5 i l k (!1)
  have hk:k < l.length:=by omega
  have e1:(i :: l).getD (k+1) 0=l[k]:=by simp[X7,hk]
  rw[List.take_succ_eq_append_getElem hk,AG,←ih]
  show(i :: l).getD (if decide ((i :: l).getD (k+1) 0 < (i :: l).getD (argBest _ k) 0)=true then k+1 else argBest _ k) 0=_
  rw[e1]
  by_cases c:l[k] < (i :: l).getD (argBest (λa b=>decide ((i :: l).getD a 0 < (i :: l).getD b 0)) k) 0
  ·rw[JQ (Z9 c),JQ c];exact e1
  ·rw[JV (by simpa using c),JV c]
theorem Cs (i:Int)(l:List Int):(i :: l).getD (argBest (λa b=>decide ((i :: l).getD a 0 < (i :: l).getD b 0)) l.length) 0=uv (i :: l):=by
 rw[v5 i l l.length (K2 _),J4]
section
variable {X:Cx}
theorem AH (hc:X.calm=true):hX X (.builtin "min") (λus H Q=>∃q i l,us=[.ref q]/\fV X.K H q ((i :: l).map V.int)/\Q (.int (uv (i :: l))) H):=by
 intro pins s σ H xs us Q I rv h
 obtain⟨p,i,l,rfl,hq,q⟩:=h
 obtain⟨u,rfl,ru⟩:=rv.one
 cases(show u=Value.ref p from ru)
 obtain⟨its,r,pl,hz⟩:=I.list hq
 have hlen:its.length=l.length+1:=by
  have:=r.length
  simpa using this.symm
 refine call_min_walk (wpAny_pyIter_list pl.isList ?_)
 have hne:p≠s.heap.objs.size:=by
  obtain⟨o,e,_⟩:=pl.isList
  exact X4 (Kv e)
 have W:=Walks.list (prog:=X.prog) (w:=X.w) (A:=X.A.in1) (I.ok.hd hc) s.heap.objs.size p hne its.toArray
 have hat:∀(a:Nat) (v:Value),its.toArray[a]? =some v->∃t,v= .int ((i :: l).getD a 0) t:=λa v hv=>by
  have hv:its[a]? =some v:=by simpa using hv
  have ha:a < (i :: l).length:=by
   have:=(X1.mp hv).1
   simp;omega
  have e:((i :: l).map V.int)[a]? =some (.int ((i :: l).getD a 0)):=by
   rw[KY,X7,K3 ha];rfl
  obtain⟨u,hu,ru⟩:=r.get e
  rw[hv] at hu
  cases hu
  exact ru
 refine⟨s.heap.objs.size,_,_,its.toArray.size,_,_,λa b=>decide ((i :: l).getD a 0 < (i :: l).getD b 0),rfl,W,⟨⟨_,Ky _ rfl,rfl,rfl⟩,Heap.IsList.push pl.isList _⟩,λb hb=> ?_,by rw[Kj];omega,CmpOf.ints_lt (λa=>(i :: l).getD a 0) hat,λv h' tk hv hk=> ?_⟩
 ·simp only[K0,List.mem_nil_iff,or_false] at hb
  rw[XY]
  rcases hb with rfl | rfl
  ·exact Uj _
  ·obtain⟨o,e,_⟩:=pl.isList
   exact UU (Kv e)
 ·have hI:Inv X pins σ H {s with heap:=h',toks:=tk}:=I.kept (t':=tk) λb o e=>hk b o (by
   intro z
   rw[K6.mp z] at e
   exact absurd (Kv e) (U3 _)) (K7 _ e)
  obtain⟨t,rfl⟩:=hat _ v hv
  refine⟨.int _,H,hI,⟨t,rfl⟩,?_⟩
  rw[show its.toArray.size - 1=l.length by rw[Kj];omega,Cs]
  exact q
theorem p5:∀{xs:List PyData} {l:List Int},xs.mapM intOf=some l->xs=l.map PyData.int
 | [],l,h=>by cases h;rfl
 | x :: xs,l,h=>by
  rw[List.mapM_cons] at h
  cases e:intOf x with
  | none=>rw[e] at h;cases h
  | some i=>
   rw[e] at h
   cases e2:xs.mapM intOf with
   | none=>rw[e2] at h;cases h
   | some l'=>
    rw[e2] at h
    have h':i :: l'=l:=Option.some.inj h
    subst h'
    rw[KZ,←p5 e2]
    cases x <;> simp only[intOf] at e <;> first | (cases e;rfl) | (cases e;done)
theorem yb (hc:X.calm=true):CallD X (.builtin "min") sD:=⟨_,AH hc,λxs z us H Q e h q=>by
 match xs,e,h with
 | [.list ds],e,h=>
  simp only[sD] at e
  cases e2:ds.mapM intOf with
  | none=>rw[e2] at e;cases e
  | some l=>
   rw[e2,Option.bind_some] at e
   cases l with
   | nil=>cases e
   | cons i l=>
    cases e
    have hd:=p5 e2
    subst hd
    obtain⟨u,rfl,hu⟩:=dh h
    obtain⟨a,vs,rfl,h1,h2⟩:=aZ hu
    rw[lR h2] at h1
    exact⟨a,i,l,rfl,h1,q _ H (Same.refl H) (aS.li rfl bC)⟩⟩
end
section
variable {prog:Program}{w:World}{A:Around}{E:Z3}{s:Shared}{d it:Addr}
theorem yc (d:Addr)(hd:(d==sysModules)=false):Meets (Builtin.«dict.items» ⟨[.ref d],[]⟩) (λ_ R s=>s.TypeIs (.ref d) "dict" /\R (.ok (.ret (!7))) {s with heap:=s.heap.push {cls:=.type "dict_items",data:=.fields #[.ref d]}}) :=
 .of_wp λprog w A R s ⟨hT,h⟩=>by
  unfold Builtin.«dict.items»;refine JZ ?_;unfold Builtin.Dict.noArgs;refine JZ (wpAny_notOrdered_dict hT ?_)
  show wpAny _ _ (pure d) _ _ s;refine JW ?_;show wpAny _ _ (Builtin.Dict.showsAll d >>=_) _ _ s;unfold Builtin.Dict.showsAll
  rw[JV (by rw[hd];decide)];refine JZ (JW ?_)
  refine JZ (Z5 ?_);exact(JW ⟨_,rfl,h⟩)
theorem AI {Q:Z3}(hd:(d==sysModules)=false)(hT:s.TypeIs (.ref d) "dict")(q:Q (!7) {s with heap:=s.heap.push {cls:=.type "dict_items",data:=.fields #[.ref d]}}):wpAny (!3) A (call (.builtin "dict.items") [.ref d]) Q E s :=
 call_meets F.slot_dict_items hT F.entry_dict_items (F.args_dict_items_1 _) (yc d hd) ⟨hT,q⟩
theorem AJ {v:Addr}{o:Obj}{es:Array DictEntry}{ep:Nat}{Q:Z3}(hv:s.heap.IsItemsView v d)(ho:s.heap.get? d=some o)(hx:o.data= .dict es ep)
  (q:Q (!7) {s with heap:=s.heap.push {cls:=.type "dict_itemiterator",data:=.fields #[.none,.bool false,.ref d,.int 0 0,.int es.size 0,.int ep 0,.none,.none]}}):wpAny (!3) A (pyIter (.ref v)) Q E s:=by
 obtain⟨ov,hov,hcv,hdv⟩:=id hv
 refine wpAny_pyIter_slot hv.typeIs F.slot_dict_items_iter (Z6 F.slot_dict_items_iter hv.typeIs F.entry_dict_items_iter ?_ (F.args_dict_items_iter_1 _));unfold Builtin.«dict_items.__iter__»
 refine JZ (JW ?_);refine JZ ?_;unfold Builtin.Dict_items.dictOf;refine JZ (wpAny_field hov hdv (x:=.ref d) rfl ((JW ?_)))
 refine JZ ?_;unfold Builtin.Dict_items.newIterator;refine JZ (wpAny_dictEntries ho hx ?_);refine JZ (wpAny_dictEpoch ho hx ?_)
 simp only[show Builtin.Dict_items.ownsTuple "dict_itemiterator" =true by decide,if_true]
 refine Z5 (JW ⟨_,rfl,"dict_itemiterator",_,⟨_,Ky _ rfl,rfl⟩,F.slot_dict_itemiterator_next.lookup,?_⟩) (by simp only[sizeOk,Builtin.Dict_items.ownedTupleFields,Kj,K1,Kz,Y2,sizeLine_eq];omega)
 simpa [rawInt,Builtin.Dict_items.ownedTupleFields] using q
theorem AK {o:Obj}{es:Array DictEntry}{i ep:Nat}{e:DictEntry}{ok ov:Value}{Q:Option Value->Shared->Prop}(hit:IsItemIter s.heap it d i es.size ep ok ov)(ho:s.heap.get? d=some o)(hx:o.data= .dict es ep)(he:es[i]? =some e)
  (q:∀h',IsItemIterOut h' it d (i+1) es.size ep e.key e.val s.heap.objs.size->h'.get? s.heap.objs.size=some {cls:=.type "tuple",data:=.seq #[e.key,e.val]}->h'.objs.size=s.heap.objs.size+1->(∀b u,b≠it->s.heap.get? b=some u->h'.get? b=some u)->Q (some (!7)) {s with heap:=h'}) :
  wpAny (!3) A (pyNext (.ref it)) Q E s:=by
 obtain⟨hp,g,dr,tk,os⟩:=s
 have hT:Shared.TypeIs ⟨hp,g,dr,tk,os⟩ (.ref it) "dict_itemiterator":=(⟨_,hit,rfl⟩)
 obtain⟨hlt,hes⟩:=Array.getElem?_eq_some_iff.mp he
 unfold pyNext;refine JZ (wpAny_attempt (wpAny_callSpecial?_slot (name:=Str.ofString "__next__") hT F.slot_dict_itemiterator_next (Z6 F.slot_dict_itemiterator_next hT F.entry_dict_itemiterator_next ?_ (F.args_dict_itemiterator_next_1 _))))
 refine JZ (JW ?_);refine JZ ?_;refine JZ ?_
 first | (refine JZ (wpAny_typeNameOfWhole_itemiter hT (JW ?_))) | (refine JZ (wpAny_typeNameOf_itemiter hT (JW ?_)))
 refine JZ (wpAny_fieldsOf hit rfl ?_);simp only[show Builtin.Dict_items.ownsTuple "dict_itemiterator" =true by decide,if_true]
 show wpAny _ _ (if (Value.ref d==Value.none)=true then _ else _) _ _ _;rw[JV (show ¬ ((Value.ref d==Value.none)=true) by(exact K5))]
 refine JZ (JW ?_);refine JZ (wpAny_dictEntries ho hx ?_);rw[JV (by simp)];refine JZ (JW ?_);refine JZ (wpAny_dictEpoch ho hx ?_);rw[JV (by simp)];refine JW ?_
 simp only[show ¬ ((i:Int) < 0) by omega,if_false,Ku,he]
 refine JZ ?_
 first | (refine JZ (wpAny_typeNameOfWhole_itemiter hT (JW ?_))) | (refine JZ (wpAny_typeNameOf_itemiter hT (JW ?_)))
 refine JZ (wpAny_isOneOf_itemiter hT ?_);show wpAny _ _ (setField (.ref it) 3 (rawInt ((i:Int)+1)) >>=_) _ _ ⟨hp,g,dr,tk,os⟩
 refine JZ (wpAny_setField_rec hit (by simp) λh1 e1 s1=> ?_)
 replace s1:Heap.SameBut it hp h1:=s1
 replace e1:IsItemIter h1 it d (i+1) es.size ep ok ov:=by
  unfold IsItemIter;rw[show((i+1:Nat):Int)=(i:Int)+1 by omega];simpa [rawInt] using e1
 have hT1:Shared.TypeIs ⟨h1,g,dr,tk,os⟩ (.ref it) "dict_itemiterator":=(⟨_,e1,rfl⟩)
 refine JZ (Z7 ?_);refine JZ (wpAny_isOneOf_itemiter hT1 ?_);refine JZ (wpAny_isOneOf_itemiter hT1 ?_)
 show wpAny _ _ (Builtin.Dict_items.pairFromOwner (.ref it) 6 e.key e.val) _ _ ⟨h1,g,dr,tk,os⟩;unfold Builtin.Dict_items.pairFromOwner
 refine JZ (wpAny_newTuple ?_)
 have e2:IsItemIter (h1.push {cls:=.type "tuple",data:=.seq #[e.key,e.val]}) it d (i+1) es.size ep ok ov:=(K7 _ e1)
 generalize hh:h1.push {cls:=.type "tuple",data:=.seq #[e.key,e.val]}=h2 at e2
 have z1:h1.objs.size=hp.objs.size:=s1.1
 have hil:hp.objs.size≠it:=Uv (Kv hit)
 have t2:h2.get? hp.objs.size=some {cls:=.type "tuple",data:=.seq #[e.key,e.val]}:=by(rw[←hh,←z1];exact Ky _ rfl)
 have z2:h2.objs.size=hp.objs.size+1:=by(rw[←hh,XY,z1])
 have k2:∀b u,b≠it->hp.get? b=some u->h2.get? b=some u:=λb u hb x=>by(rw[←hh];exact K7 _ (s1.extBut b u hb x))
 show wpAny _ _ (Builtin.Dict_items.ownedTupleIsFree (.ref it) >>=_) _ _ ⟨h2,g,dr,tk,os⟩;rw[z1];clear hh e1 s1 hT1 z1 h1
 refine JZ ?_;unfold Builtin.Dict_items.ownedTupleIsFree;refine JZ (wpAny_field e2 rfl (x:=.none) rfl ((JW ?_)));simp only[if_true]
 refine JZ (wpAny_field e2 rfl (x:=ok) rfl ?_);refine JZ (wpAny_field e2 rfl (x:=ov) rfl ?_)
 refine JZ (wpAny_setField_rec e2 (by simp) λh3 e3 s3=> ?_)
 replace s3:Heap.SameBut it h2 h3:=s3;replace e3:IsItemIter h3 it d (i+1) es.size ep e.key ov:=e3
 refine JZ (wpAny_setField_rec e3 (by simp) λh4 e4 s4=> ?_)
 replace s4:Heap.SameBut it h3 h4:=s4;replace e4:IsItemIter h4 it d (i+1) es.size ep e.key e.val:=e4
 refine JZ (wpAny_setField_rec e4 (by simp) λh5 e5 s5=> ?_)
 replace s5:Heap.SameBut it h4 h5:=s5;replace e5:IsItemIterOut h5 it d (i+1) es.size ep e.key e.val hp.objs.size:=e5
 refine JZ (wpAny_setField_rec e5 (by simp) λh6 e6 s6=> ?_)
 replace s6:Heap.SameBut it h5 h6:=s6;replace e6:IsItemIterOut h6 it d (i+1) es.size ep e.key e.val hp.objs.size:=e6
 have kk:∀b u,b≠it->h2.get? b=some u->h6.get? b=some u:=λb u hb x=>s6.extBut b u hb (s5.extBut b u hb (s4.extBut b u hb (s3.extBut b u hb x)))
 exact JZ (wpAny_letGo (JW (JW ⟨_,rfl,(JW (q h6 e6 (kk _ _ hil t2) (by show h6.objs.size=hp.objs.size+1;rw[s6.1,s5.1,s4.1,s3.1,z2]) λb u hb x=>kk b u hb (k2 b u hb x)))⟩)))
theorem Ct {o:Obj}{es:Array DictEntry}{ep:Nat}{ok ov:Value}{Q:Option Value->Shared->Prop}(hh:A.handled=none)(hit:IsItemIter s.heap it d es.size es.size ep ok ov)(ho:s.heap.get? d=some o)(hx:o.data= .dict es ep)
  (q:∀h',Heap.ExtBut it s.heap h'->Q none {s with heap:=h'}):wpAny (!3) A (pyNext (.ref it)) Q E s:=by
 have hT:s.TypeIs (.ref it) "dict_itemiterator":=(⟨_,hit,rfl⟩)
 unfold pyNext;refine JZ (wpAny_attempt (wpAny_callSpecial?_slot (name:=Str.ofString "__next__") hT F.slot_dict_itemiterator_next (Z6 F.slot_dict_itemiterator_next hT F.entry_dict_itemiterator_next ?_ (F.args_dict_itemiterator_next_1 _))))
 refine JZ (JW ?_);refine JZ ?_;refine JZ ?_
 first | (refine JZ (wpAny_typeNameOfWhole_itemiter hT (JW ?_))) | (refine JZ (wpAny_typeNameOf_itemiter hT (JW ?_)))
 refine JZ (wpAny_fieldsOf hit rfl ?_);simp only[show Builtin.Dict_items.ownsTuple "dict_itemiterator" =true by decide,if_true]
 show wpAny _ _ (if (Value.ref d==Value.none)=true then _ else _) _ _ s;rw[JV (show ¬ ((Value.ref d==Value.none)=true) by(exact K5))]
 refine JZ (JW ?_);refine JZ (wpAny_dictEntries ho hx ?_);rw[JV (by simp)];refine JZ (JW ?_);refine JZ (wpAny_dictEpoch ho hx ?_);rw[JV (by simp)];refine JW ?_
 simp only[show ¬ ((es.size:Int) < 0) by omega,if_false,Ku,Array.getElem?_eq_none (K2 _)]
 refine JZ ?_
 first | (refine JZ (wpAny_typeNameOfWhole_itemiter hT (JW ?_))) | (refine JZ (wpAny_typeNameOf_itemiter hT (JW ?_)))
 show wpAny _ _ (setField (.ref it) 2 .none >>=_) _ _ s;refine JZ (wpAny_setField hit rfl (by simp) ?_)
 show wpAny _ _ (newExc (.type "StopIteration") [] >>=_) _ _ _;refine JZ ?_;simp only[newExc,newTuple];refine JZ (Z5 ?_ (by size_fits))
 refine JZ (m:=firstArgMember _ _) (wpAny_of_eq (a:=Value.none) (by first | rfl | ((simp only[firstArgMember]);rfl)) ?_);refine Z5 ?_ (by size_fits);simp only[raiseNew];refine JZ (wpAny_handled ?_)
 rw[show A.in1.handled=none from hh];refine JZ (JW (wpAny_throw ?_));refine JZ (wpAny_isInstance (T:="StopIteration") (b:=true) ⟨_,Ky _ rfl,rfl⟩ isSubtype_stop ?_)
 exact JW (q _ (((Heap.SameBut.update ..).extBut.push _).push _))
end
end L2
namespace L2
open PySem PyProof.Rows
section
variable {prog:Program}{w:World}{A:Around}{E:Z3}{s:Shared}
theorem E2 {it t:Addr}{i:Nat}{items:Array Value}{x:Value}{Q:Z3}(hit:IsTupIter s.heap it t i)(ht:IsTup s.heap t items)(hx:items[i]? =some x)
  (hQ:∀h',IsTupIter h' it t (i+1)->Heap.SameBut it s.heap h'->Q x {s with heap:=h'}):wpAny (!3) A (Builtin.SmallTypes.nextOf (.ref it)) Q E s:=by
 obtain⟨o,ho,hc,hd⟩:=id hit
 obtain⟨ol,hol,_,nl,hdl⟩:=ht
 unfold Builtin.SmallTypes.nextOf
 refine JZ (wpAny_callSpecial?_slot (name:=Str.ofString "__next__") hit.typeIs slot_tupleiter_next (Z6 slot_tupleiter_next hit.typeIs entry_tupleiter_next ?_ (args_tupleiter_next _)))
 show wpAny (!3) _ (field (.ref it) 0 >>=_) _ _ s;refine JZ (wpAny_field ho hd (x:=.ref t) rfl ?_)
 show wpAny (!3) _ (if (Value.ref t==Value.none)=true then _ else _) _ _ s;rw[JV (λz:(Value.ref t==Value.none)=true=>K5 z)]
 show wpAny (!3) _ (field (.ref it) 1 >>=_) _ _ s;refine JZ (wpAny_field ho hd (x:=.int i 0) rfl ?_)
 show wpAny (!3) _ (seqItems? (.ref t) >>=_) _ _ s;refine JZ (wpAny_seqItems hol hdl ?_)
 simp only[Ku,hx];refine JZ (wpAny_setField ho hd (by simp) (JW ⟨x,rfl,JW (hQ _ ?_ (Heap.SameBut.update ..))⟩))
 exact⟨_,XX _ ho (Obj.isFreed_of_fields (Obj.data_mapFields hd _)),(Obj.cls_mapFields ..).trans hc,by(rw[Obj.data_mapFields hd]);simp[rawInt]⟩
theorem E3 {it t:Addr}{i:Nat}{items:Array Value}{Q:Z3}(hh:A.handled=none)(hit:IsTupIter s.heap it t i)(ht:IsTup s.heap t items)(hx:items[i]? =none)
  (hE:∀h' e,Heap.ExtBut it s.heap h'->(∃o,h'.get? e=some o/\o.cls= .type "StopIteration")->E (.ref e) {s with heap:=h'}):wpAny (!3) A (Builtin.SmallTypes.nextOf (.ref it)) Q E s:=by
 obtain⟨o,ho,hc,hd⟩:=id hit
 obtain⟨ol,hol,_,nl,hdl⟩:=ht
 unfold Builtin.SmallTypes.nextOf
 refine JZ (wpAny_callSpecial?_slot (name:=Str.ofString "__next__") hit.typeIs slot_tupleiter_next (Z6 slot_tupleiter_next hit.typeIs entry_tupleiter_next ?_ (args_tupleiter_next _)))
 show wpAny (!3) _ (field (.ref it) 0 >>=_) _ _ s;refine JZ (wpAny_field ho hd (x:=.ref t) rfl ?_)
 show wpAny (!3) _ (if (Value.ref t==Value.none)=true then _ else _) _ _ s;rw[JV (λz:(Value.ref t==Value.none)=true=>K5 z)]
 show wpAny (!3) _ (field (.ref it) 1 >>=_) _ _ s;refine JZ (wpAny_field ho hd (x:=.int i 0) rfl ?_)
 show wpAny (!3) _ (seqItems? (.ref t) >>=_) _ _ s;refine JZ (wpAny_seqItems hol hdl ?_)
 simp only[Ku,hx];refine JZ (wpAny_rule (JZ (wpAny_setField ho hd (by simp) ?_)))
 show wpAny (!3) _ (newExc (.type "StopIteration") [] >>=_) _ _ _
 refine JZ ?_;simp only[newExc,newTuple];refine JZ (Z5 ?_ (by size_fits));refine JZ (m:=firstArgMember _ _) (wpAny_of_eq (a:=Value.none) (by first | rfl | (simp only[firstArgMember];rfl)) ?_);refine Z5 ?_ (by size_fits)
 simp only[raiseNew];refine JZ (wpAny_handled ?_);(first | rw[show A.in1.handled=none from hh] | rw[hh])
 refine JZ (JW (wpAny_throw ?_));exact hE _ _ (((Heap.SameBut.update ..).extBut.push _).push _) ⟨_,Ky _ rfl,rfl⟩
end
theorem sG {prog:Program}{w:World}{A:Around}(hh:A.handled=none)(it l:Addr)(hne:l≠it)(items:Array Value):Draws prog w A it [it,l] items.size (λi v=>items[i]? =some v) (λi h=>IsTupIter h it l i/\IsTup h l items) where
 live:=λ_ _ st=>let ⟨o,ho,_⟩:=st.1;⟨o,ho⟩
 frame:=λ_ _ _ st hk=>⟨let ⟨o,ho,r⟩:=st.1;⟨o,hk it (by simp) o ho,r⟩,let ⟨o,ho,r⟩:=st.2;⟨o,hk l (by simp) o ho,r⟩⟩
 item:=λi s Q E hi st hQ=>by
  refine E2 st.1 st.2 (x:=items[i]) (by simp[hi]) λh' hit' hs'=>hQ _ h' s.toks (by simp[hi]) ⟨hit',st.2.extBut hs'.extBut hne⟩ hs'
 done:=λs Q E st hE=>E3 hh st.1 st.2 (by simp) hE
open AutoSeq1 (wpAny_loadPart') in
theorem E4 (l:Addr)(items:Array Value)(n:Nat)(dct:Option Addr)(sl:Array (Option Value)) :
  Meets (Builtin.«enumerate.__new__» ⟨[.type "enumerate",.ref l],[]⟩) (λ_ R s=>s.heap.get? l=some {cls:=.type "tuple",dict:=dct,data:=.seq items n,slots:=sl}/\
   R (.ok (.ret (.ref (s.heap.push {cls:=.type "tuple_iterator",data:=.fields #[.ref l,.int 0 0]}).objs.size)))
    {s with heap:=(s.heap.push {cls:=.type "tuple_iterator",data:=.fields #[.ref l,.int 0 0]}).push {cls:=.type "enumerate",data:=.fields #[.none,.bool false,.ref s.heap.objs.size,rawInt 0,.none,.none]}}) :=
 .of_wp λprog w A R s h=>by
  obtain⟨hp,g,d,tk,os⟩:=s;obtain⟨hl,h⟩:=h;have hsub:=sub_enumerate
  have hL:IsTup (Shared.heap ⟨hp,g,d,tk,os⟩) l items:=⟨_,hl,rfl,n,rfl⟩
  wp_walk using wpAny_loadPart' hl
  refine wpAny_stack_any λst=>JW ?_
  split
  ·rename_i c _ _ _ _ _
   cases(c==Value.type "enumerate") <;> (wp_walk using wpAny_loadPart' hl,iter_tuple hL;exact⟨_,rfl,h⟩)
  ·(wp_walk using wpAny_loadPart' hl,iter_tuple hL;exact⟨_,rfl,h⟩)
section
variable {prog:Program}{w:World}{A:Around}{E:Z3}{s:Shared}
theorem AL {l:Addr}{items:Array Value}{Q:Z3}(hL:IsTup s.heap l items)
  (h:∀h',IsEnum h' (s.heap.objs.size+1) s.heap.objs.size 0 .none->IsTupIter h' s.heap.objs.size l 0->(∀b o,s.heap.get? b=some o->h'.get? b=some o)->Q (.ref (s.heap.objs.size+1)) {s with heap:=h'}) :
  wpAny (!3) A (call (.type "enumerate") [.ref l]) Q E s:=by
 obtain⟨⟨c,dct,dt,sl⟩,hl,hc,n,hd⟩:=hL
 replace hc:c= .type "tuple":=hc
 replace hd:dt= .seq items n:=hd
 subst hc hd
 refine callType_new F.called_enumerate (by decide) (F.typeCall_enumerate_1 _) (F.newCall_enumerate_1 _) (λobj=>F.args_object_init_2 obj _) F.entry_enumerate_new (E4 l items n dct sl) ⟨hl,?_⟩
 have hz:(s.heap.push {cls:=.type "tuple_iterator",data:=.fields #[.ref l,.int 0 0]}).objs.size=s.heap.objs.size+1:=XY ..
 show _/\_;rw[hz]
 have he:IsEnum ((s.heap.push {cls:=.type "tuple_iterator",data:=.fields #[.ref l,.int 0 0]}).push {cls:=.type "enumerate",data:=.fields #[.none,.bool false,.ref s.heap.objs.size,rawInt 0,.none,.none]}) (s.heap.objs.size+1) s.heap.objs.size 0 .none:=by
  have:=Ky (s.heap.push {cls:=.type "tuple_iterator",data:=.fields #[.ref l,.int 0 0]}) (o:={cls:=.type "enumerate",data:=.fields #[.none,.bool false,.ref s.heap.objs.size,rawInt 0,.none,.none]}) rfl
  rw[hz] at this;exact this
 exact⟨⟨_,he,rfl⟩,h _ he ⟨_,K7 _ (Ky _ rfl),rfl,rfl⟩ λb o x=>K7 _ (K7 _ x)⟩
theorem kK {e it:Addr}{i:Int}{old:Value}{Q:Z3}(he:IsEnum s.heap e it i old)(h:Q (.ref e) s):wpAny (!3) A (pyIter (.ref e)) Q E s:=by
 have hT:s.TypeIs (.ref e) "enumerate":=⟨_,he,rfl⟩
 refine wpAny_pyIter_slot hT F.slot_enumerate_iter (Z6 F.slot_enumerate_iter hT F.entry_enumerate_iter ?_ (F.args_enumerate_iter_1 _))
 show wpAny (!3) _ (ret (.ref e)) _ _ s
 exact JW ⟨_,rfl,"enumerate",_,hT,F.slot_enumerate_next.lookup,h⟩
end
end L2
namespace L2
open PySem PySem.Spec PyProof.Rows Y
section
variable {X:Cx}{pins:List (Addr×Obj)}{σ:St}{H:Hp}{s:Shared}{h':Heap}
theorem Inv.ux {fp:List Addr}{a:Addr}{o:HO}{t':Nat}(I:Inv X pins σ H s)(ha:s.heap.objs.size<=a)(k:∀b u,b∉fp->s.heap.get? b=some u->h'.get? b=some u)(hf:∀b∈fp,mV X pins H b)
  (new:dH X.prog X.w (upd H a o) h' a o):Inv X pins σ (upd H a o) {s with heap:=h',toks:=t'}:=by
 have hn:H a=none:=I.hok.fresh ha
 have OX:∀b u,s.heap.get? b=some u->b≠a:=λb u e z=>by rw[z] at e;exact absurd (Kv e) (Nat.not_lt.mpr ha)
 have N7:∀b u,H b=some u->b∉fp:=λb u e z=>by rw[(hf b z).1] at e;cases e
 have hna:∀b u,H b=some u->b≠a:=λb u e z=>by rw[z,hn] at e;cases e
 refine I.step (g':=s.gens) (d':=s.drawn) (ch:=fp) (λb hb=> ?_) (λb u _ _ hc e _=>k b u hc e) (λb u _ _ hc e _=>⟨u.slots,k b u hc e⟩) (λb u _ e n=> ?_)
  (λb u hc e=>⟨u,k b u hc e⟩) (λb xs e=> ?_) (λb ob u e=> ?_) (λb ps e=>⟨#[],?_⟩) (λm hm=> ?_) (λb u e=> ?_) I.bare
 ·obtain⟨_,f1,_,f3,f4,f5⟩:=hf b hb
  exact⟨f3,f1,f4,f5⟩
 ·rw[aO (OX b u e)];exact n
 ·rw[aO (hna b _ e)];exact e
 ·rw[aO (hna b _ e)];exact e
 ·rw[aO (hna b _ e),e];simp
 ·obtain⟨ob,es,ep,ho,r⟩:=hm
  exact⟨ob,es,ep,k _ ob (λz=>(hf _ z).2.1 rfl) ho,r⟩
 ·by_cases hb:b=a
  ·subst hb
   rw[aw] at e
   cases e
   exact new
  ·rw[aO hb] at e
   refine(I.hok b u e).stay (λc v hc q=>k c v ?_ q) (λc q=> ?_) λc xs q=> ?_
   ·rcases hc with z | z
    ·rw[z];exact N7 b u e
    ·exact N7 c _ z
   ·rw[aO (hna c _ q)];exact q
   ·rw[aO (hna c _ q)];exact q
end
def Ite (K:Frag)(a:Addr)(n:Nat):It :=
 ⟨λi H=>i < n/\∃xs,dJ K H a xs/\xs.length=n,λi H x H'=>∃t y,x= .ref t/\H t=none/\H'=upd H t (.tup [.int (i:Int),y])/\∀xs,dJ K H a xs->xs[i]? =some y,λi H=>n<=i/\∃xs,dJ K H a xs/\xs.length=n⟩
theorem AM {P:Program}{w:World}{K:Frag}{elts:List Expr}{x1:Nat}{tp:Pos}(a e it:Addr)(n:Nat)(hei:e≠it) :
  Turn P w K (.Tuple elts x1 tp) (Ite K a n) [e,it] e (λi h=>i<=n/\(∃old,IsEnum h e it (i:Int) old)/\IsTupIter h it a i) where
 mem:=by simp
 obj:=λi h st b hb=>by
  obtain⟨_,⟨old,h1⟩,o,h2,_,h3⟩:=st
  rcases K0.mp hb with z | z
  ·rw[z];exact⟨_,h1,λv z=>by cases z⟩
  ·rw[K6.mp z];exact⟨_,h2,λv z=>by rw[h3] at z;cases z⟩
 keep:=λi h h' st k=>by
  obtain⟨h0,⟨old,h1⟩,o,h2,h3⟩:=st
  exact⟨h0,⟨old,k e (by simp) _ h1⟩,o,k it (by simp) _ h2,h3⟩
 item:=by
  intro X hP hw hK hc i pins s σ H E I hf st hg;subst hP hw hK
  obtain⟨hi,xs,hq,hl⟩:=hg
  obtain⟨its,rv,pt,hz⟩:=I.tuple hq
  obtain⟨h0,⟨old,he⟩,hit⟩:=st
  have hlen:=rv.length
  obtain⟨ot,hot,hct,_⟩:=id pt
  have Nt:e≠a:=λz=>by
   rw[z] at he
   have:=Option.some.inj (he.symm.trans hot)
   rw[←this] at hct;simp at hct
  have hai:a≠it:=λz=>by
   obtain⟨oi,hoi,Cu,_⟩:=hit
   rw[z] at hot
   have:=Option.some.inj (hot.symm.trans hoi)
   rw[←this,hct] at Cu;simp at Cu
  have hsz:its.toArray.size=n:=by rw[Kj];omega
  have D:=sG (prog:=X.prog) (w:=X.w) (A:=X.A.in1) (I.ok.hd hc) it a hai its.toArray
  rw[hsz] at D
  refine wpAny_pyNext_enum_itemD (fp:=[it,a]) D he ⟨hit,pt⟩ hi hei (by simp[hei,Nt]) λx h1 tk hx heo hst ht hz1 hk=> ?_
  refine⟨_,rfl,wpAny_letOwnedTupleGo_enum heo λh2 he2 hs2=> ?_⟩
  have hx':its[i]? =some x:=by simpa using hx
  obtain⟨y,hy,ry⟩:∃y,xs[i]? =some y/\RelV y x:=by
   have hy:xs[i]? =some (xs[i]'(!1)):=K3 _
   obtain⟨u,hu,ru⟩:=rv.get hy
   rw[hx'] at hu;cases hu
   exact⟨_,hy,ru⟩
  have hel:e < s.heap.objs.size:=Kv he
  have AD:h2.get? s.heap.objs.size=some {cls:=.type "tuple",data:=.seq #[.int (i:Int) tk,x]}:=(hs2.2 _ (Uv hel)).trans ht
  have hk2:∀b o,b∉[e,it]->s.heap.get? b=some o->h2.get? b=some o:=λb o hb hbo=>by
   have hbe:b≠e:=λz=>hb (by simp[z])
   have hbi:b≠it:=λz=>hb (by simp[z])
   exact(hs2.2 b hbe).trans (hk b o hbe hbi hbo)
  refine⟨.ref s.heap.objs.size,upd H s.heap.objs.size (.tup [.int (i:Int),y]),I.ux (fp:=[e,it]) (t':=tk+1) (K2 _) hk2 hf ⟨show 2<=sizeLine by decide,[.int (i:Int) tk,x],.cons ⟨tk,rfl⟩ (.cons ry .nil),_,AD,rfl,_,rfl⟩,rfl,
   ⟨s.heap.objs.size,y,rfl,I.fresh,rfl,λys hy'=>by rw[I.mU hy' hq];exact hy⟩,⟨by omega,⟨x,by simpa using he2⟩,?_⟩,λb hb=> ?_⟩
  ·obtain⟨oi,hoi,r⟩:=hst.1
   exact⟨oi,(hs2.2 it (Ne.symm hei)).trans hoi,r⟩
  ·have hb0:=(hf b hb).1
   have hbn:b≠s.heap.objs.size:=λz=>by
    rcases K0.mp hb with q | q
    ·rw[←q,z] at hel;exact absurd hel (U3 _)
    ·obtain⟨oi,hoi,_⟩:=hit
     rw[←K6.mp q,z] at hoi
     exact absurd (Kv hoi) (U3 _)
   rw[aO hbn];exact hb0
 done:=by
  intro X hP hw hK hc i pins s σ H E I hf st hg;subst hP hw hK
  obtain⟨h0,⟨old,he⟩,hit⟩:=st
  obtain⟨hg,xs,hq,hl⟩:=hg
  have hi:i=n:=Jz h0 hg
  subst hi
  obtain⟨its,rv,pt,hz⟩:=I.tuple hq
  have hlen:=rv.length
  obtain⟨ot,hot,hct,_⟩:=id pt
  have hai:a≠it:=λz=>by
   obtain⟨oi,hoi,Cu,_⟩:=hit
   rw[z] at hot
   have:=Option.some.inj (hot.symm.trans hoi)
   rw[←this,hct] at Cu;simp at Cu
  have hsz:its.toArray.size=i:=by rw[Kj];omega
  have D:=sG (prog:=X.prog) (w:=X.w) (A:=X.A.in1) (I.ok.hd hc) it a hai its.toArray
  rw[hsz] at D
  obtain⟨f0,f1,f2,f3,f4,f5⟩:=hf it (by simp)
  exact wpAny_pyNext_enum_endD (fp:=[it,a]) D he ⟨hit,pt⟩ λh' eb=>⟨rfl,I.turned (t':=s.toks) (λb o hb q=>eb b o hb q) f0 f1 f3 f4 f5⟩
 self:=λA i s Q E st h=>by
  obtain⟨_,⟨old,he⟩,_⟩:=st
  exact kK he h
section
variable {X:Cx}{K:Frag}{Ew:Str->Hp->Prop}{pos p tp:Pos}{elts:List Expr}{x1:Nat}{a:Expr}{ta:TE}{fa:EF}
def Nu (K:Frag)(ta:TE):TI:=λσ H R=>ta σ H λx H1=>∃q xs,x= .ref q/\dJ K H1 q xs/\R (Ite K q xs.length) H1
theorem E5 (hg:Gl X "enumerate")(hm:X.mg "enumerate" =none)(ha:PE X a ta)(hs:starEach [a] X.env=[(false,eval a X.env)]:=by rfl):PI X (.Tuple elts x1 tp) (.Call (.Name "enumerate" p) [a] [] pos) (Nu X.K ta):=by
 intro pins s σ H R I h
 refine Call_ (fK I hg hm PyProof.Rows.boot_enumerate (PyProof.Rows.callWith_type1 (cW (bx ha cZ hs pos pins s σ H (λvs H1=>match vs with
  | [x]=>∃q xs,x= .ref q/\dJ X.K H1 q xs/\R (Ite X.K q xs.length) H1
  | _=>False) I h) λus s1 ⟨vs,H1,I1,r1,q1⟩=> ?_) hs rfl))
 match vs,r1,q1 with
 | [x],r1,q1=>
  obtain⟨q,xs,rfl,hq,fin⟩:=q1
  obtain⟨u,rfl,ru⟩:=r1.one
  cases ru
  obtain⟨its,rv,pl,hz⟩:=I1.tuple hq
  refine AL pl λh' he hit hk=> ?_
  have I2:Inv X pins σ H1 {s1 with heap:=h',toks:=s1.toks}:=I1.kept (t':=s1.toks) hk
  refine kK he ⟨s1.heap.objs.size+1,[s1.heap.objs.size+1,s1.heap.objs.size],_,_,H1,rfl,I2,AM q (s1.heap.objs.size+1) s1.heap.objs.size xs.length (Uv (Uj _)),⟨Xy _,⟨.none,he⟩,hit⟩,λb hb=> ?_,fin⟩
  rcases K0.mp hb with z | z
  ·rw[z];exact I1.n_ (Y5 _) (I1.hok.fresh (Y5 _))
  ·rw[K6.mp z];exact I1.n_ (K2 _) I1.fresh
 | [],r1,q1=>exact False.elim q1
 | _ :: _ :: _,r1,q1=>exact False.elim q1
theorem jg:∀(n:Nat) (ds:List PyData) (i:Nat),(dI n ds)[i]? =(ds[i]?).map λd=>PyData.tuple [.int ((n+i:Nat):Int),d]
 | n,[],i=>by simp[dI]
 | n,d :: ds,0=>by simp[dI]
 | n,d :: ds,i+1=>by
  rw[dI,J1,J1,jg (n+1) ds i]
  rw[show n+1+i=n+(i+1) by omega]
theorem cG:∀(n:Nat) (ds:List PyData),(dI n ds).length=ds.length
 | n,[]=>rfl
 | n,d :: ds=>by rw[dI,Kz,cG,Kz]
theorem AN {B:Hp}{a:Addr}{vs:List V}{ds:List PyData}(h:dJ K B a vs)(t:ar K B ds vs):t8 K B (Ite K a vs.length) (dI 0 ds) where
 go:=λi H hi s=>by
  have hl:=ao t
  rw[cG] at hi
  exact⟨by omega,vs,s.k7 h,rfl⟩
 yl:=λi H x H' hi s y=>by
  obtain⟨tt,y,rfl,hn,rfl,hy⟩:=y
  have hl:=ao t
  rw[cG] at hi
  obtain⟨d,e,hd⟩:=g_ t (hy vs (s.k7 h))
  refine⟨Same.upd hn,.tuple [.int (i:Int),d],by rw[jg,e,Nat.zero_add];rfl,λB2 s2 hb=> ?_⟩
  exact oW (dJ.of (hb tt _ hn aw)) (aV bC (aV (aJ.same s2 _ _ hd) aY))
 stop:=λH s=>by
  refine⟨?_,vs,s.k7 h,rfl⟩
  rw[cG,ao t];exact K2 _
theorem zB (hg:Gl X "enumerate")(hm:X.mg "enumerate" =none)(ha:DE X K Ew a fa)(hK:X.K=K:=by rfl)(hs:starEach [a] X.env=[(false,eval a X.env)]:=by rfl):DI X K Ew (.Tuple elts x1 tp) (.Call (.Name "enumerate" p) [a] [] pos) (tW fa) :=
 (E5 hg hm ha hs).imp λσ H R q=>lU (g:=λx _=>EE x.1 x.2) q λB φ Γ k d v H1 r s av q=>by
  replace q:vG K Ew B H Γ σ R (EE k d):=q
  cases d <;> try (exact False.elim q)
  rename_i ds
  obtain⟨B1,ψ,s1,r1,hd⟩:=r.j0 av
  obtain⟨a,vs,rfl,h1,h2⟩:=aE hd
  rw[hK]
  exact⟨a,vs,rfl,r1.bs.k7 h1,q _ H1 B1 ψ s s1 r1 (AN h1 h2)⟩
end
end L2
namespace Y
open PySem
def Iy (k:Kd):PyData->M (Kd×List PyData)
 | .list ds=>ah (k,dI 0 ds)
 | _=>none
def jH (e:EF):IF:=λΓ=>ap (e Γ) λx=>Iy x.1 x.2
end Y
namespace L2
open PySem PySem.Spec PyProof.Rows Y
open AutoSeq1 (wpAny_loadPart') in
theorem Cv (l:Addr)(items:Array Value)(n:Nat)(dct:Option Addr)(sl:Array (Option Value)) :
  Meets (Builtin.«enumerate.__new__» ⟨[.type "enumerate",.ref l],[]⟩) (λ_ R s=>s.heap.get? l=some {cls:=.type "list",dict:=dct,data:=.seq items n,slots:=sl}/\
   R (.ok (.ret (.ref (s.heap.push {cls:=.type "list_iterator",data:=.fields #[.ref l,.int 0 0]}).objs.size)))
    {s with heap:=(s.heap.push {cls:=.type "list_iterator",data:=.fields #[.ref l,.int 0 0]}).push {cls:=.type "enumerate",data:=.fields #[.none,.bool false,.ref s.heap.objs.size,rawInt 0,.none,.none]}}) :=
 .of_wp λprog w A R s h=>by
  obtain⟨hp,g,d,tk,os⟩:=s;obtain⟨hl,h⟩:=h;have hsub:=sub_enumerate
  have hL:Heap.IsList (Shared.heap ⟨hp,g,d,tk,os⟩) l items:=⟨_,hl,rfl,n,rfl⟩
  wp_walk using wpAny_loadPart' hl
  refine wpAny_stack_any λst=>JW ?_
  split
  ·rename_i c _ _ _ _ _
   cases(c==Value.type "enumerate") <;> (wp_walk using wpAny_loadPart' hl,wpAny_pyIter_list hL;exact⟨_,rfl,h⟩)
  ·(wp_walk using wpAny_loadPart' hl,wpAny_pyIter_list hL;exact⟨_,rfl,h⟩)
section
variable {prog:Program}{w:World}{A:Around}{E:Z3}{s:Shared}
theorem yd {l:Addr}{items:Array Value}{Q:Z3}(hL:s.heap.IsList l items)
  (h:∀h',IsEnum h' (s.heap.objs.size+1) s.heap.objs.size 0 .none->h'.IsListIter s.heap.objs.size l 0->(∀b o,s.heap.get? b=some o->h'.get? b=some o)->Q (.ref (s.heap.objs.size+1)) {s with heap:=h'}) :
  wpAny (!3) A (call (.type "enumerate") [.ref l]) Q E s:=by
 obtain⟨⟨c,dct,dt,sl⟩,hl,hc,n,hd⟩:=hL
 replace hc:c= .type "list":=hc
 replace hd:dt= .seq items n:=hd
 subst hc hd
 refine callType_new F.called_enumerate (by decide) (F.typeCall_enumerate_1 _) (F.newCall_enumerate_1 _) (λobj=>F.args_object_init_2 obj _) F.entry_enumerate_new (Cv l items n dct sl) ⟨hl,?_⟩
 have hz:(s.heap.push {cls:=.type "list_iterator",data:=.fields #[.ref l,.int 0 0]}).objs.size=s.heap.objs.size+1:=XY ..
 show _/\_;rw[hz]
 have he:IsEnum ((s.heap.push {cls:=.type "list_iterator",data:=.fields #[.ref l,.int 0 0]}).push {cls:=.type "enumerate",data:=.fields #[.none,.bool false,.ref s.heap.objs.size,rawInt 0,.none,.none]}) (s.heap.objs.size+1) s.heap.objs.size 0 .none:=by
  have:=Ky (s.heap.push {cls:=.type "list_iterator",data:=.fields #[.ref l,.int 0 0]}) (o:={cls:=.type "enumerate",data:=.fields #[.none,.bool false,.ref s.heap.objs.size,rawInt 0,.none,.none]}) rfl
  rw[hz] at this;exact this
 exact⟨⟨_,he,rfl⟩,h _ he ⟨_,K7 _ (Ky _ rfl),rfl,rfl⟩ λb o x=>K7 _ (K7 _ x)⟩
end
def E6 (K:Frag)(a:Addr)(n:Nat):It :=
 ⟨λi H=>i < n/\∃xs,fV K H a xs/\xs.length=n,λi H x H'=>∃t y,x= .ref t/\H t=none/\H'=upd H t (.tup [.int (i:Int),y])/\∀xs,fV K H a xs->xs[i]? =some y,λi H=>n<=i/\∃xs,fV K H a xs/\xs.length=n⟩
theorem ye {P:Program}{w:World}{K:Frag}{elts:List Expr}{x1:Nat}{tp:Pos}(a e it:Addr)(n:Nat)(hei:e≠it) :
  Turn P w K (.Tuple elts x1 tp) (E6 K a n) [e,it] e (λi h=>i<=n/\(∃old,IsEnum h e it (i:Int) old)/\h.IsListIter it a i) where
 mem:=by simp
 obj:=λi h st b hb=>by
  obtain⟨_,⟨old,h1⟩,o,h2,_,h3⟩:=st
  rcases K0.mp hb with z | z
  ·rw[z];exact⟨_,h1,λv z=>by cases z⟩
  ·rw[K6.mp z];exact⟨_,h2,λv z=>by rw[h3] at z;cases z⟩
 keep:=λi h h' st k=>by
  obtain⟨h0,⟨old,h1⟩,o,h2,h3⟩:=st
  exact⟨h0,⟨old,k e (by simp) _ h1⟩,o,k it (by simp) _ h2,h3⟩
 item:=by
  intro X hP hw hK hc i pins s σ H E I hf st hg;subst hP hw hK
  obtain⟨hi,xs,hq,hl⟩:=hg
  obtain⟨its,rv,Nv,hz⟩:=I.list hq
  have pt:=Nv.isList
  obtain⟨h0,⟨old,he⟩,hit⟩:=st
  have hlen:=rv.length
  obtain⟨ot,hot,hct,_⟩:=id pt
  have Nt:e≠a:=λz=>by
   rw[z] at he
   have:=Option.some.inj (he.symm.trans hot)
   rw[←this] at hct;simp at hct
  have hai:a≠it:=λz=>by
   obtain⟨oi,hoi,Cu,_⟩:=hit
   rw[z] at hot
   have:=Option.some.inj (hot.symm.trans hoi)
   rw[←this,hct] at Cu;simp at Cu
  have hsz:its.toArray.size=n:=by rw[Kj];omega
  have D:=Draws.list (prog:=X.prog) (w:=X.w) (A:=X.A.in1) (I.ok.hd hc) it a hai its.toArray
  rw[hsz] at D
  refine wpAny_pyNext_enum_itemD (fp:=[it,a]) D he ⟨hit,pt⟩ hi hei (by simp[hei,Nt]) λx h1 tk hx heo hst ht hz1 hk=> ?_
  refine⟨_,rfl,wpAny_letOwnedTupleGo_enum heo λh2 he2 hs2=> ?_⟩
  have hx':its[i]? =some x:=by simpa using hx
  obtain⟨y,hy,ry⟩:∃y,xs[i]? =some y/\RelV y x:=by
   have hy:xs[i]? =some (xs[i]'(!1)):=K3 _
   obtain⟨u,hu,ru⟩:=rv.get hy
   rw[hx'] at hu;cases hu
   exact⟨_,hy,ru⟩
  have hel:e < s.heap.objs.size:=Kv he
  have AD:h2.get? s.heap.objs.size=some {cls:=.type "tuple",data:=.seq #[.int (i:Int) tk,x]}:=(hs2.2 _ (Uv hel)).trans ht
  have hk2:∀b o,b∉[e,it]->s.heap.get? b=some o->h2.get? b=some o:=λb o hb hbo=>by
   have hbe:b≠e:=λz=>hb (by simp[z])
   have hbi:b≠it:=λz=>hb (by simp[z])
   exact(hs2.2 b hbe).trans (hk b o hbe hbi hbo)
  refine⟨.ref s.heap.objs.size,upd H s.heap.objs.size (.tup [.int (i:Int),y]),I.ux (fp:=[e,it]) (t':=tk+1) (K2 _) hk2 hf ⟨show 2<=sizeLine by decide,[.int (i:Int) tk,x],.cons ⟨tk,rfl⟩ (.cons ry .nil),_,AD,rfl,_,rfl⟩,rfl,
   ⟨s.heap.objs.size,y,rfl,I.fresh,rfl,λys hy'=>by rw[I.vc hy' hq];exact hy⟩,⟨by omega,⟨x,by simpa using he2⟩,?_⟩,λb hb=> ?_⟩
  ·obtain⟨oi,hoi,r⟩:=hst.1
   exact⟨oi,(hs2.2 it (Ne.symm hei)).trans hoi,r⟩
  ·have hb0:=(hf b hb).1
   have hbn:b≠s.heap.objs.size:=λz=>by
    rcases K0.mp hb with q | q
    ·rw[←q,z] at hel;exact absurd hel (U3 _)
    ·obtain⟨oi,hoi,_⟩:=hit
     rw[←K6.mp q,z] at hoi
     exact absurd (Kv hoi) (U3 _)
   rw[aO hbn];exact hb0
 done:=by
  intro X hP hw hK hc i pins s σ H E I hf st hg;subst hP hw hK
  obtain⟨h0,⟨old,he⟩,hit⟩:=st
  obtain⟨hg,xs,hq,hl⟩:=hg
  have hi:i=n:=Jz h0 hg
  subst hi
  obtain⟨its,rv,Nv,hz⟩:=I.list hq
  have pt:=Nv.isList
  have hlen:=rv.length
  obtain⟨ot,hot,hct,_⟩:=id pt
  have hai:a≠it:=λz=>by
   obtain⟨oi,hoi,Cu,_⟩:=hit
   rw[z] at hot
   have:=Option.some.inj (hot.symm.trans hoi)
   rw[←this,hct] at Cu;simp at Cu
  have hsz:its.toArray.size=i:=by rw[Kj];omega
  have D:=Draws.list (prog:=X.prog) (w:=X.w) (A:=X.A.in1) (I.ok.hd hc) it a hai its.toArray
  rw[hsz] at D
  obtain⟨f0,f1,f2,f3,f4,f5⟩:=hf it (by simp)
  exact wpAny_pyNext_enum_endD (fp:=[it,a]) D he ⟨hit,pt⟩ λh' eb=>⟨rfl,I.turned (t':=s.toks) (λb o hb q=>eb b o hb q) f0 f1 f3 f4 f5⟩
 self:=λA i s Q E st h=>by
  obtain⟨_,⟨old,he⟩,_⟩:=st
  exact kK he h
section
variable {X:Cx}{K:Frag}{Ew:Str->Hp->Prop}{pos p tp:Pos}{elts:List Expr}{x1:Nat}{a:Expr}{ta:TE}{fa:EF}
def Ly (K:Frag)(ta:TE):TI:=λσ H R=>ta σ H λx H1=>∃q xs,x= .ref q/\fV K H1 q xs/\R (E6 K q xs.length) H1
theorem Cw (hg:Gl X "enumerate")(hm:X.mg "enumerate" =none)(ha:PE X a ta)(hs:starEach [a] X.env=[(false,eval a X.env)]:=by rfl):PI X (.Tuple elts x1 tp) (.Call (.Name "enumerate" p) [a] [] pos) (Ly X.K ta):=by
 intro pins s σ H R I h
 refine Call_ (fK I hg hm PyProof.Rows.boot_enumerate (PyProof.Rows.callWith_type1 (cW (bx ha cZ hs pos pins s σ H (λvs H1=>match vs with
  | [x]=>∃q xs,x= .ref q/\fV X.K H1 q xs/\R (E6 X.K q xs.length) H1
  | _=>False) I h) λus s1 ⟨vs,H1,I1,r1,q1⟩=> ?_) hs rfl))
 match vs,r1,q1 with
 | [x],r1,q1=>
  obtain⟨q,xs,rfl,hq,fin⟩:=q1
  obtain⟨u,rfl,ru⟩:=r1.one
  cases ru
  obtain⟨its,rv,OY,hz⟩:=I1.list hq
  have pl:=OY.isList
  refine yd pl λh' he hit hk=> ?_
  have I2:Inv X pins σ H1 {s1 with heap:=h',toks:=s1.toks}:=I1.kept (t':=s1.toks) hk
  refine kK he ⟨s1.heap.objs.size+1,[s1.heap.objs.size+1,s1.heap.objs.size],_,_,H1,rfl,I2,ye q (s1.heap.objs.size+1) s1.heap.objs.size xs.length (Uv (Uj _)),⟨Xy _,⟨.none,he⟩,hit⟩,λb hb=> ?_,fin⟩
  rcases K0.mp hb with z | z
  ·rw[z];exact I1.n_ (Y5 _) (I1.hok.fresh (Y5 _))
  ·rw[K6.mp z];exact I1.n_ (K2 _) I1.fresh
 | [],r1,q1=>exact False.elim q1
 | _ :: _ :: _,r1,q1=>exact False.elim q1
theorem yf {B:Hp}{a:Addr}{vs:List V}{ds:List PyData}(h:fV K B a vs)(t:ar K B ds vs):t8 K B (E6 K a vs.length) (dI 0 ds) where
 go:=λi H hi s=>by
  have hl:=ao t
  rw[cG] at hi
  exact⟨by omega,vs,s.seq h,rfl⟩
 yl:=λi H x H' hi s y=>by
  obtain⟨tt,y,rfl,hn,rfl,hy⟩:=y
  have hl:=ao t
  rw[cG] at hi
  obtain⟨d,e,hd⟩:=g_ t (hy vs (s.seq h))
  refine⟨Same.upd hn,.tuple [.int (i:Int),d],by rw[jg,e,Nat.zero_add];rfl,λB2 s2 hb=> ?_⟩
  exact oW (dJ.of (hb tt _ hn aw)) (aV bC (aV (aJ.same s2 _ _ hd) aY))
 stop:=λH s=>by
  refine⟨?_,vs,s.seq h,rfl⟩
  rw[cG,ao t];exact K2 _
theorem p6 (hg:Gl X "enumerate")(hm:X.mg "enumerate" =none)(ha:DE X K Ew a fa)(hK:X.K=K:=by rfl)(hs:starEach [a] X.env=[(false,eval a X.env)]:=by rfl):DI X K Ew (.Tuple elts x1 tp) (.Call (.Name "enumerate" p) [a] [] pos) (jH fa) :=
 (Cw hg hm ha hs).imp λσ H R q=>lU (g:=λx _=>Iy x.1 x.2) q λB φ Γ k d v H1 r s av q=>by
  replace q:vG K Ew B H Γ σ R (Iy k d):=q
  cases d <;> try (exact False.elim q)
  rename_i ds
  obtain⟨B1,ψ,s1,r1,hd⟩:=r.j0 av
  obtain⟨a,vs,rfl,h1,h2⟩:=aZ hd
  rw[hK]
  exact⟨a,vs,rfl,r1.bs.seq h1,q _ H1 B1 ψ s s1 r1 (yf h1 h2)⟩
end
def Iz (a:Addr)(ks:EG):It :=
 ⟨λi H=>i < ks.1.length/\Rd H a (.dct a ks),λi H x H'=>∃t k kv v,x= .ref t/\H t=none/\H'=upd H t (.tup [kv,v])/\ks.1[i]? =some (k,kv,v),λi H=>ks.1.length<=i/\Rd H a (.dct a ks)⟩
theorem p7 {α β:Type}{F:α->β->Prop}:∀{l:List α} {m:List β} {i:Nat} {x:α},Paired F l m->l[i]? =some x->∃y,m[i]? =some y/\F x y
 | _,_,_,_,.nil,h=>by simp at h
 | _,_,0,x,.cons q r,h=>by simp at h;subst h;exact⟨_,rfl,q⟩
 | _,_,i+1,x,.cons q r,h=>by
  obtain⟨y,h1,h2⟩:=p7 (i:=i) r (by simpa using h)
  exact⟨y,by simpa using h1,h2⟩
theorem yg {P:Program}{w:World}{K:Frag}{elts:List Expr}{x1:Nat}{tp:Pos}(a e:Addr)(ks:EG) :
  Turn P w K (.Tuple elts x1 tp) (Iz a ks) [e] e (λi h=>i<=ks.1.length/\∃ok ov,IsItemIter h e a i ks.1.length ks.2 ok ov) where
 mem:=by simp
 obj:=λi h st b hb=>by
  obtain⟨_,ok,ov,h1⟩:=st
  rw[K6.mp hb];exact⟨_,h1,λv z=>by cases z⟩
 keep:=λi h h' st k=>by
  obtain⟨h0,ok,ov,h1⟩:=st
  exact⟨h0,ok,ov,k e (by simp) _ h1⟩
 item:=by
  intro X hP hw hK hc i pins s σ H E I hf st hg;subst hP hw hK
  obtain⟨hi,hr⟩:=hg
  obtain⟨h0,ok,ov,he⟩:=st
  obtain⟨⟨hl,hs,hk,hn,o,es,ho,hxd,hd,p⟩,_⟩:=(show dH X.prog X.w H s.heap a (.dct a ks) from hr.ok I.hok)
  have hsz:es.size=ks.1.length:=by
   have:=Paired.len p
   simpa using this.symm
  obtain⟨en,hen,hh,rk,rv⟩:=p7 p (K3 hi)
  have Nw:es[i]? =some en:=by simpa using hen
  rw[←hsz] at he
  refine AK he ho hd Nw λh1 heo ht hz1 hk1=> ?_
  refine⟨_,rfl,wpAny_letOwnedTupleGo_items heo λh2 he2 hs2=> ?_⟩
  have hel:e < s.heap.objs.size:=Kv he
  have AD:h2.get? s.heap.objs.size=some {cls:=.type "tuple",data:=.seq #[en.key,en.val]}:=(hs2.2 _ (Uv hel)).trans ht
  have hk2:∀b o,b∉[e]->s.heap.get? b=some o->h2.get? b=some o:=λb o hb hbo=>by
   have hbe:b≠e:=λz=>hb (by simp[z])
   exact(hs2.2 b hbe).trans (hk1 b o hbe hbo)
  refine⟨.ref s.heap.objs.size,upd H s.heap.objs.size (.tup [ks.1[i].2.1,ks.1[i].2.2]),I.ux (fp:=[e]) (t':=s.toks) (K2 _) hk2 hf ⟨show 2<=sizeLine by decide,[en.key,en.val],.cons rk (.cons rv .nil),_,AD,rfl,_,rfl⟩,rfl,
   ⟨s.heap.objs.size,ks.1[i].1,ks.1[i].2.1,ks.1[i].2.2,rfl,I.fresh,rfl,K3 hi⟩,⟨by omega,en.key,en.val,?_⟩,λb hb=> ?_⟩
  ·rw[hsz] at he2;exact he2
  ·have hb0:=(hf b hb).1
   have hbn:b≠s.heap.objs.size:=λz=>by
    rw[←K6.mp hb,z] at hel;exact absurd hel (U3 _)
   rw[aO hbn];exact hb0
 done:=by
  intro X hP hw hK hc i pins s σ H E I hf st hg;subst hP hw hK
  obtain⟨h0,ok,ov,he⟩:=st
  obtain⟨hg,hr⟩:=hg
  have hi:i=ks.1.length:=Jz h0 hg
  subst hi
  obtain⟨⟨hl,hs,hk,hn,o,es,ho,hxd,hd,p⟩,_⟩:=(show dH X.prog X.w H s.heap a (.dct a ks) from hr.ok I.hok)
  have hsz:es.size=ks.1.length:=by
   have:=Paired.len p
   simpa using this.symm
  rw[←hsz] at he
  obtain⟨f0,f1,f2,f3,f4,f5⟩:=hf e (by simp)
  exact Ct (I.ok.hd hc) he ho hd λh' eb=>⟨rfl,I.turned (t':=s.toks) (λb o hb q=>eb b o hb q) f0 f1 f3 f4 f5⟩
 self:=λA i s Q E st h=>by
  obtain⟨_,ok,ov,he⟩:=st
  exact PySem.W.kcp_self he h
section
variable {X:Cx}{K:Frag}{Ew:Str->Hp->Prop}{pos p tp apos cpos:Pos}{elts:List Expr}{x1:Nat}{o:Expr}{to:TE}{fa:EF}
def IA (to:TE):TI:=λσ H R=>to σ H λx H1=>∃a ks,x= .ref a/\Rd H1 a (.dct a ks)/\R (Iz a ks) H1
theorem Cy (ho:PE X o to)(hbase:attributeBase o "items" X.env (eval o X.env)=eval o X.env:=by rfl)(hline:(apos.endLine==cpos.line)=true:=by rfl):PI X (.Tuple elts x1 tp) (.Call (.Attribute o "items" apos) [] [] cpos) (IA to):=by
 intro pins s σ H R I h
 refine wpAny_Call_method0_late hbase hline (cW (ho pins s σ H _ I h) λv s1 ⟨x,H1,I1,r1,q1⟩=> ?_)
 obtain⟨a,ks,rfl,hr,fin⟩:=q1
 obtain⟨h1,h2⟩:=Ci I1 r1 ⟨a,ks,rfl,hr⟩
 cases(show v=Value.ref a from r1)
 refine⟨"dict","dict.items",PySem.F.plainAttrs_dict,PySem.F.slot_dict_items,PySem.F.type_dict_items,h1,h2,Calls.callWith_builtin rfl (PySem.evalArgs_none ?_)⟩
 obtain⟨⟨hl,hs,hk,hn,od,es,hod,hxd,hd,p⟩,_⟩:=(show dH X.prog X.w H1 s1.heap a (.dct a ks) from hr.ok I1.hok)
 have hsz:es.size=ks.1.length:=by
  have:=Paired.len p
  simpa using this.symm
 refine AI hs h1 (AJ ⟨_,Ky _ rfl,rfl,rfl⟩ (K7 _ hod) hd ?_)
 have hz1:(s1.heap.push {cls:=.type "dict_items",data:=.fields #[.ref a]}).objs.size=s1.heap.objs.size+1:=XY ..
 refine⟨_,[(s1.heap.push {cls:=.type "dict_items",data:=.fields #[.ref a]}).objs.size],_,_,H1,rfl,I1.kept (t':=s1.toks) λb u e=>K7 _ (K7 _ e),yg a _ ks,⟨Xy _,.none,.none,?_⟩,λb hb=> ?_,fin⟩
 ·rw[←hsz];exact Ky _ rfl
 ·rw[K6.mp hb,hz1]
  exact I1.n_ (Y5 _) (I1.hok.fresh (Y5 _))
theorem v6 {H:Hp}:∀{kvs:k6} {ks:List (PyData×V×V)} {i:Nat} {k:PyData} {kv v:V},aT K H kvs ks->ks[i]? =some (k,kv,v)->∃d,kvs[i]? =some (k,d)/\aJ K H k kv/\aJ K H d v
 | [],ks,i,k,kv,v,h,e=>by simp only[aT] at h;subst h;simp at e
 | (k0,d0) :: r,ks,i,k,kv,v,h,e=>by
  simp only[aT] at h
  obtain⟨PM,v0,q,rfl,h1,h2,h3⟩:=h
  cases i with
  | zero=>simp at e;obtain⟨rfl,rfl,rfl⟩:=e;exact⟨d0,rfl,h1,h2⟩
  | succ i=>
   obtain⟨d,g1,g2,g3⟩:=v6 (i:=i) h3 (by simpa using e)
   exact⟨d,by simpa using g1,g2,g3⟩
theorem yh {B:Hp}{a:Addr}{ks:EG}{kvs:k6}(h:Rd B a (.dct a ks))(t:aT K B kvs ks.1):t8 K B (Iz a ks) (kvs.map λp=> .tuple [p.1,p.2]) where
 go:=λi H hi s=>by
  rw[K4] at hi
  exact⟨by rw[gy t];exact hi,s.rd h⟩
 yl:=λi H x H' hi s y=>by
  obtain⟨tt,k,kv,v,rfl,hn,rfl,hy⟩:=y
  obtain⟨d,e,hk,hd⟩:=v6 t hy
  refine⟨Same.upd hn,.tuple [k,d],by rw[KY,e];rfl,λB2 s2 hb=> ?_⟩
  exact oW (dJ.of (hb tt _ hn aw)) (aV (aJ.same s2 _ _ hk) (aV (aJ.same s2 _ _ hd) aY))
 stop:=λH s=>by
  refine⟨?_,s.rd h⟩
  rw[K4,gy t];exact K2 _
theorem Cz (ha:DE X K Ew o fa)(hK:X.K=K:=by rfl)(hbase:attributeBase o "items" X.env (eval o X.env)=eval o X.env:=by rfl)(hline:(apos.endLine==cpos.line)=true:=by rfl):DI X K Ew (.Tuple elts x1 tp) (.Call (.Attribute o "items" apos) [] [] cpos) (ut fa) :=
 (Cy ha hbase hline).imp λσ H R q=>lU (g:=λx _=>AB x.1 x.2) q λB φ Γ k d v H1 r s av q=>by
  replace q:vG K Ew B H Γ σ R (AB k d):=q
  cases d <;> try (exact False.elim q)
  rename_i kvs
  simp only[AB] at q
  split at q
  ·obtain⟨B1,ψ,s1,r1,hd⟩:=r.j0 av
   obtain⟨a,ks,rfl,h1,h2⟩:=b_ hd
   exact⟨a,ks,rfl,r1.bs.rd h1,q _ H1 B1 ψ s s1 r1 (yh h1 h2)⟩
  ·exact False.elim q
end
def L4 (m:Nat):List Nat:=[0,1,2,3].filter λk=>m.testBit k
def kb (led:Bool)(m:Nat):SetTable:={mask:=7,place:=(L4 m).toArray,dummies:=#[],finger:=0,led:=led,moves:=0,plain:=true}
def iU (f:Nat->Nat)(m:Nat):List (Int×Value):=(L4 m).map λ(k:Nat)=>((k:Int),Value.int (k:Int) (f k))
def p8 (led:Bool)(h:Heap)(a:Addr)(m:Nat):Prop:=m < 16/\∃o ep f,h.get? a=some o/\o.ExactSet/\o.data= .set (iU f m).toArray ep (kb led m)
theorem AO (led:Bool):∀m < 16,∀(k:Nat),k < 4->m.testBit k=false->(kb led m).freeSlot (k:Int)=some (k,false):=by cases led <;> decide+kernel
theorem CA (led:Bool):∀m < 16,∀k < 4,m.testBit k=false->(kb led m).put k=(kb led (m ||| 2^k),((L4 m).filter (· < k)).length):=by cases led <;> decide+kernel
theorem m_ (led:Bool):∀m < 16,(kb led m).fits (L4 m).length=true:=by cases led <;> decide+kernel
theorem CB (led:Bool):∀m < 16,(kb led m).tooFull=false:=by cases led <;> decide+kernel
theorem N8:∀m < 16,∀k < 4,m ||| 2^k < 16:=by decide+kernel
theorem IB:∀m < 16,∀k < 4,m.testBit k=true->m ||| 2^k=m:=by decide+kernel
theorem GG:∀(k:Nat),k < 4->hashInt ((k:Nat):Int)=(k:Int):=by decide+kernel
theorem Lz {m k:Nat}(h:k∈L4 m):k < 4:=by
 have:=(UJ.mp h).1
 simp only[K0,List.not_mem_nil,or_false] at this
 omega
theorem Nx (f:Nat->Nat)(m k t:Nat)(hm:m < 16)(hk:k < 4)(h:m.testBit k=false) :
  SetTable.insertAt (iU f m).toArray ((L4 m).filter (· < k)).length ((k:Int),Value.int (k:Int) t)=(iU (λj=>if j=k then t else f j) (m ||| 2^k)).toArray:=by
 have hm':m=0∨m=1∨m=2∨m=3∨m=4∨m=5∨m=6∨m=7∨m=8∨m=9∨m=10∨m=11∨m=12∨m=13∨m=14∨m=15:=by omega
 have hk':k=0∨k=1∨k=2∨k=3:=by omega
 rcases hk' with rfl | rfl | rfl | rfl <;> rcases hm' with rfl | rfl | rfl | rfl | rfl | rfl | rfl | rfl | rfl | rfl | rfl | rfl | rfl | rfl | rfl | rfl <;> first | exact absurd h (by decide) | rfl
section
variable {prog:Program}{w:World}{A:Around}{E:Z3}{s:Shared}{led:Bool}{a:Addr}{m:Nat}
theorem AQ (f:Nat->Nat)(hm:m < 16):ElemsOf (intKind prog w) (iU f m):=λe he=>by
 obtain⟨k,hk,rfl⟩:=Kw.mp he
 exact⟨⟨(k:Int),intKind_is _ _ _ _,(GG k (Lz hk)).symm⟩,rfl⟩
theorem Ny {k t:Nat}{Q:Bool->Shared->Prop}(hk:k < 4)(hS:p8 led s.heap a m)
  (h:∀h',Heap.SameBut a s.heap h'->p8 led h' a (m ||| 2^k)->∀b,Q b {s with heap:=h'}):wpAny (!3) A (setAddHashed a (.int (k:Int) t) (hashInt (k:Int))) Q E s:=by
 obtain⟨hm,o,ep,f,ho,hex,hd⟩:=hS
 have hel:ElemsOf (intKind prog w) (iU f m).toArray.toList:=AQ f hm
 have hlen:(iU f m).toArray.size=(L4 m).length:=by simp[iU]
 have h4:(L4 m).length<=4:=U7 _ _
 have hf:(kb led m).fits (iU f m).toArray.size=true:=by rw[hlen];exact m_ led m hm
 have hsc:(Value.int (k:Int) t).scannable=true:=rfl
 have hb:(iU f m).toArray.size < scanBound:=by rw[hlen];exact Xz h4 (by decide)
 unfold setAddHashed setAddHashedIn
 refine Z7 (JZ (wpAny_setState_of ho hd hf ?_));dsimp only
 rw[byScan_of (knd:=intKind prog w) hsc hb hel,JQ rfl]
 unfold setAddByScan
 refine JZ (JZ (wpAny_rule (JZ (wpAny_setScan_of (knd:=intKind prog w) (k:=(k:Int)) (intKind_is _ _ _ _) ho hd hf hel ?_))))
 have hfi:(iU f m).toArray.toList.findIdx? (λe=>(intKind prog w).is (k:Int) e.2)=if m.testBit k=true then some ((L4 m).findIdx (· ==k)) else none:=by
  have hm':m=0∨m=1∨m=2∨m=3∨m=4∨m=5∨m=6∨m=7∨m=8∨m=9∨m=10∨m=11∨m=12∨m=13∨m=14∨m=15:=by omega
  have hk':k=0∨k=1∨k=2∨k=3:=by omega
  clear h hd hf hb hel hlen h4
  rcases hk' with rfl | rfl | rfl | rfl <;> rcases hm' with rfl | rfl | rfl | rfl | rfl | rfl | rfl | rfl | rfl | rfl | rfl | rfl | rfl | rfl | rfl | rfl <;> rfl
 rw[hfi]
 cases hb:m.testBit k with
 | true=>
  simp only[if_true]
  refine JW (JW ?_)
  have:=h s.heap (Heap.SameBut.refl a s.heap) (by rw[IB m hm k hk hb];exact⟨hm,o,ep,f,ho,hex,hd⟩) false
  exact this
 | false=>
  simp only[XJ,if_false]
  rw[GG k hk]
  have hlay:layNew (kb led m) (iU f m).toArray (k:Int) (.int (k:Int) t)=((iU (λj=>if j=k then t else f j) (m ||| 2^k)).toArray,kb led (m ||| 2^k),false,false):=by
   have hfit:=m_ led (m ||| 2^k) (N8 m hm k hk)
   have hl2:(iU (λj=>if j=k then t else f j) (m ||| 2^k)).toArray.size=(L4 (m ||| 2^k)).length:=by simp[iU]
   unfold layNew
   rw[AO led m hm k hk hb]
   dsimp only
   rw[CA led m hm k hk hb]
   dsimp only
   rw[Nx f m k t hm hk hb,SetTable.orStandIn,hl2,hfit]
   rfl
  rw[hlay]
  dsimp only
  have hm2:=N8 m hm k hk
  have hfew:=CB led (m ||| 2^k) hm2
  have hl2:(iU (λj=>if j=k then t else f j) (m ||| 2^k)).toArray.size<=sizeLine:=by
   refine KJ (show _<=4 from ?_) (by decide)
   simp only[iU,Kj,K4]
   exact U7 _ _
  have hpl:(kb led (m ||| 2^k)).plain=true:=rfl
  rw[JQ hpl,hashByValue_scannable 8 hsc]
  refine JZ (JW (JZ (JW ?_)))
  show wpAny _ A (storeSet a _ (kb led (m ||| 2^k)) >>=_) _ _ _
  refine JZ (wpAny_storeSet_of ho hd ?_ hl2)
  show wpAny _ A (if (!false && (kb led (m ||| 2^k)).tooFull)=true then _ else _) _ _ _
  rw[hfew]
  refine JW (JW ?_)
  refine h _ (Heap.SameBut.update s.heap a _) ⟨hm2,{o with data:=.set (iU (λj=>if j=k then t else f j) (m ||| 2^k)).toArray (ep+1) (kb led (m ||| 2^k))},ep+1,λj=>if j=k then t else f j,?_,hex,rfl⟩ true
  have hu:=XX (Obj.putSet (iU (λj=>if j=k then t else f j) (m ||| 2^k)).toArray (kb led (m ||| 2^k))) ho (by rw[putSet_of _ _ hd];rfl)
  rw[putSet_of _ _ hd] at hu
  exact hu
end
def og (val:Nat->Nat):Nat->Nat->Nat->Nat
 | 0,_,m=>m
 | c+1,i,m=>og val c (i+1) (m ||| 2^val i)
section
variable {prog:Program}{w:World}{A:Around}{E:Z3}{s:Shared}{R:Result->Shared->Prop}{I:Addr}{fp wr:List Addr}{G:Array GenState->Array GenState->Prop}{n:Nat}{P:Nat->Value->Prop}{St:Nat->Shared->Prop}{led:Bool}
theorem p8.kept {h h':Heap}{a:Addr}{m:Nat}(hS:p8 led h a m)(k:∀o,h.get? a=some o->h'.get? a=some o):p8 led h' a m:=by
 obtain⟨hm,o,ep,f,ho,r⟩:=hS
 exact⟨hm,o,ep,f,k o ho,r⟩
theorem LA (W:WalksS prog w A.in1 I fp wr G n P St)(S:Addr)(hSf:S∉fp)(val:Nat->Nat)(hval:∀i v,P i v->val i < 4/\∃t,v= .int (val i:Int) t) :
  ∀(c i m:Nat) (s:Shared),n - i=c->i<=n->St i s->p8 led s.heap S m->(∀s',Moved (S :: wr) G s s'->p8 led s'.heap S (og val c i m)->R (.ok (.ret .none)) s')->
   codeAny (!3) A (.builtin "set.update.loop" ⟨[.ref S,.ref I],[]⟩) R s:=by
 have hSw:S∉wr:=λh=>hSf (W.sub _ h)
 have up:∀b∈wr,b∈S :: wr:=λb hb=>K9 _ hb
 intro c;induction c with
 | zero=>
  intro i m s hc hi hst hS hR
  obtain rfl:i=n:=by omega
  refine codeAny_builtin F.entry_set_update_loop ?_;rw[Around.under_plainId F.plain_set_update_loop _]
  refine JZ (m:=pyNext (.ref I)) (W.done s _ _ hst λs' hm=> ?_)
  exact JW (hR s' (hm.mono up) (hS.kept λo e=>hm.heap S o hSw e))
 | succ c ih=>
  intro i m s hc hi hst hS hR
  refine codeAny_builtin F.entry_set_update_loop ?_;rw[Around.under_plainId F.plain_set_update_loop _]
  refine JZ (m:=pyNext (.ref I)) (W.item i s _ _ (!1) hst λv s' hP hst' hm=> ?_)
  obtain⟨hlt,t,rfl⟩:=hval i v hP
  have hS':=hS.kept (h':=s'.heap) λo e=>hm.heap S o hSw e
  refine JZ (m:=holding [Value.int (val i:Int) t] (setAdd S (.int (val i:Int) t))) (Z7 ?_)
  unfold setAdd
  refine Z7 (JZ ((intKind prog w).pyHash (k:=(val i:Int)) (intKind_is _ _ _ _) ?_))
  refine Ny (s:={s' with toks:=s'.toks+1}) hlt hS' λh' sb hS2 b=> ?_
  refine JW ⟨plainId_quiet F.plain_set_update_loop _,ih (i+1) _ _ (!1) (!1) (W.frame _ s' _ _ hst' (Y5 _) λb hb o e=> ?_) hS2 λs'' hm'' hS''=> ?_⟩
  ·rw[sb.2 b (λz:b=S=>hSf (z ▸ hb))];exact e
  ·refine hR s'' (Moved.trans W.gtrans ((hm.mono up).then_heap (Y5 _) λb o hb e=> ?_) hm'') hS''
   rw[sb.2 b (λz:b=S=>hb (z ▸ K8))];exact e
def p9 (w:World):Bool:=!w.params.followText "set-order"
def p_ (w:World):Obj:={cls:=.type "set",dict:=none,data:=.set #[] 0 (.fresh 0 0 (p9 w))}
theorem IC {h:Heap}{a:Addr}(e:h.get? a=some (p_ w)):p8 (p9 w) h a 0:=⟨by decide,p_ w,0,λ_=>0,e,⟨rfl,rfl,rfl⟩,rfl⟩
theorem ID (a:Value){Q₁:Z3}(h:Q₁ (!7) {s with heap:=s.heap.push (p_ w)}) :
  codeAny (!3) A (.call (.builtin "set.__new__") ⟨[.type "set",a],[]⟩) (wants Q₁ E) s:=by
 refine codeAny_of_tree ?_
 show wpAny _ A.in1 (checkBuiltinCall "set.__new__" ⟨[.type "set",a],[]⟩ >>=λ_=>again (.builtin "set.__new__" ⟨[.type "set",a],[]⟩)) _ _ s
 refine JZ (wpAny_of_eq (PySem.F.newCall_set_1 a) (JW ⟨plainId_quiet PySem.F.plain_set_new _,codeAny_builtin PySem.F.entry_set_new ?_⟩));rw[Around.under_plainId PySem.F.plain_set_new _]
 unfold Builtin.«set.__new__» Builtin.Frozenset.newClass
 have hsub:=sub_set_self
 obtain⟨hp,g,d,tk,os⟩:=s;dsimp only at h⊢;wp_walk
 refine wpAny_askSetting (JW ?_);dsimp only;simp only[newObj]
 exact JZ (wpAny_alloc (JW (JW h)))
theorem AR {l:Addr}{items:Array Value}{val:Nat->Nat}{Q:Z3}(hh:A.handled=none)(hl:s.heap.IsList l items)(hval:∀i v,items[i]? =some v->val i < 4/\∃t,v= .int (val i:Int) t)
  (h:∀(h':Heap) (tk:Nat),p8 (p9 w) h' s.heap.objs.size (og val items.size 0 0)->(∀b o,b < s.heap.objs.size->s.heap.get? b=some o->h'.get? b=some o)->Q (!7) {s with heap:=h',toks:=tk}) :
  wpAny (!3) A (call (.type "set") [.ref l]) Q E s:=by
 obtain⟨c,tl,hmro⟩:=PySem.F.called_set.mro;have hmade:=PySem.F.called_set.made;have hsub:=PySem.F.called_set.sub
 refine wpAny_call (codeAny_of_tree ?_)
 show wpAny _ _ (callAny (.type "set") _) _ _ _
 refine JW ⟨Code.quiet_builtin _ (!5),codeAny_builtin F.entry_type_call ?_⟩;rw[Around.under_plain (weight_type_call_type "set" [.ref l] []) rfl]
 have h1:=PySem.F.called_set.notType;have h2:=PySem.F.called_set.canCreate;have hct:=PySem.F.typeCall_set_1 (.ref l)
 (repeat (any_goals (first | assumption | wp_step)))
 refine codeAny_mono (ID (.ref l) (E:=E) (Q₁:=λobj s₁=>obj= .ref s.heap.objs.size/\s₁={s with heap:=s.heap.push (p_ w)}) ⟨rfl,rfl⟩) λr s₁ hr=> ?_
 cases r with
 | error e=>exact hr
 | ok fl=>
  cases fl with
  | ret obj=>
   obtain⟨rfl,rfl⟩:=hr
   have hS:(s.heap.push (p_ w)).get? s.heap.objs.size=some (p_ w):=Ky _ rfl
   have hT:Shared.TypeIs {s with heap:=s.heap.push (p_ w)} (!7) "set":=⟨_,hS,rfl⟩
   have hli:=PySem.F.called_set.init.lookup;have hbi:=PySem.F.called_set.init.bind (!7)
   (repeat (any_goals (first | assumption | wp_step)))
   refine codeAny_mono (codeAny_call_builtin (R:=wants (λr s₂=>r= .none/\∃h' tk,s₂={s with heap:=h',toks:=tk}/\p8 (p9 w) h' s.heap.objs.size (og val items.size 0 0)/\(∀b o,b < s.heap.objs.size->s.heap.get? b=some o->h'.get? b=some o)) E) PySem.F.called_set.init.plain PySem.F.entry_set_init (check_set_init_1 hT ?_)) λr₂ s₂ hr₂=> ?_
   ·have hl1:(s.heap.push (p_ w)).IsList l items:=hl.push _
    obtain⟨ol,hol,hcl,nl,hdl⟩:=hl
    obtain⟨ocls,odict,odata,oslots⟩:=ol
    simp only at hcl hdl;subst hcl hdl
    have hol':(s.heap.push (p_ w)).get? l=some {cls:=.type "list",dict:=odict,data:=.seq items nl,slots:=oslots}:=K7 _ hol
    have hsls:=PySem.F.sub_list_set;have hslf:=PySem.F.sub_list_frozenset
    have hne:(Value.type "list" ==Value.type "dict")=false:=by decide
    unfold Builtin.«set.__init__» noKeywords Builtin.Frozenset.updateFrom
    generalize hPI:pyIter=PI;wp_walk;subst hPI
    refine wpAny_pyIter_list hl1 (JZ (wpAny_runValue ?_))
    have hlS:l < s.heap.objs.size:=Kv hol
    have hh3:A.in1.in1.in1.handled=none:=by simp[hh]
    have hneI:l≠(s.heap.push (p_ w)).objs.size:=by rw[XY];exact X4 (UU hlS)
    have hSf:s.heap.objs.size∉[(s.heap.push (p_ w)).objs.size,l]:=by
     rw[XY];intro z;rcases K0.mp z with z | z
     ·exact X4 (Uj _) z
     ·exact Uv hlS (K6.mp z)
    refine LA ((Walks.list hh3 _ l hneI items).toS) s.heap.objs.size hSf val hval items.size 0 0 _ rfl (Xy _) ⟨⟨_,Ky _ rfl,rfl,rfl⟩,(hl1.push _)⟩ (IC (K7 _ hS)) λs' hm hS'=> ?_
    obtain⟨h',g',d',tk',os'⟩:=s'
    obtain rfl:g'=s.gens:=hm.gens
    obtain rfl:d'=s.drawn:=hm.drawn
    obtain rfl:os'=s.os:=hm.os
    refine JW (JW ⟨rfl,h',tk',rfl,hS',λb o hb e=> ?_⟩)
    refine hm.heap b o (λz=> ?_) (K7 _ (K7 _ e))
    rcases K0.mp z with z | z
    ·exact X4 hb z
    ·rw[XY] at z;exact X4 (UU hb) (K6.mp z)
   ·cases r₂ with
    | error e=>exact hr₂
    | ok fl₂=>
     cases fl₂ with
     | ret r=>
      obtain⟨rfl,h',tk,rfl,hS',hk'⟩:=hr₂
      (repeat (any_goals (first | assumption | wp_step)))
      exact h _ _ hS' hk'
     | _=>exact hr₂.elim
  | _=>exact hr.elim
end
theorem cH:Slot "set_iterator" "__next__" "set_iterator.__next__" :=
 .of (owner:="set_iterator") (n:="__next__") (by(rw[typeLookup_type,builtinLookup_eq_fast]);kernel_rfl) (!5) (!5) (!5) (by first | exact .inl (!5) | exact .inr (!5)) (by(rw[isSubtype_type]);kernel_rfl)
theorem l9:entryFor table "set_iterator.__next__" =some Builtin.«set_iterator.__next__»:=entryFor_of_tree (by(kernel_rfl))
theorem zC:Manifest.owners.lookup (String.ofList ['r','o','t','a','r','e','t','i','_','t','e','s'].reverse)=some Manifest.sig_set_iterator:=by(kernel_rfl)
theorem l_ (a:Value):argsOk "set_iterator.__next__" ⟨[a],[]⟩:=by
 unfold argsOk;rw[signature?_of (id:="set_iterator.__next__") (n:=['_','_','t','x','e','n','_','_']) (o:=['r','o','t','a','r','e','t','i','_','t','e','s']) (by(kernel_rfl)) zC];(kernel_rfl)
theorem lb:Slot "set_iterator" "__iter__" "set_iterator.__iter__" :=
 .of (owner:="set_iterator") (n:="__iter__") (by(rw[typeLookup_type,builtinLookup_eq_fast]);kernel_rfl) (!5) (!5) (!5) (by first | exact .inl (!5) | exact .inr (!5)) (by(rw[isSubtype_type]);kernel_rfl)
theorem uy (a:Value):argsOk "set_iterator.__iter__" ⟨[a],[]⟩:=by
 unfold argsOk;rw[signature?_of (id:="set_iterator.__iter__") (n:=['_','_','r','e','t','i','_','_']) (o:=['r','o','t','a','r','e','t','i','_','t','e','s']) (by(kernel_rfl)) zC];(kernel_rfl)
theorem uz:entryFor table "set_iterator.__iter__" =some Builtin.«dict_keyiterator.__iter__» :=
 entryFor_alias (id':="dict_keyiterator.__iter__") (by(kernel_rfl)) (by first | rfl | decide+kernel | (unfold String.splitOn;simp+decide [String.splitOnAux])) (!5) (by(kernel_rfl))
theorem slot_set_iter:Slot "set" "__iter__" "set.__iter__" :=
 .of (owner:="set") (n:="__iter__") (by(rw[typeLookup_type,builtinLookup_eq_fast]);kernel_rfl) (!5) (!5) (!5) (by first | exact .inl (!5) | exact .inr (!5)) (by(rw[isSubtype_type]);kernel_rfl)
theorem E7:Manifest.owners.lookup (String.ofList ['t','e','s'].reverse)=some Manifest.sig_set:=by(kernel_rfl)
theorem uA (a:Value):argsOk "set.__iter__" ⟨[a],[]⟩:=by
 unfold argsOk;rw[signature?_of (id:="set.__iter__") (n:=['_','_','r','e','t','i','_','_']) (o:=['t','e','s']) (by(kernel_rfl)) E7];(kernel_rfl)
theorem uB:entryFor table "set.__iter__" =some Builtin.«frozenset.__iter__» :=
 entryFor_alias (id':="frozenset.__iter__") (by(kernel_rfl)) (by first | rfl | decide+kernel | (unfold String.splitOn;simp+decide [String.splitOnAux])) (!5) (by(kernel_rfl))
theorem uC:typeLookup (.type "set") "__len__" =pure (some (.builtin "set.__len__")):=by(rw[typeLookup_type,builtinLookup_eq_fast]);(kernel_rfl)
def rD (w:World)(f:Nat->Nat)(m ep:Nat):Obj:={cls:=.type "set",dict:=none,data:=.set (iU f m).toArray ep (kb (p9 w) m)}
def lw (S:Addr)(slot i n ep:Nat):Obj:={cls:=.type "set_iterator",data:=.fields #[rawInt (slot:Int),rawInt (i:Int),.ref S,rawInt (n:Int),rawInt (ep:Int)]}
def jh (w:World)(S:Addr)(f:Nat->Nat)(m ep:Nat):List (Int×Value):=if w.params.followText "set-order" =true then (pickOrder (w.params.setOrder S ep) (iU f m).toArray).toList else iU f m
def slotAt (m:Nat):Nat->Nat
 | 0=>0
 | i+1=>(L4 m).getD i 0+1
def fJ (w:World)(m i:Nat):Nat:=if w.params.followText "set-order" =true then 0 else slotAt m i
theorem IE:∀m < 16,∀i < 5,i<=(L4 m).length->SetTable.below (L4 m).toArray (slotAt m i)=i:=by decide+kernel
theorem qa {α:Type}:∀{l:List α} {i:Nat} (h:i < l.length),List.Perm (l[i] :: l.eraseIdx i) l
 | a :: l,0,_=>List.Perm.refl _
 | a :: l,i+1,h=>by
  rw[List.getElem_cons_succ,List.eraseIdx_cons_succ]
  exact(List.Perm.swap _ _ _).trans ((qa (by simpa using h)).cons a)
theorem zD {α:Type}(next:Nat->Nat):∀(fuel k:Nat) (left:List α) (out:Array α),left.length=fuel->List.Perm (pickOrder.go next fuel k left out).toList (out.toList++left)
 | 0,k,left,out,h=>by
  have:left=[]:=Yq.mp h
  subst this;simp[pickOrder.go]
 | fuel+1,k,left,out,h=>by
  have hlt:next k % left.length < left.length:=Nat.mod_lt _ (!1)
  have e:left[next k % left.length]? =some (left[next k % left.length]):=K3 hlt
  simp only[pickOrder.go,e]
  refine(zD next fuel (k+1) _ _ (by rw[List.length_eraseIdx];simp[hlt];omega)).trans ?_
  rw[YY,X5]
  refine List.Perm.append_left _ ?_
  exact qa hlt
theorem kL (w:World)(S:Addr)(f:Nat->Nat)(m ep:Nat):List.Perm (jh w S f m ep) (iU f m):=by
 unfold jh;split
 ·have:=zD (w.params.setOrder S ep) (iU f m).toArray.size 0 (iU f m).toArray.toList #[] (by simp)
  simpa [pickOrder] using this
 ·exact List.Perm.refl _
section
variable {prog:Program}{w:World}{A:Around}{E:Z3}{s:Shared}{S it:Addr}{f:Nat->Nat}{m ep i:Nat}
theorem kM (hS:s.heap.get? S=some (rD w f m ep)):s.TypeIs (.ref S) "set":=⟨_,hS,rfl⟩
theorem ig {slot n:Nat}(h:s.heap.get? it=some (lw S slot i n ep)):s.TypeIs (.ref it) "set_iterator":=⟨_,h,rfl⟩
theorem ii (hm:m < 16):(kb (p9 w) m).fits (iU f m).toArray.size=true:=by
 have:(iU f m).toArray.size=(L4 m).length:=by simp[iU]
 rw[this];exact m_ _ m hm
theorem LB {Q:Z3}(hm:m < 16)(hS:s.heap.get? S=some (rD w f m ep))(h:Q (!7) {s with heap:=s.heap.push (lw S 0 0 (L4 m).length ep)}) :
  wpAny (!3) A (pyIter (.ref S)) Q E s:=by
 refine wpAny_pyIter_slot (kM hS) slot_set_iter (Z6 slot_set_iter (kM hS) uB ?_ (uA _))
 unfold Builtin.«frozenset.__iter__»
 refine JZ (wpAny_of_eq (a:=S) rfl ?_)
 unfold Builtin.Frozenset.sizeOf setEntries
 refine JZ (JZ (JZ (wpAny_setState_of hS rfl (ii hm) (JW (JW ?_)))))
 unfold setDrawn setsByText
 refine JZ (JZ (wpAny_setState_of hS rfl (ii hm) ?_));dsimp only
 refine JZ (JZ (wpAny_askSetting (JW (JW ?_))))
 split
 ·rename_i hc;exact(K5 ((Bool.and_false (!w.params.followText "set-order")).symm.trans hc)).elim
 refine JZ (JW (JZ (wpAny_setEpoch_of hS rfl (ii hm) ?_)))
 have hsz:(iU f m).toArray.size=(L4 m).length:=by simp[iU]
 rw[hsz]
 exact JZ (Z5 (JW ⟨_,rfl,"set_iterator",_,⟨_,Ky _ rfl,rfl⟩,cH.lookup,h⟩))
theorem CC {slot n:Nat}{Q:Z3}(hit:s.heap.get? it=some (lw S slot i n ep))(h:Q (.ref it) s):wpAny (!3) A (pyIter (.ref it)) Q E s:=by
 refine wpAny_pyIter_slot (ig hit) lb (Z6 lb (ig hit) uz ?_ (uy _))
 show wpAny _ _ (ret (.ref it)) _ _ s;exact JW ⟨_,rfl,"set_iterator",_,ig hit,cH.lookup,h⟩
theorem GH {Q:Option (Value×Nat)->Shared->Prop}(hm:m < 16)(hS:s.heap.get? S=some (rD w f m ep))(hi:i<=(L4 m).length)
  (h:Q (((jh w S f m ep)[i]?).map λe=>(e.2,fJ w m (i+1))) s):wpAny (!3) A (setNext S (fJ w m i) i ep) Q E s:=by
 unfold setNext
 refine JZ (wpAny_setState_of hS rfl (ii hm) ?_);dsimp only
 unfold setsByText
 refine JZ (JZ (wpAny_askSetting (JW ?_)))
 cases hw:w.params.followText "set-order" with
 | true=>
  split
  ·split
   ·rename_i hc;exact absurd hc (by simp)
   ·unfold setWalk setsByText
    refine JZ (JZ (wpAny_setState_of hS rfl (ii hm) ?_));dsimp only
    refine JZ (JZ (wpAny_askSetting (JW ?_)))
    split
    ·refine JZ (wpAny_askSetting (JW (JW ?_)))
     have e1:fJ w m (i+1)=fJ w m i:=by unfold fJ;rw[JQ hw,JQ hw]
     rw[e1] at h;unfold jh at h;rw[JQ hw,Uy] at h
     exact h
    ·rename_i hc;exact absurd hw hc
  ·rename_i hc;exact absurd hw hc
 | false=>
  split
  ·rename_i hc;exact absurd (hw.symm.trans hc) K5
  ·split
   ·rename_i hc;exact(K5 hc).elim
   ·refine JZ ?_
    show wpAny _ _ (if (!(p9 w) && _)=true then _ else _) _ _ _
    have hl:p9 w=true:=by unfold p9;rw[hw];rfl
    split
    ·rename_i hc;rw[hl] at hc;exact(K5 hc).elim
    ·refine JW (JW ?_)
     have e0:fJ w m i=slotAt m i:=by unfold fJ;rw[JV (by rw[hw];exact K5)]
     have e1:fJ w m (i+1)=slotAt m (i+1):=by unfold fJ;rw[JV (by rw[hw];exact K5)]
     have h4:(L4 m).length<=4:=U7 _ _
     have eb:SetTable.below (kb (p9 w) m).place (slotAt m i)=i:=IE m hm i (!1) hi
     unfold jh at h;rw[JV (by rw[hw];exact K5),e1] at h
     rw[e0,eb]
     show Q (match (iU f m).toArray[i]?,(L4 m).toArray[i]? with
      | some (_,x),some j=>some (x,j+1)
      | _,_=>none) s
     rw[List.getElem?_toArray,List.getElem?_toArray]
     by_cases hlt:i < (L4 m).length
     ·have g1:(iU f m)[i]? =some (((L4 m)[i]:Int),Value.int ((L4 m)[i]:Int) (f (L4 m)[i])):=by
       unfold iU;rw[KY,K3 hlt];rfl
      rw[g1] at h⊢
      rw[K3 hlt]
      have g2:slotAt m (i+1)=(L4 m)[i]+1:=by show(L4 m).getD i 0+1=_;rw[X7,K3 hlt];rfl
      rw[g2] at h
      exact h
     ·have g1:(iU f m)[i]? =none:=Xq (by unfold iU;rw[K4];omega)
      rw[g1] at h⊢
      exact h
theorem CD {n:Nat}{e:Int×Value}{Q:Option Value->Shared->Prop}(hm:m < 16)(hn:n=(L4 m).length)(hne:it≠S)(hit:s.heap.get? it=some (lw S (fJ w m i) i n ep))(hS:s.heap.get? S=some (rD w f m ep))(he:(jh w S f m ep)[i]? =some e)(hi:i<=n)
  (hQ:∀h',h'.get? it=some (lw S (fJ w m (i+1)) (i+1) n ep)->Heap.SameBut it s.heap h'->Q (some e.2) {s with heap:=h'}):wpAny (!3) A (pyNext (.ref it)) Q E s:=by
 unfold pyNext
 refine JZ (wpAny_attempt (wpAny_callSpecial?_slot (name:=Str.ofString "__next__") (ig hit) cH (Z6 cH (ig hit) l9 ?_ (l_ _))))
 unfold Builtin.«set_iterator.__next__»
 refine JZ (wpAny_of_eq (a:=(Value.ref it,[])) rfl ?_);dsimp only
 refine JZ (wpAny_fieldsOf hit rfl ?_)
 unfold setEntries
 refine JZ (JZ (wpAny_setState_of hS rfl (ii hm) (JW ?_)))
 have hsz:(iU f m).toArray.size=n:=by rw[hn];simp[iU]
 split
 ·rename_i hc;exact absurd hc (by simp[hsz])
 show wpAny _ _ (setNext S ((fJ w m i:Nat):Int).toNat ((i:Nat):Int).toNat ((ep:Nat):Int).toNat >>=_) _ _ _
 rw[Ku,Ku,Ku]
 refine JZ (GH hm hS (hn ▸ hi) ?_);rw[he]
 refine JZ (wpAny_setField hit rfl (by simp) ?_)
 have hit1:=XX (Obj.mapFields (·.setIfInBounds 0 (rawInt ((fJ w m (i+1):Nat):Int)))) hit rfl
 refine JZ (wpAny_setField hit1 rfl (by simp) ?_)
 refine JW ⟨_,rfl,JW (hQ _ ?_ ((Heap.SameBut.update ..).trans (Heap.SameBut.update ..)))⟩
 exact XX (Obj.mapFields (·.setIfInBounds 1 (rawInt ((i:Int)+1)))) hit1 rfl
theorem E8 {n:Nat}{Q:Option Value->Shared->Prop}(hh:A.handled=none)(hm:m < 16)(hn:n=(L4 m).length)(hit:s.heap.get? it=some (lw S (fJ w m n) n n ep))(hS:s.heap.get? S=some (rD w f m ep))
  (hQ:∀h' tk,Heap.ExtBut it s.heap h'->Q none {s with heap:=h',toks:=tk}):wpAny (!3) A (pyNext (.ref it)) Q E s:=by
 unfold pyNext
 refine JZ (wpAny_attempt (wpAny_callSpecial?_slot (name:=Str.ofString "__next__") (ig hit) cH (Z6 cH (ig hit) l9 ?_ (l_ _))))
 unfold Builtin.«set_iterator.__next__»
 refine JZ (wpAny_of_eq (a:=(Value.ref it,[])) rfl ?_);dsimp only
 refine JZ (wpAny_fieldsOf hit rfl ?_)
 unfold setEntries
 refine JZ (JZ (wpAny_setState_of hS rfl (ii hm) (JW ?_)))
 have hsz:(iU f m).toArray.size=n:=by rw[hn];simp[iU]
 split
 ·rename_i hc;exact absurd hc (by simp[hsz])
 show wpAny _ _ (setNext S ((fJ w m n:Nat):Int).toNat ((n:Nat):Int).toNat ((ep:Nat):Int).toNat >>=_) _ _ _
 rw[Ku,Ku,Ku]
 have he:(jh w S f m ep)[n]? =none:=Xq (by rw[(kL w S f m ep).length_eq,hn];simp[iU])
 refine JZ (GH hm hS (Nat.le_of_eq hn) ?_);rw[he]
 refine JZ (wpAny_setField hit rfl (by simp) ?_)
 (first | show wpAny _ _ (newExc (.type "StopIteration") [] >>=_) _ _ _ | (wp_delta;show wpAny _ _ (newExc (.type "StopIteration") [] >>=_) _ _ _))
 refine JZ ?_;simp only[newExc,newTuple];refine JZ (Z5 ?_ (by size_fits));refine JZ (m:=firstArgMember _ _) (wpAny_of_eq (a:=Value.none) (by first | rfl | (simp only[firstArgMember];rfl)) ?_);refine Z5 ?_ (by size_fits)
 simp only[raiseNew];refine JZ (wpAny_handled ?_);(first | rw[show A.in1.handled=none from hh] | rw[hh])
 refine JZ (JW (wpAny_throw ?_));refine JZ (wpAny_isInstance (T:="StopIteration") (b:=true) ⟨_,Ky _ rfl,rfl⟩ isSubtype_stop ?_)
 exact JW (hQ _ _ (((Heap.SameBut.update ..).extBut.push _).push _))
theorem LC (hh:A.handled=none)(hm:m < 16)(hne:it≠S):Walks prog w A it [it,S] [it] (L4 m).length (λi v=>∃e,(jh w S f m ep)[i]? =some e/\v=e.2)
  (λi h=>i<=(L4 m).length/\h.get? it=some (lw S (fJ w m i) i (L4 m).length ep)/\h.get? S=some (rD w f m ep)) where
 sub:=λb hb=>by simp at hb;simp[hb]
 frame:=λ_ _ _ st hk=>⟨st.1,hk it (by simp) _ st.2.1,hk S (by simp) _ st.2.2⟩
 item:=λi s Q E hi st hQ=>by
  have hlt:i < (jh w S f m ep).length:=by rw[(kL w S f m ep).length_eq];simpa [iU] using hi
  have he:(jh w S f m ep)[i]? =some (jh w S f m ep)[i]:=K3 hlt
  refine CD hm rfl hne st.2.1 st.2.2 he st.1 λh' hit' hs'=> ?_
  exact hQ _ h' s.toks ⟨_,he,rfl⟩ ⟨hi,hit',by rw[hs'.2 S (Ne.symm hne)];exact st.2.2⟩ λb o hb e=>hs'.extBut b o (λh=>hb (by simp[h])) e
 done:=λs Q E st hQ=>E8 hh hm rfl st.2.1 st.2.2 λh' tk he'=>hQ h' tk λb o hb e=>he' b o (λh=>hb (by simp[h])) e
 self:=λ_ _ _ _ st hQ=>CC st.2.1 hQ
end
section
variable {prog:Program}{w:World}{A:Around}{E:Z3}{s:Shared}{S:Addr}{f:Nat->Nat}{m ep:Nat}
def jI:Obj:={cls:=.type "list",data:=.seq ([]:List Value).toArray}
theorem yi {Q:List Value->Shared->Prop}(hh:A.handled=none)(hm:m < 16)(hS:s.heap.get? S=some (rD w f m ep))
  (hQ:∀h' tk,s.heap.objs.size < h'.objs.size->(∀b o,b < s.heap.objs.size->s.heap.get? b=some o->h'.get? b=some o)->Q ((jh w S f m ep).map Prod.snd) {s with heap:=h',toks:=tk}):wpAny (!3) A (collect (.ref S)) Q E s:=by
 have hSlt:S < s.heap.objs.size:=Kv hS
 have nI:s.heap.objs.size≠S:=Uv hSlt
 unfold collect
 refine JZ (wpAny_runValue (codeAny_builtin F.entry_proto_collect ?_));rw[Around.under_plainId F.plain_proto_collect _]
 show wpAny _ A.in1 (newList [] >>=λl=>again (.builtin "list.__iadd__" ⟨[l,.ref S],[]⟩)) _ _ s
 refine JZ (Z5 ?_);refine JW ⟨plainId_quiet F.plain_list_iadd _,codeAny_builtin F.entry_list_iadd ?_⟩;rw[Around.under_plainId F.plain_list_iadd _]
 have new1:(s.heap.push jI).get? s.heap.objs.size=some jI:=(Ky _ rfl)
 have hS1:(s.heap.push jI).get? S=some (rD w f m ep):=K7 _ hS
 have h1:Builtin.List.listSameRef (!7) (.ref S)=false:=by(simp[Builtin.List.listSameRef,nI])
 show wpAny _ A.in1 (Builtin.List.listExtendWith (!7) (.ref S) (!7)) _ _ {s with heap:=s.heap.push jI};unfold Builtin.List.listExtendWith
 have hT:Shared.TypeIs {s with heap:=s.heap.push jI} (.ref S) "set":=kM (w:=w) (f:=f) (m:=m) (ep:=ep) (s:={s with heap:=s.heap.push jI}) hS1
 refine JZ (wpAny_typeOf hT ?_)
 rw[JV (by rw[h1];decide)]
 refine JZ (LB (s:={s with heap:=s.heap.push jI}) hm hS1 ?_)
 have hS2:((s.heap.push jI).push (lw S 0 0 (L4 m).length ep)).get? S=some (rD w f m ep):=K7 _ hS1
 have hT2:Shared.TypeIs {s with heap:=(s.heap.push jI).push (lw S 0 0 (L4 m).length ep)} (.ref S) "set":=kM (w:=w) (f:=f) (m:=m) (ep:=ep) (s:={s with heap:=(s.heap.push jI).push (lw S 0 0 (L4 m).length ep)}) hS2
 refine JZ (Z7 ?_)
 unfold Builtin.List.listLengthHint
 refine JZ (Z4 hT2 uC ?_)
 generalize hid:("set.__len__":String)=id0
 wp_delta
 rw[show splitId id0=some ("set","__len__") from by subst hid;decide+kernel]
 subst hid
 refine JZ (wpAny_isInstance (b:=true) hT2 (by rw[isSubtype_type];kernel_rfl) ?_)
 rw[JV (by decide),JQ (!5)]
 refine JZ (wpAny_typeOf hT2 (JW ?_))
 rw[JQ (!5)]
 refine JZ (wpAny_rule (JZ ?_))
 have new2:((s.heap.push jI).push (lw S 0 0 (L4 m).length ep)).get? s.heap.objs.size=some jI:=K7 _ new1
 show wpAny _ A.in1 (updateSeq s.heap.objs.size (·.push .none) >>=λ_=>updateSeq s.heap.objs.size (·.pop)) _ _ _
 refine JZ (wpAny_updateSeq new2 rfl ?_)
 have LD:=XX (Obj.mapSeq (·.push Value.none)) new2 rfl
 refine wpAny_updateSeq LD rfl ?_
 have ID:=XX (Obj.mapSeq (·.pop)) LD rfl
 have N9:s.heap.objs.size≠(s.heap.push jI).objs.size:=by rw[XY];exact X4 (Uj _)
 have OZ:(s.heap.push jI).objs.size≠S:=by rw[XY];exact Uv (UU hSlt)
 have O0:((s.heap.push jI).push (lw S 0 0 (L4 m).length ep)).get? (s.heap.push jI).objs.size=some (lw S 0 0 (L4 m).length ep):=Ky _ rfl
 have oth:∀b o,b≠s.heap.objs.size->((s.heap.push jI).push (lw S 0 0 (L4 m).length ep)).get? b=some o->((((s.heap.push jI).push (lw S 0 0 (L4 m).length ep)).update s.heap.objs.size (Obj.mapSeq (·.push Value.none))).update s.heap.objs.size (Obj.mapSeq (·.pop))).get? b=some o :=
  λb o hb e=>(Jj _ _ (Ne.symm hb)).trans ((Jj _ _ (Ne.symm hb)).trans e)
 have s0:fJ w m 0=0:=by unfold fJ slotAt;split <;> rfl
 have O1:(L4 m).length<=sizeLine:=KJ (U7 _ _) (by decide)
 have nS:s.heap.objs.size∉[(s.heap.push jI).objs.size,S]:=λz=>by
  rcases K0.mp z with z | z
  ·exact N9 z
  ·exact nI (K6.mp z)
 refine JW ⟨plainId_quiet F.plain_extend_loop _,codeAny_extend_loopS ((LC (f:=f) (ep:=ep) (show A.in1.handled=none by simp[hh]) hm OZ).toS) O1 _ nS _ (L4 m).length 0 _ _ _ rfl (Xy _) ⟨Xy _,by rw[s0];exact oth _ _ (Ne.symm N9) O0,oth _ _ (Ne.symm nI) hS2⟩ ID (ItemsOf.nil _) λs' acc' c' Mn hS' hacc=> ?_⟩
 show wpAny _ A (load s.heap.objs.size >>=_) _ _ s';refine JZ (wpAny_load hS' ?_)
 obtain⟨h',g',d',tk',os'⟩:=s'
 obtain rfl:g'=s.gens:=Mn.gens
 obtain rfl:d'=s.drawn:=Mn.drawn
 obtain rfl:os'=s.os:=Mn.os
 have Nz:acc'.toList=(jh w S f m ep).map Prod.snd:=by
  have hlo:(jh w S f m ep).length=(L4 m).length:=by rw[(kL w S f m ep).length_eq];simp[iU]
  refine List.ext_getElem? λj=> ?_
  rw[Uy,KY]
  by_cases hj:j < (L4 m).length
  ·have e1:acc'[j]? =some (acc'[j]'(by rw[hacc.1];exact hj)):=Yy _
   obtain⟨e,he,hv⟩:=hacc.2 j _ e1
   rw[e1,he,hv];rfl
  ·rw[Array.getElem?_eq_none (by rw[hacc.1];omega),Xq (!1)];rfl
 refine JW ?_
 rw[Nz]
 refine hQ h' tk' (Kv hS') λb o hb e=> ?_
 have hb1:b≠s.heap.objs.size:=X4 hb
 refine Mn.heap b o (λz=> ?_) (oth b o hb1 (K7 _ (K7 _ e)))
 rcases K0.mp z with z | z
 ·exact hb1 z
 ·have z':=K6.mp z
  rw[XY] at z';exact X4 (UU hb) z'
end
theorem AS (m:Nat):((L4 m).map λ(k:Nat)=>(k:Int)).Pairwise (· <= ·):=by
 refine List.pairwise_map.mpr ?_
 have:([0,1,2,3]:List Nat).Pairwise (λ(a b:Nat)=>(a:Int)<=(b:Int)):=by decide
 exact this.sublist (List.filter_sublist)
theorem v7:∀(l:List (Int×Value)),(∀e∈l,∃t,e.2= .int e.1 t)->IntsAre (l.map Prod.snd) (l.map Prod.fst)
 | [],_=> .nil
 | (i,v) :: l,h=>by
  obtain⟨t,e⟩:=h (i,v) K8
  have e':v= .int i t:=e
  subst e'
  exact .cons i t (v7 l λe he=>h e (K9 _ he))
section
variable {prog:Program}{w:World}{A:Around}{E:Z3}{s:Shared}{S:Addr}{m:Nat}
theorem AT {Q:Z3}(hh:A.handled=none)(hS:p8 (p9 w) s.heap S m)
  (hQ:∀h' tk a (out:List Value) c,s.heap.objs.size<=a->h'.get? a=some {cls:=.type "list",data:=.seq out.toArray c}->IntsAre out ((L4 m).map λ(k:Nat)=>(k:Int))->(∀b o,b < s.heap.objs.size->s.heap.get? b=some o->h'.get? b=some o)->Q (.ref a) {s with heap:=h',toks:=tk}) :
  wpAny (!3) A (call (.builtin "sorted") [.ref S]) Q E s:=by
 obtain⟨hm,o,ep,f,ho,hex,hd⟩:=hS
 have hS:s.heap.get? S=some (rD w f m ep):=by
  rw[ho];obtain⟨h1,h2,h3⟩:=hex;cases o;simp only at h1 h2 h3 hd;subst h1 h2 h3 hd;rfl
 refine Calls.call_function_entry kind_sorted plain_sorted entry_sorted (args_sorted1 _) ?_
 unfold Builtin.«sorted»
 refine JZ (m:=checkCount "sorted" 1 1 _) (JW ?_);refine JZ (yi (show A.in1.handled=none by simp[hh]) hm hS λh1 tk hlt1 hk=> ?_)
 have hp:=kL w S f m ep
 have O2:(jh w S f m ep).length<=4:=by rw[hp.length_eq];simp only[iU,K4];exact U7 _ _
 refine JZ (wpAny_newList ?_ (KJ (by rw[K4];exact O2) (by decide)))
 have hI:IntsAre ((jh w S f m ep).map Prod.snd) ((jh w S f m ep).map Prod.fst):=v7 _ λe he=>by
  obtain⟨k,_,rfl⟩:=Kw.mp (hp.mem_iff.mp he)
  exact⟨_,rfl⟩
 have hoL:(h1.push {cls:=.type "list",data:=.seq ((jh w S f m ep).map Prod.snd).toArray}).get? h1.objs.size=some (seqObj "list" ((jh w S f m ep).map Prod.snd).toArray 0):=Ky _ rfl
 refine JZ (Z7 (Z6 slot_list_sort ⟨_,hoL,rfl⟩ entry_list_sort (list_sort_tree (s:={s with heap:=h1.push {cls:=.type "list",data:=.seq ((jh w S f m ep).map Prod.snd).toArray},toks:=tk}) hoL hI (by rw[K4];omega) λout ns' a1 a2 a3=>⟨_,rfl,?_⟩) (args_list_sort _)))
 obtain⟨c,hc⟩:=sortedHeap_at (out:=out) hoL
 have hge:s.heap.objs.size<=h1.objs.size:=Y0 hlt1
 have hns:ns'=(L4 m).map λ(k:Nat)=>(k:Int):=by
  refine PySem.W.ksm_same (a2.trans ((hp.map Prod.fst).trans ?_)) a3 (AS m)
  unfold iU;rw[KQ];exact List.Perm.refl _
 subst hns
 refine JW ⟨_,rfl,hQ _ tk _ out.toList c hge (by simpa using hc) a1 λb o hb e=> ?_⟩
 have hb1:=hk b o hb e
 have hlt:=Kv hb1
 rw[sortedHeap_old (X4 hlt) (by rw[XY];exact UU hlt)]
 exact K7 _ hb1
end
theorem v8 (val:Nat->Nat)(k:Nat):∀(c i m:Nat),(og val c i m).testBit k=(m.testBit k || (List.range c).any λj=>val (i+j)==k)
 | 0,i,m=>by simp[og]
 | c+1,i,m=>by
  rw[og,v8 val k c (i+1),Nat.testBit_or,Nat.testBit_two_pow,List.range_succ_eq_map,YJ,List.any_map,Bool.or_assoc]
  congr 1
  have e:(decide (val i=k))=(val (i+0)==k):=by rw[Nat.add_zero];rfl
  rw[e]
  congr 1
  congr 1
  funext j
  show(val (i+1+j)==k)=(val (i+(j+1))==k)
  rw[show i+1+j=i+(j+1) by omega]
theorem sH {vs:List Value}{ns:List Int}(h:IntsAre vs ns):Vals (ns.map V.int) vs:=by
 induction h with
 | nil=>exact .nil
 | cons n t _ ih=>exact .cons ⟨t,rfl⟩ ih
theorem CF:∀{xs:List PyData},xs.all in4=true->∃ys:List Nat,xs=ys.map (λ(k:Nat)=>PyData.int (k:Int))/\∀k∈ys,k < 4
 | [],_=>⟨[],rfl,λk hk=>by cases hk⟩
 | x :: xs,h=>by
  rw[List.all_cons,X9] at h
  obtain⟨ys,rfl,h2⟩:=CF h.2
  obtain⟨i,rfl,h0,h4⟩:∃i:Int,x= .int i/\0<=i/\i < 4:=by
   cases x <;> first | (rename_i i;exact⟨i,rfl,by simpa [in4] using h.1⟩) | (exact absurd h.1 (by simp[in4]))
  obtain⟨k,rfl⟩:=Int.eq_ofNat_of_zero_le h0
  exact⟨k :: ys,rfl,λj hj=>by
   rcases K0.mp hj with z | z
   ·rw[z];omega
   ·exact h2 j z⟩
theorem sI {K:Frag}{H:Hp}:∀{ys:List Nat} {vs:List V},ar K H (ys.map λ(k:Nat)=>PyData.int (k:Int)) vs->vs=ys.map λ(k:Nat)=>V.int (k:Int)
 | [],vs,h=>by simpa [ar] using h
 | y :: ys,vs,h=>by
  simp only[KZ,ar,aJ] at h
  obtain⟨v,r,rfl,rfl,h2⟩:=h
  rw[sI h2];rfl
theorem sJ {K:Frag}{H:Hp}:∀(ys:List Nat),ar K H (ys.map λ(k:Nat)=>PyData.int (k:Int)) (ys.map λ(k:Nat)=>V.int (k:Int))
 | []=>aY
 | y :: ys=>by
  simp only[KZ,ar]
  exact⟨_,_,rfl,bC,sJ ys⟩
theorem CG (ys:List Nat):vN (ys.map λ(k:Nat)=>PyData.int (k:Int))=(L4 (og (λi=>ys.getD i 0) ys.length 0 0)).map λ(k:Nat)=>PyData.int (k:Int):=by
 unfold vN L4
 congr 1
 refine List.filter_congr λk _=> ?_
 rw[v8,Nat.zero_testBit,Bool.false_or,List.any_map]
 rw[Yv,List.any_eq_true,List.any_eq_true]
 constructor
 ·rintro⟨y,hy,hk⟩
  obtain⟨i,hi,rfl⟩:=List.getElem_of_mem hy
  have hk2:((ys[i]:Nat):Int)=(k:Int):=by simpa [Lm] using hk
  have hk':ys[i]=k:=by omega
  exact⟨i,XU.mpr hi,by simp[X7,K3 hi,hk']⟩
 ·rintro⟨i,hi,hk⟩
  have hi':=XU.mp hi
  refine⟨ys[i],UX hi',?_⟩
  have hk':ys[i]=k:=by simpa [X7,K3 hi'] using hk
  simp[Lm,hk']
section
variable {X:Cx}{K:Frag}{Ew:Str->Hp->Prop}{pos pos2 p p2:Pos}{a:Expr}{ta:TE}{fa:EF}
def CH (K:Frag)(ta:TE):TE:=λσ H Q=>ta σ H λx H1=>∃q,∃ys:List Nat,x= .ref q/\fV K H1 q (ys.map λ(k:Nat)=>V.int (k:Int))/\(∀k∈ys,k < 4)/\∀t,H1 t=none->Q (.ref t) (upd H1 t (.lst ((L4 (og (λi=>ys.getD i 0) ys.length 0 0)).map λ(k:Nat)=>V.int (k:Int))))
theorem yj (hc:X.calm=true)(hg:Gl X "sorted")(hm:X.mg "sorted" =none)(hg2:Gl X "set")(hm2:X.mg "set" =none)(ha:PE X a ta)
  (hs:starEach [a] X.env=(false,eval a X.env) :: starEach [] X.env:=by rfl) (hpl:(backTo pos2 (starEach [] X.env)).any (·.1)=false:=by rfl)
  (hs2:starEach [.Call (.Name "set" p2) [a] [] pos2] X.env=(false,eval (.Call (.Name "set" p2) [a] [] pos2) X.env) :: starEach [] X.env:=by rfl) (pJ:(backTo pos (starEach [] X.env)).any (·.1)=false:=by rfl)
  (hnil:backTo pos (starEach [] X.env)=[]:=by rfl) :
  PE X (.Call (.Name "sorted" p) [.Call (.Name "set" p2) [a] [] pos2] [] pos) (CH X.K ta):=by
 intro pins s σ H Q I h
 refine wpAny_Call_Name_kw (fK I hg hm PyProof.Rows.boot_sorted ?_)
 refine PyProof.Rows.callWith_builtin1 ?_ hs2 pJ
 rw[hs2]
 show wpAny _ _ (spliced ((false,eval (.Call (.Name "set" p2) [a] [] pos2) X.env) :: backTo pos (starEach [] X.env))) _ _ s
 refine Calls.spliced_cons (wpAny_Call_Name_kw (fK I hg2 hm2 PyProof.Rows.boot_set ?_))
 refine PyProof.Rows.callWith_type1 (cW (bx ha cZ hs pos2 pins s σ H (λvs H1=>match vs with
  | [x]=>∃q,∃ys:List Nat,x= .ref q/\fV X.K H1 q (ys.map λ(k:Nat)=>V.int (k:Int))/\(∀k∈ys,k < 4)/\∀t,H1 t=none->Q (.ref t) (upd H1 t (.lst ((L4 (og (λi=>ys.getD i 0) ys.length 0 0)).map λ(k:Nat)=>V.int (k:Int))))
  | _=>False) I h) λus s1 ⟨vs,H1,I1,r1,q1⟩=> ?_) hs hpl
 match vs,r1,q1 with
 | [x],r1,q1=>
  obtain⟨q,ys,rfl,hq,h4,fin⟩:=q1
  obtain⟨u,rfl,ru⟩:=r1.one
  cases ru
  obtain⟨its,rv,pl,hz⟩:=I1.list hq
  have hh:X.A.handled=none:=I1.ok.hd hc
  have hl:=rv.length
  rw[K4] at hl
  refine AR (w:=X.w) hh pl.isList (val:=λi=>ys.getD i 0) (λi v e=> ?_) λh' tk hM hk=> ?_
  ·rw[List.getElem?_toArray] at e
   have hi:i < ys.length:=by have:=(X1.mp e).1;omega
   have e1:(ys.map λ(k:Nat)=>V.int (k:Int))[i]? =some (.int ((ys.getD i 0:Nat):Int)):=by
    rw[KY,X7,K3 hi];rfl
   obtain⟨u,hu,ru⟩:=rv.get e1
   rw[hu] at e;cases e
   exact⟨h4 _ (by rw[X7,K3 hi];exact UX hi),ru⟩
  ·rw[hnil]
   refine Calls.spliced_nil ?_
   have O3:its.toArray.size=ys.length:=by rw[Kj];exact hl.symm
   rw[O3] at hM
   have hfr:=I1.fresh
   have I2:Inv X pins σ H1 {s1 with heap:=h',toks:=tk}:=I1.kept (t':=tk) λb u e=>hk b u (Kv e) e
   refine AT hh hM λh2 tk2 a out c hge hat hints hk2=> ?_
   refine⟨.ref a,_,I2.laid (t':=tk2) (a:=a) (o:=.lst ((L4 (og (λi=>ys.getD i 0) ys.length 0 0)).map λ(k:Nat)=>V.int (k:Int))) (λb u e=>hk2 b u (Kv e) e) hge ⟨?_,out,c,?_,hat⟩,rfl,fin _ (I2.hok.fresh hge)⟩
   ·rw[K4];exact KJ (U7 _ _) (by decide)
   ·have:=sH hints;rw[KQ] at this;exact this
 | [],r1,q1=>exact False.elim q1
 | _ :: _ :: _,r1,q1=>exact False.elim q1
theorem yk (hc:X.calm=true)(hg:Gl X "sorted")(hm:X.mg "sorted" =none)(hg2:Gl X "set")(hm2:X.mg "set" =none)(ha:DE X K Ew a fa)(hK:X.K=K:=by rfl)
  (hs:starEach [a] X.env=(false,eval a X.env) :: starEach [] X.env:=by rfl) (hpl:(backTo pos2 (starEach [] X.env)).any (·.1)=false:=by rfl)
  (hs2:starEach [.Call (.Name "set" p2) [a] [] pos2] X.env=(false,eval (.Call (.Name "set" p2) [a] [] pos2) X.env) :: starEach [] X.env:=by rfl) (pJ:(backTo pos (starEach [] X.env)).any (·.1)=false:=by rfl)
  (hnil:backTo pos (starEach [] X.env)=[]:=by rfl) :
  DE X K Ew (.Call (.Name "sorted" p) [.Call (.Name "set" p2) [a] [] pos2] [] pos) (Ey j8 fa):=(yj hc hg hm hg2 hm2 ha hs hpl hs2 pJ hnil).imp λσ H Q q=>by
 obtain⟨B,φ,Γ,r0,q⟩:=q
 refine⟨B,φ,Γ,r0,(q.bind r0).mono λu H1 s1 ⟨k,x,e1,v1,r1,_,q1⟩=> ?_⟩
 obtain⟨z,e,q⟩:=gR (kf:=λ_=> .fr []) q1
 cases x <;> simp only[j8] at e <;> try (cases e;done)
 split at e
 ·rename_i xs hn
  cases e
  obtain⟨ys,rfl,h4⟩:=CF hn
  obtain⟨p,vs,rfl,h1,h2⟩:=aZ (v1.toD r1.bs)
  have e2:=sI h2
  subst e2
  rw[hK]
  refine⟨p,ys,rfl,h1,h4,λt ht=>q _ _ (s1.trans (Same.upd ht)) (VR.fresh.mpr ?_)⟩
  rw[CG]
  refine aS.lst (aU _ (λ_=>rfl) _) aw ?_ (s1.free ht)
  generalize L4 (og (λi=>ys.getD i 0) ys.length 0 0)=l
  exact sJ l
 ·cases e
end
section
variable {X:Cx}
theorem IG:iD X (compareOp .GtE) Mi:=iD.zg KD λx y z e=>by
 cases x <;> cases y <;> simp only[Mi] at e <;> cases e
 exact⟨_,_,rfl,rfl,rfl,λ_ _=>cL⟩
end
end L2
namespace Y
open PySem
end Y
namespace L2
open PySem PySem.Spec PyProof.Rows Y
open AutoSeq1 (wpAny_loadPart')
end L2
namespace Y
open PySem
theorem kN (i:Int):bo (.int i)=true:=rfl
theorem E9:bo .none=true:=rfl
theorem IH (b:Bool):bo (.bool b)=true:=rfl
theorem E_ (b:Str):bo (.str b)=true:=rfl
theorem md (xs:List PyData):bo (.list xs)=false:=rfl
theorem cf (xs:List PyData):bo (.tuple xs)=aq xs:=rfl
theorem cQ {k:Kd}{d:PyData}(h:bo d=true):cy k d= .fr []:=by unfold cy;rw[JQ h]
theorem v9 {k:Kd}{d:PyData}(h:bo d=false):cy k d=k:=by unfold cy;rw[JV (by rw[h];exact K5)]
theorem o3 (k:Kd)(i:Int):cy k (.int i)= .fr []:=rfl
theorem II (k:Kd)(i:Bool):cy k (.bool i)= .fr []:=rfl
theorem Fa (k:Kd)(i:Str):cy k (.str i)= .fr []:=rfl
theorem Fb (k:Kd):cy k .none= .fr []:=rfl
theorem Fc (k:Kd)(xs:List PyData):cy k (.list xs)=k:=rfl
theorem Fd (k:Kd)(xs:List (PyData×PyData)):cy k (.dict xs)=k:=rfl
theorem au {k:Kd}{xs:List PyData}(h:aq xs=true):cy k (.tuple xs)= .fr []:=cQ h
theorem fO (l:List Int):aq (l.map PyData.int)=true:=aU _ (λ_=>rfl) l
theorem AU {n:Nat}(l:List Int):lays n (l.map PyData.int)=true:=j5 _ (λ_=>by cases n <;> rfl) l
theorem CI (i j:Int):kX (.int i) (.int j)=some (.int (i+j)):=rfl
theorem CJ (i j:Int):vf (.int i) (.int j)=some (.int (i - j)):=rfl
theorem CK {i j:Int}(h:(-(2^64) < i/\i < 2^64)∨(-(2^64) < j/\j < 2^64)):rq (.int i) (.int j)=some (.int (i*j)):=JQ h
theorem AV {i j:Int}(h:0 < j/\j < 2^64):jV (.int i) (.int j)=some (.int (i / j)):=JQ h
theorem CL {i j:Int}(h:0 < j):jZ (.int i) (.int j)=some (.int (i % j)):=JQ h
theorem CM {i j:Int}(h:0<=j/\j<=1000000/\i.natAbs < 2^64):BM (.int i) (.int j)=some (.int (i^j.toNat)):=JQ h
theorem Fe (i j:Int):JM (.int i) (.int j)=some (.bool (decide (i < j))):=rfl
theorem Ff (i j:Int):OD (.int i) (.int j)=some (.bool (decide (i<=j))):=rfl
theorem Fg (i j:Int):JN (.int i) (.int j)=some (.bool (decide (j < i))):=rfl
theorem CN (i:Int):M5 (.int i)=some (.int (-i)):=rfl
theorem Fh (i j:Int):xN (.int i) (.int j)=some (.bool (i==j)):=rfl
theorem Fi (i j:Int):BL (.int i) (.int j)=some (.bool (!(i==j))):=rfl
theorem Fj (x:PyData):OC x .none=some (.bool (i7 x)):=rfl
theorem ym (x:PyData):tU x .none=some (.bool (!i7 x)):=rfl
theorem AW (xs:List PyData):j7 [.list xs]=some (.int xs.length):=rfl
theorem CO (xs:List PyData):j7 [.tuple xs]=some (.int xs.length):=rfl
theorem CP (xs:List PyData)(i:Int):kY (.list xs) (.int i)=rA xs i:=rfl
theorem Fk (xs:List PyData)(i:Int):kY (.tuple xs) (.int i)=rA xs i:=rfl
theorem iG {α:Type}{xs:List α}{j:Nat}{v:α}(h:xs[j]? =some v):rA xs (j:Int)=some v:=by
 have hj:j < xs.length:=(X1.mp h).1
 have e:nM xs.length (j:Int)=some j:=by
  unfold nM
  rw[JQ (!1),JQ (!1)];simp
 unfold rA;rw[e];exact h
theorem Fl {α:Type}{xs:List α}{i:Int}{v:α}(h0:0<=i)(h:xs[i.toNat]? =some v):rA xs i=some v:=by
 obtain⟨j,rfl⟩:=Int.eq_ofNat_of_zero_le h0
 exact iG (by simpa using h)
theorem LF {x y:PyData}(hx:lay 60 x=true)(hy:lay 60 y=true):xN x y=some (.bool (PyData.eqv x y)):=by unfold xN;rw[hx,hy];rfl
theorem LG {x y:PyData}(hx:lay 60 x=true)(hy:lay 60 y=true):BL x y=some (.bool (!PyData.eqv x y)):=by unfold BL;rw[hx,hy];rfl
theorem v_ {x:PyData}{ys:List PyData}(hx:lay 60 x=true)(hy:lays 60 ys=true):HS x (.list ys)=some (.bool (cz ys x)):=by simp only[HS,hx,hy,XZ,if_true]
theorem wa {x:PyData}{ys:List PyData}(hx:lay 60 x=true)(hy:lays 60 ys=true):gE x (.list ys)=some (.bool (!cz ys x)):=by simp only[gE,hx,hy,XZ,if_true]
theorem qb {x:PyData}{ys:List PyData}(hx:lay 60 x=true)(hy:lays 60 ys=true):gE x (.tuple ys)=some (.bool (!cz ys x)):=by simp only[gE,hx,hy,XZ,if_true]
theorem qc {xs:List PyData}(h:aq xs=true):nN [.list xs]=some (.list xs):=JQ h
theorem bT {xs:List PyData}(h:aq xs=true):eF [.list xs]=some (.tuple xs):=JQ h
theorem qd {xs:List PyData}(h:aq xs=true):vt (.list xs)=some (.tuple xs.reverse):=JQ h
theorem CQ {n:Int}(h:-(2^62)<=n/\n < 2^62):Aj (.int n)=ah (.fr [],(List.range n.toNat).map λ(i:Nat)=>PyData.int (i:Int)):=JQ h
theorem yn (l:List Int)(x:Int):cz (l.map PyData.int) (.int x)=decide (x∈l):=by
 unfold cz
 induction l with
 | nil=>rfl
 | cons y l ih=>
  rw[KZ,YJ,ih]
  have e:PyData.eqv (.int y) (.int x)=(y==x):=by simp[PyData.eqv]
  rw[e]
  by_cases h:y=x
  ·subst h;simp
  ·have h':¬ x=y:=λz=>h z.symm
   simp[h,h']
theorem br {g:GF}{b:SF}{ds:List PyData}{Γ:aW}(P:Nat->aW->Prop)(h0:P 0 Γ)
  (hs:∀(i:Nat) (d:PyData) (Γ:aW),ds[i]? =some d->P i Γ->∃Γ1 Γ2,g (cy .base d) d Γ=some Γ1/\(b Γ1=ah (.nx Γ2)∨b Γ1=ah (.ct Γ2))/\P (i+1) Γ2) :
  ∃Γ',bf g b ds Γ=ah (.nx Γ')/\P ds.length Γ':=by
 induction ds generalizing Γ P with
 | nil=>exact⟨Γ,rfl,h0⟩
 | cons d ds ih=>
  obtain⟨Γ1,Γ2,h1,h2,h3⟩:=hs 0 d Γ rfl h0
  obtain⟨Γ',h4,h5⟩:=ih (Γ:=Γ2) (λi=>P (i+1)) h3 λi d' Γ' hd hp=>hs (i+1) d' Γ' (by simpa using hd) hp
  refine⟨Γ',?_,by simpa using h5⟩
  simp only[bf,h1,bB,ay]
  rcases h2 with h2 | h2 <;> (rw[h2];exact h4)
theorem cm {n i:Nat}{d:PyData}(h:((List.range n).map λ(i:Nat)=>PyData.int (i:Int))[i]? =some d):d= .int (i:Int)/\i < n:=by
 rw[KY] at h
 by_cases hi:i < n
 ·rw[Y9 hi] at h
  exact⟨(Option.some.inj h).symm,hi⟩
 ·rw[Xq (by simpa using hi)] at h
  cases h
theorem ji {fe:EF}{cap:aW}(ds:List PyData)(f:PyData->Kd×PyData)(h:∀d∈ds,fe (some (false,d) :: cap)=ah (f d)):cc ce fe cap ds=some (ds.map f):=by
 induction ds with
 | nil=>rfl
 | cons d ds ih=>
  have h1:=h d K8
  simp only[cc,ce,ah] at h1⊢
  rw[h1,ih λx hx=>h x (K9 _ hx)]
  rfl
theorem uD {ft:TF}{fe:EF}{cap:aW}(ds:List PyData)(p:PyData->Bool)(f:PyData->Kd×PyData)(ht:∀d∈ds,ft (some (false,d) :: cap)=ah (p d))(h:∀d∈ds,p d=true->fe (some (false,d) :: cap)=ah (f d)):cc ft fe cap ds=some ((ds.filter p).map f):=by
 induction ds with
 | nil=>rfl
 | cons d ds ih=>
  have h0:=ht d K8
  have ih':=ih (λx hx=>ht x (K9 _ hx)) λx hx=>h x (K9 _ hx)
  simp only[cc,ah] at h0⊢
  rw[h0]
  cases hp:p d with
  | false=>simp only[ih',Y7,hp,XJ,if_false]
  | true=>
   have h1:=h d K8 hp
   simp only[ah] at h1
   simp only[h1,ih',Y7,hp,if_true,KZ,U0]
theorem dC {α:Type}(l:List α)(f:α->PyData):gk (l.map λa=>(Kd.fr [],f a))=some (.fr []):=by
 induction l with
 | nil=>rfl
 | cons a l ih=>simp only[KZ,gk,ih]
end Y
namespace L2
open PySem PySem.Spec PyProof.Rows Y
structure N_ (P:Program)(w:World)(outer:List Env)(H:Hp)(h0:Heap)(H':Hp)(B h:Heap):Prop where
 hok:oQ P w H' B
 keep:∀b o,h0.get? b=some o->H b=none->b∉frs outer->B.get? b=some o
 slot:∀b o,h0.get? b=some o->H b=none->b∈frs outer->∃sl,h.get? b=some {o with slots:=sl}
 free:∀b o,h0.get? b=some o->H b=none->H' b=none
 there:∀b o,h0.get? b=some o->b∉frs outer->∃o',B.get? b=some o'
 tups:∀b xs,H b=some (.tup xs)->H' b=some (.tup xs)
 lf:∀b o u,H b=some (.Bm o u)->H' b=some (.Bm o u)
 lI:∀b ps,H b=some (.Ea ps)->∃more,H' b=some (.Ea (ps++more))
theorem N_.un {P:Program}{w:World}{outer:List Env}{H H':Hp}{h0 B h h':Heap}(T:N_ P w outer H h0 H' B h)(ff:∀b∈frs outer,H b=none)(nf:h.FunFrames B outer)(st:B.StaysIn h')(up:h.UpToSlots h'):Un (frs outer) [] H H' h0 h':=by
 have sl:∀b o,h0.get? b=some o->H b=none->b∈frs outer->∃sl,h'.get? b=some {o with slots:=sl}:=λb o e n hb=>by
  obtain⟨sl,e1⟩:=T.slot b o e n hb
  obtain⟨_,o2,e2,nd⟩:=nf.mem hb
  rw[e1] at e2
  cases e2
  obtain⟨sl',e3⟩:=up b _ e1 nd
  exact⟨sl',e3⟩
 refine⟨λb o e n hb _=>st _ _ (T.keep b o e n hb),λb o e n hb _=>sl b o e n hb,λb o e n _=>T.free b o e n,λb o e _=> ?_,T.tups,T.lf,T.lI⟩
 by_cases hb:b∈frs outer
 ·obtain⟨s,e1⟩:=sl b o e (ff b hb) hb
  exact⟨_,e1⟩
 ·obtain⟨o',e1⟩:=T.there b o e hb
  exact⟨o',st _ _ e1⟩
end L2
namespace Y
def nx (F:FF):FF:=λds=>match F ds with
 | some (.ok r)=>some (.ok r)
 | _=>none
end Y
namespace L2
open PySem PySem.Spec PyProof.Rows Y
end L2
namespace L2
open PySem PySem.Spec PyProof.Rows Y PySem.Calls Builtin Builtin.ObjectAttr Builtin.Getset_descriptor
def LH (x D:Addr)(h:Heap):Prop:=∃ox,h.get? x=some ox/\ox.cls= .ref D
theorem LH.ty {x D:Addr}{M:Model}{h:Heap}(p:LH x D h):PySem.W.Looks M h (typeOf (.ref x)) (.ref D):=by
 obtain⟨ox,h1,h2⟩:=p
 exact h2 ▸ (PySem.W.Looks.ld h1).andThen .now
end L2
namespace Y
end Y
namespace L2
open PySem PySem.Spec PyProof.Rows Y
section
variable {X:Cx}{pins:List (Addr×Obj)}{σ:St}{H:Hp}{s:Shared}
abbrev Cx.held (X:Cx)(e:Value):Cx:={X with A:=X.A.mark (some e),calm:=false,xe:=λ_ _=>False}
theorem Inv.held (I:Inv X pins σ H s)(e:Value):Inv (X.held e) pins σ H s :=
 ⟨⟨I.ok.mod,I.ok.kind,I.ok.glob,I.ok.blt,I.ok.above,I.ok.inj,I.ok.has,I.ok.cab,λz=>(K5 z).elim,I.ok.frames,I.ok.stk,I.ok.G6,I.ok.bs,I.ok.xA,I.ok.tu,I.ok.u_,I.ok.kS,I.ok.Bt⟩,I.os,I.bare,I.base,I.loc,I.cell,I.free,I.iY,I.pin,I.hok,I.len⟩
end
section
variable {es elts:List Expr}{env:Env}{pos:Pos}{k:Nat}
theorem CS:starEach (.Tuple elts k pos :: es) env=(false,eval (.Tuple elts k pos) env) :: starEach es env:=by rfl
theorem IJ:starEach (.List elts pos :: es) env=(false,eval (.List elts pos) env) :: starEach es env:=by rfl
theorem e_ {c:Const}:starEach (.Constant c k pos :: es) env=(false,eval (.Constant c k pos) env) :: starEach es env:=by rfl
theorem ai {x:Str}:starEach (.Name x pos :: es) env=(false,eval (.Name x pos) env) :: starEach es env:=by rfl
theorem qe {a b:Expr}:starEach (.Subscript a b pos :: es) env=(false,eval (.Subscript a b pos) env) :: starEach es env:=by rfl
end
end L2
namespace Ts
open PySem PyProof.Rows
abbrev eL:Array Keyed->Nat->StateT SortSt Sem Keyed:=sortPriv% PySem.Builtin.elem
abbrev lT:Keyed->Keyed->StateT SortSt Sem (Option Bool):=sortPriv% PySem.Builtin.lt
abbrev gal:Bool->Keyed->Array Keyed->Nat->Nat->Nat->StateT SortSt Sem (Option Nat):=sortPriv% PySem.Builtin.gallop
abbrev O4:Array Keyed->Array Keyed->StateT SortSt Sem (Array Keyed):=sortPriv% PySem.Builtin.mergeLo
abbrev O5:Array Keyed->Array Keyed->StateT SortSt Sem (Array Keyed):=sortPriv% PySem.Builtin.mergeHi
abbrev O6:Nat->StateT SortSt Sem Unit:=sortPriv% PySem.Builtin.setMinGallop
def kz (x:Keyed):Int:=numOf x.1
def IK (x:Keyed):Prop:=∃n t,x.1= .int n t
section
variable {prog:Program}{w:World}{A:Around}{E:Z3}{s:Shared}
theorem a7 {M:Model}{arr:Array Keyed}{i:Nat}{x:Keyed}{Q:Keyed->SortSt->Prop}{st:SortSt}(h:arr[i]? =some x)(hq:Q x st):wpS M A E s (eL arr i) Q st:=by
 show wpS M A E s (elem' arr i) Q st
 rw[elem'_eq,h];exact JX hq
theorem qf {x y:Keyed}{Q:Option Bool->SortSt->Prop}{st:SortSt}(hk:kindOf st=oneType')(hx:IK x)(hy:IK y)(hq:Q (some (decide (kz x < kz y))) st):wpS (!3) A E s (lT x y) Q st:=by
 obtain⟨a,t,ea⟩:=hx
 obtain⟨b,u,eb⟩:=hy
 show wpS (!3) A E s (lt' x y) Q st
 unfold kz at hq
 rw[ea,eb] at hq
 rw[lt'_eq]
 refine JK (JU ?_)
 rw[hk,keyLt'_oneType,ea,eb]
 exact JK (wpS_lift (wpAny_attempt (oneLt_int ⟨rfl,JX hq⟩)))
theorem AX {arr:Array Keyed}{i:Nat}{x:Keyed}(h:arr[i]? =some x):K arr i=kz x:=by unfold K;rw[h];rfl
def yo (left:Bool)(key:Keyed)(arr:Array Keyed)(base i:Nat):Bool:=if left=true then decide (K arr (base+i) < kz key) else !decide (kz key < K arr (base+i))
theorem me {left:Bool}{key:Keyed}{arr:Array Keyed}{base n i:Nat}{Q:Option Bool->SortSt->Prop}{st:SortSt}(hk:kindOf st=oneType')(hkey:IK key)(ha:∀x∈arr.toList,IK x)(hb:base+n<=arr.size)(hi:i < n)
  (hq:Q (some (yo left key arr base i)) st) :
  wpS (!3) A E s (do let x←eL arr (base+i);if left=true then lT x key else do let r←lT key x;pure (Option.map (λx=> !x) r)) Q st:=by
 have hlt:base+i < arr.size:=by omega
 have hg:arr[base+i]? =some arr[base+i]:=Yy hlt
 have hx:IK arr[base+i]:=ha _ (by simp)
 refine JK (a7 hg ?_)
 unfold yo at hq
 rw[AX hg] at hq
 cases left with
 | true=>rw[JQ rfl];exact qf hk hx hkey hq
 | false=>rw[JV K5];exact JK (qf hk hkey hx (JX hq))
theorem Fm {left:Bool}{key:Keyed}{arr:Array Keyed}{base n hint:Nat}{Q:Option Nat->SortSt->Prop}{st:SortSt}(hk:kindOf st=oneType')(hkey:IK key)(ha:∀x∈arr.toList,IK x)(hb:base+n<=arr.size)(hh:hint < n)
  (mono:∀i j,i<=j->j < n->yo left key arr base j=true->yo left key arr base i=true)
  (hq:∀k,k<=n->(∀i,i < k->yo left key arr base i=true)->(∀i,k<=i->i < n->yo left key arr base i=false)->Q (some k) st):wpS (!3) A E s (gal left key arr base n hint) Q st:=by
 obtain⟨B,hB⟩:∃B,yo left key arr base=B:=⟨_,rfl⟩
 rw[hB] at mono hq
 refine JK (me hk hkey ha hb hh ?_)
 dsimp only
 cases h0:yo left key arr base hint with
 | true=>
  rw[hB] at h0
  rw[JQ rfl]
  refine JK (wpS_mono (wpS_forRange (I:=λx c st'=>st'=st/\∃l o,c=(none,l,o)/\l < o/\x+1<=o/\l < n - hint/\B (hint+l)=true)
   (Q:=λc st'=>st'=st/\∃l o,c=(none,l,o)/\l < o/\l < n - hint/\B (hint+l)=true/\(n - hint<=o∨(o < n - hint/\B (hint+o)=false))) ?_ ?_ ⟨rfl,0,1,rfl,by omega,by omega,by omega,h0⟩) ?_)
  ·rintro x c st' _ hx ⟨rfl,l,o,rfl,a1,a2,a3,a4⟩
   dsimp only
   by_cases hge:o≥n - hint
   ·rw[JQ hge]
    exact JX ⟨rfl,l,o,rfl,a1,a3,a4,.inl hge⟩
   ·rw[JV hge]
    refine JK (me hk hkey ha hb (show hint+o < n by omega) ?_)
    dsimp only
    cases hc:yo left key arr base (hint+o) with
    | true=>exact JX ⟨rfl,o,2*o+1,rfl,by omega,by omega,by omega,by rw[←hB];exact hc⟩
    | false=>exact JX ⟨rfl,l,o,rfl,a1,a3,a4,.inr ⟨by omega,by rw[←hB];exact hc⟩⟩
  ·rintro c st' ⟨rfl,l,o,rfl,a1,a2,a3,a4⟩
   exact⟨rfl,l,o,rfl,a1,a3,a4,.inl (!1)⟩
  ·rintro c st' ⟨est,l,o,rfl,a1,a3,a4,a5⟩
   rw[est]
   dsimp only
   have b1:hint+l+1<=hint+min o (n - hint):=by omega
   have b2:hint+min o (n - hint)<=n:=by omega
   have b3:∀i,i < hint+l+1->B i=true:=λi hi=>mono i (hint+l) (!1) (!1) a4
   have b4:∀i,hint+min o (n - hint)<=i->i < n->B i=false:=λi h1 h2=>by
    rcases a5 with a5 | ⟨a5,a6⟩
    ·omega
    ·cases hz:B i with
     | false=>rfl
     | true=>have:=mono (hint+o) i (!1) h2 hz;rw[a6] at this;cases this
   refine JK (wpS_mono (wpS_forRange (I:=λx c st'=>st'=st/\∃l r,c=(none,l,r)/\l<=r/\r<=n/\r - l<=n - x/\(∀i,i < l->B i=true)/\∀i,r<=i->i < n->B i=false)
    (Q:=λc st'=>st'=st/\∃l r,c=(none,l,r)/\r<=n/\(∀i,i < r->B i=true)/\∀i,r<=i->i < n->B i=false) ?_ ?_ ⟨rfl,_,_,rfl,b1,b2,by omega,b3,b4⟩) ?_)
   ·rintro x c st' _ hx ⟨rfl,l,r,rfl,a1,a2,a3,a4,a5⟩
    dsimp only
    by_cases hge:l≥r
    ·rw[JQ hge]
     obtain rfl:l=r:=by omega
     exact JX ⟨rfl,l,l,rfl,a2,a4,a5⟩
    ·rw[JV hge]
     refine JK (me hk hkey ha hb (show l+(r - l) / 2 < n by omega) ?_)
     dsimp only
     cases hc:yo left key arr base (l+(r - l) / 2) with
     | true=>
      rw[JQ rfl]
      exact JX ⟨rfl,l+(r - l) / 2+1,r,rfl,by omega,a2,by omega,λi hi=>mono i (l+(r - l) / 2) (!1) (!1) (hB ▸ hc),a5⟩
     | false=>
      rw[JV K5]
      refine JX ⟨rfl,l,l+(r - l) / 2,rfl,by omega,by omega,by omega,a4,λi h1 h2=> ?_⟩
      cases hz:B i with
      | false=>rfl
      | true=>have:=mono _ i h1 h2 hz;rw[←hB,hc] at this;cases this
   ·rintro c st' ⟨rfl,l,r,rfl,a1,a2,a3,a4,a5⟩
    obtain rfl:l=r:=by omega
    exact⟨rfl,l,l,rfl,a2,a4,a5⟩
   ·rintro c st' ⟨rfl,l,r,rfl,a2,a4,a5⟩
    exact JX (hq r a2 a4 a5)
 | false=>
  rw[hB] at h0
  rw[JV K5]
  refine JK (wpS_mono (wpS_forRange (I:=λx c st'=>st'=st/\∃l o,c=(none,l,o)/\l < o/\x+1<=o/\l < hint+1/\B (hint - l)=false)
   (Q:=λc st'=>st'=st/\∃l o,c=(none,l,o)/\l < o/\l < hint+1/\B (hint - l)=false/\(hint+1<=o∨(o < hint+1/\B (hint - o)=true))) ?_ ?_ ⟨rfl,0,1,rfl,by omega,by omega,by omega,h0⟩) ?_)
  ·rintro x c st' _ hx ⟨rfl,l,o,rfl,a1,a2,a3,a4⟩
   dsimp only
   by_cases hge:o≥hint+1
   ·rw[JQ hge]
    exact JX ⟨rfl,l,o,rfl,a1,a3,a4,.inl hge⟩
   ·rw[JV hge]
    refine JK (me hk hkey ha hb (show hint - o < n by omega) ?_)
    dsimp only
    cases hc:yo left key arr base (hint - o) with
    | true=>exact JX ⟨rfl,l,o,rfl,a1,a3,a4,.inr ⟨by omega,by rw[←hB];exact hc⟩⟩
    | false=>exact JX ⟨rfl,o,2*o+1,rfl,by omega,by omega,by omega,by rw[←hB];exact hc⟩
  ·rintro c st' ⟨rfl,l,o,rfl,a1,a2,a3,a4⟩
   exact⟨rfl,l,o,rfl,a1,a3,a4,.inl (!1)⟩
  ·rintro c st' ⟨est,l,o,rfl,a1,a3,a4,a5⟩
   rw[est]
   dsimp only
   have b1:hint+1 - min o (hint+1)<=hint - l:=by omega
   have b2:hint - l<=n:=by omega
   have b3:∀i,i < hint+1 - min o (hint+1)->B i=true:=λi hi=>by
    rcases a5 with a5 | ⟨a5,a6⟩
    ·omega
    ·exact mono i (hint - o) (!1) (!1) a6
   have b4:∀i,hint - l<=i->i < n->B i=false:=λi h1 h2=>by
    cases hz:B i with
    | false=>rfl
    | true=>have:=mono (hint - l) i (!1) h2 hz;rw[a4] at this;cases this
   refine JK (wpS_mono (wpS_forRange (I:=λx c st'=>st'=st/\∃l r,c=(none,l,r)/\l<=r/\r<=n/\r - l<=n - x/\(∀i,i < l->B i=true)/\∀i,r<=i->i < n->B i=false)
    (Q:=λc st'=>st'=st/\∃l r,c=(none,l,r)/\r<=n/\(∀i,i < r->B i=true)/\∀i,r<=i->i < n->B i=false) ?_ ?_ ⟨rfl,_,_,rfl,b1,b2,by omega,b3,b4⟩) ?_)
   ·rintro x c st' _ hx ⟨rfl,l,r,rfl,a1,a2,a3,a4,a5⟩
    dsimp only
    by_cases hge:l≥r
    ·rw[JQ hge]
     obtain rfl:l=r:=by omega
     exact JX ⟨rfl,l,l,rfl,a2,a4,a5⟩
    ·rw[JV hge]
     refine JK (me hk hkey ha hb (show l+(r - l) / 2 < n by omega) ?_)
     dsimp only
     cases hc:yo left key arr base (l+(r - l) / 2) with
     | true=>
      rw[JQ rfl]
      exact JX ⟨rfl,l+(r - l) / 2+1,r,rfl,by omega,a2,by omega,λi hi=>mono i (l+(r - l) / 2) (!1) (!1) (hB ▸ hc),a5⟩
     | false=>
      rw[JV K5]
      refine JX ⟨rfl,l,l+(r - l) / 2,rfl,by omega,by omega,by omega,a4,λi h1 h2=> ?_⟩
      cases hz:B i with
      | false=>rfl
      | true=>have:=mono _ i h1 h2 hz;rw[←hB,hc] at this;cases this
   ·rintro c st' ⟨rfl,l,r,rfl,a1,a2,a3,a4,a5⟩
    obtain rfl:l=r:=by omega
    exact⟨rfl,l,l,rfl,a2,a4,a5⟩
   ·rintro c st' ⟨rfl,l,r,rfl,a2,a4,a5⟩
    exact JX (hq r a2 a4 a5)
end
abbrev jk (f:Keyed->Int)(l:List Keyed):Prop:=l.Pairwise λx y=>f x<=f y
structure MIL (f:Keyed->Int)(A B O:List Keyed)(i j:Nat):Prop where
 p:O.Perm (A.take i++B.take j)
 s:jk f O
 a:∀x∈O,∀y∈A.drop i,f x<=f y
 b:∀x∈O,∀y∈B.drop j,f x<=f y
section
variable {f:Keyed->Int}{A B O:List Keyed}{i j:Nat}
theorem MIL.symm (m:MIL f A B O i j):MIL f B A O j i:=⟨m.p.trans Jq,m.s,m.b,m.a⟩
theorem MIL.run (m:MIL f A B O i j)(sB:jk f B)(k:Nat)(h:∀x∈(B.drop j).take k,∀y∈A.drop i,f x<=f y):MIL f A B (O++(B.drop j).take k) i (j+k):=by
 have hs:jk f (B.drop j):=sB.sublist (YX _ _)
 have hs2:jk f ((B.drop j).take k++(B.drop j).drop k):=by rw[Ux];exact hs
 refine⟨?_,?_,?_,?_⟩
 ·rw[List.take_add,←X5];exact m.p.append_right _
 ·refine UW.mpr ⟨m.s,(UW.mp hs2).1,λx hx y hy=>m.b x hx y (U2 hy)⟩
 ·intro x hx y hy
  rcases Kk.mp hx with z | z
  ·exact m.a x z y hy
  ·exact h x z y hy
 ·intro x hx y hy
  rw[←YV] at hy
  rcases Kk.mp hx with z | z
  ·exact m.b x z y (U1 hy)
  ·exact(UW.mp hs2).2.2 x z y hy
theorem take1 {l:List Keyed}{j:Nat}(h:j < l.length):(l.drop j).take 1=[l[j]]:=by
 rw[U5 h];rfl
theorem MIL.push (m:MIL f A B O i j)(sB:jk f B)(hj:j < B.length)(h:∀y∈A.drop i,f B[j]<=f y):MIL f A B (O++[B[j]]) i (j+1):=by
 have:=m.run sB 1 (by rw[take1 hj];intro x hx;rw[K6.mp hx];exact h)
 rwa [take1 hj] at this
theorem MIL.fin (m:MIL f A B O i j)(hi:A.length<=i)(hj:B.length<=j):O.Perm (A++B)/\jk f O:=by
 have:=m.p
 rw[U9 hi,U9 hj] at this
 exact⟨this,m.s⟩
theorem MIL.nil (f:Keyed->Int)(A B:List Keyed):MIL f A B [] 0 0:=⟨by simp,List.Pairwise.nil,(λx hx=>by cases hx),(λx hx=>by cases hx)⟩
theorem MIL.both (m:MIL f A B O i j)(sA:jk f A)(sB:jk f B)(h:∀x∈B.drop j,∀y∈A.drop i,f x<=f y):(O++B.drop j++A.drop i).Perm (A++B)/\jk f (O++B.drop j++A.drop i):=by
 have m1:=m.run sB (B.length - j) (by rw[U9 (by rw[XQ];omega)];exact h)
 rw[U9 (by rw[XQ];omega)] at m1
 have m2:=m1.symm.run sA (A.length - i) (by
  intro x hx y hy
  rw[Jy (!1)] at hy;cases hy)
 rw[U9 (by rw[XQ];omega)] at m2
 obtain⟨q1,q2⟩:=m2.fin (!1) (!1)
 exact⟨q1.trans Jq,q2⟩
end
def MI (a b out:Array Keyed)(ia ib:Nat):Prop:=MIL kz a.toList b.toList out.toList ia ib
def Fn (a b r:Array Keyed):Prop:=r.toList.Perm (a.toList++b.toList)/\jk kz r.toList
theorem ij (a:Array Keyed)(i j:Nat):(a.extract i j).toList=(a.toList.drop i).take (j - i):=by
 rw[Array.toList_extract,List.extract_eq_take_drop]
theorem mf (a:Array Keyed)(i:Nat):(a.extract i).toList=a.toList.drop i:=by
 rw[ij,U9 (by rw[XQ,Kq];exact K2 _)]
section
variable {a b out:Array Keyed}{ia ib:Nat}
theorem qg {l:List Keyed}{i:Nat}{y:Keyed}(sl:jk kz l)(hi:i < l.length)(hy:y∈l.drop i):kz l[i]<=kz y:=by
 rw[U5 hi] at hy
 rcases K0.mp hy with rfl | hy
 ·exact Int.le_refl _
 ·have:jk kz (l[i] :: l.drop (i+1)):=by rw[←U5 hi];exact sl.sublist (YX _ _)
  exact(List.pairwise_cons.mp this).1 y hy
theorem MI.sK (m:MI a b out ia ib)(sB:jk kz b.toList)(h:ib < b.size)(hx:∀y∈a.toList.drop ia,kz b[ib]<=kz y):MI a b (out.push b[ib]) ia (ib+1):=by
 unfold MI;rw[YY];exact MIL.push m sB (by simpa using h) (by simpa using hx)
theorem MI.qh (m:MI a b out ia ib)(sA:jk kz a.toList)(h:ia < a.size)(hx:∀y∈b.toList.drop ib,kz a[ia]<=kz y):MI a b (out.push a[ia]) (ia+1) ib:=by
 unfold MI;rw[YY];exact(MIL.push (MIL.symm m) sA (by simpa using h) (by simpa using hx)).symm
theorem MI.IL (m:MI a b out ia ib)(sB:jk kz b.toList)(k:Nat)(hx:∀x∈(b.toList.drop ib).take k,∀y∈a.toList.drop ia,kz x<=kz y):MI a b (out++b.extract ib (ib+k)) ia (ib+k):=by
 unfold MI;rw[UY,ij,Nat.add_sub_cancel_left];exact MIL.run m sB k hx
theorem MI.yp (m:MI a b out ia ib)(sA:jk kz a.toList)(k:Nat)(hx:∀x∈(a.toList.drop ia).take k,∀y∈b.toList.drop ib,kz x<=kz y):MI a b (out++a.extract ia (ia+k)) (ia+k) ib:=by
 unfold MI;rw[UY,ij,Nat.add_sub_cancel_left];exact(MIL.run (MIL.symm m) sA k hx).symm
theorem MI.done (m:MI a b out ia ib)(sA:jk kz a.toList)(sB:jk kz b.toList)(h:a.size<=ia∨b.size<=ib):Fn a b (out++a.extract ia++b.extract ib):=by
 unfold Fn
 rw[UY,UY,mf,mf]
 have:=MIL.both (MIL.symm m) sB sA (λx hx y hy=>by
  rcases h with h | h
  ·rw[Jy (by rw[Kq];exact h)] at hx;cases hx
  ·rw[Jy (by rw[Kq];exact h)] at hy;cases hy)
 exact⟨this.1.trans Jq,this.2⟩
theorem MI.last (m:MI a b out ia ib)(sA:jk kz a.toList)(sB:jk kz b.toList)(h:∀x∈b.toList.drop ib,∀y∈a.toList.drop ia,kz x<=kz y):Fn a b (out++b.extract ib++a.extract ia):=by
 unfold Fn
 rw[UY,UY,mf,mf]
 exact MIL.both m sA sB h
end
def MH (a b out:Array Keyed)(na nb:Nat):Prop:=MIL (λx=> -kz x) a.toList.reverse b.toList.reverse out.toList (a.size - na) (b.size - nb)
theorem Fo {l:List Keyed}(h:jk kz l):jk (λx=> -kz x) l.reverse:=List.pairwise_reverse.mpr (h.imp λh=>by dsimp only at h⊢;omega)
theorem CT {l:List Keyed}(h:jk (λx=> -kz x) l):jk kz l.reverse:=List.pairwise_reverse.mpr (h.imp λh=>by dsimp only at h⊢;omega)
theorem wb {l:List Keyed}{n:Nat}:l.reverse.drop (l.length - n)=(l.take n).reverse:=by rw[List.reverse_take]
section
variable {a b out:Array Keyed}{na nb:Nat}
theorem MH.symm (m:MH a b out na nb):MH b a out nb na:=MIL.symm m
theorem MH.yp (m:MH a b out na nb)(sA:jk kz a.toList)(at_:Nat)(h1:at_<=na)(h2:na<=a.size)(hx:∀x∈(a.toList.take na).drop at_,∀y∈b.toList.take nb,kz y<=kz x):MH a b (out++(a.extract at_ na).reverse) at_ nb:=by
 have el:a.toList.length=a.size:=Kq
 have eb:b.toList.length=b.size:=Kq
 have e1:(a.toList.reverse.drop (a.size - na)).take (na - at_)=((a.toList.take na).drop at_).reverse:=by
  rw[←el,wb,List.reverse_drop,Xk,el,Nat.min_eq_left h2]
 have:=MIL.run (MIL.symm m) (Fo sA) (na - at_) (by
  rw[e1,←eb,wb]
  intro x hx' y hy
  have:=hx x (Uz.mp hx') y (Uz.mp hy)
  show -kz x<= -kz y
  omega)
 rw[e1,show a.size - na+(na - at_)=a.size - at_ by omega] at this
 unfold MH
 rw[UY,Array.toList_reverse,ij,←List.drop_take]
 exact this.symm
theorem MH.qh (m:MH a b out na nb)(sA:jk kz a.toList)(h1:1<=na)(h2:na<=a.size)(hx:∀y∈b.toList.take nb,kz y<=kz (a[na - 1]'(!1))):MH a b (out.push (a[na - 1]'(!1))) (na - 1) nb:=by
 have e:(a.toList.take na).drop (na - 1)=[a[na - 1]'(!1)]:=by
  rw[List.drop_take,show na - (na - 1)=1 by omega,take1 (by rw[Kq];omega)];simp
 have:=m.yp sA (na - 1) (!1) h2 (by rw[e];intro x hx';rw[K6.mp hx'];exact hx)
 unfold MH at this⊢
 rw[UY,Array.toList_reverse,ij,←List.drop_take,e] at this
 rw[YY];exact this
theorem MH.fin {out:Array Keyed}(m:MH a b out 0 0):Fn a b out.reverse:=by
 obtain⟨p,s⟩:=MIL.fin m (by simp) (by simp)
 unfold Fn
 rw[Array.toList_reverse]
 exact⟨((List.reverse_perm _).trans p).trans ((List.reverse_perm _).append (List.reverse_perm _)),CT s⟩
theorem MH.both (m:MH a b out na nb)(sA:jk kz a.toList)(sB:jk kz b.toList)(h2:na<=a.size)(h3:nb<=b.size)(hx:∀x∈a.toList.take na,∀y∈b.toList.take nb,kz y<=kz x):Fn a b (b.extract 0 nb++a.extract 0 na++out.reverse):=by
 have m1:=m.yp sA 0 (!1) h2 (by rw[Y6];exact hx)
 have m2:=(m1.symm.yp sB 0 (!1) h3 (by intro x _ y hy;rw[YW] at hy;cases hy)).symm
 have:=m2.fin
 rwa [Array.reverse_append,Array.reverse_append,Array.reverse_reverse,Array.reverse_reverse,←Array.append_assoc] at this
theorem MH.done (m:MH a b out na nb)(sA:jk kz a.toList)(sB:jk kz b.toList)(h2:na<=a.size)(h3:nb<=b.size)(h:na=0∨nb=0):Fn a b (a.extract 0 na++b.extract 0 nb++out.reverse):=by
 have:=MH.both (MH.symm m) sB sA h3 h2 (λx hx y hy=>by
  rcases h with h | h
  ·rw[h,YW] at hy;cases hy
  ·rw[h,YW] at hx;cases hx)
 exact⟨this.1.trans Jq,this.2⟩
theorem MH.nil (a b:Array Keyed):MH a b #[] a.size b.size:=by
 unfold MH;rw[Nat.sub_self,Nat.sub_self];exact MIL.nil _ _ _
theorem qi {l:List Keyed}{n:Nat}{y:Keyed}(sl:jk kz l)(hn:1<=n)(hi:n<=l.length)(hy:y∈l.take n):kz y<=kz (l[n - 1]'(!1)):=by
 obtain⟨i,hi',rfl⟩:=List.mem_iff_getElem.mp hy
 rw[Xk] at hi'
 rw[YK]
 by_cases e:i=n - 1
 ·subst e;exact Int.le_refl _
 ·exact Yu.mp sl i (n - 1) (!1) (!1) (!1)
end
section
variable {prog:Program}{w:World}{A:Around}{E:Z3}{s:Shared}
theorem nZ {arr:Array Keyed}{base n i:Nat}(hb:base+n<=arr.size)(hi:i < n):∃h:i < ((arr.toList.drop base).take n).length,K arr (base+i)=kz (((arr.toList.drop base).take n)[i]'h):=by
 have hl:((arr.toList.drop base).take n).length=n:=by rw[Xk,XQ,Kq];omega
 refine⟨by omega,?_⟩
 rw[YK,J6]
 have hlt:base+i < arr.size:=by omega
 rw[AX (Yy hlt)];simp
theorem wc {left:Bool}{key:Keyed}{arr:Array Keyed}{base n hint:Nat}{Q:Option Nat->SortSt->Prop}{st:SortSt}(hk:kindOf st=oneType')(hkey:IK key)(ha:∀x∈arr.toList,IK x)(hb:base+n<=arr.size)(hh:hint < n)
  (hs:jk kz ((arr.toList.drop base).take n))
  (hq:∀k,k<=n->(∀x∈((arr.toList.drop base).take n).take k,if left=true then kz x < kz key else kz x<=kz key)->(∀x∈((arr.toList.drop base).take n).drop k,if left=true then kz key<=kz x else kz key < kz x)->Q (some k) st):wpS (!3) A E s (gal left key arr base n hint) Q st:=by
 have hl:((arr.toList.drop base).take n).length=n:=by rw[Xk,XQ,Kq];omega
 refine Fm hk hkey ha hb hh (λi j hij hj h=> ?_) λk hk1 h1 h2=>hq k hk1 (λx hx=> ?_) λx hx=> ?_
 ·obtain⟨u1,e1⟩:=nZ (i:=i) hb (!1)
  obtain⟨u2,e2⟩:=nZ (i:=j) hb hj
  have hle:K arr (base+i)<=K arr (base+j):=by
   rw[e1,e2]
   by_cases e:i=j
   ·subst e;exact Int.le_refl _
   ·exact Yu.mp hs i j u1 u2 (!1)
  unfold yo at h⊢
  cases left with
  | true=>simp only[if_true,JJ] at h⊢;omega
  | false=>simp only[XJ,if_false,Bool.not_eq_true',decide_eq_false_iff_not] at h⊢;omega
 ·obtain⟨i,hi,rfl⟩:=List.mem_iff_getElem.mp hx
  rw[Xk,hl] at hi
  rw[YK]
  obtain⟨u1,e1⟩:=nZ (arr:=arr) (base:=base) (i:=i) hb (!1)
  have:=h1 i (!1)
  unfold yo at this
  rw[e1] at this
  cases left with
  | true=>simpa using this
  | false=>simp only[XJ,if_false,Bool.not_eq_true',decide_eq_false_iff_not] at this⊢;omega
 ·obtain⟨i,hi,rfl⟩:=List.mem_iff_getElem.mp hx
  rw[XQ,hl] at hi
  rw[J6]
  obtain⟨u1,e1⟩:=nZ (arr:=arr) (base:=base) (i:=k+i) hb (!1)
  have:=h2 (k+i) (!1) (!1)
  unfold yo at this
  rw[e1] at this
  cases left with
  | true=>simp only[if_true,decide_eq_false_iff_not] at this⊢;omega
  | false=>simp only[XJ,if_false,Bool.not_eq_false',JJ] at this⊢;omega
theorem qj {key:Keyed}{arr:Array Keyed}{base n hint:Nat}{Q:Option Nat->SortSt->Prop}{st:SortSt}(hk:kindOf st=oneType')(hkey:IK key)(ha:∀x∈arr.toList,IK x)(hb:base+n<=arr.size)(hh:hint < n)
  (hs:jk kz ((arr.toList.drop base).take n)) (hq:∀k,k<=n->(∀x∈((arr.toList.drop base).take n).take k,kz x<=kz key)->(∀x∈((arr.toList.drop base).take n).drop k,kz key < kz x)->Q (some k) st):wpS (!3) A E s (gal false key arr base n hint) Q st :=
 wc hk hkey ha hb hh hs λk h1 h2 h3=>hq k h1 (λx hx=>by simpa using h2 x hx) λx hx=>by simpa using h3 x hx
theorem qk {key:Keyed}{arr:Array Keyed}{base n hint:Nat}{Q:Option Nat->SortSt->Prop}{st:SortSt}(hk:kindOf st=oneType')(hkey:IK key)(ha:∀x∈arr.toList,IK x)(hb:base+n<=arr.size)(hh:hint < n)
  (hs:jk kz ((arr.toList.drop base).take n)) (hq:∀k,k<=n->(∀x∈((arr.toList.drop base).take n).take k,kz x < kz key)->(∀x∈((arr.toList.drop base).take n).drop k,kz key<=kz x)->Q (some k) st):wpS (!3) A E s (gal true key arr base n hint) Q st :=
 wc hk hkey ha hb hh hs λk h1 h2 h3=>hq k h1 (λx hx=>by simpa using h2 x hx) λx hx=>by simpa using h3 x hx
end
abbrev SG (st:SortSt)(g:Nat):SortSt:=SortSt.mk' (kindOf st) (arrOf st) (pendingOf st) g (failedOf st)
section
variable {prog:Program}{w:World}{A:Around}{E:Z3}{s:Shared}
theorem o4 {M:Model}{g:Nat}{Q:Unit->SortSt->Prop}{st:SortSt}(h:Q () (SG st g)):wpS M A E s (O6 g) Q st:=by
 exact wpS_modify h
theorem aP {M:Model}{α:Type}{c:Prop}[Decidable c]{m1 m2:StateT SortSt Sem α}{Q:α->SortSt->Prop}{st:SortSt}(h1:c->wpS M A E s m1 Q st)(h2:¬c->wpS M A E s m2 Q st):wpS M A E s (if c then m1 else m2) Q st:=by
 by_cases h:c
 ·rw[JQ h];exact h1 h
 ·rw[JV h];exact h2 h
theorem sL {M:Model}{α:Type}{c:Nat->Prop}[∀z,Decidable (c z)]{m1 F:Nat->StateT SortSt Sem α}{Q:α->SortSt->Prop}{st:SortSt}(h:∀z,m1 z=F (z - 1))(key:∀z,wpS M A E s (F z) Q st)(z:Nat):wpS M A E s (if c z then m1 z else F z) Q st :=
 aP (λ_=>by rw[h];exact key _) (λ_=>key _)
theorem GJ {M:Model}{α:Type}{P:Nat->Array Keyed->Prop}{c e:Nat->Array Keyed->Prop}{_:∀n o,Decidable (c n o)}{_:∀n o,Decidable (e n o)}{p t T:Nat->Array Keyed->StateT SortSt Sem α}{Q:α->SortSt->Prop}{st:SortSt}(R:Nat->Array Keyed->Prop)(X:Nat->Array Keyed->Nat)(O:Nat->Array Keyed->Array Keyed)(ht:∀n o,t n o=T (X n o) (O n o))
  (h1:∀n o,P n o->c n o->e n o->wpS M A E s (p n o) Q st) (h2:∀n o,P n o->c n o->¬e n o->R (X n o) (O n o)) (h3:∀n o,P n o->¬c n o->R n o) (k:∀n o,R n o->wpS M A E s (T n o) Q st) (n:Nat) (o:Array Keyed) (h:P n o):wpS M A E s (if c n o then (if e n o then p n o else t n o) else T n o) Q st :=
 aP (λhc=>aP (h1 n o h hc) λhe=>by rw[ht];exact k _ _ (h2 n o h hc he)) λhc=>k _ _ (h3 n o h hc)
theorem GK {M:Model}{α:Type}{P:Nat->Array Keyed->Prop}{c e f:Nat->Array Keyed->Prop}{_:∀n o,Decidable (c n o)}{_:∀n o,Decidable (e n o)}{_:∀n o,Decidable (f n o)}{p q t T:Nat->Array Keyed->StateT SortSt Sem α}{Q:α->SortSt->Prop}{st:SortSt}(R:Nat->Array Keyed->Prop)(X:Nat->Array Keyed->Nat)(O:Nat->Array Keyed->Array Keyed)(ht:∀n o,t n o=T (X n o) (O n o))
  (h1:∀n o,P n o->c n o->e n o->wpS M A E s (p n o) Q st) (h2:∀n o,P n o->c n o->¬e n o->f n o->wpS M A E s (q n o) Q st) (h3:∀n o,P n o->c n o->¬e n o->¬f n o->R (X n o) (O n o)) (h4:∀n o,P n o->¬c n o->R n o) (k:∀n o,R n o->wpS M A E s (T n o) Q st) (n:Nat) (o:Array Keyed) (h:P n o) :
  wpS M A E s (if c n o then (if e n o then p n o else (if f n o then q n o else t n o)) else T n o) Q st :=
 aP (λhc=>aP (h1 n o h hc) λhe=>aP (h2 n o h hc he) λhf=>by rw[ht];exact k _ _ (h3 n o h hc he hf)) λhc=>k _ _ (h4 n o h hc)
theorem a_ {a:Array Keyed}{i:Nat}(h:i < a.size):a[i]? =some a[i]:=Yy h
structure Pre (a b:Array Keyed):Prop where
 ia:∀x∈a.toList,IK x
 ib:∀x∈b.toList,IK x
 sA:jk kz a.toList
 sB:jk kz b.toList
 a1:1<=a.size
 b1:1<=b.size
 h0:∀x∈a.toList,kz (b[0]'b1)<=kz x
 hl:∀x∈b.toList,kz x<=kz (a[a.size - 1]'(!1))
theorem Pre.kA {a b:Array Keyed}(p:Pre a b){i:Nat}(h:i < a.size):IK a[i]:=p.ia _ (by simp)
theorem Pre.kB {a b:Array Keyed}(p:Pre a b){i:Nat}(h:i < b.size):IK b[i]:=p.ib _ (by simp)
theorem Pre.dA {a b:Array Keyed}(p:Pre a b){i:Nat}(h:i < a.size){y:Keyed}(hy:y∈a.toList.drop i):kz a[i]<=kz y:=by
 have:=qg p.sA (by rw[Kq];exact h) hy;simpa using this
theorem Pre.dB {a b:Array Keyed}(p:Pre a b){i:Nat}(h:i < b.size){y:Keyed}(hy:y∈b.toList.drop i):kz b[i]<=kz y:=by
 have:=qg p.sB (by rw[Kq];exact h) hy;simpa using this
theorem Pre.zE {a b:Array Keyed}(p:Pre a b){i j:Nat}(h:i+1=a.size):∀x∈b.toList.drop j,∀y∈a.toList.drop i,kz x<=kz y:=λx hx y hy=>by
 have h1:=p.hl x (U1 hx)
 have h2:=p.dA (i:=i) (!1) hy
 have e:a[a.size - 1]'(by have:=p.a1;omega)=a[i]:=by congr 1;omega
 rw[e] at h1;omega
theorem mh {a:Array Keyed}{i:Nat}:(a.toList.drop i).take (a.size - i)=a.toList.drop i:=U9 (by rw[XQ,Kq];exact K2 _)
variable {a b:Array Keyed}
structure Lv (a b out:Array Keyed)(ia ib:Nat)(lo:Nat):Prop where
 m:MI a b out ia ib
 ha:ia+1 < a.size
 hb:ib < b.size
 hp:lo<=ia+ib
theorem Fp {st:SortSt}{Q:Array Keyed->SortSt->Prop}(hk:kindOf st=oneType')(p:Pre a b)(hq:∀r g,Fn a b r->Q r (SG st g)):wpS (!3) A E s (O4 a b) Q st:=by
 have a1:=p.a1
 have b1:=p.b1
 refine JK (wpS_lift (wpAny_rule ⟨rfl,?_⟩))
 dsimp only
 refine JK (a7 (a_ b1) ?_)
 have m0:MI a b #[b[0]] 0 1:=MI.sK (out:=#[]) (ia:=0) (ib:=0) (MIL.nil _ _ _) p.sB b1 (λy hy=>p.h0 y (U1 hy))
 by_cases e1:1=b.size
 ·rw[JQ (by simpa using e1)]
  exact JX (hq _ (gallopOf st) (m0.done p.sA p.sB (.inr (!1))))
 rw[JV (by simpa using e1)]
 by_cases e2:0+1=a.size
 ·rw[JQ (by simpa using e2)]
  exact JX (hq _ (gallopOf st) (m0.last p.sA p.sB (p.zE e2)))
 rw[JV (by simpa using e2)]
 refine JK (JU ?_)
 refine JK (wpS_mono (wpS_forRange (I:=λx c st'=>∃g out ia ib mg,st'=SG st g/\c=(none,out,ia,ib,mg)/\Lv a b out ia ib (x+1))
  (Q:=λc st'=>∃g r d,st'=SG st g/\c=(some r,d)/\Fn a b r) ?_ ?_ ⟨gallopOf st,_,_,_,_,rfl,rfl,m0,by omega,by omega,by omega⟩) ?_)
 ·rintro x c st' _ hx ⟨g,out,ia,ib,mg,rfl,rfl,lv⟩
  dsimp only
  refine JK (wpS_mono (wpS_forRange (I:=λy c st'=>∃out ia ib ac bc,st'=SG st g/\c=(none,out,ia,ib,ac,bc)/\Lv a b out ia ib (x+1+y))
   (Q:=λc st'=>st'=SG st g/\((∃r d,c=(some r,d)/\Fn a b r)∨∃out ia ib ac bc,c=(none,out,ia,ib,ac,bc)/\Lv a b out ia ib (x+2))) ?_ ?_ ⟨_,_,_,_,_,rfl,rfl,lv⟩) ?_)
  ·rintro y c st' _ hy ⟨out,ia,ib,ac,bc,rfl,rfl,m,ha,hb,hp⟩
   dsimp only
   refine JK (a7 (a_ hb) ?_)
   refine JK (a7 (a_ (show ia < a.size by omega)) ?_)
   refine JK (qf hk (p.kB hb) (p.kA (!1)) ?_)
   dsimp only
   by_cases hw:kz b[ib] < kz a[ia]
   ·rw[JQ (Z9 hw)]
    have m':=m.sK p.sB hb (λy hy=>by have:=p.dA (!1) hy;omega)
    refine JK (a7 (a_ hb) ?_)
    by_cases e:ib+1=b.size
    ·rw[JQ (by simpa using e)]
     exact JX ⟨rfl,.inl ⟨_,_,rfl,m'.done p.sA p.sB (.inr (!1))⟩⟩
    ·rw[JV (by simpa using e)]
     refine aP (λeI=> ?_) λeI=> ?_
     ·exact JX ⟨rfl,.inr ⟨_,_,_,_,_,rfl,m',ha,by omega,by omega⟩⟩
     ·exact JX ⟨_,_,_,_,_,rfl,rfl,m',ha,by omega,by omega⟩
   ·rw[JV (by rw[Z8 hw];exact K5)]
    have m':=m.qh p.sA (!1) (λy hy=>by have:=p.dB hb hy;omega)
    refine JK (a7 (a_ (show ia < a.size by omega)) ?_)
    by_cases e:ia+1+1=a.size
    ·rw[JQ (by simpa using e)]
     exact JX ⟨rfl,.inl ⟨_,_,rfl,m'.last p.sA p.sB (p.zE e)⟩⟩
    ·rw[JV (by simpa using e)]
     refine aP (λeI=> ?_) λeI=> ?_
     ·exact JX ⟨rfl,.inr ⟨_,_,_,_,_,rfl,m',by omega,hb,by omega⟩⟩
     ·exact JX ⟨_,_,_,_,_,rfl,rfl,m',by omega,hb,by omega⟩
  ·rintro c st' ⟨out,ia,ib,ac,bc,rfl,rfl,m,ha,hb,hp⟩
   exact⟨rfl,.inr ⟨_,_,_,_,_,rfl,m,ha,hb,by omega⟩⟩
  ·rintro c st' ⟨rfl,⟨r,d,rfl,hr⟩ | ⟨out,ia,ib,ac,bc,rfl,lv⟩⟩
   ·exact JX ⟨g,r,_,rfl,rfl,hr⟩
   dsimp only
   refine JK (wpS_lift (wpAny_rule ⟨rfl,?_⟩))
   refine JK (wpS_mono (wpS_forRange (I:=λy c st'=>∃g out ia ib mg ac bc,st'=SG st g/\c=(none,out,ia,ib,mg,ac,bc)/\Lv a b out ia ib (x+2))
    (Q:=λc st'=>(∃g r d,st'=SG st g/\c=(some r,d)/\Fn a b r)∨∃g out ia ib mg ac bc,st'=SG st g/\c=(none,out,ia,ib,mg,ac,bc)/\Lv a b out ia ib (x+2)) ?_ ?_ ⟨_,_,_,_,_,_,_,rfl,rfl,lv⟩) ?_)
   ·rintro y c st' _ hy ⟨g,out,ia,ib,mg,ac,bc,rfl,rfl,m,ha,hb,hp⟩
    dsimp only
    revert mg
    refine sL (λ_=>rfl) λmg=> ?_
    refine JK (o4 ?_)
    refine JK (a7 (a_ hb) ?_)
    refine JK (qj hk (p.kB hb) p.ia (!1) (!1) (by rw[mh];exact p.sA.sublist (YX _ _)) λk q1 q2 q3=> ?_)
    rw[mh] at q2 q3
    dsimp only
    have mA:=m.yp p.sA k (λx hx y hy=>by have:=q2 x hx;have:=p.dB hb hy;omega)
    rw[YV] at q3
    have hP:MI a b out ia ib/\MI a b (out++a.extract ia (ia+k)) (ia+k) ib/\ia+1 < a.size/\x+2<=ia+ib/\k<=a.size - ia/\∀y∈a.toList.drop (ia+k),kz b[ib] < kz y:=⟨m,mA,by omega,hp,q1,q3⟩
    clear mA m ha hp q1 q2 q3
    revert hP
    revert out
    revert ia
    refine GK (λx' o=>x'+1 < a.size/\x+2<=x'+ib/\MI a b o x' ib/\∀y∈a.toList.drop x',kz b[ib]<=kz y) (λn _=>n+k) (λn o=>o++a.extract n (n+k)) ?_ (λia out ⟨m,mA,ha,hp,q1,q3⟩ _ e5=> ?_) (λia out ⟨m,mA,ha,hp,q1,q3⟩ _ e5 e6=> ?_) (λia out ⟨m,mA,ha,hp,q1,q3⟩ _ e5 e6=> ?_) (λia out ⟨m,mA,ha,hp,q1,q3⟩ hk1=> ?_) ?_
    ·intro _ _;rfl
    ·exact JX (.inl ⟨_,_,_,rfl,rfl,mA.last p.sA p.sB (p.zE (beq_iff_eq.mp e5))⟩)
    ·exact JX (.inl ⟨_,_,_,rfl,rfl,mA.done p.sA p.sB (.inl (by simp only[JY] at e6;omega))⟩)
    ·simp only[JY] at e5 e6
     exact⟨by omega,by omega,mA,λy hy=>Yx (q3 y hy)⟩
    ·obtain rfl:k=0:=by omega
     exact⟨ha,hp,m,λy hy=>Yx (q3 y hy)⟩
    rintro GL o ⟨ha3,hp,m2,hx2⟩
    have ha2:GL < a.size:=by omega
    refine JK (a7 (a_ hb) ?_)
    have mB:=m2.sK p.sB hb hx2
    generalize o.push b[ib]=o1 at mB⊢
    generalize hib:ib+1=Bp at mB⊢
    refine aP (λe3=> ?_) λe3=> ?_
    ·exact JX (.inl ⟨_,_,_,rfl,rfl,mB.done p.sA p.sB (.inr (by simp only[JY] at e3;omega))⟩)
    simp only[JY] at e3
    refine JK (a7 (a_ ha2) ?_)
    refine JK (qk hk (p.kA ha2) p.ib (!1) (!1) (by rw[mh];exact p.sB.sublist (YX _ _)) λk2 r1 r2 r3=> ?_)
    rw[mh] at r2 r3
    dsimp only
    have mC:=mB.IL p.sB k2 (λx hx y hy=>by have:=r2 x hx;have:=p.dA ha2 hy;omega)
    rw[YV] at r3
    have hP:MI a b o1 GL Bp/\MI a b (o1++b.extract Bp (Bp+k2)) GL (Bp+k2)/\Bp < b.size/\x+3<=GL+Bp/\k2<=b.size - Bp/\∀z∈b.toList.drop (Bp+k2),kz a[GL]<=kz z:=⟨mB,mC,by omega,by omega,r1,r3⟩
    clear mC mB r1 r2 r3 e3 hib
    revert hP
    revert o1
    revert Bp
    refine GJ (λy o=>y < b.size/\x+3<=GL+y/\MI a b o GL y/\∀z∈b.toList.drop y,kz a[GL]<=kz z) (λn _=>n+k2) (λn o=>o++b.extract n (n+k2)) ?_ (λBp o1 ⟨mB,mC,i1,i2,r1,r3⟩ _ e5=> ?_) (λBp o1 ⟨mB,mC,i1,i2,r1,r3⟩ _ e5=> ?_) (λBp o1 ⟨mB,mC,i1,i2,r1,r3⟩ hk2=> ?_) ?_
    ·intro _ _;rfl
    ·exact JX (.inl ⟨_,_,_,rfl,rfl,mC.done p.sA p.sB (.inr (by simp only[JY] at e5;omega))⟩)
    ·simp only[JY] at e5
     exact⟨by omega,by omega,mC,r3⟩
    ·obtain rfl:k2=0:=by omega
     exact⟨i1,i2,mB,r3⟩
    rintro PN o ⟨hb2,hb3,m3,O7⟩
    refine JK (a7 (a_ ha2) ?_)
    have m4:=m3.qh p.sA ha2 O7
    refine aP (λe4=> ?_) λe4=> ?_
    ·exact JX (.inl ⟨_,_,_,rfl,rfl,m4.last p.sA p.sB (p.zE (beq_iff_eq.mp e4))⟩)
    simp only[JY] at e4
    refine aP (λeJ=> ?_) λeJ=> ?_
    ·exact JX (.inr ⟨_,_,_,_,_,_,_,rfl,rfl,m4,by omega,by omega,by omega⟩)
    ·exact JX ⟨_,_,_,_,_,_,_,rfl,rfl,m4,by omega,by omega,by omega⟩
   ·rintro c st' ⟨g,out,ia,ib,mg,ac,bc,rfl,rfl,lv⟩
    exact .inr ⟨_,_,_,_,_,_,_,rfl,rfl,lv⟩
   ·rintro c st' (⟨g,r,d,rfl,rfl,hr⟩ | ⟨g,out,ia,ib,mg,ac,bc,rfl,rfl,lv⟩)
    ·exact JX ⟨_,_,_,rfl,rfl,hr⟩
    ·dsimp only
     exact JK (o4 (JX ⟨_,_,_,_,_,rfl,rfl,lv⟩))
 ·rintro c st' ⟨g,out,ia,ib,mg,rfl,rfl,m,ha,hb,hp⟩
  omega
 ·rintro c st' ⟨g,r,d,rfl,rfl,hr⟩
  exact JX (hq r g hr)
end
section
variable {prog:Program}{w:World}{A:Around}{E:Z3}{s:Shared}{a b out:Array Keyed}{na nb:Nat}
theorem MH.sK (m:MH a b out na nb)(sB:jk kz b.toList)(h1:1<=nb)(h2:nb<=b.size)(hx:∀y∈a.toList.take na,kz y<=kz (b[nb - 1]'(!1))):MH a b (out.push (b[nb - 1]'(!1))) na (nb - 1):=(m.symm.qh sB h1 h2 hx).symm
theorem MH.IL (m:MH a b out na nb)(sB:jk kz b.toList)(at_:Nat)(h1:at_<=nb)(h2:nb<=b.size)(hx:∀x∈(b.toList.take nb).drop at_,∀y∈a.toList.take na,kz y<=kz x):MH a b (out++(b.extract at_ nb).reverse) na at_:=(m.symm.yp sB at_ h1 h2 hx).symm
theorem Pre.tA (p:Pre a b){n:Nat}(h1:1<=n)(h:n<=a.size){y:Keyed}(hy:y∈a.toList.take n):kz y<=kz (a[n - 1]'(!1)):=by
 have:=qi p.sA h1 (by rw[Kq];exact h) hy;simpa using this
theorem Pre.tB (p:Pre a b){n:Nat}(h1:1<=n)(h:n<=b.size){y:Keyed}(hy:y∈b.toList.take n):kz y<=kz (b[n - 1]'(!1)):=by
 have:=qi p.sB h1 (by rw[Kq];exact h) hy;simpa using this
theorem Pre.uE (p:Pre a b){n m:Nat}(h:m=1):∀x∈a.toList.take n,∀y∈b.toList.take m,kz y<=kz x:=λx hx y hy=>by
 subst h
 have h1:=p.h0 x (U2 hx)
 have h2:=p.tB (n:=1) (K2 _) p.b1 hy
 exact YU h2 h1
structure Lh (a b out:Array Keyed)(na nb lo:Nat):Prop where
 m:MH a b out na nb
 h1:1<=na
 g1:na<=a.size
 h2:2<=nb
 g2:nb<=b.size
 hp:lo<=(a.size - na)+(b.size - nb)
theorem Fq {st:SortSt}{Q:Array Keyed->SortSt->Prop}(hk:kindOf st=oneType')(p:Pre a b)(hq:∀r g,Fn a b r->Q r (SG st g)):wpS (!3) A E s (O5 a b) Q st:=by
 have a1:=p.a1
 have b1:=p.b1
 refine JK (wpS_lift (wpAny_rule ⟨rfl,?_⟩))
 dsimp only
 refine JK (a7 (a_ (show a.size - 1 < a.size by omega)) ?_)
 have m0:MH a b #[a[a.size - 1]] (a.size - 1) b.size:=(MH.nil a b).qh p.sA a1 (K2 _) (λy hy=>p.hl y (U2 hy))
 refine aP (λe1=> ?_) λe1=> ?_
 ·simp only[JY] at e1
  exact JX (hq _ (gallopOf st) (m0.done p.sA p.sB (!1) (K2 _) (.inl e1)))
 simp only[JY] at e1
 refine aP (λe2=> ?_) λe2=> ?_
 ·simp only[JY] at e2
  exact JX (hq _ (gallopOf st) (m0.both p.sA p.sB (!1) (K2 _) (p.uE e2)))
 simp only[JY] at e2
 refine JK (JU ?_)
 refine JK (wpS_mono (wpS_forRange (I:=λx c st'=>∃g na nb out mg,st'=SG st g/\c=(none,na,nb,out,mg)/\Lh a b out na nb (x+1))
  (Q:=λc st'=>∃g r d,st'=SG st g/\c=(some r,d)/\Fn a b r) ?_ ?_ ⟨gallopOf st,_,_,_,_,rfl,rfl,m0,by omega,by omega,by omega,by omega,by omega⟩) ?_)
 ·rintro x c st' _ hx ⟨g,na,nb,out,mg,rfl,rfl,lv⟩
  dsimp only
  refine JK (wpS_mono (wpS_forRange (I:=λy c st'=>∃na nb out ac bc,st'=SG st g/\c=(none,na,nb,out,ac,bc)/\Lh a b out na nb (x+1+y))
   (Q:=λc st'=>st'=SG st g/\((∃r d,c=(some r,d)/\Fn a b r)∨∃na nb out ac bc,c=(none,na,nb,out,ac,bc)/\Lh a b out na nb (x+2))) ?_ ?_ ⟨_,_,_,_,_,rfl,rfl,lv⟩) ?_)
  ·rintro y c st' _ hy ⟨na,nb,out,ac,bc,rfl,rfl,m,h1,g1,h2,g2,hp⟩
   dsimp only
   refine JK (a7 (a_ (show nb - 1 < b.size by omega)) ?_)
   refine JK (a7 (a_ (show na - 1 < a.size by omega)) ?_)
   refine JK (qf hk (p.kB (!1)) (p.kA (!1)) ?_)
   dsimp only
   by_cases hw:kz (b[nb - 1]'(!1)) < kz (a[na - 1]'(!1))
   ·rw[JQ (Z9 hw)]
    have m':=m.qh p.sA h1 g1 (λy hy=>by have:=p.tB (!1) g2 hy;omega)
    refine JK (a7 (a_ (show na - 1 < a.size by omega)) ?_)
    refine aP (λe=> ?_) λe=> ?_
    ·simp only[JY] at e
     exact JX ⟨rfl,.inl ⟨_,_,rfl,m'.done p.sA p.sB (!1) g2 (.inl e)⟩⟩
    ·simp only[JY] at e
     refine aP (λeI=> ?_) λeI=> ?_
     ·exact JX ⟨rfl,.inr ⟨_,_,_,_,_,rfl,m',by omega,by omega,by omega,by omega,by omega⟩⟩
     ·exact JX ⟨_,_,_,_,_,rfl,rfl,m',by omega,by omega,by omega,by omega,by omega⟩
   ·rw[JV (by rw[Z8 hw];exact K5)]
    have m':=m.sK p.sB (!1) g2 (λy hy=>by have:=p.tA h1 g1 hy;omega)
    refine JK (a7 (a_ (show nb - 1 < b.size by omega)) ?_)
    refine aP (λe=> ?_) λe=> ?_
    ·simp only[JY] at e
     exact JX ⟨rfl,.inl ⟨_,_,rfl,m'.both p.sA p.sB g1 (!1) (p.uE e)⟩⟩
    ·simp only[JY] at e
     refine aP (λeI=> ?_) λeI=> ?_
     ·exact JX ⟨rfl,.inr ⟨_,_,_,_,_,rfl,m',by omega,by omega,by omega,by omega,by omega⟩⟩
     ·exact JX ⟨_,_,_,_,_,rfl,rfl,m',by omega,by omega,by omega,by omega,by omega⟩
  ·rintro c st' ⟨na,nb,out,ac,bc,rfl,rfl,m,h1,g1,h2,g2,hp⟩
   exact⟨rfl,.inr ⟨_,_,_,_,_,rfl,m,h1,g1,h2,g2,by omega⟩⟩
  ·rintro c st' ⟨rfl,⟨r,d,rfl,hr⟩ | ⟨na,nb,out,ac,bc,rfl,lv⟩⟩
   ·exact JX ⟨g,r,_,rfl,rfl,hr⟩
   dsimp only
   refine JK (wpS_lift (wpAny_rule ⟨rfl,?_⟩))
   refine JK (wpS_mono (wpS_forRange (I:=λy c st'=>∃g na nb out mg ac bc,st'=SG st g/\c=(none,na,nb,out,mg,ac,bc)/\Lh a b out na nb (x+2))
    (Q:=λc st'=>(∃g r d,st'=SG st g/\c=(some r,d)/\Fn a b r)∨∃g na nb out mg ac bc,st'=SG st g/\c=(none,na,nb,out,mg,ac,bc)/\Lh a b out na nb (x+2)) ?_ ?_ ⟨_,_,_,_,_,_,_,rfl,rfl,lv⟩) ?_)
   ·rintro y c st' _ hy ⟨g,na,nb,out,mg,ac,bc,rfl,rfl,m,h1,g1,h2,g2,hp⟩
    dsimp only
    revert mg
    refine sL (λ_=>rfl) λmg=> ?_
    refine JK (o4 ?_)
    refine JK (a7 (a_ (show nb - 1 < b.size by omega)) ?_)
    refine JK (qj hk (p.kB (!1)) p.ia (!1) (!1) (by rw[Y6];exact p.sA.sublist (J9 _ _)) λat1 q1 q2 q3=> ?_)
    rw[Y6] at q2 q3
    rw[List.take_take,Nat.min_eq_left q1] at q2
    dsimp only
    have hlt:nb - 1 < b.size:=by clear q2 q3;omega
    replace q2:∀z∈a.toList.take at1,kz z<=kz (b[nb - 1]'hlt):=q2
    generalize hac:na - at1=O8
    have mA:=m.yp p.sA at1 q1 g1 (λx hx y hy=>by have:=q3 x hx;have:=p.tB (!1) g2 hy;omega)
    have hP:MH a b out na nb/\MH a b (out++(a.extract at1 na).reverse) at1 nb/\1<=na/\na<=a.size/\x+2<=a.size - na+(b.size - nb)/\at1<=na/\na - at1=O8:=⟨m,mA,h1,g1,hp,q1,hac⟩
    clear mA m h1 g1 hp q1 q3 hac
    revert hP
    revert out
    revert na
    refine GJ (λy o=>1<=y/\y<=a.size/\x+2<=a.size - y+(b.size - nb)/\MH a b o y nb/\∀z∈a.toList.take y,kz z<=kz (b[nb - 1]'hlt)) (λ_ _=>at1) (λn o=>o++(a.extract at1 n).reverse) ?_ (λna out ⟨m,mA,h1,g1,hp,q1,hac⟩ _ e5=> ?_) (λna out ⟨m,mA,h1,g1,hp,q1,hac⟩ _ e5=> ?_) (λna out ⟨m,mA,h1,g1,hp,q1,hac⟩ hk1=> ?_) ?_
    ·intro _ _;rfl
    ·exact JX (.inl ⟨_,_,_,rfl,rfl,mA.done p.sA p.sB (!1) g2 (.inl (beq_iff_eq.mp e5))⟩)
    ·simp only[JY] at e5
     exact⟨by omega,by omega,by omega,mA,q2⟩
    ·obtain rfl:at1=na:=by omega
     exact⟨h1,g1,hp,m,q2⟩
    clear q2
    rintro D7 o ⟨f1,f2,hp,m2,q2⟩
    refine JK (a7 (a_ (show nb - 1 < b.size by omega)) ?_)
    have mB:=m2.sK p.sB (!1) g2 q2
    generalize o.push (b[nb - 1]'(!1))=o1 at mB⊢
    generalize hnb:nb - 1=zF at mB⊢
    refine aP (λe3=> ?_) λe3=> ?_
    ·exact JX (.inl ⟨_,_,_,rfl,rfl,mB.both p.sA p.sB (!1) (!1) (p.uE (beq_iff_eq.mp e3))⟩)
    simp only[JY] at e3
    refine JK (a7 (a_ (show D7 - 1 < a.size by omega)) ?_)
    refine JK (qk hk (p.kA (!1)) p.ib (!1) (!1) (by rw[Y6];exact p.sB.sublist (J9 _ _)) λat2 r1 r2 r3=> ?_)
    rw[Y6] at r2 r3
    rw[List.take_take,Nat.min_eq_left r1] at r2
    dsimp only
    have hla:D7 - 1 < a.size:=by clear r2 r3;omega
    replace r2:∀z∈b.toList.take at2,kz z < kz (a[D7 - 1]'hla):=r2
    generalize hbc:zF - at2=O9
    have mC:=mB.IL p.sB at2 r1 (!1) (λx hx y hy=>by have:=r3 x hx;have:=p.tA f1 f2 hy;omega)
    have hP:MH a b o1 D7 zF/\MH a b (o1++(b.extract at2 zF).reverse) D7 at2/\2<=zF/\zF<=b.size/\x+3<=a.size - D7+(b.size - zF)/\at2<=zF/\zF - at2=O9:=⟨mB,mC,by omega,by omega,by omega,r1,hbc⟩
    clear mC mB r1 r3 hbc e3 q2 hnb
    revert hP
    revert o1
    revert zF
    refine GK (λy o=>2<=y/\y<=b.size/\x+3<=a.size - D7+(b.size - y)/\MH a b o D7 y/\∀z∈b.toList.take y,kz z < kz (a[D7 - 1]'hla)) (λ_ _=>at2) (λn o=>o++(b.extract at2 n).reverse) ?_ (λzF o1 ⟨mB,mC,i1,i2,i3,r1,hbc⟩ _ e5=> ?_) (λzF o1 ⟨mB,mC,i1,i2,i3,r1,hbc⟩ _ e5 e6=> ?_) (λzF o1 ⟨mB,mC,i1,i2,i3,r1,hbc⟩ _ e5 e6=> ?_) (λzF o1 ⟨mB,mC,i1,i2,i3,r1,hbc⟩ hk2=> ?_) ?_
    ·intro _ _;rfl
    ·exact JX (.inl ⟨_,_,_,rfl,rfl,mC.both p.sA p.sB f2 (!1) (p.uE (beq_iff_eq.mp e5))⟩)
    ·exact JX (.inl ⟨_,_,_,rfl,rfl,mC.done p.sA p.sB f2 (!1) (.inr (beq_iff_eq.mp e6))⟩)
    ·simp only[JY] at e5 e6
     exact⟨by omega,by omega,by omega,mC,r2⟩
    ·obtain rfl:at2=zF:=by omega
     exact⟨i1,i2,i3,mB,r2⟩
    clear r2
    rintro PQ o ⟨k2,k1,i3,m3,r2⟩
    refine JK (a7 (a_ (show D7 - 1 < a.size by omega)) ?_)
    have m4:=m3.qh p.sA f1 f2 (λy hy=>Yx (r2 y hy))
    refine aP (λe4=> ?_) λe4=> ?_
    ·exact JX (.inl ⟨_,_,_,rfl,rfl,m4.done p.sA p.sB (!1) (!1) (.inl (beq_iff_eq.mp e4))⟩)
    simp only[JY] at e4
    refine aP (λeJ=> ?_) λeJ=> ?_
    ·exact JX (.inr ⟨_,_,_,_,_,_,_,rfl,rfl,m4,by omega,by omega,by omega,by omega,by omega⟩)
    ·exact JX ⟨_,_,_,_,_,_,_,rfl,rfl,m4,by omega,by omega,by omega,by omega,by omega⟩
   ·rintro c st' ⟨g,na,nb,out,mg,ac,bc,rfl,rfl,lv⟩
    exact .inr ⟨_,_,_,_,_,_,_,rfl,rfl,lv⟩
   ·rintro c st' (⟨g,r,d,rfl,rfl,hr⟩ | ⟨g,na,nb,out,mg,ac,bc,rfl,rfl,lv⟩)
    ·exact JX ⟨_,_,_,rfl,rfl,hr⟩
    ·dsimp only
     exact JK (o4 (JX ⟨_,_,_,_,_,rfl,rfl,lv⟩))
 ·rintro c st' ⟨g,na,nb,out,mg,rfl,rfl,m,h1,g1,h2,g2,hp⟩
  omega
 ·rintro c st' ⟨g,r,d,rfl,rfl,hr⟩
  exact JX (hq r g hr)
end
abbrev lA:Nat->Nat->StateT SortSt Sem (Option Bool):=sortPriv% PySem.Builtin.ltAt
abbrev rS:Nat->Nat->StateT SortSt Sem Unit:=sortPriv% PySem.Builtin.reverseSlice
abbrev mD:Nat->Nat->StateT SortSt Sem Unit:=sortPriv% PySem.Builtin.moveDown
abbrev cR:Nat->Nat->StateT SortSt Sem (Option Nat):=sortPriv% PySem.Builtin.countRun
abbrev bS:Nat->Nat->Nat->StateT SortSt Sem Bool:=sortPriv% PySem.Builtin.binarySort
structure El (a₀:Array Keyed):Prop where
 k:∀x∈a₀.toList,IK x
 d:a₀.toList.Pairwise λx y=>kz x≠kz y
structure SB (a₀:Array Keyed)(st:SortSt):Prop where
 perm:(arrOf st).Perm a₀
 kind:kindOf st=oneType'
 failed:failedOf st=none
def k9 (xs:Array Keyed)(lo hi:Nat):Prop:=∀i j,lo<=i->i < j->j < hi->K xs i<=K xs j
section
variable {prog:Program}{w:World}{A:Around}{E:Z3}{s:Shared}{a₀:Array Keyed}{st:SortSt}
theorem SB.size (h:SB a₀ st):(arrOf st).size=a₀.size:=h.perm.size_eq
theorem SB.ik (h:SB a₀ st)(e:El a₀):∀x∈(arrOf st).toList,IK x:=λx hx=>e.k x ((Array.perm_iff_toList_perm.mp h.perm).mem_iff.mp hx)
theorem SB.dist (h:SB a₀ st)(e:El a₀):(arrOf st).toList.Pairwise λx y=>kz x≠kz y:=((Array.perm_iff_toList_perm.mp h.perm).pairwise_iff λh=>h.symm).mpr e.d
theorem SB.ne (h:SB a₀ st)(e:El a₀){i j:Nat}(hi:i < a₀.size)(hj:j < a₀.size)(hn:i≠j):K (arrOf st) i≠K (arrOf st) j:=by
 have hi':i < (arrOf st).size:=by rw[h.size];exact hi
 have hj':j < (arrOf st).size:=by rw[h.size];exact hj
 rw[AX (a_ hi'),AX (a_ hj')]
 have pw:=Yu.mp (h.dist e)
 rcases Nat.lt_or_gt_of_ne hn with z | z
 ·have:=pw i j (by simpa using hi') (by simpa using hj') z
  simpa using this
 ·have:=pw j i (by simpa using hj') (by simpa using hi') z
  intro q;exact this (by simpa using q.symm)
theorem SB.set (h:SB a₀ st){xs:Array Keyed}(hp:xs.Perm (arrOf st)):SB a₀ (setArr st xs):=⟨hp.trans h.perm,h.kind,h.failed⟩
theorem nc {i j:Nat}{Q:Option Bool->SortSt->Prop}(hB:SB a₀ st)(e:El a₀)(hi:i < a₀.size)(hj:j < a₀.size)(h:Q (some (decide (K (arrOf st) i < K (arrOf st) j))) st):wpS (!3) A E s (lA i j) Q st:=by
 have hi':i < (arrOf st).size:=by rw[hB.size];exact hi
 have hj':j < (arrOf st).size:=by rw[hB.size];exact hj
 rw[AX (a_ hi'),AX (a_ hj')] at h
 show wpS (!3) A E s (ltAt' i j) Q st
 rw[ltAt'_eq]
 refine JK (JU ?_)
 refine JK (a7 (a_ hi') (JK (a7 (a_ hj') ?_)))
 exact qf hB.kind (hB.ik e _ (by simp)) (hB.ik e _ (by simp)) h
theorem IM {M:Model}{i j:Nat}{Q:Unit->SortSt->Prop}(h:Q () (setArr st (mirror (arrOf st) i j ((j - i) / 2)))):wpS M A E s (rS i j) Q st:=by
 show wpS M A E s (reverseSlice' i j) Q st
 rw[reverseSlice'_eq];exact wpS_modify h
theorem IN {M:Model}{i j:Nat}{Q:Unit->SortSt->Prop}(h:Q () (setArr st (bubble (arrOf st) i (i - j)))):wpS M A E s (mD i j) Q st:=by
 show wpS M A E s (moveDown' i j) Q st
 rw[moveDown'_eq];exact wpS_modify h
theorem k9.one (xs:Array Keyed)(lo:Nat):k9 xs lo (lo+1):=λi j h1 h2 h3=>by omega
theorem k9.up {xs:Array Keyed}{lo n:Nat}(h:k9 xs lo (lo+n))(h1:1<=n)(hl:K xs (lo+n - 1)<=K xs (lo+n)):k9 xs lo (lo+(n+1)):=λi j a1 a2 a3=>by
 by_cases hj:j=lo+n
 ·subst hj
  by_cases hi:i=lo+n - 1
  ·rw[hi];exact hl
  ·exact YU (h i (lo+n - 1) a1 (!1) (!1)) hl
 ·exact h i j a1 a2 (!1)
theorem IP {lo nrem:Nat}{Q:Option Nat->SortSt->Prop}(hB:SB a₀ st)(e:El a₀)(hn:lo+nrem<=a₀.size)(h1:1<=nrem)
  (h:∀m xs,xs.Perm (arrOf st)->(∀k,k < lo->xs[k]? =(arrOf st)[k]?)->1<=m->m<=nrem->k9 xs lo (lo+m)->Q (some m) (setArr st xs)):wpS (!3) A E s (cR lo nrem) Q st:=by
 refine JK (wpS_mono (wpS_forRange (I:=λx c st'=>st'=st/\c=(none,x)/\k9 (arrOf st) lo (lo+x))
  (Q:=λc st'=>st'=st/\∃n,c=(none,n)/\1<=n/\n<=nrem/\k9 (arrOf st) lo (lo+n)/\(n=nrem∨K (arrOf st) (lo+n) < K (arrOf st) (lo+n - 1))) ?_ ?_ ⟨rfl,rfl,k9.one _ _⟩) ?_)
 ·rintro x c st' O_ hxn ⟨rfl,rfl,hs'⟩
  dsimp only
  refine JK (nc hB e (!1) (!1) ?_)
  dsimp only
  refine aP (λhl=> ?_) λhl=> ?_
  ·simp only[JJ] at hl
   exact JX ⟨rfl,x,rfl,by omega,by omega,hs',.inr hl⟩
  ·simp only[JJ] at hl
   exact JX ⟨rfl,rfl,hs'.up (!1) (!1)⟩
 ·rintro c st' ⟨rfl,rfl,hs'⟩
  rw[show max 1 nrem=nrem by omega] at hs'⊢
  exact⟨rfl,nrem,rfl,h1,K2 _,hs',.inl rfl⟩
 rintro c st' ⟨est,n,rfl,n1,n2,hs,hor⟩
 rw[est]
 dsimp only
 refine aP (λe1=> ?_) λe1=> ?_
 ·exact JX (h n (arrOf st) (Array.Perm.refl _) (λ_ _=>rfl) n1 n2 hs)
 simp only[JY] at e1
 have hlt:=hor.resolve_left e1
 refine aP (λe2=> ?_) λe2=> ?_
 ·have hr:K (arrOf st) lo < K (arrOf st) (lo+n - 1):=by
   have q1:=hs lo (lo+n - 1) (!1) (!1) (!1)
   have q2:=hB.ne e (i:=lo) (j:=lo+n - 1) (!1) (!1) (!1)
   omega
  refine JK (nc hB e (!1) (!1) ?_)
  dsimp only
  rw[JQ (Z9 hr)]
  exact JX (h n (arrOf st) (Array.Perm.refl _) (λ_ _=>rfl) n1 n2 hs)
 obtain rfl:n=1:=by omega
 refine JK (wpS_lift (wpAny_rule ⟨rfl,?_⟩))
 refine JK (wpS_mono (wpS_forRange (I:=λx c st'=>st'=st/\c=(none,x,0)/\∀i j,lo<=i->i < j->j < lo+x->K (arrOf st) j < K (arrOf st) i)
  (Q:=λc st'=>st'=st/\∃n,c=(none,n,0)/\2<=n/\n<=nrem/\∀i j,lo<=i->i < j->j < lo+n->K (arrOf st) j < K (arrOf st) i) ?_ ?_ ⟨rfl,rfl,λi j u1 u2 u3=>by
   obtain rfl:i=lo:=by omega
   obtain rfl:j=i+1:=by omega
   exact hlt⟩) ?_)
 ·rintro x c st' hx1 hxn ⟨rfl,rfl,hs'⟩
  dsimp only
  refine JK (nc hB e (!1) (!1) ?_)
  dsimp only
  refine aP (λhl=> ?_) λhl=> ?_
  ·simp only[JJ] at hl
   rw[JV (!1)]
   refine JX ⟨rfl,rfl,λi j u1 u2 u3=> ?_⟩
   by_cases hj:j=lo+x
   ·subst hj
    by_cases hi:i=lo+x - 1
    ·rw[hi];exact hl
    ·exact Int.lt_trans hl (hs' i (lo+x - 1) u1 (!1) (!1))
   ·exact hs' i j u1 u2 (!1)
  ·simp only[JJ] at hl
   have q2:=hB.ne e (i:=lo+x) (j:=lo+x - 1) (!1) (!1) (!1)
   have hl2:K (arrOf st') (lo+x - 1) < K (arrOf st') (lo+x):=by omega
   refine JK (nc hB e (!1) (!1) ?_)
   dsimp only
   rw[JQ (Z9 hl2)]
   exact JX ⟨rfl,x,rfl,by omega,by omega,hs'⟩
 ·rintro c st' ⟨rfl,rfl,hs'⟩
  rw[show max (1+1) nrem=nrem by omega] at hs'⊢
  exact⟨rfl,nrem,rfl,by omega,K2 _,hs'⟩
 rintro c st' ⟨est,n,rfl,m1,m2,hd⟩
 rw[est]
 dsimp only
 rw[JV (!1)]
 refine JK (IM ?_)
 have hsz:lo+n<=(arrOf st).size:=by rw[hB.size];omega
 have hp:=mirror_perm (arrOf st) lo (lo+n) ((lo+n - lo) / 2)
 have hkeep:∀k,k < lo->(mirror (arrOf st) lo (lo+n) ((lo+n - lo) / 2))[k]? =(arrOf st)[k]?:=λk hk=>by
  rw[getElem?_mirror_all hsz,JV (!1)]
 have hs2:k9 (mirror (arrOf st) lo (lo+n) ((lo+n - lo) / 2)) lo (lo+n):=λi j u1 u2 u3=>by
  rw[K_mirror hsz,K_mirror hsz,JQ (!1),JQ (!1)]
  exact Yx (hd _ _ (!1) (!1) (!1))
 have hB2:=hB.set hp
 generalize mirror (arrOf st) lo (lo+n) ((lo+n - lo) / 2)=ys at hp hkeep hs2 hB2
 obtain⟨st2,Fs⟩:∃st2,st2=setArr st ys:=⟨_,rfl⟩
 have JS:arrOf st2=ys:=by rw[Fs]
 rw[←Fs] at hB2⊢
 refine JK (wpS_mono (wpS_forRange (I:=λx c st'=>st'=st2/\c=(none,x)/\k9 (arrOf st2) lo (lo+x))
  (Q:=λc st'=>st'=st2/\∃k,c=(none,k)/\n<=k/\k<=nrem/\k9 (arrOf st2) lo (lo+k)/\(k=nrem∨K (arrOf st2) (lo+k) < K (arrOf st2) (lo+k - 1))) ?_ ?_ ⟨rfl,rfl,by rw[JS];exact hs2⟩) ?_)
 ·clear hB
  have hB:=hB2
  clear hB2
  clear Fs JS
  rintro x c st' O_ hxn ⟨rfl,rfl,hs'⟩
  dsimp only
  refine JK (nc hB e (!1) (!1) ?_)
  dsimp only
  refine aP (λhl=> ?_) λhl=> ?_
  ·simp only[JJ] at hl
   exact JX ⟨rfl,x,rfl,by omega,by omega,hs',.inr hl⟩
  ·simp only[JJ] at hl
   exact JX ⟨rfl,rfl,hs'.up (!1) (!1)⟩
 ·rintro c st' ⟨rfl,rfl,hs'⟩
  rw[show max n nrem=nrem by omega] at hs'⊢
  exact⟨rfl,nrem,rfl,m2,K2 _,hs',.inl rfl⟩
 rintro c st' ⟨e3,k,rfl,k1,k2,hs3,_⟩
 rw[e3,Fs]
 rw[JS] at hs3
 exact JX (h k ys hp hkeep (!1) k2 hs3)
theorem IQ {lo n ok:Nat}{Q:Bool->SortSt->Prop}(hB:SB a₀ st)(e:El a₀)(hn:lo+n<=a₀.size)(h1:1<=ok)(hok:ok<=n)(hs:k9 (arrOf st) lo (lo+ok))
  (h:∀xs,xs.Perm (arrOf st)->(∀k,k < lo->xs[k]? =(arrOf st)[k]?)->k9 xs lo (lo+n)->Q true (setArr st xs)):wpS (!3) A E s (bS lo n ok) Q st:=by
 refine JK (wpS_mono (wpS_forRange (I:=λk c st'=>c=(none,())/\∃xs,st'=setArr st xs/\xs.Perm (arrOf st)/\(∀k,k < lo->xs[k]? =(arrOf st)[k]?)/\k9 xs lo (lo+min k n))
  (Q:=λc st'=>c=(none,())/\∃xs,st'=setArr st xs/\xs.Perm (arrOf st)/\(∀k,k < lo->xs[k]? =(arrOf st)[k]?)/\k9 xs lo (lo+n)) ?_ ?_ ⟨rfl,arrOf st,rfl,Array.Perm.refl _,λ_ _=>rfl,by rw[show min (max ok 1) n=ok by omega];exact hs⟩) ?_)
 ·rintro k c st' hk1 hkn ⟨rfl,xs,est,hp,hkeep,hs'⟩
  rw[show min k n=k by omega] at hs'
  have hB2:SB a₀ st':=by rw[est];exact hB.set hp
  have JS:arrOf st'=xs:=by rw[est]
  refine JK (wpS_mono (wpS_forRange (I:=λx c st''=>st''=st'/\∃l r,c=(none,l,r)/\l<=r/\r<=k/\r - l<=k - x/\(∀i,lo<=i->i < lo+l->K (arrOf st') i<=K (arrOf st') (lo+k))/\∀i,lo+r<=i->i < lo+k->K (arrOf st') (lo+k) < K (arrOf st') i)
   (Q:=λc st''=>st''=st'/\∃l r,c=(none,l,r)/\l<=k/\(∀i,lo<=i->i < lo+l->K (arrOf st') i<=K (arrOf st') (lo+k))/\∀i,lo+l<=i->i < lo+k->K (arrOf st') (lo+k) < K (arrOf st') i) ?_ ?_ ⟨rfl,0,k,rfl,by omega,by omega,by omega,λi _ _=>by omega,λi _ _=>by omega⟩) ?_)
  ·rintro x c st'' _ hx ⟨rfl,l,r,rfl,u1,u2,u3,u4,u5⟩
   dsimp only
   refine aP (λhge=> ?_) λhge=> ?_
   ·obtain rfl:l=r:=by omega
    exact JX ⟨rfl,l,l,rfl,u2,u4,u5⟩
   ·refine JK (nc hB2 e (!1) (!1) ?_)
    dsimp only
    rw[←JS] at hs'
    refine aP (λhl=> ?_) λhl=> ?_
    ·simp only[JJ] at hl
     refine JX ⟨rfl,l,(l+r) / 2,rfl,by omega,by omega,by omega,u4,λi v1 v2=> ?_⟩
     by_cases hi:i=lo+(l+r) / 2
     ·rw[hi];exact hl
     ·exact Int.lt_of_lt_of_le hl (hs' _ _ (!1) (!1) v2)
    ·simp only[JJ] at hl
     refine JX ⟨rfl,(l+r) / 2+1,r,rfl,by omega,by omega,by omega,λi v1 v2=> ?_,u5⟩
     by_cases hi:i=lo+(l+r) / 2
     ·rw[hi];omega
     ·have:=hs' i (lo+(l+r) / 2) v1 (!1) (!1);omega
  ·rintro c st'' ⟨rfl,l,r,rfl,u1,u2,u3,u4,u5⟩
   obtain rfl:l=r:=by omega
   exact⟨rfl,l,l,rfl,u2,u4,u5⟩
  ·rintro c st'' ⟨e2,l,r,rfl,u2,u4,u5⟩
   rw[e2]
   dsimp only
   refine JK (IN ?_)
   rw[JS] at u4 u5
   have hsz:lo+k < xs.size:=by rw[hp.size_eq,hB.size];omega
   refine JX ⟨rfl,bubble xs (lo+k) (lo+k - (lo+l)),?_,(bubble_perm _ _ _).trans hp,λj hj=> ?_,?_⟩
   ·rw[est]
   ·rw[getElem?_bubble hsz _ (!1),JV (!1),JV (!1)];exact hkeep j hj
   ·rw[show min (k+1) n=k+1 by omega]
    intro i j v1 v2 v3
    rw[K_bubble hsz (!1),K_bubble hsz (!1),show lo+k - (lo+k - (lo+l))=lo+l by omega]
    repeat' split
    all_goals first
     | (exfalso;omega)
     | exact u4 _ (!1) (!1)
     | exact Yx (u5 _ (!1) (!1))
     | exact hs' _ _ (!1) (!1) (!1)
 ·rintro c st' ⟨rfl,xs,rfl,hp,hkeep,hs'⟩
  rw[show min (max (max ok 1) n) n=n by omega] at hs'
  exact⟨rfl,xs,rfl,hp,hkeep,hs'⟩
 ·rintro c st' ⟨rfl,xs,rfl,hp,hkeep,hs'⟩
  exact JX (h xs hp hkeep hs')
end
abbrev Oa:Nat->StateT SortSt Sem Bool:=sortPriv% PySem.Builtin.mergeAt
theorem CU {xs:Array Keyed}{lo n:Nat}(h:k9 xs lo (lo+n))(hb:lo+n<=xs.size):jk kz ((xs.toList.drop lo).take n):=by
 refine Yu.mpr λi j hi hj hij=> ?_
 have hl:((xs.toList.drop lo).take n).length=n:=by rw[Xk,XQ,Kq];omega
 obtain⟨u1,e1⟩:=nZ (arr:=xs) (base:=lo) (i:=i) hb (!1)
 obtain⟨u2,e2⟩:=nZ (arr:=xs) (base:=lo) (i:=j) hb (!1)
 rw[←e1,←e2]
 exact h _ _ (!1) (!1) (!1)
theorem LI {xs:Array Keyed}{lo n:Nat}(h:jk kz ((xs.toList.drop lo).take n))(hb:lo+n<=xs.size):k9 xs lo (lo+n):=λi j u1 u2 u3=>by
 obtain⟨v1,e1⟩:=nZ (arr:=xs) (base:=lo) (i:=i - lo) hb (!1)
 obtain⟨v2,e2⟩:=nZ (arr:=xs) (base:=lo) (i:=j - lo) hb (!1)
 rw[show lo+(i - lo)=i by omega] at e1
 rw[show lo+(j - lo)=j by omega] at e2
 rw[e1,e2]
 exact Yu.mp h _ _ v1 v2 (!1)
theorem Ft (P M T:List Keyed)(u v:Keyed):(P++u :: M++T).toArray.setIfInBounds P.length v=(P++[v]++M++T).toArray:=by
 apply Array.toList_inj.mp
 rw[Array.toList_setIfInBounds]
 simp
theorem ql (q:Nat)(T:List Keyed):∀(r P M:List Keyed) (m:Nat),M.length=r.length->P.length=q+m->(r.zipIdx m).foldl (λa x=>a.setIfInBounds (q+x.snd) x.fst) (P++M++T).toArray=(P++r++T).toArray
 | [],P,M,m,hM,_=>by
  rw[Y2] at hM
  rw[List.eq_nil_of_length_eq_zero hM];rfl
 | v :: r,P,M,m,hM,hP=>by
  cases M with
  | nil=>simp at hM
  | cons u M=>
   rw[List.zipIdx_cons,UZ]
   dsimp only
   rw[←hP,Ft P M T u v]
   have ih:=ql q T r (P++[v]) M (m+1) (by simpa using hM) (by rw[K1,X3];omega)
   rw[ih]
   simp
theorem CV {P M M' T:List Keyed}(hl:M'.length=M.length){k:Nat}(h:k < P.length∨P.length+M.length<=k):(P++M'++T)[k]? =(P++M++T)[k]?:=by
 rcases h with h | h
 ·rw[X5,X5,Xx h,Xx h]
 ·rw[Xu (by rw[K1,hl];exact h),Xu (by rw[K1];exact h),K1,K1,hl]
def Mg (arr xs:Array Keyed)(sa n:Nat):Prop:=xs.Perm arr/\(∀k,k < sa∨sa+n<=k->xs[k]? =arr[k]?)/\k9 xs sa (sa+n)
theorem mg_of {arr xs:Array Keyed}{P M M' T:List Keyed}{sa n:Nat}(h1:arr.toList=P++M++T)(h2:xs.toList=P++M'++T)(hp:M'.Perm M)(hs:jk kz M')(hP:P.length=sa)(hM:M.length=n):Mg arr xs sa n:=by
 have hl:=hp.length_eq
 refine⟨Array.perm_iff_toList_perm.mpr ?_,λk hk=> ?_,LI ?_ ?_⟩
 ·rw[h1,h2];exact(hp.append_left P).append_right T
 ·rw[←Uy,←Uy,h1,h2];exact CV hl (by rw[hP,hM];exact hk)
 ·rw[h2,X5,←hP,List.drop_left,←hM,←hl,List.take_left];exact hs
 ·rw[←Kq,h2,K1,K1];omega
section
variable {prog:Program}{w:World}{A:Around}{E:Z3}{s:Shared}{a₀:Array Keyed}{st:SortSt}
theorem Fv {M:Model}{t:SortSt}{Q:PUnit->SortSt->Prop}(h:Q ⟨⟩ t):wpS M A E s (set t:StateT SortSt Sem PUnit) Q st:=by
 unfold wpS;rw[StateT.run_set];exact JW ⟨rfl,h⟩
theorem CW {i sa na nb pw q:Nat}{Q:Bool->SortSt->Prop}(hB:SB a₀ st)(e:El a₀)(hi:(pendingOf st)[i]? =some (sa,na,pw))(hj:(pendingOf st)[i+1]? =some (sa+na,nb,q))(n1:1<=na)(n2:1<=nb)(hb:sa+(na+nb)<=a₀.size)
  (s1:k9 (arrOf st) sa (sa+na)) (s2:k9 (arrOf st) (sa+na) (sa+na+nb))
  (h:∀xs g,Mg (arrOf st) xs sa (na+nb)->Q true (SortSt.mk' (kindOf st) xs (((pendingOf st).setIfInBounds i (sa,na+nb,pw)).eraseIdxIfInBounds (i+1)) g (failedOf st))):wpS (!3) A E s (Oa i) Q st:=by
 have hsz:=hB.size
 have ik:=hB.ik e
 have hk:=hB.kind
 have hf:=hB.failed
 have c1:=CU s1 (!1)
 have c2:=CU s2 (!1)
 obtain⟨P,hP⟩:∃P,P=(arrOf st).toList.take sa:=⟨_,rfl⟩
 obtain⟨R1,Fw⟩:∃R1,R1=((arrOf st).toList.drop sa).take na:=⟨_,rfl⟩
 obtain⟨R2,Fy⟩:∃R2,R2=((arrOf st).toList.drop (sa+na)).take nb:=⟨_,rfl⟩
 obtain⟨T,hT⟩:∃T,T=(arrOf st).toList.drop (sa+na+nb):=⟨_,rfl⟩
 have hL:(arrOf st).toList=P++(R1++R2)++T:=by
  rw[hP,Fw,Fy,hT,X5,X5]
  rw[←YV (i:=nb),Ux,←YV (i:=na),Ux,Ux]
 have lP:P.length=sa:=by rw[hP,Xk,Kq];omega
 have l1:R1.length=na:=by rw[Fw,Xk,XQ,Kq];omega
 have l2:R2.length=nb:=by rw[Fy,Xk,XQ,Kq];omega
 have g1:sa+na < (arrOf st).size:=by omega
 have g2:sa+na - 1 < (arrOf st).size:=by omega
 have Ob:(arrOf st)[sa+na]=R2[0]'(!1):=by
  have:(arrOf st).toList[sa+na]'(by simpa using g1)=R2[0]'(!1):=by
   simp only[Fy,YK,J6,Nat.add_zero]
  simpa using this
 have Oc:(arrOf st)[sa+na - 1]=R1[na - 1]'(!1):=by
  have:(arrOf st).toList[sa+na - 1]'(by simpa using g2)=R1[na - 1]'(!1):=by
   simp only[Fw,YK,J6]
   congr 1;omega
  simpa using this
 have mb:∀y∈R2,kz (R2[0]'(!1))<=kz y:=λy hy=>by
  rw[←Fy] at c2
  exact qg c2 (!1) (by rw[Y6];exact hy)
 have ma:∀y∈R1,kz y<=kz (R1[na - 1]'(!1)):=λy hy=>by
  rw[←Fw] at c1
  exact qi c1 n1 (!1) (by rw[U9 (!1)];exact hy)
 refine JK (JU ?_)
 dsimp only
 simp only[hi,hj]
 refine JK (Fv ?_)
 refine JK (a7 (a_ g1) ?_)
 rw[Ob]
 refine JK (qj hk (ik _ (by rw[←Ob];simp)) ik (show sa+na<=(arrOf st).size by omega) (!1) c1 λk q1 q2 q3=> ?_)
 rw[←Fw] at q2 q3
 dsimp only
 refine aP (λe1=> ?_) λe1=> ?_
 ·simp only[JY] at e1
  refine JX (h (arrOf st) (gallopOf st) (mg_of hL hL (List.Perm.refl _) ?_ lP (by rw[K1];omega)))
  rw[←Fw] at c1
  rw[←Fy] at c2
  refine UW.mpr ⟨c1,c2,λx hx y hy=>YU (q2 x ?_) (mb y hy)⟩
  rw[U9 (!1)];exact hx
 simp only[JY] at e1
 rw[show sa+k+(na - k) - 1=sa+na - 1 by omega]
 refine JK (a7 (a_ g2) ?_)
 rw[Oc]
 refine JK (qk hk (ik _ (by rw[←Oc];simp)) ik (show sa+na+nb<=(arrOf st).size by omega) (!1) c2 λk2 r1 r2 r3=> ?_)
 rw[←Fy] at r2 r3
 rw[←Fw] at c1
 rw[←Fy] at c2
 dsimp only
 refine aP (λe2=> ?_) λe2=> ?_
 ·simp only[JY] at e2
  refine JX (h (arrOf st) (gallopOf st) (mg_of hL hL (List.Perm.refl _) ?_ lP (by rw[K1];omega)))
  refine UW.mpr ⟨c1,c2,λx hx y hy=>YU (ma x hx) (r3 y ?_)⟩
  rw[e2,Y6];exact hy
 simp only[JY] at e2
 have ex:((arrOf st).extract (sa+k) (sa+na)).toList=R1.drop k:=by
  rw[ij,Fw,List.drop_take,YV,show sa+na - (sa+k)=na - k by omega]
 have ey:((arrOf st).extract (sa+na) (sa+na+k2)).toList=R2.take k2:=by
  rw[ij,Fy,List.take_take,Nat.add_sub_cancel_left,Nat.min_eq_left r1]
 have sx:((arrOf st).extract (sa+k) (sa+na)).size=na - k:=by rw[←Kq,ex,XQ,l1]
 have sy:((arrOf st).extract (sa+na) (sa+na+k2)).size=k2:=by rw[←Kq,ey,Xk,l2];omega
 have Pa:((arrOf st).extract (sa+na) (sa+na+k2))[0]'(!1)=R2[0]'(!1):=by
  have:((arrOf st).extract (sa+na) (sa+na+k2)).toList[0]'(by rw[Kq];omega)=R2[0]'(!1):=by
   simp only[ey,YK]
  simpa using this
 have Pb:((arrOf st).extract (sa+k) (sa+na))[((arrOf st).extract (sa+k) (sa+na)).size - 1]'(!1)=R1[na - 1]'(!1):=by
  have:((arrOf st).extract (sa+k) (sa+na)).toList[((arrOf st).extract (sa+k) (sa+na)).size - 1]'(by rw[Kq];omega)=R1[na - 1]'(!1):=by
   simp only[ex,J6]
   congr 1;omega
  simpa using this
 have Pc:∀x∈R1,x∈(arrOf st).toList:=λx hx=>by rw[Fw] at hx;exact U1 (U2 hx)
 have Pd:∀x∈R2,x∈(arrOf st).toList:=λx hx=>by rw[Fy] at hx;exact U1 (U2 hx)
 have pre:Pre ((arrOf st).extract (sa+k) (sa+na)) ((arrOf st).extract (sa+na) (sa+na+k2)):=by
  refine⟨?_,?_,?_,?_,by omega,by omega,?_,?_⟩
  ·rw[ex];exact λx hx=>ik x (Pc x (U1 hx))
  ·rw[ey];exact λx hx=>ik x (Pd x (U2 hx))
  ·rw[ex];exact c1.sublist (YX _ _)
  ·rw[ey];exact c2.sublist (J9 _ _)
  ·rw[ex,Pa];exact λx hx=>Yx (q3 x hx)
  ·rw[ey,Pb];exact λx hx=>Yx (r2 x hx)
 have LJ:∀r,Fn ((arrOf st).extract (sa+k) (sa+na)) ((arrOf st).extract (sa+na) (sa+na+k2)) r->Mg (arrOf st) (List.foldl (λa x=>a.setIfInBounds (sa+k+x.snd) x.fst) (arrOf st) r.toList.zipIdx) sa (na+nb):=by
  rintro r ⟨p1,p2⟩
  rw[ex,ey] at p1
  have hlr:(R1.drop k++R2.take k2).length=r.toList.length:=p1.length_eq.symm
  have hL2:(arrOf st).toList=P++R1.take k++(R1.drop k++R2.take k2)++(R2.drop k2++T):=by
   rw[hL]
   conv=>lhs;rw[←Ux k R1,←Ux k2 R2]
   simp only[X5]
  have hw:List.foldl (λa x=>a.setIfInBounds (sa+k+x.snd) x.fst) (arrOf st) r.toList.zipIdx=(P++R1.take k++r.toList++(R2.drop k2++T)).toArray:=by
   have:=ql (sa+k) (R2.drop k2++T) r.toList (P++R1.take k) (R1.drop k++R2.take k2) 0 hlr (by rw[K1,Xk];omega)
   rw[←hL2,Array.toArray_toList] at this
   exact this
  rw[hw]
  refine mg_of (P:=P) (M:=R1++R2) (M':=R1.take k++r.toList++R2.drop k2) (T:=T) hL (by simp only[X5]) ?_ ?_ lP (by rw[K1];omega)
  ·have:(R1.take k++r.toList++R2.drop k2).Perm (R1.take k++(R1.drop k++R2.take k2)++R2.drop k2):=(p1.append_left _).append_right _
   refine this.trans (List.Perm.of_eq ?_)
   conv=>rhs;rw[←Ux k R1,←Ux k2 R2]
   simp only[X5]
  ·have rm:∀x∈r.toList,x∈R1.drop k∨x∈R2.take k2:=λx hx=>Kk.mp (p1.mem_iff.mp hx)
   have hal:∀x∈r.toList,kz (R2[0]'(!1))<=kz x/\kz x<=kz (R1[na - 1]'(!1)):=λx hx=>by
    rcases rm x hx with z | z
    ·exact⟨Yx (q3 x z),ma x (U1 z)⟩
    ·exact⟨mb x (U2 z),Yx (r2 x z)⟩
   refine UW.mpr ⟨UW.mpr ⟨c1.sublist (J9 _ _),p2,λx hx y hy=>YU (q2 x hx) (hal y hy).1⟩,c2.sublist (YX _ _),λx hx y hy=> ?_⟩
   rcases Kk.mp hx with z | z
   ·exact YU (q2 x z) (mb y (U1 hy))
   ·exact YU (hal x z).2 (r3 y hy)
 refine aP (λe3=> ?_) λe3=> ?_
 ·refine JK (Fp hk pre λr g hr=> ?_)
  refine JK (wpS_modify ?_)
  refine JK (JU ?_)
  refine JX ?_
  have:=h _ g (LJ r hr)
  rw[show(failedOf st).isNone=true by rw[hf];rfl]
  exact this
 ·refine JK (Fq hk pre λr g hr=> ?_)
  refine JK (wpS_modify ?_)
  refine JK (JU ?_)
  refine JX ?_
  have:=h _ g (LJ r hr)
  rw[show(failedOf st).isNone=true by rw[hf];rfl]
  exact this
end
abbrev Pe:StateT SortSt Sem Unit:=sortPriv% PySem.Builtin.sortRuns
def iH (xs:Array Keyed):List (Nat×Nat×Nat)->Nat->Nat->Prop
 | [],lo,hi=>lo=hi
 | t :: r,lo,hi=>t.1=lo/\1<=t.2.1/\k9 xs lo (lo+t.2.1)/\iH xs r (lo+t.2.1) hi
theorem iH.len {xs:Array Keyed}:∀{l:List (Nat×Nat×Nat)} {lo hi:Nat},iH xs l lo hi->lo+l.length<=hi
 | [],lo,hi,h=>by rw[iH] at h;simp;omega
 | t :: r,lo,hi,h=>by rw[iH] at h;have:=iH.len h.2.2.2;simp only[Kz];omega
theorem iH.app {xs:Array Keyed}{l2:List (Nat×Nat×Nat)}:∀{l1:List (Nat×Nat×Nat)} {lo hi:Nat},iH xs (l1++l2) lo hi↔∃mid,iH xs l1 lo mid/\iH xs l2 mid hi
 | [],lo,hi=>⟨λh=>⟨lo,rfl,h⟩,λ⟨mid,h1,h2⟩=>by rw[iH] at h1;subst h1;exact h2⟩
 | t :: r,lo,hi=>by
  rw[U6,iH,iH.app (l1:=r)]
  constructor
  ·rintro⟨a,b,c,mid,d,e⟩;exact⟨mid,⟨a,b,c,d⟩,e⟩
  ·rintro⟨mid,⟨a,b,c,d⟩,e⟩;exact⟨a,b,c,mid,d,e⟩
theorem k9.keep {xs ys:Array Keyed}{lo hi:Nat}(h:k9 xs lo hi)(hk:∀k,lo<=k->k < hi->ys[k]? =xs[k]?):k9 ys lo hi:=λi j a b c=>by
 rw[K_congr (hk i a (!1)),K_congr (hk j (!1) c)];exact h i j a b c
theorem iH.keep {xs ys:Array Keyed}:∀{l:List (Nat×Nat×Nat)} {lo hi:Nat},iH xs l lo hi->(∀k,lo<=k->k < hi->ys[k]? =xs[k]?)->iH ys l lo hi
 | [],lo,hi,h,_=>h
 | t :: r,lo,hi,⟨a,b,c,d⟩,hk=>by
  have:=d.len
  exact⟨a,b,c.keep λk h1 h2=>hk k h1 (!1),d.keep λk h1 h2=>hk k (!1) h2⟩
theorem iH.push {xs:Array Keyed}{l:List (Nat×Nat×Nat)}{lo n p:Nat}(h:iH xs l 0 lo)(h1:1<=n)(hs:k9 xs lo (lo+n)):iH xs (l++[(lo,n,p)]) 0 (lo+n):=iH.app.mpr ⟨lo,h,rfl,h1,hs,rfl⟩
theorem iH.pow {xs:Array Keyed}{f:Nat×Nat×Nat->Nat×Nat×Nat}(hf:∀t,(f t).1=t.1/\(f t).2.1=t.2.1):∀{l:List (Nat×Nat×Nat)} {i lo hi:Nat},iH xs l lo hi->iH xs (l.modify i f) lo hi
 | [],i,lo,hi,h=>by cases i <;> exact h
 | t :: r,0,lo,hi,h=>by
  rw[List.modify_zero_cons]
  obtain⟨a,b,c,d⟩:=h
  rw[iH,(hf t).1,(hf t).2];exact⟨a,b,c,d⟩
 | t :: r,i+1,lo,hi,⟨a,b,c,d⟩=>by rw[List.modify_succ_cons];exact⟨a,b,c,d.pow hf⟩
theorem IS {c:Prop}[Decidable c]{n:Nat}(h:¬ n<=1):(if c then n - 2 - 1 else n - 2)+1 < n:=by split <;> omega
section
variable {prog:Program}{w:World}{A:Around}{E:Z3}{s:Shared}{a₀:Array Keyed}{st:SortSt}
theorem zG {i hi:Nat}{Q:Bool->SortSt->Prop}(hB:SB a₀ st)(e:El a₀)(hr:iH (arrOf st) (pendingOf st).toList 0 hi)(hhi:hi<=a₀.size)(hi1:i+1 < (pendingOf st).size)
  (h:∀st',SB a₀ st'->iH (arrOf st') (pendingOf st').toList 0 hi->(pendingOf st').size+1=(pendingOf st).size->(∀k,hi<=k->(arrOf st')[k]? =(arrOf st)[k]?)->Q true st'):wpS (!3) A E s (Oa i) Q st:=by
 obtain⟨l,hl⟩:∃l,(pendingOf st).toList=l:=⟨_,rfl⟩
 have hsz:(pendingOf st).size=l.length:=by rw[←hl,Kq]
 rw[hl] at hr
 have hi2:i < l.length:=by omega
 have Od:i+1 < l.length:=by omega
 have el:l=l.take i++l[i] :: l[i+1] :: l.drop (i+2):=by
  rw[←U5 Od,←U5 hi2,Ux]
 have e1:(pendingOf st)[i]? =some l[i]:=by rw[←Uy,hl,K3 hi2]
 have e2:(pendingOf st)[i+1]? =some l[i+1]:=by rw[←Uy,hl,K3 Od]
 obtain⟨l1,hl1⟩:∃l1,l1=l.take i:=⟨_,rfl⟩
 obtain⟨l2,hl2⟩:∃l2,l2=l.drop (i+2):=⟨_,rfl⟩
 have n1:l1.length=i:=by rw[hl1,Xk];omega
 obtain⟨⟨sa,na,pw⟩,ht1⟩:∃t,t=l[i]:=⟨_,rfl⟩
 obtain⟨⟨sb,nb,q⟩,AD⟩:∃t,t=l[i+1]:=⟨_,rfl⟩
 rw[←ht1] at e1
 rw[←AD] at e2
 rw[←hl1,←hl2,←ht1,←AD] at el
 rw[el] at hr
 obtain⟨mid,r1,x1,x2,x3,y1,y2,y3,r2⟩:=iH.app.mp hr
 dsimp only at x1 x2 x3 y1 y2 y3 r2
 subst x1 y1
 have len2:=r2.len
 refine CW hB e e1 e2 x2 y2 (!1) x3 y3 λxs g ⟨m1,m2,m3⟩=> ?_
 have el2:(((pendingOf st).setIfInBounds i (sa,na+nb,pw)).eraseIdxIfInBounds (i+1)).toList=l1++(sa,na+nb,pw) :: l2:=by
  have:(((pendingOf st).setIfInBounds i (sa,na+nb,pw)).eraseIdxIfInBounds (i+1)).toList=((pendingOf st).toList.set i (sa,na+nb,pw)).eraseIdx (i+1):=by
   rw[Array.toList_eraseIdxIfInBounds,Array.toList_setIfInBounds]
  rw[this,hl,el,←n1]
  simp[List.eraseIdx_append_of_length_le]
 refine h _ ⟨m1.trans hB.perm,hB.kind,hB.failed⟩ ?_ ?_ λk hk=>m2 k (.inr (!1))
 ·show iH xs _ 0 hi
  rw[el2]
  refine iH.app.mpr ⟨sa,r1.keep λk _ hk=>m2 k (.inl hk),rfl,by show 1<=na+nb;omega,m3,?_⟩
  have:=r2.keep (ys:=xs) λk h1 _=>m2 k (.inr (!1))
  rw[show sa+na+nb=sa+(na+nb) by omega] at this
  exact this
 ·show(((pendingOf st).setIfInBounds i (sa,na+nb,pw)).eraseIdxIfInBounds (i+1)).size+1=_
  rw[←Kq,el2,hsz,el]
  simp only[K1,Kz];omega
theorem IT {Q:Unit->SortSt->Prop}(hB:SB a₀ st)(e:El a₀)(hp:pendingOf st= #[])(h1:1<=a₀.size)(h:∀st',SB a₀ st'->k9 (arrOf st') 0 a₀.size->Q () st'):wpS (!3) A E s Pe Q st:=by
 refine JK (JU ?_)
 dsimp only
 simp only[hB.size]
 refine JK (wpS_mono (wpS_forRange (I:=λx c st'=>∃lo,c=(none,lo)/\SB a₀ st'/\iH (arrOf st') (pendingOf st').toList 0 lo/\lo<=a₀.size/\(x<=lo∨lo=a₀.size))
  (Q:=λc st'=>c=(none,a₀.size)/\SB a₀ st'/\iH (arrOf st') (pendingOf st').toList 0 a₀.size) ?_ ?_ ⟨0,rfl,hB,by rw[hp];rfl,by omega,.inl (!1)⟩) ?_)
 ·rintro x c st' _ hx ⟨lo,rfl,hB',hr,hlo,Pf⟩
  dsimp only
  refine aP (λhge=> ?_) λhge=> ?_
  ·obtain rfl:lo=a₀.size:=by omega
   exact JX ⟨rfl,hB',hr⟩
  refine JK (IP hB' e (!1) (!1) λm xs hpm hkp m1 m2 hs=> ?_)
  have LK:=hB'.set hpm
  have hr1:iH xs (pendingOf st').toList 0 lo:=hr.keep λk _ hk=>hkp k hk
  dsimp only
  refine aP (λhm=> ?_) (λhm=> ?_)
  case' refine_2=>
   obtain⟨s1,hs1⟩:∃s1,s1=setArr st' xs:=⟨_,rfl⟩
   rw[←hs1]
   have g1:SB a₀ s1:=by rw[hs1];exact LK
   have g2:iH (arrOf s1) (pendingOf s1).toList 0 lo:=by rw[hs1];exact hr1
   have g3:k9 (arrOf s1) lo (lo+m):=by rw[hs1];exact hs
   obtain⟨n,hn⟩:∃n,n=m:=⟨_,rfl⟩
   rw[←hn] at g3⊢
   have n1:1<=n:=by omega
   have n2:lo+n<=a₀.size:=by omega
   clear hs1 hn
  case' refine_1=>
   refine JK (wpS_lift (wpAny_rule ⟨rfl,?_⟩))
   obtain⟨n,hn⟩:∃n,n=min (a₀.size - lo) ((sortPriv% PySem.Builtin.minRun) a₀.size a₀.size 0):=⟨_,rfl⟩
   rw[←hn]
   have n1:1<=n:=by omega
   have n2:lo+n<=a₀.size:=by omega
   refine JK (IQ LK e n2 m1 (!1) hs λys hpy hky Ni=> ?_)
   obtain⟨s1,hs1⟩:∃s1,s1=setArr (setArr st' xs) ys:=⟨_,rfl⟩
   rw[←hs1]
   have g1:SB a₀ s1:=by rw[hs1];exact LK.set hpy
   have g2:iH (arrOf s1) (pendingOf s1).toList 0 lo:=by rw[hs1];exact hr1.keep λk _ hk=>hky k hk
   have g3:k9 (arrOf s1) lo (lo+n):=by rw[hs1];exact Ni
   rw[JV (by simp)]
   clear hs1 hn
  all_goals
   refine JK (JU ?_)
   rcases hb:(pendingOf s1).back? with _ | ⟨u1,u2,u3⟩
   ·dsimp only
    refine JK (wpS_modify (JX ⟨lo+n,rfl,⟨g1.perm,g1.kind,g1.failed⟩,?_,n2,by omega⟩))
    show iH (arrOf s1) ((pendingOf s1).push _).toList 0 (lo+n)
    rw[YY];exact g2.push n1 g3
   ·dsimp only
    refine JK (wpS_mono (wpS_forRange (I:=λ_ c s2=>c=(none,())/\SB a₀ s2/\iH (arrOf s2) (pendingOf s2).toList 0 lo/\k9 (arrOf s2) lo (lo+n))
     (Q:=λc s2=>c=(none,())/\SB a₀ s2/\iH (arrOf s2) (pendingOf s2).toList 0 lo/\k9 (arrOf s2) lo (lo+n)) ?_ (λc s2 h=>h) ⟨rfl,g1,g2,g3⟩) ?_)
    ·rintro y c s2 _ hy ⟨rfl,q1,q2,q3⟩
     refine JK (JU ?_)
     by_cases hsz:(pendingOf s2).size > 1
     ·rw[JQ hsz]
      have hlt:(pendingOf s2).size - 2 < (pendingOf s2).size:=by omega
      rw[Yy hlt]
      obtain⟨t,ht⟩:∃t,(pendingOf s2)[(pendingOf s2).size - 2]=t:=⟨_,rfl⟩
      rw[ht]
      obtain⟨v1,v2,v3⟩:=t
      dsimp only
      refine aP (λho=> ?_) λho=> ?_
      ·exact JX ⟨rfl,q1,q2,q3⟩
      ·refine JK (zG q1 e q2 hlo (show(pendingOf s2).size - 2+1 < (pendingOf s2).size by omega) λs3 c1 c2 _ c4=> ?_)
       exact JX ⟨rfl,c1,c2,q3.keep λk h1 _=>c4 k h1⟩
     ·rw[JV hsz]
      exact JX ⟨rfl,q1,q2,q3⟩
    ·rintro c s2 ⟨rfl,q1,q2,q3⟩
     dsimp only
     refine JK (wpS_modify (JK (wpS_modify (JX ⟨lo+n,rfl,⟨q1.perm,q1.kind,q1.failed⟩,?_,n2,by omega⟩))))
     show iH (arrOf s2) (((pendingOf s2).modify _ _).push _).toList 0 (lo+n)
     rw[YY,Array.toList_modify]
     refine iH.push (iH.pow ?_ q2) n1 q3
     exact λt=>⟨rfl,rfl⟩
 ·rintro c st' ⟨lo,rfl,hB',hr,hlo,Pf⟩
  obtain rfl:lo=a₀.size:=by omega
  exact⟨rfl,hB',hr⟩
 rintro c st1 ⟨rfl,LK,hr1⟩
 dsimp only
 have hlen:=hr1.len
 rw[Kq] at hlen
 refine JK (wpS_mono (wpS_forRange (I:=λx c st'=>c=(none,())/\SB a₀ st'/\iH (arrOf st') (pendingOf st').toList 0 a₀.size/\((pendingOf st').size<=1∨(pendingOf st').size+x<=a₀.size))
  (Q:=λc st'=>c=(none,())/\SB a₀ st'/\iH (arrOf st') (pendingOf st').toList 0 a₀.size/\(pendingOf st').size<=1) ?_ ?_ ⟨rfl,LK,hr1,.inr (!1)⟩) ?_)
 ·rintro x c st' _ hx ⟨rfl,q1,q2,q3⟩
  refine JK (JU ?_)
  refine aP (λhs=> ?_) λhs=> ?_
  ·exact JX ⟨rfl,q1,q2,hs⟩
  ·have hs:¬ (pendingOf st').size<=1:=hs
   refine JK (zG q1 e q2 (K2 _) (IS hs) λs3 c1 c2 c3 _=> ?_)
   exact JX ⟨rfl,c1,c2,.inr (!1)⟩
 ·rintro c st' ⟨rfl,q1,q2,q3⟩
  exact⟨rfl,q1,q2,by omega⟩
 rintro c st' ⟨rfl,q1,q2,q3⟩
 refine JX (h st' q1 ?_)
 have q3:(pendingOf st').toList.length<=1:=by rw[Kq];exact q3
 generalize (pendingOf st').toList=l at q2 q3
 match l,q2,q3 with
 | [],q2,_=>rw[iH] at q2;omega
 | [t],q2,_=>
  obtain⟨_,_,a3,a4⟩:=q2
  rw[iH] at a4
  rw[a4] at a3;exact a3
 | _ :: _ :: _,_,q3=>simp at q3
end
end Ts
namespace Ts
open PySem PyProof.Rows PySem.Calls PyProof.V PySem.Spec
section
variable {prog:Program}{w:World}{A:Around}{E:Z3}{s:Shared}
theorem LL {vs:List Value}{ns:List Int}(hI:IntsAre vs ns)(hd:ns.Nodup):El (pairsOf vs):=by
 refine⟨hI.intKeys,?_⟩
 rw[pairsOf_toList]
 have e:(vs.zip vs).map kz=ns:=by
  rw[←hI.nums]
  clear hI hd
  induction vs with
  | nil=>rfl
  | cons v vs ih=>rw[List.zip_cons_cons,KZ,KZ,ih];rfl
 rw[←e] at hd
 exact List.Pairwise.of_map _ (λa b h=>h) hd
theorem Fz {a:Addr}{vs:List Value}{ns:List Int}{n:Nat}{P:Fin->Shared->Prop}(ho:s.heap.get? a=some (seqObj "list" vs.toArray n))(hI:IntsAre vs ns)(hd:ns.Nodup)(hl:vs.length<=sizeLine)
  (h:∀(out:Array Value) (ns':List Int),IntsAre out.toList ns'->ns'.Perm ns->ns'.Pairwise (· <= ·)->P (.done (.ret .none)) {s with heap:=sortedHeap s.heap a vs out}):wpAny (!3) A (Builtin.«list.sort» ⟨[.ref a],[]⟩) P E s:=by
 by_cases h64:vs.length < 64
 ·exact list_sort_tree ho hI h64 h
 have ha:=Kv ho
 have hz:vs.toArray.size=vs.length:=by simp
 obtain⟨e1,o1⟩:∃e1,(s.heap.update a (Obj.mapSeq λ_=> #[])).get? a=some (seqObj "list" #[] e1):=⟨_,get?_update_seq ho λ_=> #[]⟩
 have o6:(((s.heap.update a (Obj.mapSeq λ_=> #[])).push (seqObj "tuple" vs.toArray 0)).push (seqObj "list" #[] 0)).get? a=some (seqObj "list" #[] e1) :=
  K7 _ (K7 _ o1)
 rw[list_sort_plain]
 refine JZ (listItems_at ho rfl (JZ (listUpdate_at ho rfl (JZ (seqEpoch_at o1 rfl (JZ (wpAny_newTuple (JZ (wpAny_newList (Z7 ?_) (Xy _))) (by simpa using hl))))) (by rw[hz];exact hl) (Xy _))))
 have fin:∀st':SortSt,(arrOf st').Perm (pairsOf vs)->k9 (arrOf st') 0 (pairsOf vs).size->P (.done (.ret .none)) {s with heap:=sortedHeap s.heap a vs ((arrOf st').map (·.2))}:=λst' hp hs=>by
  obtain⟨ns',q1,q2,q3⟩:=sorted_out hI hp (λi j hij hj=>by
   by_cases e:i=j
   ·subst e;exact Int.le_refl _
   ·exact hs i j (!1) (!1) hj)
  exact h _ ns' q1 q2 q3
 show wpAny (!3) A _ P E {s with heap:=((s.heap.update a (Obj.mapSeq λ_=> #[])).push (seqObj "tuple" vs.toArray 0)).push (seqObj "list" #[] 0)}
 dsimp only
 have h2:¬ vs.toArray.size < 2:=by omega
 rw[JV h2,JV h2]
 have el:=LL hI hd
 have hk:keyKind' vs.toArray=pure oneType':=by
  match vs,hI,h64 with
  | [],_,h64=>simp at h64
  | [_],_,h64=>simp at h64
  | _ :: _ :: _,hI,_=>exact keyKind_ints hI
 rw[hk]
 refine JZ (JW ?_)
 have run:=IT (prog:=prog) (w:=w) (A:=A) (E:=E) (s:={s with heap:=((s.heap.update a (Obj.mapSeq λ_=> #[])).push (seqObj "tuple" vs.toArray 0)).push (seqObj "list" #[] 0)})
  (a₀:=pairsOf vs) (st:=SortSt.mk' oneType' (vs.toArray.zip vs.toArray) #[] 7 none) (Q:=λ_ st'=>(arrOf st').Perm (pairsOf vs)/\failedOf st'=none/\k9 (arrOf st') 0 (pairsOf vs).size)
  ⟨Array.Perm.refl _,rfl,rfl⟩ el rfl (by rw[pairsOf_size];omega) λst' b g=>⟨b.perm,b.failed,g⟩
 refine JZ (wpAny_mono run ?_ λ_ _ e=>e)
 rintro⟨⟨⟩,st'⟩ s' ⟨rfl,hp,hf,hs⟩
 dsimp only
 refine JZ (seqEpoch_at o6 rfl (JZ (listUpdate_at o6 rfl ?_ (Xy _) (by rw[Array.size_map,hp.size_eq,pairsOf_size];omega))))
 rw[hf]
 simp only[bne_self_eq_false,XJ,if_false]
 exact JW (fin st' hp hs)
theorem jl:∀l:List Int,(Y.vV l).Perm l
 | []=>List.Perm.refl _
 | x :: l=>(IU x (Y.vV l)).trans ((jl l).cons x)
where IU (x:Int):∀l:List Int,(Y.insI x l).Perm (x :: l)
 | []=>List.Perm.refl _
 | y :: l=>by
  rw[Y.insI]
  split
  ·exact List.Perm.refl _
  ·exact((IU x l).cons y).trans (List.Perm.swap x y l)
theorem wd (x:Int):∀{l:List Int},l.Pairwise (· <= ·)->(Y.insI x l).Pairwise (· <= ·)
 | [],_=>by simp[Y.insI]
 | y :: l,h=>by
  obtain⟨h1,h2⟩:=List.pairwise_cons.mp h
  rw[Y.insI]
  split
  ·rename_i hc
   refine List.pairwise_cons.mpr ⟨λz hz=> ?_,h⟩
   rcases K0.mp hz with rfl | hz
   ·exact hc
   ·exact YU hc (h1 z hz)
  ·rename_i hc
   refine List.pairwise_cons.mpr ⟨λz hz=> ?_,wd x h2⟩
   rcases K0.mp ((jl.IU x l).mem_iff.mp hz) with rfl | hz
   ·omega
   ·exact h1 z hz
theorem qm:∀l:List Int,(Y.vV l).Pairwise (· <= ·)
 | []=> .nil
 | x :: l=>wd x (qm l)
theorem CY {T:String}{r d:Addr}{n:Nat}{Pk:Nat->Value->Prop}{OK:Heap->Prop}{R:List Value->Shared->Prop}(Ks:PySem.W.KdlSrc prog w T r d n Pk OK)(hh:A.handled=none)(hok:OK s.heap)(hn:n<=sizeLine)
  (h:∀(h':Heap) (tk:Nat) (acc:Array Value),s.heap.objs.size < h'.objs.size->(∀b o,s.heap.get? b=some o->h'.get? b=some o)->ItemsOf Pk acc n->R acc.toList {s with heap:=h',toks:=tk}):wpAny (!3) A (collect (.ref r)) R E s:=by
 have hlt:=Ks.there _ hok
 have push:∀b o,s.heap.get? b=some o->(s.heap.push {cls:=.type "list",data:=.seq ([]:List Value).toArray}).get? b=some o:=λb o e=>K7 _ e
 unfold collect
 refine JZ (wpAny_runValue (codeAny_builtin entry_proto_collect' ?_))
 rw[Around.under_plainId PySem.F.plain_proto_collect _]
 show wpAny _ A.in1 (newList [] >>=λz=>again (.builtin "list.__iadd__" ⟨[z,.ref r],[]⟩)) _ _ s
 refine JZ (Z5 (JW ⟨plainId_quiet PySem.F.plain_list_iadd _,codeAny_builtin entry_list_iadd' ?_⟩))
 rw[Around.under_plainId PySem.F.plain_list_iadd _]
 have fin:∀(q:Result) (s':Shared),(∃(h':Heap) (tk:Nat) (acc:Array Value) (c:Nat),q= .ok (.ret (!7))/\s'={s with heap:=h',toks:=tk}/\(∀b o,s.heap.get? b=some o->h'.get? b=some o)/\
   h'.get? s.heap.objs.size=some {cls:=.type "list",dict:=none,data:=.seq acc c,slots:=#[]}/\ItemsOf Pk acc n)->∃(h':Heap) (tk:Nat) (acc:Array Value),q= .ok (.ret (!7))/\s'={s with heap:=h',toks:=tk}/\
   ∀{F:Z3},wpAny (!3) A (load s.heap.objs.size >>=λo=>match o.data with | .seq xs _=>pure xs.toList | _=>unsupported "internal:collect") R F s':=by
  rintro q s' ⟨h',tk,acc,c,rfl,rfl,hk,hS,hacc⟩
  exact⟨h',tk,acc,rfl,rfl,JZ (wpAny_load hS (JW (h h' tk acc (Kv hS) hk hacc)))⟩
 refine wpAny_mono (PySem.W.kdl_extend (A:=A) (s:={s with heap:=s.heap.push {cls:=.type "list",data:=.seq ([]:List Value).toArray}})
  (R:=λq s'=>∃(h':Heap) (tk:Nat) (acc:Array Value) (c:Nat),q= .ok (.ret (!7))/\s'={s with heap:=h',toks:=tk}/\(∀b o,s.heap.get? b=some o->h'.get? b=some o)/\
   h'.get? s.heap.objs.size=some {cls:=.type "list",dict:=none,data:=.seq acc c,slots:=#[]}/\ItemsOf Pk acc n)
  Ks hh (Ks.keep _ _ hok λb _ o e=>push b o e) s.heap.objs.size (Uv hlt.1) (Uv hlt.2) (!7) 0 (Ky _ rfl)
  (λh' tk acc c hk hS hacc=>⟨h',tk,acc,c,rfl,rfl,λb o e=>hk b o (X4 (Kv e)) (push b o e),hS,hacc⟩) hn) (λf s' x=> ?_) λe s' x=> ?_
 ·cases f with
  | done f=>
   obtain⟨h',tk,acc,e,rfl,hw⟩:=fin _ _ x
   cases e
   exact hw
  | again c=>
   refine⟨x.1,codeAny_mono x.2 λq s2 y=> ?_⟩
   obtain⟨h',tk,acc,rfl,rfl,hw⟩:=fin _ _ y
   exact hw
 ·obtain⟨_,_,_,_,e',_⟩:=x
  cases e'
theorem yq {d:Addr}{xs:List (Int×Value)}{Q:Z3}(hh:A.handled=none)(hD:s.heap.DictOf (intKind prog w) d xs)(lo:(d==sysModules)=false)(hn:xs.length<=sizeLine)
  (hQ:∀h' tk a (out:List Value) c,s.heap.objs.size<=a->h'.get? a=some {cls:=.type "list",data:=.seq out.toArray c}->IntsAre out (Y.vV (xs.map (·.1)))->(∀b o,b < s.heap.objs.size->s.heap.get? b=some o->h'.get? b=some o)->Q (.ref a) {s with heap:=h',toks:=tk}) :
  wpAny (!3) A (call (.builtin "sorted") [.ref d]) Q E s:=by
 obtain⟨ep,hat⟩:=hD.dictAt
 have hnd:=hat.nodup
 refine Calls.call_function_entry kind_sorted plain_sorted entry_sorted (args_sorted1 _) ?_
 unfold Builtin.«sorted»
 refine JZ (m:=checkCount "sorted" 1 1 _) (JW (JZ (CY (A:=A.in1) (PySem.W.kdl_dict (knd:=intKind prog w) (kvs:=xs) (ep:=ep) lo) (show A.in1.handled=none by simp[hh]) hat hn λh1 tk acc hlt1 hk hacc=> ?_)))
 have hl:acc.toList.length=xs.length:=by rw[Kq];exact hacc.1
 have hI:IntsAre acc.toList (xs.map (·.1)):=by
  have key:∀(vs:List Value) (ys:List (Int×Value)),vs.length=ys.length->(∀(j:Nat) (v:Value),vs[j]? =some v->∃k x,ys[j]? =some (k,x)/\(intKind prog w).is k v=true)->IntsAre vs (ys.map (·.1)):=by
   intro vs
   induction vs with
   | nil=>intro ys hl _;cases ys with
    | nil=>exact .nil
    | cons y ys=>simp at hl
   | cons v vs ih=>
    intro ys hl hv
    cases ys with
    | nil=>simp at hl
    | cons y ys=>
     obtain⟨k,x,e,hi⟩:=hv 0 v rfl
     have e':y=(k,x):=by simpa using e
     obtain⟨t,et⟩:=Value.isInt_shape hi
     subst et
     rw[KZ,e']
     exact .cons k t (ih ys (by simpa using hl) λj u hu=>by simpa using hv (j+1) u (by simpa using hu))
  exact key _ _ hl λj v e=>hacc.2 j v (by rw[←Uy];exact e)
 refine JZ (wpAny_newList ?_ (by rw[hl];exact hn))
 have hoL:(h1.push {cls:=.type "list",data:=.seq acc.toList.toArray}).get? h1.objs.size=some (seqObj "list" acc.toList.toArray 0):=Ky _ rfl
 refine JZ (Z7 (Z6 slot_list_sort ⟨_,hoL,rfl⟩ entry_list_sort (Fz (s:={s with heap:=h1.push {cls:=.type "list",data:=.seq acc.toList.toArray},toks:=tk}) hoL hI hnd (by rw[hl];exact hn) λout ns' a1 a2 a3=>⟨_,rfl,?_⟩) (args_list_sort _)))
 obtain⟨c,hc⟩:=sortedHeap_at (out:=out) hoL
 have hns:ns'=Y.vV (xs.map (·.1)):=PySem.W.ksm_same (a2.trans (jl _).symm) a3 (qm _)
 subst hns
 have hge:s.heap.objs.size<=h1.objs.size:=Y0 hlt1
 refine JW ⟨_,rfl,hQ _ tk _ out.toList c hge (by simpa using hc) a1 λb o hb e=> ?_⟩
 have hb1:=hk b o e
 have hlt:=Kv hb1
 rw[sortedHeap_old (X4 hlt) (by rw[XY];exact UU hlt)]
 exact K7 _ hb1
end
end Ts
namespace Y
open PySem
def FA:PyData->Int
 | .int i=>i
 | _=>0
def qo:List PyData->Option PyData
 | [.dict kvs]=>if allI kvs=true then some (.list ((vV (kvs.map λp=>FA p.1)).map PyData.int)) else none
 | _=>none
end Y
namespace L2
open PySem PySem.Spec PyProof.Rows Y
theorem GN {K:Frag}{H:Hp}:∀{kvs:k6} {ks:List (PyData×V×V)} {ys:List (Int×Value)},aT K H kvs ks->Paired re ks ys->(kvs.map λp=>FA p.1)=ys.map (·.1)
 | [],ks,ys,t,p=>by simp only[aT] at t;subst t;cases p;rfl
 | (k,d) :: r,ks,ys,t,p=>by
  simp only[aT] at t
  obtain⟨kv,v,q,rfl,h1,h2,h3⟩:=t
  cases p with
  | @cons _ y _ ys' hp pt=>
   rw[KZ,KZ,GN h3 pt]
   have e:k= .int y.1:=hp.1
   rw[e];rfl
theorem sM {K:Frag}{H:Hp}:∀(l:List Int),ar K H (l.map PyData.int) (l.map V.int)
 | []=>aY
 | i :: l=>aV rfl (sM l)
section
variable {X:Cx}
def IV (K:Frag):List V->Hp->VK->Prop:=λxs H Q=>∃q ks kvs,xs=[.ref q]/\Rd H q (.dct q ks)/\aT K H kvs ks.1/\allI kvs=true/\∀t,H t=none->Q (.ref t) (upd H t (.lst ((vV (kvs.map λp=>FA p.1)).map V.int)))
theorem yr (hc:X.calm=true):hX X (.builtin "sorted") (IV X.K):=by
 intro pins s σ H xs us Q I rv h
 obtain⟨q,ks,kvs,rfl,hr,t,ht,fin⟩:=h
 obtain⟨u,rfl,ru⟩:=rv.one
 cases ru
 obtain⟨ys,hD,p,hs,hl⟩:=iF I hr t ht
 have hlen:ks.1.length=ys.length:=Paired.length p
 rw[GN t p] at fin
 refine Ts.yq (I.ok.hd hc) hD hs (!1) λh' tk a out c hge hat hints hk=> ?_
 refine⟨.ref a,_,I.laid (t':=tk) (a:=a) (o:=.lst ((vV (ys.map (·.1))).map V.int)) (λb u e=>hk b u (Kv e) e) hge ⟨?_,out,c,sH hints,hat⟩,rfl,fin _ (I.hok.fresh hge)⟩
 rw[K4,(Ts.jl _).length_eq,K4];omega
theorem wg (hc:X.calm=true):CallD X (.builtin "sorted") qo:=⟨_,yr hc,λxs z us H Q e h q=>by
 match xs,e,h with
 | [.dict kvs],e,h=>
  simp only[qo] at e
  split at e
  ·rename_i ht
   cases e
   obtain⟨u,rfl,hu⟩:=dh h
   obtain⟨a,ks,rfl,hr,t⟩:=b_ hu
   exact⟨a,ks,kvs,rfl,hr,t,ht,λt' ht'=>q _ _ (Same.upd ht') (aS.lst (aU _ (λ_=>rfl) _) aw (sM _) ht')⟩
  ·cases e⟩
end
end L2
namespace Y
open PySem
end Y
namespace L2
open PySem PySem.Spec PyProof.Rows Y
section
variable {K:Frag}{B H:Hp}{φ:Nat->List Addr}{Γ:aW}{σ:St}
theorem Rep.inner {n m:Nat}{xs ys ys':List PyData}{l b:Addr}{vs ws ws':List V}{bs:List Addr}(r:Rep K B φ Γ σ H)(hv:σ[n]? =some (some (.ref l)))(hl:H l=some (.lst vs))(ht:az K H xs vs bs)(hφ:φ n=l :: bs)
  (e2:xs[m]? =some (.list ys)) (e3:aq ys=true) (f1:vs[m]? =some (.ref b)) (f2:H b=some (.lst ws)) (hn:aq ys'=true) (hd:ar K (upd H b (.lst ws')) ys' ws') :
  ∃ψ,Rep K B ψ (Γ.set n (some (true,.list (xs.set m (.list ys'))))) σ (upd H b (.lst ws')):=by
 have nd:(l :: bs).Nodup:=hφ ▸ r.nd n
 obtain⟨Oe,NA⟩:=KU.mp nd
 obtain⟨b',PR,g1,g2,g3,g4,g5⟩:=ug ht NA e2 e3
 have hbb:b'=b:=by rw[f1] at g1;cases g1;rfl
 subst hbb
 have hnl:l≠b':=λz=>Oe (z ▸ g4)
 exact⟨_,r.chg (i:=n) (o':=.lst ws') (v:=.ref l) (as:=l :: bs) (by rw[hφ];exact K9 _ g4) f2 trivial hv (dy (by rw[aO hnl];exact hl) (g5 _ _ (ar.toT _ _ hn hd))) nd (λa ha=> .inl (by rw[hφ];exact ha)) trivial⟩
end
end L2
namespace Y
open PySem
def ng (n:Nat)(fi:EF):SF:=λΓ=>match Γ[n]? with
 | some (some (true,.list xs))=>ap (fi Γ) λa=>ap (mo (pL xs a.2)) λp=>ah (.nx (Γ.set n (some (true,.list (xs.set p.1 (.list []))))))
 | _=>none
end Y
namespace L2
open PySem PySem.Spec PyProof.Rows Y
section
variable {X:Cx}{K:Frag}{Ew:Str->Hp->Prop}{p1 p2 p apos cpos pos:Pos}{ie:Expr}{fi:EF}{nn:Str}
theorem CZ {n:Nat}(vn:PE X (.Name nn p1) (kT n))(hi:DE X K Ew ie fi)(hpi:tJ ie)(hK:X.K=K:=by rfl)
  (hbase:attributeBase (.Subscript (.Name nn p1) ie p2) "clear" X.env (eval (.Subscript (.Name nn p1) ie p2) X.env)=eval (.Subscript (.Name nn p1) ie p2) X.env:=by rfl) (hline:(apos.endLine==cpos.line)=true:=by rfl)
  (hsw:swapsWith (.Call (.Attribute (.Subscript (.Name nn p1) ie p2) "clear" apos) [] [] cpos) none pos.line X.env=pure false:=by rfl) :
  DS X K Ew (.Expr (.Call (.Attribute (.Subscript (.Name nn p1) ie p2) "clear" apos) [] [] cpos) pos) (ng n fi) :=
 (kD (HJ PySem.F.plainAttrs_list PySem.F.slot_list_clear PySem.F.type_list_clear BG (Gv y6 vn hi hpi) hbase hline) hsw).imp λD σ H q=>by
  subst hK
  obtain⟨B,φ,Γ,r,q⟩:=q
  unfold ng at q
  match hg:Γ[n]?,q with
  | some (some (true,.list xs)),q=>
   obtain⟨v,hv,hT⟩:=r.own hg
   obtain⟨l,vs,bs,rfl,hl,ht,hφ⟩:=bz hT
   refine⟨.ref l,hv,B,φ,Γ,r,?_⟩
   match hm:fi Γ,q with
   | none,q=>cases q
   | some (.ex c),q=>exact .inr ⟨c,rfl,q⟩
   | some (.ok (k1,d1)),q=>
    refine .inl ⟨k1,d1,rfl,λw H2 sa hw=> ?_⟩
    have r2:=r.same sa
    cases hb:pL xs d1 with
    | none=>simp only[ap,hb,mo] at q;exact False.elim q
    | some p=>
     obtain⟨i,rfl,e1,e2,e3⟩:=x5 hb
     have:=aA (hw.toD r2.bs)
     subst this
     have nd:(l :: bs).Nodup:=hφ ▸ r.nd n
     obtain⟨Oe,NA⟩:=KU.mp nd
     obtain⟨b,ws,f1,f2,f3,f4,f5⟩:=ug (az.same sa _ _ _ ht) NA e2 e3
     have lv:vs.length=xs.length:=bE ht
     refine⟨l,vs,i,.ref b,rfl,rfl,fV.of (sa _ _ hl),?_,.inl ⟨rfl,ws,fV.of f2⟩,b,ws,rfl,rfl,f2,?_⟩
     ·show(nM vs.length i).bind _=_
      rw[lv]
      have e1':L2.nM xs.length i=some p.1:=e1
      rw[e1']
      exact f1
     simp only[ap,hb,mo,ah,U0] at q
     obtain⟨ψ,r6⟩:=r2.inner (m:=p.1) (ys:=p.2) (ys':=[]) (ws':=[]) hv (sa _ _ hl) (az.same sa _ _ _ ht) hφ e2 e3 f1 f2 rfl aY
     exact q B ψ σ _ (Same.refl B) r6
  | some (some (true,.none)),q|some (some (true,.bool _)),q|some (some (true,.int _)),q|some (some (true,.str _)),q|some (some (true,.tuple _)),q|some (some (true,.dict _)),q|some (some (false,_)),q|some none,q|none,q=>cases q
end
end L2
namespace L2
open PySem PySem.Spec PyProof.Rows
structure bU (X:Cx)(scope:Scope)(vs:List Str)(F:List Str)(ix:List Nat):Prop where
 kind:scope.kind= .function
 own:∀v∈vs,scope.names.lookup v=some .local
 names:∀y∈scope.names,y.2= .local->scope.names.lookup y.1=some .local
 tS:∀y∈scope.names,y.2≠ .cell
 free:∀y∈scope.names,y.2= .free->X.env.scope.names.lookup y.1=some .cell∨X.env.scope.names.lookup y.1=some .free
 cap:∀x∈F,scope.names.lookup x=some .free
 nd:(vs++F).Nodup
 eqs:ix.map (λk=>X.N[k]?)=F.map some
abbrev LM (scope out:Scope)(vs F:List Str):Prop:=(∀v∈vs,scope.names.lookup v=some .local)/\(∀y∈scope.names,y.2= .local->scope.names.lookup y.1=some .local)/\(∀y∈scope.names,y.2≠ .cell)/\
 (∀y∈scope.names,y.2= .free->out.names.lookup y.1=some .cell∨out.names.lookup y.1=some .free)/\(∀x∈F,scope.names.lookup x=some .free)/\(vs++F).Nodup
theorem oK {X:Cx}{scope:Scope}{vs F:List Str}{ix:List Nat}(out:Scope)(h:LM scope out vs F)(hk:scope.kind= .function:=by rfl)(ho:X.env.scope=out:=by rfl)(e:ix.map (λk=>X.N[k]?)=F.map some:=by rfl):bU X scope vs F ix :=
 ⟨hk,h.1,h.2.1,h.2.2.1,ho ▸ h.2.2.2.1,h.2.2.2.2.1,h.2.2.2.2.2,e⟩
theorem bU.len {X:Cx}{scope:Scope}{vs:List Str}{F:List Str}{ix:List Nat}(O:bU X scope vs F ix):ix.length=F.length:=by
 have:=congrArg List.length O.eqs
 simpa using this
theorem bU.imp {X:Cx}{scope:Scope}{vs:List Str}{F:List Str}{ix:List Nat}(O:bU X scope vs F ix):∀(i:Nat) (x:Str),F[i]? =some x->∃k,ix[i]? =some k/\X.N[k]? =some x:=λi x e=>by
 have h:=congrArg (·[i]?) O.eqs
 simp only[KY,e,U0] at h
 cases q:ix[i]? with
 | none=>rw[q] at h;cases h
 | some k=>rw[q] at h;exact⟨k,rfl,Option.some.inj h⟩
def C0 (n:Nat)(σ:St)(ix:List Nat):St:=List.replicate n none++kU σ ix
def C1 (n:Nat)(g:TG)(J:It)(σ:St)(ix:List Nat)(tt:TT)(te:TE)(H1:Hp)(Q:VK)(D:Addr):Prop :=
 ∃W:Nat->Nat->List V->Hp->Prop,(∃m,W 0 m [] (upd H1 D (.lst [])))/\∀i m ys H,W i m ys H->H D=some (.lst ys)/\
  ((
   J.stop i H/\Q (.ref D) H)∨(J.go i H/\∀x H',J.Kn i H x H'->g x (C0 n σ ix) H' λσ' H2=>∃zs:List V,zs.length=n/\σ'=zs.map some++kU σ ix/\tt σ' H2 λb H3=>if b=true then te σ' H3 λv H4=>H4 D=some (.lst ys)/\ys.length < sizeLine/\∃m',m' < m/\W (i+1) m' (ys++[v]) (upd H4 D (.lst (ys++[v])))
   else∃m',m' < m/\W (i+1) m' ys H3))
def yt (n:Nat)(g:TG)(wi:TI)(ix:List Nat)(tt:TT)(te:TE):TE:=λσ H Q=>wi σ H λJ H1=>∀D,H1 D=none->C1 n g J σ ix tt te H1 Q D
theorem C2 {n i:Nat}{σ:St}{ix:List Nat}{u:V}(e:(C0 n σ ix)[i]? =some (some u)):n<=i/\(kU σ ix)[i - n]? =some (some u):=by
 unfold C0 at e
 by_cases h:i < n
 ·rw[Xx (by rw[Uu];exact h),J2,JQ h] at e
  cases e
 ·have h:n<=i:=Nat.le_of_not_lt h
  rw[Xu (by rw[Uu];exact h),Uu] at e
  exact⟨h,e⟩
theorem FC {vs F:List Str}{i:Nat}{σ:St}{ix:List Nat}{x:Str}{u:V}(e1:(vs++F)[i]? =some x)(e2:(C0 vs.length σ ix)[i]? =some (some u)):F[i - vs.length]? =some x/\(kU σ ix)[i - vs.length]? =some (some u):=by
 obtain⟨h,e2⟩:=C2 e2
 rw[Xu h] at e1
 exact⟨e1,e2⟩
section
variable {X:Cx}{scope:Scope}{vs:List Str}{F:List Str}{ix:List Nat}{pins:List (Addr×Obj)}{σ:St}{H:Hp}{s:Shared}
theorem Inv.qp (I:Inv X pins σ H s)(O:bU X scope vs F ix):∀y∈scope.names,y.2= .free->∃c,X.env.cells.lookup y.1=some c:=λy hy hf=>I.ok.has y.1 (O.free y hy hf)
theorem Inv.FD {cl:List (Str×Addr)}{fp:List Addr}{C:Addr}(I:Inv X pins σ H s)(O:bU X scope vs F ix)(hsub:∀x c,cl.lookup x=some c->X.env.cells.lookup x=some c)(hcl:∀y∈scope.names,y.2= .free->∃c,cl.lookup y.1=some c)
  (hfp:∀b∈fp,mV X pins H b) (hfz:∀b∈fp,b < s.heap.objs.size) (hC:s.heap.objs.size<=C):(a9 X scope cl (vs++F) fp s H C).Ok where
 mod:=I.ok.mod
 kind:=O.kind
 glob:=I.ok.glob
 blt:=I.ok.blt
 above:=hC
 inj:=λx y c h1 h2=>I.ok.inj x y c (hsub x c h1) (hsub y c h2)
 has:=λx hx=>by
  have hx':scope.names.lookup x=some .cell∨scope.names.lookup x=some .free:=pk (env:=X.env) hx
  rcases hx' with e | e
  ·exact absurd rfl (O.tS _ (PySem.mem_of_lookup e))
  ·exact hcl _ (PySem.mem_of_lookup e) rfl
 cab:=λx c hf _=>by cases hf
 hd:=I.ok.hd
 frames:=I.ok.frames
 stk:=.inl rfl
 G6:=λb hb=>⟨X4 (X6 (hfz b hb) hC),λx c e=>(hfp b hb).2.2.2.2.1 x c (hsub x c e)⟩
 bs:=I.bs
 xA:=KJ I.ok.xA I.sz
 tu:=λb o e hb=>by
  rcases(hfp b hb).2.2.2.1 with z | z
  ·exact I.ok.tu b o e z
  ·exact absurd (X6 (Kv e) (KJ I.ok.xA z)) (U3 _)
 u_:=λb hb hs=>by
  rcases K0.mp (I.tv b hs) with e | e
  ·exact(hfp b hb).2.1 e
  ·exact(hfp b hb).2.2.1 e
 kS:=I.stack
 Bt:=I.tw
theorem Inv.yu {cl:List (Str×Addr)}{fp:List Addr}{C:Addr}{h1:Heap}{tk n:Nat}(I:Inv X pins σ H s)(O:bU X scope vs F ix)(hsub:∀x c,cl.lookup x=some c->X.env.cells.lookup x=some c)(hcl:∀y∈scope.names,y.2= .free->∃c,cl.lookup y.1=some c)
  (hfp:∀b∈fp,mV X pins H b) (hfz:∀b∈fp,b < s.heap.objs.size) (hC:C=s.heap.objs.size+1) (hk:∀b o,s.heap.get? b=some o->h1.get? b=some o) (hns:h1.Ns C λ_=>none)
  (hD:h1.get? s.heap.objs.size=some {cls:=.type "list",data:=.seq ([]:List Value).toArray n}) :
  Inv (a9 X scope cl (vs++F) fp s H C) [] (C0 vs.length σ ix) (upd H s.heap.objs.size (.lst [])) {s with heap:=h1,toks:=tk}:=by
 have hn:H s.heap.objs.size=none:=I.hok.fresh (K2 _)
 have hlt:s.heap.objs.size < C:=by rw[hC];exact Uj _
 refine⟨I.FD O hsub hcl hfp hfz (Y0 hlt),rfl,I.bare,Un.laid hk (K2 _) hn,⟨_,hns,λi x u e1 e2 e3=> ?_⟩,λx c e=> ?_,?_,λx c e=> ?_,λp hp=>absurd (show p∈([]:List (Addr×Obj)) from hp) (by simp),
  I.hok.laid hk (K2 _) ⟨Xy _,[],n,.nil,hD⟩,?_⟩
 ·obtain⟨e1',e2'⟩:=FC e1 e2
  obtain⟨k,hk1,hk2⟩:=O.imp _ x e1'
  unfold kU at e2'
  rw[KY,hk1] at e2'
  have e4:(σ[k]?).join=some u:=by simpa using e2'
  have e5:σ[k]? =some (some u):=by
   cases q:σ[k]? with
   | none=>rw[q] at e4;cases e4
   | some o=>rw[q] at e4;have:o=some u:=e4;rw[this]
  have hfr:scope.names.lookup x=some .free:=O.cap x (Y1 e1')
  have Lc:=O.free _ (PySem.mem_of_lookup hfr) rfl
  obtain⟨m,hm,hl⟩:=I.loc
  obtain⟨w,xL,lk⟩:=hl k x u hk2 e5 (by rcases Lc with z | z;exact .inr (.inl z);exact .inr (.inr z))
  refine⟨w,xL,.inr ⟨?_,?_⟩⟩
  ·exact lN hfr
  ·obtain⟨c,hc⟩:=hcl _ (PySem.mem_of_lookup hfr) rfl
   refine⟨c,hc,?_⟩
   rcases lk with⟨z,_⟩ | ⟨_,c',hc',cell⟩
   ·have z':X.env.scope.names.lookup x=some .local:=z
    rcases Lc with y | y <;> (rw[z'] at y;cases y)
   ·have:c'=c:=by
     have:=hsub _ _ hc
     rw[hc'] at this
     exact Option.some.inj this
    subst this
    exact cell.keeps hk
 ·obtain⟨w,cell⟩:=I.cell x c (hsub x c e)
  exact⟨w,cell.keeps hk⟩
 ·show upd H s.heap.objs.size (.lst []) C=none
  rw[aO (Uv hlt)]
  exact I.hok.fresh (Y0 hlt)
 ·obtain⟨w,cell⟩:=I.cell x c (hsub x c e)
  rw[aO (X4 cell.lt)]
  exact I.iY x c (hsub x c e)
 ·show(C0 vs.length σ ix).length=(vs++F).length
  unfold C0 kU
  rw[K1,K1,Uu,K4,O.len]
end
section
variable {X:Cx}{scope:Scope}{vs:List Str}{F:List Str}{ix:List Nat}{pins:List (Addr×Obj)}{σ:St}{H:Hp}{s:Shared}
 {elt iter:Expr} {ifs:List Expr} {tg:Expr} {g:TG} {pos:Pos} {tt:TT} {te:TE}
theorem n5 {J:It}{fp:List Addr}{it:Addr}{tn:Nat->Heap->Prop}{cl:List (Str×Addr)}{Q:VK}{RR:Value->Addr->Result->Shared->Prop}
  (I:Inv X pins σ H s) (O:bU X scope vs F ix) (hc:X.calm=true) (hsub:∀x c,cl.lookup x=some c->X.env.cells.lookup x=some c) (hcl:∀y∈scope.names,y.2= .free->∃c,cl.lookup y.1=some c)
  (T:Turn X.prog X.w X.K tg J fp it tn) (hst:tn 0 s.heap) (hfp:∀b∈fp,mV X pins H b)
  (lx:∀cl fp s H C,Bo (a9 X scope cl (vs++F) fp s H C) ifs tt) (helt:∀cl fp s H C,PE (a9 X scope cl (vs++F) fp s H C) elt te) (hg:∀cl fp s H C,PG (a9 X scope cl (vs++F) fp s H C) tg g)
  (hr:∀D,H D=none->C1 vs.length g J σ ix tt te H Q D)
  (hRR:∀(D C:Addr) (s':Shared) (H':Hp) (m:Str->Option Value),s'.heap.Ns C m->Inv X pins σ H' s'->H' C=none->s.heap.objs.size<=C->Q (.ref D) H'->RR (.ref D) C (.ok .next) s') :
  wpAny (!6) X.A (newList []) (λacc s₃=>wpAny (!6) X.A (newFunctionEnv scope X.env.globals cl [] X.env.qual none .none (some X.env)) (λcenv s₄=>
   codeAny (!6) X.A (.compStart (.ListComp elt [⟨tg,iter,ifs,0⟩] scope pos) 0 (.ref it) acc {cenv with scope:=relabel scope X.env}) (RR acc cenv.locals) s₄) X.xe s₃) X.xe s:=by
 have hfz:∀b∈fp,b < s.heap.objs.size:=λb hb=>let ⟨o,e,_⟩:=T.obj 0 s.heap hst b hb;Kv e
 refine Z5 (wpAny_newFunctionEnv O.tS (by intro y hy;simp at hy) (λh₁ hns₁ hsb₁=> ?_) O.kind)
 dsimp only at hns₁ hsb₁⊢
 generalize hH2:s.heap.push {cls:=.type "list",dict:=none,data:=.seq ([]:List Value).toArray}=H2 at hns₁ hsb₁⊢
 have hC:H2.objs.size=s.heap.objs.size+1:=by rw[←hH2,XY]
 have hDC:s.heap.objs.size≠H2.objs.size:=by rw[hC];exact X4 (Uj _)
 have old:∀b o,s.heap.get? b=some o->h₁.get? b=some o:=λb o e=>hsb₁.extBut b o (by rw[hC];exact X4 (UU (Kv e))) (K7 _ (hH2 ▸ K7 _ e))
 have hD:h₁.get? s.heap.objs.size=some {cls:=.type "list",data:=.seq ([]:List Value).toArray}:=hsb₁.extBut _ _ hDC (K7 _ (hH2 ▸ Ky _ rfl))
 have hst₁:tn 0 h₁:=T.keep 0 _ _ hst λb _ o e=>old b o e
 have loop:∀s₃:Shared,s₃={s with heap:=h₁,toks:=s.toks+([]:List (Str×Value)).length}->
   codeAny (!6) X.A (.compLoop (.ListComp elt [⟨tg,iter,ifs,0⟩] scope pos) 0 (.ref it) (!7) (compEnvC scope cl H2.objs.size X.env))
    (RR (!7) H2.objs.size) s₃:=by
  rintro s₃ rfl
  have I1:=I.yu (C:=H2.objs.size) (tk:=s.toks+([]:List (Str×Value)).length) O hsub hcl hfp hfz hC old (show h₁.Ns _ (λ_=>none) from hns₁) hD
  obtain⟨W,⟨m0,w0⟩,turn⟩:=hr s.heap.objs.size (I.hok.fresh (K2 _))
  have stat:∀{H':Hp},(∀b∈fp,H' b=none)->∀b∈fp,mV (a9 X scope cl (vs++F) fp s H H2.objs.size) [] H' b:=λhn b hb=>
   ⟨hn b hb,((I1.ok.G6 b hb).1),I1.ok.u_ b hb,.inl hb,(I1.ok.G6 b hb).2,λp hp=>absurd (show p∈([]:List (Addr×Obj)) from hp) (by simp)⟩
  have Pg:∀b∈fp,(upd H s.heap.objs.size (.lst [])) b=none:=λb hb=>by
   rw[aO (X4 (hfz b hb))]
   exact(hfp b hb).1
  refine codeAny_loop rfl (λn s'=>∃i ys H',Inv (a9 X scope cl (vs++F) fp s H H2.objs.size) [] (C0 vs.length σ ix) H' s'/\tn i s'.heap/\(∀b∈fp,H' b=none)/\W i n ys H') (λn s3 hI=> ?_) m0 ⟨0,[],_,I1,hst₁,Pg,w0⟩
  obtain⟨i,ys,H3,I3,st3,Kr,w3⟩:=hI
  show wpAny _ X.A ((compTurn (.ListComp elt [⟨tg,iter,ifs,0⟩] scope pos) 0 (.ref it) (!7) (compEnvC scope cl H2.objs.size X.env)).onRaise (λx=>do noteFrame x (compEnvC scope cl H2.objs.size X.env);theTreesLotGoes x)) _ _ s3
  refine wpAny_noted ?_
  rw[compTurn_list]
  refine JZ (wpAny_standAt (JZ ?_))
  obtain⟨Mo,⟨stop,qn⟩ | ⟨go,step⟩⟩:=turn i n ys H3 w3
  ·refine cW (T.done (a9 X scope cl (vs++F) fp s H H2.objs.size) rfl rfl rfl hc i [] s3 _ H3 _ I3 (stat Kr) st3 stop) λr s4 ⟨NB,I4⟩=> ?_
   subst NB
   obtain⟨m,hm,_⟩:=id I4.loc
   refine JW ?_
   refine hRR _ _ s4 H3 m hm ?_ I4.free (by rw[hC];exact Y5 _) qn
   exact I.call' (ch:=fp) I4.os I4.base I4.hok I4.bare λb hb=>⟨(hfp b hb).2.2.2.1,(hfp b hb).2.1,(hfp b hb).2.2.2.2.1,(hfp b hb).2.2.2.2.2⟩
  ·refine cW (T.item (a9 X scope cl (vs++F) fp s H H2.objs.size) rfl rfl rfl hc i [] s3 _ H3 _ I3 (stat Kr) st3 go) λr s4 ⟨u,NB,h4⟩=> ?_
   subst NB
   refine JZ (cW h4 λ_ s5 ⟨x,H5,I5,r5,y5,Ho,MO⟩=> ?_)
   have MP:=I5.pinned (stat MO) (T.obj _ _ Ho)
   have hstep:=step x H5 y5
   have again:∀{H7:Hp} {s7:Shared} {m':Nat} {zs zs':List V},Inv (a9 X scope cl (vs++F) fp s H H2.objs.size) ([]++pe fp s5.heap) (zs'.map some++kU σ ix) H7 s7->zs'.length=vs.length->m' < n->W (i+1) m' zs H7->
     ∃m,m < n/\∃i ys H',Inv (a9 X scope cl (vs++F) fp s H H2.objs.size) [] (C0 vs.length σ ix) H' s7/\tn i s7.heap/\(∀b∈fp,H' b=none)/\W i m ys H':=λ{H7 s7 m' zs zs'} I7 hz hm w7=>by
    refine⟨m',hm,i+1,zs,H7,?_,T.keep _ _ _ Ho λb hb o e=>(I7.pin (b,o) (Kx _ (Kx _ (jv hb e)))).1,λb hb=> ?_,w7⟩
    ·refine I7.lK.weak (by unfold C0;rw[K1,K1,Uu,K4,hz]) λj w e=> ?_
     obtain⟨h1,h2⟩:=C2 e
     rw[Xu (by rw[K4,hz];exact h1),K4,hz]
     exact h2
    ·obtain⟨o,e,d⟩:=T.obj _ _ Ho b hb
     exact(I7.pin (b,o) (Kx _ (Kx _ (jv hb e)))).2.1
   refine JZ (wpAny_mono (hg cl fp s H H2.objs.size _ s5 _ H5 x u _ MP r5 hstep) (λ_ s6 ⟨σ6,H6,I6,zs',hz,e6,hstep⟩=> ?_) λ_ _ z=>False.elim z)
   subst e6
   refine JZ (wpAny_mono (lx cl fp s H H2.objs.size _ s6 _ H6 _ I6 hstep) (λok s7 ⟨H7,I7,q7⟩=> ?_) λ_ _ z=>False.elim z)
   cases ok with
   | false=>
    rw[JV K5] at q7
    obtain⟨m',hm,w7⟩:=q7
    exact JW ⟨rfl,again I7 hz hm w7⟩
   | true=>
    rw[JQ rfl] at q7
    refine JZ (JZ (wpAny_mono (helt cl fp s H H2.objs.size _ s7 _ H7 _ I7 q7) (λy s8 ⟨vv,H8,I8,r8,Ph,hz8,m',hm,w8⟩=> ?_) λ_ _ z=>False.elim z))
    refine JZ (wpAny_mono (mW (X:=a9 X scope cl (vs++F) fp s H H2.objs.size) _ s8 _ H8 (!7) [vv] _ [y] (λ_ H9=>H9=upd H8 s.heap.objs.size (.lst (ys++[vv]))) I8 rfl (.cons r8 .nil) ⟨_,ys,vv,rfl,rfl,Ph,hz8,rfl⟩) (λ_ s9 ⟨_,H9,I9,_,e9⟩=> ?_) λ_ _ z=>False.elim z)
    subst e9
    exact JW (JW ⟨rfl,again I9 hz hm w8⟩)
 exact codeAny_compStart_list (loop _ rfl) (T.self _ 0 _ _ _ hst₁ (loop _ rfl))
theorem C3 {wi:TI}(hc:X.calm=true)(O:bU X scope vs F ix)(hi:PI X tg iter wi)
  (lx:∀cl fp s H C,Bo (a9 X scope cl (vs++F) fp s H C) ifs tt) (helt:∀cl fp s H C,PE (a9 X scope cl (vs++F) fp s H C) elt te) (hg:∀cl fp s H C,PG (a9 X scope cl (vs++F) fp s H C) tg g)
  (hs:∀x,foldedSetIterable iter X.env x=pure x:=by intro _;rfl):PE X (.ListComp elt [⟨tg,iter,ifs,0⟩] scope pos) (yt vs.length g wi ix tt te):=by
 intro pins s σ H Q I h
 obtain⟨cl,hclos,hsub,hcl⟩:=pr (I.qp O)
 rw[eval_ListComp]
 refine wpAny_comprehension_free (use:=none) rfl hs hclos O.kind O.names (cW (hi pins s σ H _ I h) λxv s1 h1=>cW h1 λitv s2 h2=> ?_)
 obtain⟨it,fp,tn,J,H2,e,I2,T,st2,f2,hr⟩:=h2
 subst e
 refine n5 (RR:=λacc C=>compPost (!6) X.A X.xe none (EP X pins σ Q) acc C) I2 O hc hsub hcl T st2 f2 lx helt hg hr ?_
 intro D C s' H' m hm I' hn hC q
 have fp':=I2.n_ (H':=H') hC hn
 exact⟨m,hm,λh' hs'=>⟨.ref D,H',I'.turned (t':=s'.toks) (λb o hb e=>(hs'.2 b hb).trans e) hn fp'.2.1 fp'.2.2.2.1 fp'.2.2.2.2.1 fp'.2.2.2.2.2,rfl,q⟩⟩
theorem wj {wi:TI}{i:Nat}{x:Str}{py spos:Pos}(hN:X.N.Nodup)(hxi:X.N[i]? =some x)(hx:Loc X.env.scope x)(hc:X.calm=true)(O:bU X scope vs F ix)(hi:PI X tg iter wi)
  (lx:∀cl fp s H C,Bo (a9 X scope cl (vs++F) fp s H C) ifs tt) (helt:∀cl fp s H C,PE (a9 X scope cl (vs++F) fp s H C) elt te) (hg:∀cl fp s H C,PG (a9 X scope cl (vs++F) fp s H C) tg g)
  (hsw:swapsWith (.ListComp elt [⟨tg,iter,ifs,0⟩] scope pos) (some (.Name x py)) spos.line X.env=pure true)
  (hs:∀x,foldedSetIterable iter X.env x=pure x:=by intro _;rfl) (hf:X.fn x=true∨X.env.scope.names.lookup x=some .local:=by first | exact .inl rfl | exact .inr rfl | assumption) :
  PS X (.Assign [.Name x py] (.ListComp elt [⟨tg,iter,ifs,0⟩] scope pos) spos) (Hl (yt vs.length g wi ix tt te) (j3 i)):=by
 intro pins s σ H D I h
 obtain⟨cl,hclos,hsub,hcl⟩:=pr (I.qp O)
 rw[exec_Assign_Name_used _ _ _ _ hsw]
 refine JZ (wpAny_standAt (JZ ?_))
 show wpAny _ X.A (do let _←comprehension (.ListComp elt [⟨tg,iter,ifs,0⟩] scope pos) scope X.env _ (newList []) false (eval iter X.env) (some (assign (.Name x py) X.env))) _ _ s
 refine JZ (wpAny_mono (wpAny_comprehension_free (use:=some (assign (.Name x py) X.env)) (Q:=λ_ s'=>SP X pins D .next s') rfl hs hclos O.kind O.names
  (cW (hi pins s σ H _ I h) λxv s1 h1=>cW h1 λitv s2 h2=> ?_)) (λ_ s' hq=>JW (JW hq)) λ_ _ e=>e)
 obtain⟨it,fp,tn,J,H2,e,I2,T,st2,f2,hr⟩:=h2
 subst e
 refine n5 (RR:=λacc C=>compPost (!6) X.A X.xe (some (assign (.Name x py) X.env)) (λ_ s'=>SP X pins D .next s') acc C) (Q:=λy H1=>j3 i y σ H1 D.nx) I2 O hc hsub hcl T st2 f2 lx helt hg hr ?_
 intro L C s' H' m hm I' hn hC q
 have fp':=I2.n_ (H':=H') hC hn
 show wpAny _ X.A (assign (.Name x py) X.env (.ref L)) _ _ _
 refine wpAny_assign_Name (rM I' hN hxi hx (v:=.ref L) rfl (λs3 I3 ⟨a,sb,ha⟩=> ?_) hf)
 have Pj:C≠a:=by
  rcases ha with e | e
  ·rw[e];exact fp'.2.1
  ·exact Ne.symm (fp'.2.2.2.2.1 _ _ e)
 refine⟨m,hm.sameBut sb Pj,λh' hs'=>⟨_,H',I3.turned (t':=s3.toks) (λb o hb e=>(hs'.2 b hb).trans e) hn fp'.2.1 fp'.2.2.2.1 fp'.2.2.2.2.1 fp'.2.2.2.2.2,q⟩⟩
end
end L2
namespace Y
open PySem
def kc (spl:PyData->Option (List PyData)){α:Type}(f:aW->M α):aW->M α:=λΓ=>match Γ with
 | some (false,d) :: cap=>(match spl d with
  | some ds=>f (ds.map (λd=>some (false,d))++cap)
  | none=>none)
 | _=>none
def GO:PyData->Option (List PyData)
 | .tuple [a,b,c]=>some [a,b,c]
 | _=>none
end Y
namespace L2
open PySem PySem.Spec PyProof.Rows Y
section
variable {X:Cx}{K:Frag}{Ew:Str->Hp->Prop}{pos:Pos}{tg:Expr}{scope:Scope}{vs F:List Str}{g:TG}{spl:PyData->Option (List PyData)}{ix:List Nat}{elt iter:Expr}{ifs:List Expr}{it:IF}{ft:TF}{fe:EF}
theorem AY {B H H1 H':Hp}{φ:Nat->List Addr}{Γ:aW}{σ:St}{D:Addr}{ds:List PyData}{ys:List V}(r:Rep K B φ Γ σ H)(s0:Same H H1)(hD:H1 D=none)(s1:Same H1 H')(hx:ar K (gU D H') ds ys) :
  Rep K (gU D H') (λ_=> []) (ds.map (λd=>some (false,d))++i8 Γ ix) (ys.map some++kU σ ix) H' where
 bs:=je
 len:=by unfold i8 kU;simp[ao hx]
 sl:=λi o d' e=>by
  have hl:=ao hx
  by_cases hi:i < ds.length
  ·rw[Xx (by rw[K4];exact hi),KY,K3 hi] at e
   cases e
   obtain⟨v,h1,h2⟩:=gm hx (K3 hi)
   exact⟨v,by rw[Xx (by rw[K4,hl];exact hi),KY,h1];rfl,by rw[JV K5];exact h2⟩
  ·have hi:ds.length<=i:=Nat.le_of_not_lt hi
   rw[Xu (by rw[K4];exact hi),K4] at e
   rw[Xu (by rw[K4,hl];exact hi),K4,hl]
   have e':(i8 Γ ix)[i - ds.length]? =some (some (o,d')):=e
   unfold i8 at e'
   rw[KY] at e'
   cases hk:ix[i - ds.length]? with
   | none=>rw[hk] at e';cases e'
   | some k=>
    rw[hk] at e'
    have e2:(Γ[k]?).join.map (λp=>(false,p.2))=some (o,d'):=Option.some.inj e'
    cases hg:Γ[k]? with
    | none=>rw[hg] at e2;cases e2
    | some s=>
     rw[hg] at e2
     cases s with
     | none=>cases e2
     | some p=>
      obtain⟨o',d2⟩:=p
      cases e2
      obtain⟨w,h1,h2⟩:=r.sl k o' d2 hg
      have hw:aJ K H d2 w:=by
       cases o' with
       | true=>rw[JQ rfl] at h2;exact IsT.toD _ _ _ h2
       | false=>rw[JV K5] at h2;exact aJ.same r.bs _ _ h2
      refine⟨w,?_,?_⟩
      ·unfold kU
       rw[KY,hk,U0,h1];rfl
      ·rw[JV K5]
       exact aJ.same (sf hD s1) _ _ (aJ.same s0 _ _ hw)
 nd:=λ_=>X2
 nb:=λ_ a ha=>by cases ha
 dj:=λ_ _ _ a ha=>by cases ha
def C4 (K:Frag)(n:Nat)(g:TG)(spl:PyData->Option (List PyData))(ix:List Nat):Prop:=∀(d:PyData) (ds:List PyData) (x:V) (H B:Hp) (σ:St) (Q:St->Hp->Prop),spl d=some ds->Same B H->aJ K B d x->
 (∀ys:List V,ys.length=n->ar K B ds ys->Q (ys.map some++kU σ ix) H)->g x (C0 n σ ix) H Q
theorem wk {σ:St}{H:Hp}{Q:VK}{n:Nat}(hgt:C4 K n g spl ix)(q:tD K Ew (bj it ix (kc spl ft) (kc spl fe)) σ H Q):yt n g (tI K Ew it) ix (D6 K x0 ft) (tD K x0 fe) σ H Q:=by
  obtain⟨B,φ,Γ,r,q⟩:=q
  refine⟨B,φ,Γ,r,?_⟩
  replace q:Runs K Ew B φ H (ap (it Γ) λx=>ap (mo (cc (kc spl ft) (kc spl fe) (i8 Γ ix) x.2)) λys=>ap (mo (gk ys)) λk=>if x.2.length<=100000 then ah (k,.list (ys.map Prod.snd)) else none) Q:=q
  match hm:it Γ,q with
  | some (.ok (k0,ds)),q=>
   intro J H1 B1 ψ s0 sB r1 io D hD
   replace q:Runs K Ew B φ H (ap (mo (cc (kc spl ft) (kc spl fe) (i8 Γ ix) ds)) λys=>ap (mo (gk ys)) λk=>if ds.length<=100000 then ah (k,.list (ys.map Prod.snd)) else none) Q:=q
   match hys:cc (kc spl ft) (kc spl fe) (i8 Γ ix) ds,q with
   | none,q=>rcases q with⟨k,d,e,_⟩ | ⟨c,e,_⟩ <;> cases e
   | some ys,q=>
    replace q:Runs K Ew B φ H (ap (mo (gk ys)) λk=>if ds.length<=100000 then ah (k,.list (ys.map Prod.snd)) else none) Q:=q
    match hkk:gk ys,q with
    | none,q=>rcases q with⟨k,d,e,_⟩ | ⟨c,e,_⟩ <;> cases e
    | some kk,q=>
     replace q:Runs K Ew B φ H (if ds.length<=100000 then ah (kk,.list (ys.map Prod.snd)) else none) Q:=q
     have hlen:ds.length<=100000:=Decidable.byContradiction λhn=>by
      rw[JV hn] at q
      rcases q with⟨k,d,e,_⟩ | ⟨c,e,_⟩ <;> cases e
     rw[JQ hlen] at q
     have q:∀v H',Same H H'->VR K B φ H H' kk (.list (ys.map Prod.snd)) v->Q v H':=by
      rcases q with⟨k,d,e,q⟩ | ⟨c,e,_⟩
      ·cases e;exact q
      ·cases e
     obtain⟨hk1,hk2⟩:=BW hkk
     refine⟨λi m zs Hc=>m=ds.length - i/\i<=ds.length/\Same H1 Hc/\Hc D=some (.lst zs)/\zs.length<=i/\∃done rest,cc (kc spl ft) (kc spl fe) (i8 Γ ix) (ds.drop i)=some rest/\ys=done++rest/\
      ar K (gU D Hc) (done.map Prod.snd) zs/\(gk done=some (.fr [])->∃as,az K (gU D Hc) (done.map Prod.snd) zs as/\as.Nodup/\∀a∈as,H1 a=none),
      ⟨ds.length,by simp,Xy _,Same.upd hD,aw,Xy _,[],ys,by simpa using hys,rfl,aY,λ_=>⟨[],i_,X2,λa ha=>by cases ha⟩⟩,?_⟩
     rintro i m zs Hc ⟨rfl,hi2,sc,JT,PU,done,rest,hrest,C5,hel,hfr⟩
     refine⟨JT,?_⟩
     by_cases hlt:i < ds.length
     ·refine .inr ⟨io.go i Hc hlt (r1.bs.trans sc),λx H' hy=> ?_⟩
      obtain⟨s3,d,hd,hitem⟩:=io.yl i Hc x H' hlt (r1.bs.trans sc) hy
      have sc':=sc.trans s3
      have NC:B1 D=none:=by
       cases e:B1 D with
       | none=>rfl
       | some o=>have:=r1.bs _ _ e;rw[hD] at this;cases this
      have hx:aJ K (gU D H') d x:=hitem _ (sf NC (r1.bs.trans sc')) λa o e1 e2=>by
       rw[iE]
       ·exact e2
       ·rintro rfl;rw[JT] at e1;cases e1
      have ed:ds.drop i=d :: ds.drop (i+1):=by
       rw[U5 hlt]
       congr 1
       rw[K3 hlt] at hd
       exact Option.some.inj hd
      rw[ed] at hrest
      simp only[cc] at hrest
      obtain⟨FE,LN⟩:∃FE,spl d=some FE:=by
       cases hu:spl d with
       | none=>simp only[kc,hu] at hrest;cases hrest
       | some z=>exact⟨z,rfl⟩
      simp only[kc,LN] at hrest
      refine hgt d FE x H' (gU D H') σ _ LN je hx λPl hl0 hy0=> ?_
      have rin:=AY (ix:=ix) r s0 hD sc' hy0
      refine⟨Pl,hl0,rfl,gU D H',λ_=> [],FE.map (λd=>some (false,d))++i8 Γ ix,rin,?_⟩
      replace hrest:(match ft (FE.map (λd=>some (false,d))++i8 Γ ix) with
       | some (.ok true)=>(match fe (FE.map (λd=>some (false,d))++i8 Γ ix) with
        | some (.ok x)=>(cc (kc spl ft) (kc spl fe) (i8 Γ ix) (ds.drop (i+1))).map (x :: ·)
        | _=>none)
       | some (.ok false)=>cc (kc spl ft) (kc spl fe) (i8 Γ ix) (ds.drop (i+1))
       | _=>none)=some rest:=hrest
      match hft:ft (FE.map (λd=>some (false,d))++i8 Γ ix),hrest with
      | some (.ok true),hrest=>
       refine .inl ⟨true,rfl,λH3 s4=> ?_⟩
       show(if true=true then _ else _)
       rw[JQ rfl]
       refine⟨gU D H',λ_=> [],FE.map (λd=>some (false,d))++i8 Γ ix,rin.same s4,?_⟩
       match hfe:fe (FE.map (λd=>some (false,d))++i8 Γ ix),hrest with
       | some (.ok (k,d2)),hrest=>
        refine .inl ⟨k,d2,rfl,λw H4 s5 hv=> ?_⟩
        have ND:H' D=some (.lst zs):=s3 _ _ JT
        have Mo:H3 D=some (.lst zs):=s4 _ _ ND
        have Of:H4 D=some (.lst zs):=s5 _ _ Mo
        replace hrest:(cc (kc spl ft) (kc spl fe) (i8 Γ ix) (ds.drop (i+1))).map ((k,d2) :: ·)=some rest:=hrest
        cases hr2:cc (kc spl ft) (kc spl fe) (i8 Γ ix) (ds.drop (i+1)) with
        | none=>rw[hr2] at hrest;cases hrest
        | some GP=>
         rw[hr2] at hrest
         have hrr:(k,d2) :: GP=rest:=Option.some.inj hrest
         have hmem:(k,d2)∈ys:=by rw[C5,←hrr];exact Kx _ K8
         have Og:Same (gU D Hc) (gU D H4):=kG ((s3.trans s4).trans s5)
         have Pm:Same (gU D H') (gU D H4):=kG (s4.trans s5)
         have Oh:∀{as:List Addr},(∀a∈as,H3 a=none)->IsT K H4 d2 w as->IsT K (gU D H4) d2 w as:=λ{as} hn hT=>by
          refine IsT.mv (λa o e n=> ?_) _ _ _ (λa ha o e=> ?_) hT
          ·rw[iE]
           ·exact e
           ·rintro rfl;rw[Of] at e;cases e;exact n trivial
          ·rw[iE]
           ·exact e
           ·rintro rfl;rw[hn _ ha] at Mo;cases Mo
         have hfresh:∀{l:List Nat},VR K (gU D H') (λ_=> []) H3 H4 (.fr l) d2 w->∃as,IsT K H4 d2 w as/\as.Nodup/\∀a∈as,H3 a=none:=λ{l} ⟨as,h1,h2,h3⟩=>⟨as,h1,h2,λa ha=>by
          rcases h3 a ha with⟨_,_,z⟩ | z
          ·cases z
          ·exact z⟩
         refine⟨Of,Xz (show zs.length<=100000 by omega) (by decide),ds.length - (i+1),by omega,rfl,hlt,(sc'.trans (s4.trans s5)).HV hD,aw,by rw[K1,X3];omega,done++[(k,d2)],GP,hr2,by rw[C5,←hrr,X5];rfl,?_,λhk=> ?_⟩
         ·rw[vJ,X0]
          refine eM (ar.same Og _ _ hel) (aV ?_ aY)
          rcases hk2 _ hmem with e | e
          ·have e':k= .fr []:=e
           subst e'
           obtain⟨as,h1,h2,h3⟩:=hfresh hv
           exact IsT.toD _ _ _ (Oh h3 h1)
          ·have e':k= .base:=e
           subst e'
           exact aJ.same Pm _ _ hv
         ·obtain⟨hk3,Pn⟩:=As hk
          have e':k= .fr []:=Pn
          subst e'
          obtain⟨as,h1,h2,h3⟩:=hfresh hv
          obtain⟨bs,g1,g2,g3⟩:=hfr hk3
          rw[vJ,X0]
          refine⟨bs++as,df (az.same Og _ _ _ g1) ?_,Xv.mpr ⟨g2,h2,λa ha b hb e=> ?_⟩,λa ha=> ?_⟩
          ·have:=ja (Oh h3 h1) (i_ (K:=K))
           rwa [Xj] at this
          ·subst e
           obtain⟨o,eo,_⟩:=az.live _ _ _ g1 a ha
           have:=s4 _ _ (s3 _ _ (je _ _ eo))
           rw[h3 a hb] at this;cases this
          ·rcases Kk.mp ha with ha | ha
           ·exact g3 a ha
           ·exact(sc'.trans s4).free (h3 a ha)
       | some (.ex c),hrest=>cases hrest
       | none,hrest=>cases hrest
      | some (.ok false),hrest=>
       refine .inl ⟨false,rfl,λH3 s4=> ?_⟩
       show(if false=true then _ else _)
       rw[JV K5]
       refine⟨ds.length - (i+1),by omega,rfl,hlt,sc'.trans s4,s4 _ _ (s3 _ _ JT),by omega,done,rest,hrest,C5,ar.same (kG (s3.trans s4)) _ _ hel,λhk=> ?_⟩
       obtain⟨bs,g1,g2,g3⟩:=hfr hk
       exact⟨bs,az.same (kG (s3.trans s4)) _ _ _ g1,g2,g3⟩
      | some (.ex c),hrest=>cases hrest
      | none,hrest=>cases hrest
     ·have e:i=ds.length:=by omega
      subst e
      refine .inl ⟨io.stop Hc (r1.bs.trans sc),?_⟩
      rw[List.drop_length] at hrest
      simp only[cc] at hrest
      cases hrest
      rw[Xj] at C5
      subst C5
      refine q _ Hc (s0.trans sc) ?_
      rcases hk1 with e | e
      ·subst e
       obtain⟨bs,g1,g2,g3⟩:=hfr hkk
       refine⟨D :: bs,dy JT (az.same je _ _ _ g1),KU.mpr ⟨λz=> ?_,g2⟩,λa ha=> .inr ?_⟩
       ·obtain⟨o,eo,_⟩:=az.live _ _ _ g1 D z
        rw[jd] at eo;cases eo
       ·rcases K0.mp ha with rfl | ha
        ·exact s0.free hD
        ·exact s0.free (g3 a ha)
      ·subst e
       exact tX (fV.of JT) (ar.same je _ _ hel)
  | some (.ex c),q=>
   rcases q with⟨k,d,e,_⟩ | ⟨c',e,q⟩
   ·cases e
   ·cases e;exact q
  | none,q=>rcases q with⟨k,d,e,_⟩ | ⟨c,e,_⟩ <;> cases e
theorem wm (hc:X.calm=true)(O:bU X scope vs F ix)(hgt:C4 K vs.length g spl ix)(hg:∀cl fp s H C,PG (a9 X scope cl (vs++F) fp s H C) tg g)(hi:DI X K Ew tg iter it)
  (lx:∀cl fp s H C,Bo (a9 X scope cl (vs++F) fp s H C) ifs (D6 K x0 ft)) (helt:∀cl fp s H C,DE (a9 X scope cl (vs++F) fp s H C) K x0 elt fe)
  (hK:X.K=K:=by rfl) (hs:∀x,foldedSetIterable iter X.env x=pure x:=by intro _;rfl):DE X K Ew (.ListComp elt [⟨tg,iter,ifs,0⟩] scope pos) (bj it ix (kc spl ft) (kc spl fe)) :=
 (C3 hc O hi lx helt hg hs).imp λσ H Q q=>wk hgt q
theorem wn {i:Nat}{x:Str}{py spos:Pos}(hN:X.N.Nodup)(hxi:X.N[i]? =some x)(hx:Loc X.env.scope x)(hc:X.calm=true)(O:bU X scope vs F ix)(hgt:C4 K vs.length g spl ix)(hg:∀cl fp s H C,PG (a9 X scope cl (vs++F) fp s H C) tg g)(hi:DI X K Ew tg iter it)
  (lx:∀cl fp s H C,Bo (a9 X scope cl (vs++F) fp s H C) ifs (D6 K x0 ft)) (helt:∀cl fp s H C,DE (a9 X scope cl (vs++F) fp s H C) K x0 elt fe)
  (hsw:swapsWith (.ListComp elt [⟨tg,iter,ifs,0⟩] scope pos) (some (.Name x py)) spos.line X.env=pure true)
  (hK:X.K=K:=by rfl) (hs:∀x,foldedSetIterable iter X.env x=pure x:=by intro _;rfl) (hf:X.fn x=true∨X.env.scope.names.lookup x=some .local:=by first | exact .inl rfl | exact .inr rfl | assumption) :
  DS X K Ew (.Assign [.Name x py] (.ListComp elt [⟨tg,iter,ifs,0⟩] scope pos) spos) (aL i (bj it ix (kc spl ft) (kc spl fe))) :=
 (wj (i:=i) hN hxi hx hc O hi lx helt hg hsw hs hf).imp λD σ H q=>wk hgt (gu (g:=λx Γ=>ah (.nx (iR Γ i x.1 x.2))) q λB φ Γ k d v H1 r a q=>by
  obtain⟨B',φ',s',r'⟩:=jC r i a
  exact q B' φ' _ H1 s' r')
theorem LO {α:Type}(f:aW->M α)(d:PyData)(cap:aW):kc (λd=>some [d]) f (some (false,d) :: cap)=f (some (false,d) :: cap):=rfl
theorem C6 (cap:aW):∀ds:List PyData,cc (kc (λd=>some [d]) ft) (kc (λd=>some [d]) fe) cap ds=cc ft fe cap ds
 | []=>rfl
 | d :: ds=>by rw[cc,cc,LO,LO,C6 cap ds]
theorem GQ:bj it ix (kc (λd=>some [d]) ft) (kc (λd=>some [d]) fe)=bj it ix ft fe:=by
 funext Γ
 unfold bj
 simp only[C6]
theorem Oi:C4 K 1 (j3 0) (λd=>some [d]) ix:=λd ds x H B σ Q e s h q=>by
 cases e
 exact q [x] rfl (aV h aY)
theorem Oj {v:Str}{px:Pos}(O:bU X scope [v] F ix):∀cl fp s H C,PG (a9 X scope cl ([v]++F) fp s H C) (.Name v px) (j3 0):=λcl fp s H C=>
 bm O.nd rfl (.inl (lookup_relabel_local (O.own v (by simp)))) (.inr (lookup_relabel_local (O.own v (by simp))))
theorem dQ {v:Str}{px:Pos}(hc:X.calm=true)(O:bU X scope [v] F ix)(hi:DI X K Ew (.Name v px) iter it)
  (lx:∀cl fp s H C,Bo (a9 X scope cl ([v]++F) fp s H C) ifs (D6 K x0 ft)) (helt:∀cl fp s H C,DE (a9 X scope cl ([v]++F) fp s H C) K x0 elt fe)
  (hK:X.K=K:=by rfl) (hs:∀x,foldedSetIterable iter X.env x=pure x:=by intro _;rfl):DE X K Ew (.ListComp elt [⟨.Name v px,iter,ifs,0⟩] scope pos) (bj it ix ft fe) :=
 GQ ▸ wm hc O Oi (Oj O) hi lx helt hK hs
theorem n6 {v:Str}{px:Pos}{i:Nat}{x:Str}{py spos:Pos}(hN:X.N.Nodup)(hxi:X.N[i]? =some x)(hx:Loc X.env.scope x)(hc:X.calm=true)(O:bU X scope [v] F ix)(hi:DI X K Ew (.Name v px) iter it)
  (lx:∀cl fp s H C,Bo (a9 X scope cl ([v]++F) fp s H C) ifs (D6 K x0 ft)) (helt:∀cl fp s H C,DE (a9 X scope cl ([v]++F) fp s H C) K x0 elt fe)
  (hsw:swapsWith (.ListComp elt [⟨.Name v px,iter,ifs,0⟩] scope pos) (some (.Name x py)) spos.line X.env=pure true)
  (hK:X.K=K:=by rfl) (hs:∀x,foldedSetIterable iter X.env x=pure x:=by intro _;rfl) (hf:X.fn x=true∨X.env.scope.names.lookup x=some .local:=by first | exact .inl rfl | exact .inr rfl | assumption) :
  DS X K Ew (.Assign [.Name x py] (.ListComp elt [⟨.Name v px,iter,ifs,0⟩] scope pos) spos) (aL i (bj it ix ft fe)) :=
 GQ ▸ wn hN hxi hx hc O Oi (Oj O) hi lx helt hsw hK hs hf
theorem Po:C4 K 3 (λv σ H Q=>∃a us,v= .ref a/\dJ K H a us/\us.length=3/\vd (j3 0) (vd (j3 1) (vd (j3 2) Hk)) us σ H Q) GO ix:=λd ds x H B σ Q e s h q=>by
 unfold GO at e
 split at e
 ·cases e
  obtain⟨ax,us,ex,Pp,hvs⟩:=aE h
  have hq:=hvs
  simp only[ar] at hvs
  obtain⟨y0,r0,rfl,h1,z0,r1,rfl,h2,w0,r2,rfl,h3,rfl⟩:=hvs
  exact⟨ax,_,ex,s.k7 Pp,rfl,y0,_,rfl,z0,_,rfl,w0,_,rfl,rfl,q [y0,z0,w0] rfl hq⟩
 ·cases e
theorem C7 {v v2 v3:Str}{px Ol Om Oo:Pos}{kx:Nat}(hc:X.calm=true)(O:bU X scope [v,v2,v3] F ix)(hi:DI X K Ew (.Tuple [.Name v px,.Name v2 Ol,.Name v3 Om] kx Oo) iter it)
  (lx:∀cl fp s H C,Bo (a9 X scope cl ([v,v2,v3]++F) fp s H C) ifs (D6 K x0 ft)) (helt:∀cl fp s H C,DE (a9 X scope cl ([v,v2,v3]++F) fp s H C) K x0 elt fe)
  (hK:X.K=K:=by rfl) (hs:∀x,foldedSetIterable iter X.env x=pure x:=by intro _;rfl):DE X K Ew (.ListComp elt [⟨.Tuple [.Name v px,.Name v2 Ol,.Name v3 Om] kx Oo,iter,ifs,0⟩] scope pos) (bj it ix (kc GO ft) (kc GO fe)):=by
 subst hK
 have L:∀u∈[v,v2,v3],(relabel scope X.env).names.lookup u=some .local:=λu hu=>lookup_relabel_local (O.own u hu)
 exact wm hc O Po (λcl fp s H C=>xC (n:=3) hc (bh (bm (i:=0) O.nd rfl (.inl (L v (by simp))) (.inr (L v (by simp)))) (bh (bm (i:=1) O.nd rfl (.inl (L v2 (by simp))) (.inr (L v2 (by simp)))) (bh (bm (i:=2) O.nd rfl (.inl (L v3 (by simp))) (.inr (L v3 (by simp)))) gP)))) hi lx helt rfl hs
end
end L2
namespace Y
open PySem
def wo:PyData->PyData->Option PyData
 | .tuple [d],.int n=>if bo d=true/\(n=2∨n=3∨n=4) then some (.tuple (List.replicate n.toNat d)) else none
 | _,_=>none
end Y
namespace L2
open PySem PySem.Spec PyProof.Rows Y
open AutoSeq1 (wpAny_loadPart')
theorem FG:fillsNumberSlot (.type "tuple") "mul" =pure false:=PySem.fillsNumberSlot_seq (id:="tuple.__mul__") (r:=some (.builtin "tuple.__rmul__")) F.slot_tuple_mul.lookup (!5) F.slot_tuple_rmul.lookup (!5)
theorem FH:seqRepeat? (.type "tuple")=pure (some (.builtin "tuple.__mul__")):=by
 unfold seqRepeat?
 rw[PySem.seqSlot_of (T:="tuple") (name:="__mul__") (id:="tuple.__mul__") F.slot_tuple_mul.lookup (!5),PySem.seqSlot_of (T:="tuple") (name:="__rmul__") (id:="tuple.__rmul__") F.slot_tuple_rmul.lookup (!5)];rfl
theorem LP (a:Int)(t:Tok)(l:Addr)(items:Array Value)(n:Nat)(dd:Option Addr)(sl:Array (Option Value)):Meets (Builtin.«int.__rmul__» ⟨[.int a t,.ref l],[]⟩) (λ_ R s=>s.heap.get? l=some {cls:=.type "tuple",dict:=dd,data:=.seq items n,slots:=sl}/\R (.ok (.ret Value.notImplemented)) s) :=
 .of_wp λprog w A R s h=>by
  obtain⟨hp,g,d,tk,os⟩:=s;obtain⟨hl,h⟩:=h;wp_walk using wpAny_loadPart' hl;exact⟨_,rfl,h⟩
theorem LQ {k:Int}(hk:k=2∨k=3∨k=4)(l:Addr)(v:Value)(n:Nat)(dd:Option Addr)(sl:Array (Option Value))(u:Tok):Meets (Builtin.«tuple.__mul__» ⟨[.ref l,.int k u],[]⟩) (λ_ R s=>s.heap.get? l=some {cls:=.type "tuple",dict:=dd,data:=.seq #[v] n,slots:=sl}/\R (.ok (.ret (!7))) {s with heap:=s.heap.push {cls:=.type "tuple",data:=.seq (List.replicate k.toNat v).toArray}}) :=
 .of_wp λprog w A R s h=>by
  rcases hk with rfl | rfl | rfl <;> (obtain⟨hp,g,d,tk,os⟩:=s;obtain⟨hl,h⟩:=h;wp_walk using wpAny_loadPart' hl;exact⟨_,rfl,h⟩)
theorem wq {K:Frag}{H:Hp}{d:PyData}{w:V}(h:aJ K H d w):∀k,ar K H (List.replicate k d) (List.replicate k w)
 | 0=>aY
 | k+1=>aV h (wq h k)
section
variable {X:Cx}
theorem C8:iD X (binaryOp .Mult) wo:=iD.of λpins s σ H x y z u v a b Q I e hx hy ru rv q=>by
 cases x <;> cases y <;> simp only[wo] at e <;> try (cases e;done)
 rename_i xs n
 match xs,e with
 | [],e=>cases e
 | _ :: _ :: _,e=>cases e
 | [d],e=>
  simp only at e
  split at e
  ·rename_i c
   cases e
   have h2:=aA hy
   subst h2
   obtain⟨p,vs,rfl,h1,h3⟩:=aE hx
   obtain⟨t,rfl⟩:=rv
   cases ru
   obtain⟨w1,rfl,hd⟩:=dh h3
   obtain⟨its,r1,p1,_⟩:=I.tuple h1
   obtain⟨w2,rfl,Pq⟩:=r1.one
   obtain⟨⟨cls,dd,data,sl⟩,ho,hc,n1,hda⟩:=id p1
   simp only at hc hda
   subst hc hda
   refine wpAny_binaryOp_repeat_ref (T:="tuple") (U:="int") (by decide) ⟨_,ho,rfl⟩ (λs'=>typeIs_int s' n t) FG F.fills_int_mul F.slot_int_rmul FH F.slot_int_index.lookup
    (call_meets F.slot_int_rmul (typeIs_int s n t) F.entry_int_rmul (F.args_int_rmul_2 _ _) (LP n t p _ n1 dd sl) ⟨ho,rfl,⟨_,ho,rfl⟩,?_⟩)
   have hf:=I.fresh
   refine call_meets F.slot_tuple_mul ⟨_,ho,rfl⟩ F.entry_tuple_mul (F.args_tuple_mul_2 _ _) (LQ c.2 p w2 n1 dd sl t) ⟨ho,?_⟩
   refine⟨.ref _,_,I.laid (t':=s.toks) (a:=s.heap.objs.size) (o:=.tup (List.replicate n.toNat w1)) (λb u e=>K7 _ e) (K2 _) ⟨?_,List.replicate n.toNat w2,?_,IsTup.new _ _⟩,rfl,
     q _ _ (Same.upd hf) (aS.tup (by rw[aQ];intro x hx;rw[List.eq_of_mem_replicate hx];exact c.1) (dJ.of aw) (ar.same (Same.upd hf) _ _ (wq hd _)))⟩
   ·rcases c.2 with rfl | rfl | rfl <;> (simp;decide)
   ·rcases c.2 with rfl | rfl | rfl <;> simp[List.replicate] <;> (repeat (first | exact .nil | refine .cons Pq ?_))
  ·cases e
end
end L2
namespace Y
open PySem
def D8 (W:List Nat)(Γ:aW):aW:=W.foldl (λΓ i=>Γ.set i none) Γ
def LR:M Bool->Bool
 | some (.ok false)=>true
 | _=>false
abbrev QF:=aW->Bool
def wu (it:IF)(p:Nat)(W:List Nat)(g:QF):QF:=λΓ=>match it Γ with
 | some (.ok (k,ds))=>ds.all λd=>g ((D8 (p :: W) (j0 k Γ)).set p (some (false,d)))
 | _=>false
def FJ (W:List Nat)(f g:QF):QF:=λΓ=>f Γ && g (D8 W Γ)
def FK (t:TF):QF:=λΓ=>LR (t Γ)
def sQ (W:List Nat)(f:QF):SF:=λΓ=>if f Γ=true then ah (.nx (D8 W Γ)) else none
theorem zH:∀(W:List Nat) (Γ:aW),(D8 W Γ).length=Γ.length
 | [],_=>rfl
 | i :: W,Γ=>(zH W (Γ.set i none)).trans XW
theorem zI:∀(W:List Nat) (Γ:aW) (i:Nat) (x:Bool×PyData),(D8 W Γ)[i]? =some (some x)->i∉W/\Γ[i]? =some (some x)
 | [],_,i,x,h=>⟨by simp,h⟩
 | j :: W,Γ,i,x,h=>by
  obtain⟨h1,h2⟩:=zI W (Γ.set j none) i x h
  by_cases e:j=i
  ·subst e
   rw[List.getElem?_set] at h2
   simp at h2
  ·rw[Xw e] at h2
   exact⟨by simp[h1,Ne.symm e],h2⟩
end Y
namespace L2
open PySem PySem.Spec PyProof.Rows Y
def Mp (W:List Nat)(σ σ':St):Prop:=σ'.length=σ.length/\∀i,i∉W->σ'[i]? =σ[i]?
def tQ (K:Frag)(W:List Nat)(f:QF):TS:=λD σ H=>∃B φ Γ,Rep K B φ Γ σ H/\f Γ=true/\∀σ' H',Mp W σ σ'->Same H H'->D.nx σ' H'
def QS (X:Cx)(K:Frag)(Ew:Str->Hp->Prop)(s:Stmt)(W:List Nat)(f:QF):Prop:=PS X s (tQ K W f)
def Mq (X:Cx)(K:Frag)(Ew:Str->Hp->Prop)(s:List Stmt)(W:List Nat)(f:QF):Prop:=pd X s (tQ K W f)
section
variable {X:Cx}{K:Frag}{Ew:Str->Hp->Prop}{B H H':Hp}{φ:Nat->List Addr}{Γ:aW}{σ σ':St}{W:List Nat}{pos:Pos}
theorem Rep.D8 (r:Rep K B φ Γ σ H)(a:Mp W σ σ')(s:Same H H'):Rep K B φ (Y.D8 W Γ) σ' H':=by
 have r:=r.same s
 exact⟨r.bs,by rw[zH,a.1,r.len],λi o d e=>by
  obtain⟨h1,h2⟩:=zI _ _ _ _ e
  obtain⟨v,h3,h4⟩:=r.sl i o d h2
  exact⟨v,(a.2 i h1).trans h3,h4⟩,r.nd,r.nb,r.dj⟩
theorem GR {c:Expr}{a:List Stmt}{t:TF}{fa:SF}(hc:DT X K Ew c t)(ha:ze X K Ew a fa):QS X K Ew (.If c a [] pos) [] (FK t):=(Bx hc ha tx).imp λD σ H q=>by
 obtain⟨B,φ,Γ,r,hf,hn⟩:=q
 refine⟨B,φ,Γ,r,.inl ⟨false,?_,λH' s=> ?_⟩⟩
 ·unfold FK at hf
  match hm:t Γ,hf with
  | some (.ok false),hf=>rfl
 ·show(if false=true then _ else _)
  rw[JV K5]
  exact hn σ H' ⟨rfl,λ_ _=>rfl⟩ s
theorem C9 {s:Stmt}{f:QF}(h:QS X K Ew s W f):Mq X K Ew [s] W f:=oS h
theorem FL {s:Stmt}{rest:List Stmt}{W2:List Nat}{f g:QF}(h1:QS X K Ew s W f)(h2:Mq X K Ew rest W2 g):Mq X K Ew (s :: rest) (W++W2) (FJ W f g):=(lJ h1 h2).imp λD σ H q=>by
 obtain⟨B,φ,Γ,r,hf,hn⟩:=q
 obtain⟨hf,hg⟩:=Bool.and_eq_true_iff.mp hf
 refine⟨B,φ,Γ,r,hf,λσ' H' a s=>⟨B,φ,_,r.D8 a s,hg,λσ2 H2 a2 s2=>hn σ2 H2 ⟨a2.1.trans a.1,λi hi=> ?_⟩ (s.trans s2)⟩⟩
 rw[Kk,not_or] at hi
 exact(a2.2 i hi.2).trans (a.2 i hi.1)
theorem C_ {x:Str}{px:Pos}{iter:Expr}{body:List Stmt}{it:IF}{p:Nat}{g:QF}(hp:PassesOwn (!6) X.A X.env X.xe)(hc:X.calm=true)(hi:DI X K Ew (.Name x px) iter it)(hg:PG X (.Name x px) (j3 p))(hb:Mq X K Ew body W g)
  (hs:∀x,foldedSetIterable iter X.env x=pure x:=by intro _;rfl):QS X K Ew (.For (.Name x px) iter body [] pos) (p :: W) (wu it p W g):=(tF hp hc hi hg hb hs).imp λD σ H q=>by
 obtain⟨B,φ,Γ,r,hf,hn⟩:=q
 refine⟨B,φ,Γ,r,?_⟩
 unfold wu at hf
 match hm:it Γ,hf with
 | some (.ok (k,ds)),hf=>
  intro J H1 B1 ψ s0 s1 r1 io
  refine⟨λi m σ2 H2=>m=ds.length - i/\i<=ds.length/\Mp (p :: W) σ σ2/\Same H1 H2,⟨ds.length,by simp,Xy _,⟨rfl,λ_ _=>rfl⟩,Same.refl H1⟩,?_⟩
  rintro i m σ2 H2 ⟨rfl,hi2,ag,s2⟩
  by_cases hlt:i < ds.length
  ·refine .inr ⟨io.go i H2 hlt (r1.bs.trans s2),λσ' H'=>Mp (p :: W) σ σ'/\Same H1 H',λσ' H' h'=>⟨ds.length - (i+1),by omega,rfl,hlt,h'⟩,λx H' y=> ?_⟩
   obtain⟨s3,d,e,hd⟩:=io.yl i H2 x H' hlt (r1.bs.trans s2) y
   have r3:=r1.D8 ag (s2.trans s3)
   have xZ:aJ K (gq ψ H') d x:=hd _ r3.rC λa o e1 e2=>by
    rw[cv]
    ·exact e2
    ·intro j hj
     obtain⟨o',e',_⟩:=((r1.same s2).nb j a hj).2
     rw[e1] at e';cases e'
   refine⟨_,_,_,r3.cut.EI p xZ,Uw.mp hf d (Y1 e),λσ' jB a' s'=>⟨⟨a'.1.trans (XW.trans ag.1),λj hj=> ?_⟩,s2.trans (s3.trans s')⟩⟩
   rw[K0,not_or] at hj
   rw[a'.2 j hj.2,Xw (Ne.symm hj.1)]
   exact ag.2 j (by rw[K0,not_or];exact hj)
  ·have e:i=ds.length:=by omega
   subst e
   exact .inl ⟨io.stop H2 (r1.bs.trans s2),hn σ2 H2 ag (s0.trans s2)⟩
theorem Dc {s:Stmt}{f:QF}(h:QS X K Ew s W f):DS X K Ew s (sQ W f):=h.imp λD σ H q=>by
 obtain⟨B,φ,Γ,r,q⟩:=q
 unfold sQ at q
 by_cases hf:f Γ=true
 ·rw[JQ hf] at q
  exact⟨B,φ,Γ,r,hf,λσ' H' a s=>q B φ σ' H' (Same.refl B) (r.D8 a s)⟩
 ·rw[JV hf] at q;exact False.elim q
end
theorem Pr {P:List Value->Prop}(h:P [])(us:List Value)(hl:us.length=0):P us:=Yq.mp hl ▸ h
theorem Mr {n:Nat}{P:List Value->Prop}(h:∀a us,us.length=n->P (a :: us))(us:List Value)(hl:us.length=n+1):P us:=by
 cases us with
 | nil=>cases hl
 | cons a us=>exact h a us (Nat.succ.inj hl)
theorem FN {P:List Value->Prop}(h:∀a,P [a]):∀us:List Value,us.length=1->P us:=Mr λa=>Pr (P:=λl=>P (a :: l)) (h a)
theorem AZ {P:List Value->Prop}(h:∀a b,P [a,b]):∀us:List Value,us.length=2->P us:=Mr λa=>FN (P:=λl=>P (a :: l)) (h a)
theorem Bq {P:List Value->Prop}(h:∀a b c,P [a,b,c]):∀us:List Value,us.length=3->P us:=Mr λa=>AZ (P:=λl=>P (a :: l)) (h a)
theorem Ps {P:List Value->Prop}(h:∀a b c d,P [a,b,c,d]):∀us:List Value,us.length=4->P us:=Mr λa=>Bq (P:=λl=>P (a :: l)) (h a)
structure FI where
 n:Str
 s:Stmt
 ps:List Str
structure Fx (K:Frag)(mg:Str->Option Value)(i:FI)(f:Addr)(d:FuncData):Prop where
 F:D5 K i.n i.n i.s f d
 m:mg i.n=some (.ref f)
 b:Binds K d i.ps []
def FX (K:Frag)(n:Str)(s:Stmt):Prop:=∃(f:Addr) (oc:Value) (od:Option Addr) (kV dc pm:Value) (an:Option Addr) (cd ct:Value) (sl:Array (Option Value)),
 nsIn K mainGlobals n=some (some (.ref f))/\K.lookup f=some ⟨oc,od,.func (fnOf n n (jw s) (dY s) (ak s) .none kV dc pm an cd ct),sl⟩/\codeIn K cd n=true/\keepIn K (.ref f)=true
theorem FX.mk {K:Frag}{n:Str}{s:Stmt}{f:Addr}{oc:Value}{od:Option Addr}{kV dc pm:Value}{an:Option Addr}{cd ct:Value}{sl:Array (Option Value)}(a:nsIn K mainGlobals n=some (some (.ref f)))
  (l:K.lookup f=some ⟨oc,od,.func (fnOf n n (jw s) (dY s) (ak s) .none kV dc pm an cd ct),sl⟩) (c:codeIn K cd n=true) (k:keepIn K (.ref f)=true):FX K n s:=⟨f,oc,od,kV,dc,pm,an,cd,ct,sl,a,l,c,k⟩
def Ex (K:Frag)(mg:Str->Option Value)(i:FI):Prop:=∃f d,Fx K mg i f d
theorem FX.ex {K:Frag}{mg:Str->Option Value}{h:Heap}{i:FI}(X:K.In h)(G:h.Ns mainGlobals mg)(x:FX K i.n i.s)
  (hb:∀(kV dc pm:Value) (an:Option Addr) (cd ct:Value) (us:List Value),us.length=i.ps.length->bindArgs (fnOf i.n i.n (jw i.s) (dY i.s) (ak i.s) .none kV dc pm an cd ct) ⟨us,[]⟩=pure (i.ps.zip us)):Ex K mg i:=by
 obtain⟨f,oc,od,kV,dc,pm,an,cd,ct,sl,e1,e2,e3,e4⟩:=x
 have F:=HN e2 e3 e4
 exact⟨f,_,F,mg_of X G e1,F.binds hb⟩
theorem Fx.uniq {K:Frag}{mg:Str->Option Value}{i:FI}{f f':Addr}{d d':FuncData}(x:Fx K mg i f d)(y:Fx K mg i f' d'):f=f'/\d=d':=by
 cases x.m.symm.trans y.m
 obtain⟨_,_,_,_,_,_,_,_,_,_,e,_⟩:=x.F.ex
 obtain⟨_,_,_,_,_,_,_,_,_,_,e',_⟩:=y.F.ex
 cases e.symm.trans e'
 exact⟨rfl,rfl⟩
def Gx (P:Program)(w:World)(K:Frag)(mg:Str->Option Value)(base:Heap)(k:Nat)(i:FI)(sp:Sp):Prop:=∃f d,Fx K mg i f d/\iZ P w K mg base y9 k f d i.ps sp
section
variable {P:Program}{w:World}{K:Frag}{mg:Str->Option Value}{base:Heap}{i:FI}{N:List Str}
theorem lB (k n m:Nat){fb:SF}(hn:N.length=n)(hm:i.ps.length=m)(x:Ex K mg i)(S:aK N i.ps (ak i.s))
  (hbody:∀(f:Addr) (cdv:Value) (A:Around) (outer:List Env) (s:Shared) (H:Hp) (E:XK),dM k (A.deeper (envOfC i.n (ak i.s) s.heap.objs.size f cdv))->(A.deeper (envOfC i.n (ak i.s) s.heap.objs.size f cdv)).units+80 < cLine->
   ze (rh y9 P w K mg base N i.n (ak i.s) f cdv A outer s H E).Bn K (λ_ _=>False) (dY i.s) fb):Gx P w K mg base (k+1) i (ju K m (cA n fb)):=by
 obtain⟨f,d,x⟩:=x
 exact⟨f,d,x,M9 k n m hn hm x.F S λcdv A outer s H E hr=>hbody f cdv A outer s H E hr hr.zf⟩
end
section
variable {X:Cx}{K:Frag}{Ew:Str->Hp->Prop}{e:Expr}{es:List Expr}{pos:Pos}
theorem aF {n k k':Nat}{F:FF}{i:FI}{p:Pos}{Ap:List EF}(G:Gx X.prog X.w X.K X.mg X.base k i (ju K n F))(hr:dM k' X.A)(ha:DA X K Ew (e :: es) Ap)(hk:k<=k':=by decide)(hg:Gl X i.n:=by rfl)
  (hn:Ap.length=n:=by rfl) (hE:∀c H,¬ Ew c H:=by exact λ_ _ h=>h) (hdb:(i.n==("__debug__":Str))=false:=by decide) (he:starEach (e :: es) X.env=(false,eval e X.env) :: starEach es X.env:=by rfl) (hpl:(backTo pos (starEach es X.env)).any (·.1)=false:=by rfl) :
  DE X K Ew (.Call (.Name i.n p) (e :: es) [] pos) (aR F Ap):=by
 obtain⟨f,d,x,g⟩:=G
 exact EJ g (hr.mono hk) hg x.m x.F.kp x.b (E:=E0) Gw ha hn hE hdb he hpl
end
end L2
namespace K51
open PySem Y
def jJ:SF :=
 (aL 0 (cb jV (eV 0) (eC (.int 2147483648))))
def jK:SF :=
 (aC (kZ (tE (cb Mi (eV 0) (cb BM (eC (.int 10)) (eC (.int 12)))))
 (aC (aL 0 (cb vf (cb jV (eV 0) (cb BM (eC (.int 10)) (eC (.int 12)))) (eC (.int 1))))
 (aC (bG (c_ (cb jZ (eV 1) (eC (.int 61)))) (cN 2)
 jJ)
 (cu (cb jZ (eV 0) (eC (.int 2147483648))))))
 eQ)
 (aC (aL 3 (cb jZ (cb rq (cb kX (cb kX (cb jZ (eV 0) (eC (.int 1000003))) (cb rq (cb rq (eV 1) (eV 1)) (eC (.int 7919)))) (eV 1)) (eC (.int 48271))) (eC (.int 2147483629))))
 (aC (aL 3 (cb jZ (cb rq (eV 3) (eV 3)) (eC (.int 2147483587))))
 (cu (cb jV (cb jZ (cb rq (eV 3) (cb kX (eV 3) (eC (.int 2)))) (eC (.int 2147483579))) (eC (.int 7)))))))
def fP:FF:=cA 4 jK
def qq:SF :=
 (kZ (tE (cb BL (eV 2) (eV 3)))
 (iS 1 (fM [(eV 2),(eV 3)]))
 eQ)
def qr:SF :=
 (bG (c_ (eV 0)) (cN 3)
 qq)
def mi:SF :=
 (aC (aL 1 (dw []))
 (aC (bG (c_ (eV 0)) (cN 2)
 qr)
 (cu (eV 1))))
def jL:FF:=cA 4 mi
def dD:SF :=
 (aC (kZ (tE (cb xN (cb jZ (eV 0) (eC (.int 3))) (eC (.int 0))))
 (iS 2 (eV 3))
 eQ)
 (aL 0 (cb jV (eV 0) (eC (.int 3)))))
def il:SF :=
 (aC (aL 2 (dw []))
 (aC (bG (lG (aR jL [(eV 1)])) (cN 3)
 dD)
 (cu (j2 eF [(eV 2)]))))
def di:FF:=cA 4 il
def fc:SF :=
 (aC (kZ (tE (cb JM (eV 1) (j2 j7 [(eV 0)])))
 (cu (mR kY (eV 0) (eV 1)))
 eQ)
 (cu (eC (.int 0))))
def bb:FF:=cA 2 fc
def cI:SF :=
 (aC (aL 5 (aR fP [(aR bb [(eV 0),(cb kX (eC (.int 2)) (eV 4))]),(cb kX (eC (.int 20)) (eV 4))]))
 (aC (aL 6 (aR di [(eV 5),(eV 1)]))
 (aC (kZ (tE (cb xN (cb jZ (cb jV (eV 5) (eC (.int 600000))) (eC (.int 3))) (eC (.int 1))))
 (aL 6 (Me (eV 6) none (some (eC (.int 1)))))
 eQ)
 (kZ (rU (tE (cb gE (eV 6) (eV 3))) (tE (cb JM (j2 j7 [(eV 3)]) (eV 2))))
 (iS 3 (eV 6))
 eQ))))
def kg:SF :=
 (aC (aL 3 (dw []))
 (aC (kZ (tE (cb xN (cb jZ (aR bb [(eV 0),(eC (.int 1))]) (eC (.int 2))) (eC (.int 1))))
 (iS 3 (fM []))
 eQ)
 (aC (bG (c_ (eV 2)) (cN 4)
 cI)
 (cu (eV 3)))))
def kh:FF:=cA 7 kg
def fQ:SF :=
 (aC (aL 1 (cb kX (eC (.int 2)) (cb jZ (aR bb [(eV 0),(eC (.int 0))]) (eC (.int 3)))))
 (aC (aL 2 (cb jZ (cb jV (aR bb [(eV 0),(eC (.int 0))]) (eC (.int 3))) (mR kY (dw [(eC (.int 5)),(eC (.int 4)),(eC (.int 3))]) (cb vf (eV 1) (eC (.int 2))))))
 (aC (aL 3 (aR kh [(eV 0),(eV 1),(mR kY (dw [(eC (.int 3)),(eC (.int 3)),(eC (.int 2))]) (cb vf (eV 1) (eC (.int 2))))]))
 (cu (fM [(eV 1),(eV 3),(eV 2)])))))
def bt:FF:=cA 4 fQ
def fm:EF :=
 (mR kY (eV 1) (eV 0))
def bv:SF :=
 (kZ (tE (cb JN (mR kY (eV 2) (eV 7)) (eV 6)))
 (aC (Al 2 (eV 7) (eV 6))
 (aL 3 (eC (.bool true))))
 eQ)
def dk:SF :=
 (aC (aL 6 (j2 sD [(bj (lG (eV 5)) [2] ce fm)]))
 (bG (lG (eV 5)) (cN 7)
 bv))
def dm:SF :=
 (aC (aL 3 (eC (.bool false)))
 (bG (ut (eV 1)) (jx [4,5])
 dk))
def im:TF :=
 (tE (eV 3))
def ip:TF :=
 (tE (cb xN (mR kY (eV 2) (eV 0)) (eV 1)))
def iq:EF :=
 (eV 0)
def cn:SF :=
 (kZ (tE (cb xN (mR kY (eV 2) (eV 9)) (eV 9)))
 (iS 8 (bj (c_ (eV 0)) [9,2] ip iq))
 eQ)
def jM:SF :=
 (aC (aL 2 (Ey p0 (eV 0)))
 (aC (aL 3 (eC (.bool true)))
 (aC (pB vq im
 dm)
 (aC (aL 8 (dw []))
 (aC (bG (c_ (eV 0)) (cN 9)
 cn)
 (cu (eV 8)))))))
def gX:FF:=cA 10 jM
def cp:SF :=
 (kZ (rU (tE (cb BL (eV 4) (eV 2))) (tE (cb gE (fM [(eV 4),(eV 2)]) (eV 1))))
 (iS 3 (eV 4))
 eQ)
def iu:SF :=
 (aC (aL 3 (dw []))
 (aC (bG (c_ (eV 0)) (cN 4)
 cp)
 (cu (j2 eF [(eV 3)]))))
def dq:FF:=cA 5 iu
def fX:EF :=
 (vB (fM [(eV 0),(eC (.int 0))]) (eC (.bool true)))
def fY:SF :=
 (rV 8 (mR kY (eV 3) (eV 9)))
def fZ:SF :=
 (aC (aL 8 (j2 oV [(mR kY (eV 3) (eV 7))]))
 (aC (bG (lG (aR dq [(eV 2),(eV 5),(eV 7)])) (cN 9)
 fY)
 (aC (rW 8 (fM [(eV 7),(cb kX (eV 4) (eC (.int 1)))]) (eC (.bool true)))
 (iS 6 (eV 8)))))
def f6:SF :=
 (aC (aL 6 (dw []))
 (aC (bG (c_ (eV 2)) (cN 7)
 fZ)
 (xQ 3 6)))
def dR:SF :=
 (kZ (tE (cb vA (fM [(eV 7),(eC (.int 0))]) (mR kY (eV 3) (eV 1))))
 (Al 10 (eV 7) (mR kY (mR kY (eV 0) (eC (.int 0))) (eV 7)))
 eQ)
def dS:SF :=
 (kZ (tE (cb vA (fM [(eV 7),(cb kX (eV 4) (eC (.int 1)))]) (mR kY (eV 3) (eV 1))))
 (Al 12 (eV 7) (aR dq [(eV 2),(eV 5),(eV 7)]))
 eQ)
def f7:SF :=
 (aC (aL 12 (EA (dw [(eC .none)]) (eV 2)))
 (aC (bG (c_ (eV 2)) (cN 7)
 dS)
 (iS 11 (j2 eF [(eV 12)]))))
def ki:SF :=
 (aC (aL 2 (j2 j7 [(mR kY (eV 0) (eC (.int 0)))]))
 (aC (aL 3 (bj (c_ (eV 2)) [] ce fX))
 (aC (bG (tW (mR kY (eV 0) (eC (.int 1)))) (jx [4,5])
 f6)
 (aC (aL 10 (EA (dw [(eC .none)]) (eV 2)))
 (aC (aL 11 (dw []))
 (aC (bG (c_ (eV 2)) (cN 7)
 dR)
 (aC (bG (tW (mR kY (eV 0) (eC (.int 1)))) (jx [4,5])
 f7)
 (cu (fM [(eV 1),(j2 eF [(eV 10)]),(j2 eF [(eV 11)])])))))))))
def gz:FF:=cA 13 ki
def cg:SF :=
 (AA 2 (fM [(eV 5),(mR kY (aR gz [(fM [(cb wo (fM [(eC (.int 0))]) (eV 0)),(eV 4)]),(eV 5)]) (eC (.int 2)))]) 3)
def bq:SF :=
 (bG (c_ (eV 0)) (cN 5)
 cg)
def fq:SF :=
 (aC (aL 2 lO)
 (aC (bG (jH (eV 1)) (jx [3,4])
 bq)
 (cu (aR gX [(j2 j7 [(eV 1)]),(eV 2)]))))
def bV:FF:=cA 6 fq
def f9:SF :=
 (iS 4 (cb kX (eV 5) (fM [(eV 6)])))
def cJ:SF :=
 (bG (lG (eV 0)) (cN 6)
 f9)
def dU:SF :=
 (aC (aL 4 (dw []))
 (aC (bG (lG (eV 2)) (cN 5)
 cJ)
 (xQ 2 4)))
def kj:SF :=
 (aC (aL 2 (dw [(fM [])]))
 (aC (bG (c_ (eV 1)) (cN 3)
 dU)
 (cu (eV 2))))
def gA:FF:=cA 7 kj
def fR:SF :=
 (AA 1 (eV 4) 2)
def cq:SF :=
 (bG (lG (eV 3)) (cN 4)
 fR)
def iy:SF :=
 (aC (aL 1 lO)
 (aC (bG (jH (eV 0)) (jx [2,3])
 cq)
 (cu (eV 1))))
def fu:FF:=cA 5 iy
def cw:EF :=
 (fM [(eV 1),(eV 0)])
def a8:SF :=
 (kZ (tE (cb eU (eV 5) (eV 2)))
 (aC (pC 2 (eV 5) (eC (.bool true)))
 (xS 3 (bj (lG (mR EC (eV 1) (eV 5))) [4] ce cw)))
 eQ)
def bW:SF :=
 (aC (aL 3 (dw []))
 (aC (bG (jH (eV 0)) (jx [4,5])
 a8)
 eQ))
def bX:=runIO 6 3 bW
def bF:SF :=
 (kZ (tE (cb eU (eV 9) (eV 3)))
 (aC (rW 3 (eV 9) (fM [(eV 8),(eV 7)]))
 (iS 6 (eV 9)))
 eQ)
def cK:SF :=
 (zx 4 bX (mR kY (eV 0) (eV 7)) (eV 1) (jx [8,9])
 bF)
def dX:SF :=
 (aC (aL 6 (dw []))
 (aC (bG (lG (eV 5)) (cN 7)
 cK)
 (xQ 5 6)))
def f_:TF :=
 (tE (cb JN (j2 j7 [(eV 5)]) (eC (.int 0))))
def kl:SF :=
 (aC (aL 3 (vB (eV 2) (eC .none)))
 (aC (aL 4 lO)
 (aC (aL 5 (dw [(eV 2)]))
 (aC (pB vq f_
 dX)
 (cu (eV 3))))))
def km:FF:=cA 10 kl
def bH:SF :=
 (kZ (tE (cb eU (eV 4) (eV 2)))
 (aC (aL 5 (aR km [(eV 0),(eV 1),(eV 4)]))
 (aC (rV 2 (eV 5))
 (iS 3 (j2 qo [(eV 5)]))))
 eQ)
def iz:SF :=
 (aC (aL 1 (aR fu [(eV 0)]))
 (aC (aL 2 lO)
 (aC (aL 3 (dw []))
 (aC (bG (c_ (j2 j7 [(eV 0)])) (cN 4)
 bH)
 (cu (eV 3))))))
def fw:FF:=cA 6 iz
def fx:EF :=
 (fM [(eV 0),(eV 2)])
def jN:SF :=
 (cu (bj (lG (eV 0)) [] (kc GO ce) (kc GO fx)))
def gY:FF:=cA 1 jN
def bY:EF :=
 (aR gY [(eV 0)])
def jW:SF :=
 (cu (aR fw [(bj (lG (eV 0)) [] ce bY)]))
def gG:FF:=cA 1 jW
def iI:TF :=
 (rU (tE (cb BL (eV 0) (eV 1))) (tE (cb gE (fM [(eV 0),(eV 1)]) (eV 2))))
def kn:EF :=
 (eV 0)
def nh:SF :=
 (cu (j2 eF [(bj (c_ (eV 0)) [2,1] iI kn)]))
def kO:FF:=cA 3 nh
def cS:EF :=
 (Ld (tE (cb HS (eV 0) (eV 1))) (aR kO [(eV 2),(eV 3),(eV 0)]) (eC .none))
def gH:SF :=
 (cu (j2 eF [(bj (c_ (eV 0)) [2,0,1] ce cS)]))
def dZ:FF:=cA 3 gH
def cT:SF :=
 (kZ (tE (cb tU (eV 3) (eC .none)))
 (xS 2 (eV 3))
 eQ)
def gI:SF :=
 (aC (aL 2 (j2 nN [(eV 0)]))
 (aC (bG (lG (eV 1)) (cN 3)
 cT)
 (cu (Ey j8 (eV 2)))))
def d_:FF:=cA 4 gI
def qt:SF :=
 (aC (aL 7 (aR dZ [(eV 3),(eV 6),(eV 4)]))
 (aC (iS 5 (eV 7))
 (aL 4 (aR d_ [(eV 4),(eV 7)]))))
def mj:EF :=
 (Ld (tE (cb HS (eV 0) (eV 1))) (mR kY (eV 2) (eV 0)) (eC .none))
def yv:SF :=
 (aC (aL 2 (mR kY (eV 0) (eC (.int 0))))
 (aC (aL 3 (j2 j7 [(eV 2)]))
 (aC (aL 4 (dw [(eV 1)]))
 (aC (aL 5 (dw []))
 (aC (bG (BO (mR kY (eV 0) (eC (.int 1)))) (cN 6)
 qt)
 (aC (aL 8 (bj (c_ (eV 3)) [4,2] ce mj))
 (cu (fM [(eV 1),(j2 eF [(eV 8)]),(Ey vt (eV 5))]))))))))
def qu:FF:=cA 9 yv
def jO:EF :=
 (aR qu [(eV 1),(eV 0)])
def lC:SF :=
 (cu (bj (c_ (eV 0)) [1] ce jO))
def jP:FF:=cA 2 lC
def fS:EF :=
 (aR jP [(eV 1),(eV 0)])
def iA:SF :=
 (cu (bj (lG (eV 1)) [0] ce fS))
def fy:FF:=cA 2 iA
def iV:SF :=
 (aL 2 (cb rq (eV 2) (j2 j7 [(eV 0)])))
def ko:SF :=
 (aC (aL 2 (eC (.int 1)))
 (aC (bG (c_ (eV 1)) (cN 3)
 iV)
 (cu (eV 2))))
def gB:FF:=cA 4 ko
def kq:SF :=
 (cu (cb rq (j2 j7 [(eV 2)]) (aR gB [(eV 0),(eV 1)])))
def gC:FF:=cA 3 kq
def lD:SF :=
 (aC (iS 3 (mR kY (eV 0) (cb jZ (eV 4) (j2 j7 [(eV 0)]))))
 (aL 4 (cb jV (eV 4) (j2 j7 [(eV 0)]))))
def qv:SF :=
 (aC (aL 3 (dw []))
 (aC (xQ 4 2)
 (aC (bG (c_ (eV 1)) (cN 5)
 lD)
 (cu (Ey vt (eV 3))))))
def ml:FF:=cA 6 qv
def qw:SF :=
 (aC (aL 4 (aR gB [(eV 0),(eV 1)]))
 (cu (fM [(mR kY (eV 2) (cb jV (eV 3) (eV 4))),(aR ml [(eV 0),(eV 1),(cb jZ (eV 3) (eV 4))])])))
def mm:FF:=cA 5 qw
def gZ:EF :=
 (aR mm [(eV 1),(eV 2),(eV 3),(eV 0)])
def lE:SF :=
 (aC (aL 3 (aR gC [(eV 0),(eV 1),(eV 2)]))
 (aC (kZ (tE (cb JN (eV 3) (eC (.int 3000))))
 BN
 eQ)
 (cu (bj (c_ (eV 3)) [0,1,2] ce gZ))))
def jQ:FF:=cA 4 lE
def bZ:EF :=
 (eC (.int 0))
def gJ:SF :=
 (aC (aL 3 (j2 eF [(bj (c_ (eV 0)) [] ce bZ)]))
 (cu (aR fy [(eV 0),(aR jQ [(eV 1),(eV 2),(dw [(eV 3)])])])))
def gK:FF:=cA 4 gJ
def gL:SF :=
 (cu (aR gG [(aR gK [(eV 0),(eV 1),(eV 2)])]))
def cB:FF:=cA 3 gL
def jR:SF :=
 (cu (HR (vp "int" (eV 0)) (BK (vp "bool" (eV 0)))))
def b9:FF:=cA 1 jR
def kP:SF :=
 (aC (aL 7 (aR cB [(eV 1),(eV 5),(eV 3)]))
 (aC (kZ (Ez (j6 (tE (vp "list" (eV 7)))) (tE (cb BL (eV 7) (eV 4))))
 (cu (eC (.bool false)))
 eQ)
 (aC (sQ [8,9] (wu (lG (eV 7)) 8 [9] (FJ [] (FK (j6 (tE (vp "list" (eV 8))))) (wu (lG (eV 8)) 9 [] (FK (j6 (tE (aR b9 [(eV 9)]))))))))
 (aC (ng 7 (eC (.int 0)))
 (iS 7 (dw []))))))
def Dd:SF :=
 (aC (Ak (jx [1,2,3]) (aR bt [(eV 0)]))
 (aC (aL 4 (aR bV [(eV 1),(aR gA [(eV 2),(eV 3)])]))
 (aC (aL 5 (j2 nN [(eV 2)]))
 (aC (bG (c_ (eC (.int 2))) (cN 6)
 kP)
 (cu (cb xN (eV 5) (eV 2)))))))
def qx:FF:=cA 10 Dd
end K51
namespace K51
open PySem L2 Y
def top (i:Nat):Stmt:=PySem.Challenge.pw_losspact_k51_parts_of_weathers.main.body.getD i (.Pass ⟨0,0,0,0⟩)
abbrev iJ:FI:=⟨"many_rows",top 5,["things","length"]⟩
theorem g6:aK ["things","length","many","place"] iJ.ps (ak iJ.s):=(!0)
abbrev mn:FI:=⟨"row_at",top 6,["things","length","number"]⟩
theorem jm:aK ["things","length","number","row","rest","place"] mn.ps (ak mn.s):=(!0)
abbrev iK:FI:=⟨"many_runs",top 7,["road","rounds","starts"]⟩
theorem uF:aK ["road","rounds","starts"] iK.ps (ak iK.s):=(!0)
abbrev mq:FI:=⟨"run_at",top 8,["road","rounds","starts","number"]⟩
theorem sN:aK ["road","rounds","starts","number","many"] mq.ps (ak mq.s):=(!0)
abbrev iB:FI:=⟨"all_runs",top 9,["road","rounds","starts"]⟩
theorem n8:aK ["road","rounds","starts","many"] iB.ps (ak iB.s):=(!0)
abbrev jn:FI:=⟨"came_to",top 11,["hands","weather","hand"]⟩
theorem yw:aK ["hands","weather","hand"] jn.ps (ak jn.s):=(!0)
abbrev qy:FI:=⟨"view",top 12,["run","hand"]⟩
theorem g7:aK ["run","hand","values","hands","heard","came","weather","came_here","seen_values"] qy.ps (ak qy.s):=(!0)
abbrev cC:FI:=⟨"came_to_heard",top 13,["hands","weather","heard"]⟩
theorem ni:aK ["hands","weather","heard"] cC.ps (ak cC.s):=(!0)
abbrev ee:FI:=⟨"heard_earlier",top 14,["heard","came_here"]⟩
theorem fU:aK ["heard","came_here","earlier","starts"] ee.ps (ak ee.s):=(!0)
abbrev du:FI:=⟨"views_of_all",top 16,["hands","runs"]⟩
theorem oh:aK ["hands","runs"] du.ps (ak du.s):=(!0)
abbrev iC:FI:=⟨"views_in",top 17,["hands","run"]⟩
theorem wv:aK ["hands","run"] iC.ps (ak iC.s):=(!0)
abbrev fz:FI:=⟨"runs_by_view",top 18,["seen"]⟩
theorem cD:aK ["seen","sharing","number","views","one_view"] fz.ps (ak fz.s):=(!0)
abbrev fB:FI:=⟨"joined_parts",top 19,["seen"]⟩
theorem bO:aK ["seen","sharing","placed","told","number","ways"] fB.ps (ak fB.s):=(!0)
abbrev iL:FI:=⟨"ways_from",top 20,["seen","sharing","first"]⟩
theorem bD:aK ["seen","sharing","first","ways","walked","wave","further","ahead","hand","number"] iL.ps (ak iL.s):=(!0)
abbrev bw:FI:=⟨"steps_by_new_views",top 21,["views","sharing","walked"]⟩
theorem bJ:aK ["views","sharing","walked","steps","hand","one_view"] bw.ps (ak bw.s):=(!0)
abbrev eA:FI:=⟨"weather_parts",top 23,["hands","road","rounds"]⟩
theorem nj:aK ["hands","road","rounds"] eA.ps (ak eA.s):=(!0)
abbrev cE:FI:=⟨"views_of_rows",top 24,["hands","road","rounds"]⟩
theorem jo:aK ["hands","road","rounds","start"] cE.ps (ak cE.s):=(!0)
abbrev cF:FI:=⟨"parts_by_came",top 25,["seen"]⟩
theorem nq:aK ["seen"] cF.ps (ak cF.s):=(!0)
abbrev fC:FI:=⟨"came_alone",top 26,["views"]⟩
theorem rE:aK ["views"] fC.ps (ak fC.s):=(!0)
abbrev fE:FI:=⟨"_law_cell_at",top 28,["_law_script","_law_k"]⟩
theorem oj:aK ["_law_script","_law_k"] fE.ps (ak fE.s):=(!0)
abbrev jS:FI:=⟨"_law_mix",top 29,["_law_cell","_law_k"]⟩
theorem eO:aK ["_law_cell","_law_k","_law_turn","_law_number"] jS.ps (ak jS.s):=(!0)
abbrev g8:FI:=⟨"_law_whole",top 30,["_law_found"]⟩
theorem rF:aK ["_law_found"] g8.ps (ak g8.s):=(!0)
abbrev g9:FI:=⟨"_law_pairs",top 31,["_law_hands"]⟩
theorem gc:aK ["_law_hands","_law_found","_law_start","_law_goal"] g9.ps (ak g9.s):=(!0)
abbrev fF:FI:=⟨"_law_weather",top 32,["_law_number","_law_hands"]⟩
theorem eD:aK ["_law_number","_law_hands","_law_lost","_law_pair"] fF.ps (ak fF.s):=(!0)
abbrev iM:FI:=⟨"_law_road",top 33,["_law_script","_law_hands","_law_many"]⟩
theorem dE:aK ["_law_script","_law_hands","_law_many","_law_road_here","_law_k","_law_drawn","_law_weather_here"] iM.ps (ak iM.s):=(!0)
abbrev dF:FI:=⟨"_law_road_case",top 34,["_law_script"]⟩
theorem cU:aK ["_law_script","_law_hands","_law_rounds","_law_road_here"] dF.ps (ak dF.s):=(!0)
abbrev iN:FI:=⟨"_law_rows",top 35,["_law_road_here","_law_rounds"]⟩
theorem cx:aK ["_law_road_here","_law_rounds","_law_rows_here","_law_k","_law_longer","_law_row","_law_weather_here"] iN.ps (ak iN.s):=(!0)
abbrev fG:FI:=⟨"_law_senders",top 36,["_law_hands","_law_weather_here","_law_hand"]⟩
theorem gM:aK ["_law_hands","_law_weather_here","_law_hand","_law_found","_law_other"] fG.ps (ak fG.s):=(!0)
abbrev gD:FI:=⟨"_law_view",top 37,["_law_run","_law_hand"]⟩
theorem aN:aK ["_law_run","_law_hand","_law_hands","_law_known","_law_k","_law_weather_here","_law_after","_law_other","_law_some","_law_start","_law_values","_law_came","_law_row"] gD.ps (ak gD.s):=(!0)
abbrev dG:FI:=⟨"_law_parts",top 38,["_law_many","_law_groups"]⟩
theorem bd:aK ["_law_many","_law_groups","_law_names","_law_busy","_law_seen","_law_group","_law_least","_law_number","_law_found","_law_name"] dG.ps (ak dG.s):=(!0)
abbrev cV:FI:=⟨"_law_came_parts",top 39,["_law_hands","_law_rows_here"]⟩
theorem bI:aK ["_law_hands","_law_rows_here","_law_groups","_law_number","_law_row","_law_hand"] cV.ps (ak cV.s):=(!0)
abbrev zJ:FI:=⟨"law",top 40,["_law_script"]⟩
theorem iW:aK ["_law_script","_law_hands","_law_road_here","_law_rounds","_law_due","_law_handed","_law_k","_law_found","_law_part","_law_number"] zJ.ps (ak zJ.s):=(!0)
structure Tx (K:Frag)(mg:Str->Option Value)(t:Nat):Prop where
 wx:Ex K mg iJ
 De:Ex K mg mn
 wy:Ex K mg iK
 Df:Ex K mg mq
 yx:Ex K mg iB
 A0:Ex K mg jn
 IW:Ex K mg qy
 om:Ex K mg cC
 oq:Ex K mg ee
 qz:Ex K mg du
 yy:Ex K mg iC
 qA:Ex K mg fz
 qB:Ex K mg fB
 wz:Ex K mg iL
 kr:Ex K mg bw
 ou:Ex K mg eA
 ow:Ex K mg cE
 oy:Ex K mg cF
 uG:Ex K mg fC
 qC:Ex K mg fE
 yz:Ex K mg jS
 uH:Ex K mg g8
 uI:Ex K mg g9
 qD:Ex K mg fF
 wA:Ex K mg iM
 nu:Ex K mg dF
 wB:Ex K mg iN
 qE:Ex K mg fG
 wC:Ex K mg gD
 uJ:Ex K mg dG
 mr:Ex K mg cV
 GS:Ex K mg zJ
 bool:mg "bool" =none
 dict:mg "dict" =none
 enumerate:mg "enumerate" =none
 int:mg "int" =none
 isinstance:mg "isinstance" =none
 len:mg "len" =none
 list:mg "list" =none
 min:mg "min" =none
 range:mg "range" =none
 reversed:mg "reversed" =none
 set:mg "set" =none
 sorted:mg "sorted" =none
 tuple:mg "tuple" =none
 wD:mg "MOST_RUNS" =some (.int 3000 t)
section
variable {P:Program}{w:World}{K:Frag}{mg:Str->Option Value}{base:Heap}{t:Nat}
seal DS ze DE DA DT DW DI
theorem wF (T:Tx K mg t):Gx P w K mg base 1 jS (ju K 2 fP):=lB (fb:=jK) 0 4 2 rfl rfl T.yz eO λ_ _ _ _ _ _ _ hr bn=>
 (ae (gx (bu (IG) (af 0) (ba (zh) aB aB) (cY _))
 (ae (aD (i:=0) eO.nd rfl (!4) (ba (t0) (ba (gp) (af 0) (ba (zh) aB aB)) aB))
 (ae (bp PassesOwn.never rfl (dg (by rfl) T.range (ba (dz) (af 1) aB)) (cP (i:=2) eO.nd rfl (!4))
 (aj (aD (i:=0) eO.nd rfl (!4) (ba (gp) (af 0) aB))))
 (aj (aX (ba (dz) (af 0) aB)))))
 bQ)
 (ae (aD (i:=3) eO.nd rfl (!4) (ba (dz) (ba (jD) (ba (gT) (ba (gT) (ba (dz) (af 0) aB) (ba (jD) (ba (jD) (af 1) (af 1)) aB)) (af 1)) aB) aB))
 (ae (aD (i:=3) eO.nd rfl (!4) (ba (dz) (ba (jD) (af 3) (af 3)) aB))
 (aj (aX (ba (gp) (ba (dz) (ba (jD) (af 3) (ba (gT) (af 3) aB)) aB) aB))))))
theorem rG (T:Tx K mg t):Gx P w K mg base 1 g9 (ju K 1 jL):=lB (fb:=mi) 0 4 1 rfl rfl T.uI gc λ_ _ _ _ _ _ _ hr bn=>
 (ae (aD (i:=1) gc.nd rfl (!4) (bL am))
 (ae (bp PassesOwn.never rfl (dg (by rfl) T.range (af 0)) (cP (i:=2) gc.nd rfl (!4))
 (aj (bp PassesOwn.never rfl (dg (by rfl) T.range (af 0)) (cP (i:=3) gc.nd rfl (!4))
 (aj (gx (bu (tY bn) (af 2) (af 3) (cY _))
 (aj (eY (i:=1) (pv 1) (ci (ab (af 2) (ab (af 3) am ai) ai))))
 bQ)))))
 (aj (aX (af 1)))))
theorem oz (T:Tx K mg t):Gx P w K mg base 2 fF (ju K 2 di):=lB (fb:=il) 1 4 2 rfl rfl T.qD eD λ_ _ _ _ _ _ _ hr bn=>
 (ae (aD (i:=2) eD.nd rfl (!4) (bL am))
 (ae (bp PassesOwn.never rfl (ll (aF (rG T) hr (ab (af 1) am ai))) (cP (i:=3) eD.nd rfl (!4))
 (ae (gx (bu (m6 bn) (ba (dz) (af 0) aB) aB (cY _))
 (aj (eY (i:=2) (pv 2) (af 3)))
 bQ)
 (aj (aD (i:=0) eD.nd rfl (!4) (ba (gp) (af 0) aB)))))
 (aj (aX (bN bR (by rfl) T.tuple PyProof.Rows.boot_tuple (ab (af 2) am ai))))))
theorem eE (T:Tx K mg t):Gx P w K mg base 1 fE (ju K 2 bb):=lB (fb:=fc) 0 2 2 rfl rfl T.qC oj λ_ _ _ _ _ _ _ hr bn=>
 (ae (gx (bu (BQ) (af 1) (cj ck (by rfl) T.len PySem.boot_len (ab (af 0) am ai)) (cY _))
 (aj (aX (cO oY (af 0) (af 1) (λ_ _=>rfl))))
 bQ)
 (aj (aX aB)))
theorem uK (T:Tx K mg t):Gx P w K mg base 3 iM (ju K 3 kh):=lB (fb:=kg) 2 7 3 rfl rfl T.wA dE λ_ _ _ _ _ _ _ hr bn=>
 (ae (aD (i:=3) dE.nd rfl (!4) (bL am))
 (ae (gx (bu (m6 bn) (ba (dz) (aF (eE T) hr (ab (af 0) (ab aB am e_) ai)) aB) aB (cY _))
 (aj (eY (i:=3) (pv 3) (ci am)))
 bQ)
 (ae (bp PassesOwn.never rfl (dg (by rfl) T.range (af 2)) (cP (i:=4) dE.nd rfl (!4))
 (ae (aD (i:=5) dE.nd rfl (!4) (aF (wF T) hr (ab (aF (eE T) hr (ab (af 0) (ab (ba (gT) aB (af 4)) am) ai)) (ab (ba (gT) aB (af 4)) am))))
 (ae (aD (i:=6) dE.nd rfl (!4) (aF (oz T) hr (ab (af 5) (ab (af 1) am ai) ai)))
 (ae (gx (bu (m6 bn) (ba (dz) (ba (gp) (af 5) aB) aB) aB (cY _))
 (aj (aD (i:=6) dE.nd rfl (!4) (Ll (af 6) B9 (B_ aB))))
 bQ)
 (aj (gx (DW.dt (xX (bu (kE bn) (af 6) (af 3) (by rfl)) (t5 (bu (BQ) (cj ck (by rfl) T.len PySem.boot_len (ab (af 3) am ai)) (af 2) (cY _)))))
 (aj (eY (i:=3) (pv 3) (af 6)))
 bQ))))))
 (aj (aX (af 3))))))
theorem mw (T:Tx K mg t):Gx P w K mg base 4 dF (ju K 1 bt):=lB (fb:=fQ) 3 4 1 rfl rfl T.nu cU λ_ _ _ _ _ _ _ hr bn=>
 (ae (aD (i:=1) cU.nd rfl (!4) (ba (gT) aB (ba (dz) (aF (eE T) hr (ab (af 0) (ab aB am e_) ai)) aB)))
 (ae (aD (i:=2) cU.nd rfl (!4) (ba (dz) (ba (gp) (aF (eE T) hr (ab (af 0) (ab aB am e_) ai)) aB) (cO oY (bL (ab aB (ab aB (ab aB am e_) e_) e_)) (ba (t0) (af 1) aB) (λ_ _=>rfl))))
 (ae (aD (i:=3) cU.nd rfl (!4) (aF (uK T) hr (ab (af 0) (ab (af 1) (ab (cO oY (bL (ab aB (ab aB (ab aB am e_) e_) e_)) (ba (t0) (af 1) aB) (λ_ _=>rfl)) am qe) ai) ai)))
 (aj (aX (ci (ab (af 1) (ab (af 3) (ab (af 2) am ai) ai) ai)))))))
theorem rH (T:Tx K mg t):Gx P w K mg base 1 dG (ju K 2 gX):=lB (fb:=jM) 0 10 2 rfl rfl T.uJ bd λ_ _ _ _ _ _ _ hr bn=>
 (ae (aD (i:=2) bd.nd rfl (Or.inr rfl) (Cr rfl (by rfl) T.list (by rfl) T.range (af 0)))
 (ae (aD (i:=3) bd.nd rfl (!4) lS)
 (ae (vH vq PassesOwn.never (t3 (af 3))
 (ae (aD (i:=3) bd.nd rfl (!4) lS)
 (aj (bp PassesOwn.never rfl (Cz (af 1)) (pH (is:=[4,5]) rfl (bh (bm (i:=4) bd.nd rfl (!4)) (bh (bm (i:=5) bd.nd rfl (!4)) gP)))
 (ae (aD (i:=6) bd.nd rfl (!4) (cj (yb rfl) (by rfl) T.min PyProof.Rows.boot_min (ab (dQ rfl (F:=["_law_names"]) (ix:=[2]) (oK (ak dG.s) (!5)) (ll (af 5)) (λ_ _ _ _ _=>eZ) (λ_ _ _ _ _=>(cO oY (af 1) (af 0) (λ_ _=>rfl)))) am)))
 (aj (bp PassesOwn.never rfl (ll (af 5)) (cP (i:=7) bd.nd rfl (!4))
 (aj (gx (bu (xV) (cO oY (af 2) (af 7) (λ_ _=>rfl)) (af 6) (cY _))
 (ae (ub (i:=2) (pv 2) (af 7) (af 6))
 (aj (aD (i:=3) bd.nd rfl (!4) lS)))
 bQ)))))))))
 (ae (aD (i:=8) bd.nd rfl (!4) (bL am))
 (ae (bp PassesOwn.never rfl (dg (by rfl) T.range (af 0)) (cP (i:=9) bd.nd rfl (Or.inr rfl))
 (aj (gx (bu (m6 bn) (cO oY (af 2) (af 9) (λ_ _=>rfl)) (af 9) (cY _))
 (aj (eY (i:=8) (pv 8) (dQ rfl (F:=["_law_name","_law_names"]) (ix:=[9,2]) (oK (ak dG.s) (!5)) (dg (by rfl) T.range (af 0)) (λ_ _ _ _ _=>(zl (bu (m6 bn) (cO oY (af 2) (af 0) (λ_ _=>rfl)) (af 1) (cY _)))) (λ_ _ _ _ _=>(af 0)))))
 bQ)))
 (aj (aX (af 8))))))))
theorem jX (T:Tx K mg t):Gx P w K mg base 1 fG (ju K 3 dq):=lB (fb:=iu) 0 5 3 rfl rfl T.qE gM λ_ _ _ _ _ _ _ hr bn=>
 (ae (aD (i:=3) gM.nd rfl (!4) (bL am))
 (ae (bp PassesOwn.never rfl (dg (by rfl) T.range (af 0)) (cP (i:=4) gM.nd rfl (!4))
 (aj (gx (DW.dt (xX (bu (tY bn) (af 4) (af 2) (cY _)) (t5 (bu (kE bn) (ci (ab (af 4) (ab (af 2) am ai) ai)) (af 1) (by rfl)))))
 (aj (eY (i:=3) (pv 3) (af 4)))
 bQ)))
 (aj (aX (bN bR (by rfl) T.tuple PyProof.Rows.boot_tuple (ab (af 3) am ai))))))
theorem uL (T:Tx K mg t):Gx P w K mg base 2 gD (ju K 2 gz):=lB (fb:=ki) 1 13 2 rfl rfl T.wC aN λ_ _ _ _ _ _ _ hr bn=>
 (ae (aD (i:=2) aN.nd rfl (!4) (cj ck (by rfl) T.len PySem.boot_len (ab (cO oY (af 0) aB (λ_ _=>rfl)) am qe)))
 (ae (n6 (i:=3) aN.nd rfl (!4) rfl (F:=[]) (ix:=[]) (oK (ak gD.s) (!5)) (dg (by rfl) T.range (af 2)) (λ_ _ _ _ _=>eZ) (λ_ _ _ _ _=>(zw bn (ci (ab (af 0) (ab aB am e_) ai)) lS)) (by rfl))
 (ae (bp PassesOwn.never rfl (zB (by rfl) T.enumerate (cO oY (af 0) aB (λ_ _=>rfl))) (pH (is:=[4,5]) rfl (bh (bm (i:=4) aN.nd rfl (!4)) (bh (bm (i:=5) aN.nd rfl (!4)) gP)))
 (ae (aD (i:=6) aN.nd rfl (!4) (bL am))
 (ae (bp PassesOwn.never rfl (dg (by rfl) T.range (af 2)) (cP (i:=7) aN.nd rfl (!4))
 (ae (aD (i:=8) aN.nd rfl (!4) (bN x8 (by rfl) T.dict PyProof.Rows.boot_dict (ab (cO oY (af 3) (af 7) (λ_ _=>rfl)) am qe)))
 (ae (bp PassesOwn.never rfl (ll (aF (jX T) hr (ab (af 2) (ab (af 5) (ab (af 7) am ai) ai) ai))) (cP (i:=9) aN.nd rfl (!4))
 (aj (Cj bn (i:=8) (pv 8) (cO oY (af 3) (af 9) (λ_ _=>rfl)))))
 (ae (zv bn (i:=8) (pv 8) (ci (ab (af 7) (ab (ba (gT) (af 4) aB) am) ai)) lS)
 (aj (eY (i:=6) (pv 6) (af 8)))))))
 (aj (t6 (i:=3) (j:=6) aN.nd rfl (!4) (pv 6))))))
 (ae (aD (i:=10) aN.nd rfl (!4) (B5 (bL (ab m5 am e_)) (af 2)))
 (ae (aD (i:=11) aN.nd rfl (!4) (bL am))
 (ae (bp PassesOwn.never rfl (dg (by rfl) T.range (af 2)) (cP (i:=7) aN.nd rfl (!4))
 (aj (gx (bu (zt bn) (ci (ab (af 7) (ab aB am e_) ai)) (cO oY (af 3) (af 1) (λ_ _=>rfl)) (by rfl))
 (aj (ub (i:=10) (pv 10) (af 7) (cO oY (cO oY (af 0) aB (λ_ _=>rfl)) (af 7) (λ_ _=>rfl))))
 bQ)))
 (ae (bp PassesOwn.never rfl (zB (by rfl) T.enumerate (cO oY (af 0) aB (λ_ _=>rfl))) (pH (is:=[4,5]) rfl (bh (bm (i:=4) aN.nd rfl (!4)) (bh (bm (i:=5) aN.nd rfl (!4)) gP)))
 (ae (aD (i:=12) aN.nd rfl (!4) (B5 (bL (ab m5 am e_)) (af 2)))
 (ae (bp PassesOwn.never rfl (dg (by rfl) T.range (af 2)) (cP (i:=7) aN.nd rfl (!4))
 (aj (gx (bu (zt bn) (ci (ab (af 7) (ab (ba (gT) (af 4) aB) am) ai)) (cO oY (af 3) (af 1) (λ_ _=>rfl)) (by rfl))
 (aj (ub (i:=12) (pv 12) (af 7) (aF (jX T) hr (ab (af 2) (ab (af 5) (ab (af 7) am ai) ai) ai))))
 bQ)))
 (aj (eY (i:=11) (pv 11) (bN bR (by rfl) T.tuple PyProof.Rows.boot_tuple (ab (af 12) am ai)))))))
 (aj (aX (ci (ab (af 1) (ab (bN bR (by rfl) T.tuple PyProof.Rows.boot_tuple (ab (af 10) am ai)) (ab (bN bR (by rfl) T.tuple PyProof.Rows.boot_tuple (ab (af 11) am ai)) am)) ai)))))))))))
theorem lF (T:Tx K mg t):Gx P w K mg base 3 cV (ju K 2 bV):=lB (fb:=fq) 2 6 2 rfl rfl T.mr bI λ_ _ _ _ _ _ _ hr bn=>
 (ae (aD (i:=2) bI.nd rfl (!4) o0)
 (ae (bp PassesOwn.never rfl (p6 (by rfl) T.enumerate (af 1)) (pH (is:=[3,4]) rfl (bh (bm (i:=3) bI.nd rfl (!4)) (bh (bm (i:=4) bI.nd rfl (!4)) gP)))
 (aj (bp PassesOwn.never rfl (dg (by rfl) T.range (af 0)) (cP (i:=5) bI.nd rfl (!4))
 (aj (GD bn (i:=2) (j:=3) (pv 2) (ci (ab (af 5) (ab (cO oY (aF (uL T) hr (ab (ci (ab (ba (C8) (ci (ab aB am e_)) (af 0)) (ab (af 4) am ai))) (ab (af 5) am ai) CS)) aB (λ_ _=>rfl)) am qe) ai)) (pv 3))))))
 (aj (aX (aF (rH T) hr (ab (cj ck (by rfl) T.len PySem.boot_len (ab (af 1) am ai)) (ab (af 2) am ai)))))))
theorem uM (T:Tx K mg t):Gx P w K mg base 1 iN (ju K 2 gA):=lB (fb:=kj) 0 7 2 rfl rfl T.wB cx λ_ _ _ _ _ _ _ hr bn=>
 (ae (aD (i:=2) cx.nd rfl (!4) (bL (ab (ci am) am CS)))
 (ae (bp PassesOwn.never rfl (dg (by rfl) T.range (af 1)) (cP (i:=3) cx.nd rfl (!4))
 (ae (aD (i:=4) cx.nd rfl (!4) (bL am))
 (ae (bp PassesOwn.never rfl (ll (af 2)) (cP (i:=5) cx.nd rfl (!4))
 (aj (bp PassesOwn.never rfl (ll (af 0)) (cP (i:=6) cx.nd rfl (!4))
 (aj (eY (i:=4) (pv 4) (ba (gT) (af 5) (ci (ab (af 6) am ai))))))))
 (aj (t6 (i:=2) (j:=4) cx.nd rfl (!4) (pv 4))))))
 (aj (aX (af 2)))))
theorem oA (T:Tx K mg t):Gx P w K mg base 1 fz (ju K 1 fu):=lB (fb:=iy) 0 5 1 rfl rfl T.qA cD λ_ _ _ _ _ _ _ hr bn=>
 (ae (aD (i:=1) cD.nd rfl (!4) o0)
 (ae (bp PassesOwn.never rfl (p6 (by rfl) T.enumerate (af 0)) (pH (is:=[2,3]) rfl (bh (bm (i:=2) cD.nd rfl (!4)) (bh (bm (i:=3) cD.nd rfl (!4)) gP)))
 (aj (bp PassesOwn.never rfl (ll (af 3)) (cP (i:=4) cD.nd rfl (!4))
 (aj (GD bn (i:=1) (j:=2) (pv 1) (af 4) (pv 2))))))
 (aj (aX (af 1)))))
theorem j1 (T:Tx K mg t):Gx P w K mg base 1 bw (Iv K 2 bX):=by
 obtain⟨f,d,x⟩:=T.kr
 refine⟨f,d,x,Nr (fb:=bW) 0 6 2 3 rfl rfl x.F bJ (by decide) (by decide) λcdv A outer s H E aa hr=> ?_⟩
 have bn:=hr.zf
 exact(v4 (Iq (i:=3) bJ.nd rfl (!4) (bL am))
 (v4 (Ir PassesOwn.never rfl (p6 (by rfl) T.enumerate (af 0)) (Lx (is:=[4,5]) rfl (bh (bm (i:=4) bJ.nd rfl (Or.inr rfl)) (bh (bm (i:=5) bJ.nd rfl (!4)) gP)))
 (zy (Lw (bu (lr bn) (af 5) (af 2) (by rfl))
 (Co (EZ bn (i:=2) (pv 2) (af 5) lS)
 (zy (Iu (i:=3) (pv 3) (dQ rfl (F:=["hand"]) (ix:=[4]) (oK (ak bw.s) (!5)) (ll (cO (Nj bn) (af 1) (af 5) (λ_ _=>rfl))) (λ_ _ _ _ _=>eZ) (λ_ _ _ _ _=>(ci (ab (af 1) (ab (af 0) am ai) ai)))))))
 EY)))
 (Cp (pv 3))))
theorem uN (T:Tx K mg t):Gx P w K mg base 2 iL (ju K 3 km):=by
 obtain⟨fW,dW,xW,gW⟩:=j1 (P:=P) (w:=w) (base:=base) T
 refine lB (fb:=kl) 1 10 3 rfl rfl T.wz bD λ_ _ _ _ _ _ _ hr bn=> ?_
 exact(ae (aD (i:=3) bD.nd rfl (!4) (zw bn (af 2) m5))
 (ae (aD (i:=4) bD.nd rfl (!4) o0)
 (ae (aD (i:=5) bD.nd rfl (!4) (bL (ab (af 2) am ai)))
 (ae (vH vq PassesOwn.never (bu (xV) (cj ck (by rfl) T.len PySem.boot_len (ab (af 5) am ai)) aB (cY _))
 (ae (aD (i:=6) bD.nd rfl (!4) (bL am))
 (ae (bp PassesOwn.never rfl (ll (af 5)) (cP (i:=7) bD.nd rfl (!4))
 (aj (E1 (iw:=4) PassesOwn.never rfl gW (hr.mono (by decide)) (by rfl) xW.m xW.F.kp xW.b (E:=E0) Gw (cO oY (af 0) (af 7) (λ_ _=>rfl)) (af 1) (pv 4) (pH (is:=[8,9]) rfl (bh (bm (i:=8) bD.nd rfl (!4)) (bh (bm (i:=9) bD.nd rfl (!4)) gP)))
 (aj (gx (bu (lr bn) (af 9) (af 3) (by rfl))
 (ae (zv bn (i:=3) (pv 3) (af 9) (ci (ab (af 8) (ab (af 7) am ai) ai)))
 (aj (eY (i:=6) (pv 6) (af 9))))
 bQ)))))
 (aj (t6 (i:=5) (j:=6) bD.nd rfl (!4) (pv 6))))))
 (aj (aX (af 3)))))))
theorem oB (T:Tx K mg t):Gx P w K mg base 3 fB (ju K 1 fw):=lB (fb:=iz) 2 6 1 rfl rfl T.qB bO λ_ _ _ _ _ _ _ hr bn=>
 (ae (aD (i:=1) bO.nd rfl (!4) (aF (oA T) hr (ab (af 0) am ai)))
 (ae (aD (i:=2) bO.nd rfl (!4) o0)
 (ae (aD (i:=3) bO.nd rfl (!4) (bL am))
 (ae (bp PassesOwn.never rfl (dg (by rfl) T.range (cj ck (by rfl) T.len PySem.boot_len (ab (af 0) am ai))) (cP (i:=4) bO.nd rfl (!4))
 (aj (gx (bu (lr bn) (af 4) (af 2) (by rfl))
 (ae (aD (i:=5) bO.nd rfl (!4) (aF (uN T) hr (ab (af 0) (ab (af 1) (ab (af 4) am ai) ai) ai)))
 (ae (Cj bn (i:=2) (pv 2) (af 5))
 (aj (eY (i:=3) (pv 3) (cj (wg rfl) (by rfl) T.sorted PyProof.Rows.boot_sorted (ab (af 5) am ai))))))
 bQ)))
 (aj (aX (af 3)))))))
theorem rJ (T:Tx K mg t):Gx P w K mg base 1 fC (ju K 1 gY):=lB (fb:=jN) 0 1 1 rfl rfl T.uG rE λ_ _ _ _ _ _ _ hr bn=>
 (aj (aX (C7 rfl (F:=[]) (ix:=[]) (oK (ak fC.s) (!5)) (ll (af 0)) (λ_ _ _ _ _=>eZ) (λ_ _ _ _ _=>(ci (ab (af 0) (ab (af 2) am ai) ai))))))
theorem ny (T:Tx K mg t):Gx P w K mg base 4 cF (ju K 1 gG):=lB (fb:=jW) 3 1 1 rfl rfl T.oy nq λ_ _ _ _ _ _ _ hr bn=>
 (aj (aX (aF (oB T) hr (ab (dQ rfl (F:=[]) (ix:=[]) (oK (ak cF.s) (!5)) (ll (af 0)) (λ_ _ _ _ _=>eZ) (λ_ _ _ _ _=>(aF (rJ T) hr (ab (af 0) am ai)))) am))))
theorem yA (T:Tx K mg t):Gx P w K mg base 1 jn (ju K 3 kO):=lB (fb:=nh) 0 3 3 rfl rfl T.A0 yw λ_ _ _ _ _ _ _ hr bn=>
 (aj (aX (bN bR (by rfl) T.tuple PyProof.Rows.boot_tuple (ab (dQ rfl (F:=["hand","weather"]) (ix:=[2,1]) (oK (ak jn.s) (!5)) (dg (by rfl) T.range (af 0)) (λ_ _ _ _ _=>(zl (DW.dt (xX (bu (tY bn) (af 0) (af 1) (cY _)) (t5 (bu (kE bn) (ci (ab (af 0) (ab (af 1) am ai) ai)) (af 2) (by rfl))))))) (λ_ _ _ _ _=>(af 0))) am))))
theorem nA (T:Tx K mg t):Gx P w K mg base 2 cC (ju K 3 dZ):=lB (fb:=gH) 1 3 3 rfl rfl T.om ni λ_ _ _ _ _ _ _ hr bn=>
 (aj (aX (bN bR (by rfl) T.tuple PyProof.Rows.boot_tuple (ab (dQ rfl (F:=["heard","hands","weather"]) (ix:=[2,0,1]) (oK (ak cC.s) (!5)) (dg (by rfl) T.range (af 0)) (λ_ _ _ _ _=>eZ) (λ_ _ _ _ _=>(Gz (bu (xU bn) (af 0) (af 1) (by rfl)) (aF (yA T) hr (ab (af 2) (ab (af 3) (ab (af 0) am ai) ai) ai)) m5))) am))))
theorem nB (T:Tx K mg t):Gx P w K mg base 1 ee (ju K 2 d_):=lB (fb:=gI) 0 4 2 rfl rfl T.oq fU λ_ _ _ _ _ _ _ hr bn=>
 (ae (aD (i:=2) fU.nd rfl (!4) (bN pI (by rfl) T.list PyProof.Rows.boot_list (ab (af 0) am ai)))
 (ae (bp PassesOwn.never rfl (ll (af 1)) (cP (i:=3) fU.nd rfl (!4))
 (aj (gx (bu (An) (af 3) m5 (cY _))
 (aj (Ib (i:=2) (pv 2) (af 3)))
 bQ)))
 (aj (aX (yk rfl (by rfl) T.sorted (by rfl) T.set (af 2))))))
theorem FO (T:Tx K mg t):Gx P w K mg base 3 qy (ju K 2 qu):=lB (fb:=yv) 2 9 2 rfl rfl T.IW g7 λ_ _ _ _ _ _ _ hr bn=>
 (ae (aD (i:=2) g7.nd rfl (Or.inr rfl) (cO oY (af 0) aB (λ_ _=>rfl)))
 (ae (aD (i:=3) g7.nd rfl (!4) (cj ck (by rfl) T.len PySem.boot_len (ab (af 2) am ai)))
 (ae (aD (i:=4) g7.nd rfl (Or.inr rfl) (bL (ab (af 1) am ai)))
 (ae (aD (i:=5) g7.nd rfl (!4) (bL am))
 (ae (bp PassesOwn.never rfl (Ie rfl (by rfl) T.reversed (cO oY (af 0) aB (λ_ _=>rfl))) (cP (i:=6) g7.nd rfl (!4))
 (ae (aD (i:=7) g7.nd rfl (!4) (aF (nA T) hr (ab (af 3) (ab (af 6) (ab (af 4) am ai) ai) ai)))
 (ae (eY (i:=5) (pv 5) (af 7))
 (aj (aD (i:=4) g7.nd rfl (Or.inr rfl) (aF (nB T) hr (ab (af 4) (ab (af 7) am ai) ai)))))))
 (ae (n6 (i:=8) g7.nd rfl (!4) rfl (F:=["heard","values"]) (ix:=[4,2]) (oK (ak qy.s) (!5)) (dg (by rfl) T.range (af 3)) (λ_ _ _ _ _=>eZ) (λ_ _ _ _ _=>(Gz (bu (xU bn) (af 0) (af 1) (by rfl)) (cO oY (af 2) (af 0) (λ_ _=>rfl)) m5)) (by rfl))
 (aj (aX (ci (ab (af 1) (ab (bN bR (by rfl) T.tuple PyProof.Rows.boot_tuple (ab (af 8) am ai)) (ab (sg rfl (by rfl) T.tuple (by rfl) T.reversed (af 5)) am)) ai))))))))))
theorem wG (T:Tx K mg t):Gx P w K mg base 4 iC (ju K 2 jP):=lB (fb:=lC) 3 2 2 rfl rfl T.yy wv λ_ _ _ _ _ _ _ hr bn=>
 (aj (aX (dQ rfl (F:=["run"]) (ix:=[1]) (oK (ak iC.s) (!5)) (dg (by rfl) T.range (af 0)) (λ_ _ _ _ _=>eZ) (λ_ _ _ _ _=>(aF (FO T) hr (ab (af 1) (ab (af 0) am ai) ai))))))
theorem oC (T:Tx K mg t):Gx P w K mg base 5 du (ju K 2 fy):=lB (fb:=iA) 4 2 2 rfl rfl T.qz oh λ_ _ _ _ _ _ _ hr bn=>
 (aj (aX (dQ rfl (F:=["hands"]) (ix:=[0]) (oK (ak du.s) (!5)) (ll (af 1)) (λ_ _ _ _ _=>eZ) (λ_ _ _ _ _=>(aF (wG T) hr (ab (af 1) (ab (af 0) am ai) ai))))))
theorem mx (T:Tx K mg t):Gx P w K mg base 1 iJ (ju K 2 gB):=lB (fb:=ko) 0 4 2 rfl rfl T.wx g6 λ_ _ _ _ _ _ _ hr bn=>
 (ae (aD (i:=2) g6.nd rfl (!4) aB)
 (ae (bp PassesOwn.never rfl (dg (by rfl) T.range (af 1)) (cP (i:=3) g6.nd rfl (!4))
 (aj (aD (i:=2) g6.nd rfl (!4) (ba (jD) (af 2) (cj ck (by rfl) T.len PySem.boot_len (ab (af 0) am ai))))))
 (aj (aX (af 2)))))
theorem uO (T:Tx K mg t):Gx P w K mg base 2 iK (ju K 3 gC):=lB (fb:=kq) 1 3 3 rfl rfl T.wy uF λ_ _ _ _ _ _ _ hr bn=>
 (aj (aX (ba (jD) (cj ck (by rfl) T.len PySem.boot_len (ab (af 2) am ai)) (aF (mx T) hr (ab (af 0) (ab (af 1) am ai) ai)))))
theorem A1 (T:Tx K mg t):Gx P w K mg base 1 mn (ju K 3 ml):=lB (fb:=qv) 0 6 3 rfl rfl T.De jm λ_ _ _ _ _ _ _ hr bn=>
 (ae (aD (i:=3) jm.nd rfl (!4) (bL am))
 (ae (t6 (i:=4) (j:=2) jm.nd rfl (!4) (pv 2))
 (ae (bp PassesOwn.never rfl (dg (by rfl) T.range (af 1)) (cP (i:=5) jm.nd rfl (!4))
 (ae (eY (i:=3) (pv 3) (cO oY (af 0) (ba (dz) (af 4) (cj ck (by rfl) T.len PySem.boot_len (ab (af 0) am ai))) (λ_ _=>rfl)))
 (aj (aD (i:=4) jm.nd rfl (!4) (ba (gp) (af 4) (cj ck (by rfl) T.len PySem.boot_len (ab (af 0) am ai)))))))
 (aj (aX (sg rfl (by rfl) T.tuple (by rfl) T.reversed (af 3)))))))
theorem A2 (T:Tx K mg t):Gx P w K mg base 2 mq (ju K 4 mm):=lB (fb:=qw) 1 5 4 rfl rfl T.Df sN λ_ _ _ _ _ _ _ hr bn=>
 (ae (aD (i:=4) sN.nd rfl (!4) (aF (mx T) hr (ab (af 0) (ab (af 1) am ai) ai)))
 (aj (aX (ci (ab (cO oY (af 2) (ba (gp) (af 3) (af 4)) (λ_ _=>rfl)) (ab (aF (A1 T) hr (ab (af 0) (ab (af 1) (ab (ba (dz) (af 3) (af 4)) am) ai) ai)) am) qe)))))
theorem wH (T:Tx K mg t):Gx P w K mg base 3 iB (ju K 3 jQ):=lB (fb:=lE) 2 4 3 rfl rfl T.yx n8 λ_ _ _ _ _ _ _ hr bn=>
 (ae (aD (i:=3) n8.nd rfl (!4) (aF (uO T) hr (ab (af 0) (ab (af 1) (ab (af 2) am ai) ai) ai)))
 (ae (gx (bu (xV) (af 3) (EH (Ed (v:=.int 3000) (by rfl) T.wD ⟨_,rfl⟩) rfl λ_=>bC) (cY _))
 (aj B7)
 bQ)
 (aj (aX (dQ rfl (F:=["road","rounds","starts"]) (ix:=[0,1,2]) (oK (ak iB.s) (!5)) (dg (by rfl) T.range (af 3)) (λ_ _ _ _ _=>eZ) (λ_ _ _ _ _=>(aF (A2 T) hr (ab (af 1) (ab (af 2) (ab (af 3) (ab (af 0) am ai) ai) ai) ai))))))))
theorem nC (T:Tx K mg t):Gx P w K mg base 6 cE (ju K 3 gK):=lB (fb:=gJ) 5 4 3 rfl rfl T.ow jo λ_ _ _ _ _ _ _ hr bn=>
 (ae (aD (i:=3) jo.nd rfl (!4) (bN bR (by rfl) T.tuple PyProof.Rows.boot_tuple (ab (dQ rfl (F:=[]) (ix:=[]) (oK (ak cE.s) (!5)) (dg (by rfl) T.range (af 0)) (λ_ _ _ _ _=>eZ) (λ_ _ _ _ _=>aB)) am)))
 (aj (aX (aF (oC T) hr (ab (af 0) (ab (aF (wH T) hr (ab (af 1) (ab (af 2) (ab (bL (ab (af 3) am ai)) am IJ) ai) ai)) am) ai)))))
theorem nD (T:Tx K mg t):Gx P w K mg base 7 eA (ju K 3 cB):=lB (fb:=gL) 6 3 3 rfl rfl T.ou nj λ_ _ _ _ _ _ _ hr bn=>
 (aj (aX (aF (ny T) hr (ab (aF (nC T) hr (ab (af 0) (ab (af 1) (ab (af 2) am ai) ai) ai)) am))))
theorem rK (T:Tx K mg t):Gx P w K mg base 1 g8 (ju K 1 b9):=lB (fb:=jR) 0 1 1 rfl rfl T.uH rF λ_ _ _ _ _ _ _ hr bn=>
 (aj (aX (HZ (t_ (by decide) (by rfl) T.isinstance (af 0) (oR (v:=.ty "int") (by rfl) T.int PyProof.Rows.boot_int rfl)) (HY (H_ (t_ (by decide) (by rfl) T.isinstance (af 0) (oR (v:=.ty "bool") (by rfl) T.bool PyProof.Rows.boot_bool rfl)))))))
theorem IX (T:Tx K mg t):Gx P w K mg base 8 zJ (ju K 1 qx):=lB (fb:=Dd) 7 10 1 rfl rfl T.GS iW λ_ _ _ _ _ _ _ hr bn=>
 (ae (Ia (aF (mw T) hr (ab (af 0) am ai)) (pH (is:=[1,2,3]) rfl (bh (bm (i:=1) iW.nd rfl (!4)) (bh (bm (i:=2) iW.nd rfl (!4)) (bh (bm (i:=3) iW.nd rfl (!4)) gP)))))
 (ae (aD (i:=4) iW.nd rfl (!4) (aF (lF T) hr (ab (af 1) (ab (aF (uM T) hr (ab (af 2) (ab (af 3) am ai) ai)) am) ai)))
 (ae (aD (i:=5) iW.nd rfl (!4) (bN pI (by rfl) T.list PyProof.Rows.boot_list (ab (af 2) am ai)))
 (ae (bp PassesOwn.never rfl (dg (by rfl) T.range aB) (cP (i:=6) iW.nd rfl (!4))
 (ae (aD (i:=7) iW.nd rfl (!4) (aF (nD T) hr (ab (af 1) (ab (af 5) (ab (af 3) am ai) ai) ai)))
 (ae (gx (DW.dt (Lf (xY (t3 (t_ (by decide) (by rfl) T.isinstance (af 7) (oR (v:=.ty "list") (by rfl) T.list PyProof.Rows.boot_list rfl)))) (HX (bu (tY bn) (af 7) (af 4) (cY _)))))
 (aj (aX lS))
 bQ)
 (ae (Dc (C_ PassesOwn.never rfl (ll (af 7)) (bm (i:=8) iW.nd rfl (!4))
 (FL (GR (xY (t3 (t_ (by decide) (by rfl) T.isinstance (af 8) (oR (v:=.ty "list") (by rfl) T.list PyProof.Rows.boot_list rfl))))
 (aj (aX lS)))
 (C9 (C_ PassesOwn.never rfl (ll (af 8)) (bm (i:=9) iW.nd rfl (!4))
 (C9 (GR (xY (t3 (aF (rK T) hr (ab (af 9) am ai))))
 (aj (aX lS)))))))))
 (ae (CZ (n:=7) (pv 7) aB (λ_ _=>rfl))
 (aj (eY (i:=7) (pv 7) (bL am))))))))
 (aj (aX (HW (m6 bn) (af 5) (af 2) (cY _))))))))
end
theorem all_mk {l:OpenLaw}{w:World}{K:Frag}{h:Heap}{mg:Str->Option Value}{fa:Addr}{t:Nat}(X:K.In h)(G:h.Ns mainGlobals mg)(hfa:mg "law" =some (.ref fa))
  (wI:FX K "many_rows" (top 5))
  (Dg:FX K "row_at" (top 6))
  (wJ:FX K "many_runs" (top 7))
  (Dh:FX K "run_at" (top 8))
  (yB:FX K "all_runs" (top 9))
  (A3:FX K "came_to" (top 11))
  (IY:FX K "view" (top 12))
  (oD:FX K "came_to_heard" (top 13))
  (oF:FX K "heard_earlier" (top 14))
  (qF:FX K "views_of_all" (top 16))
  (yC:FX K "views_in" (top 17))
  (qG:FX K "runs_by_view" (top 18))
  (qH:FX K "joined_parts" (top 19))
  (wK:FX K "ways_from" (top 20))
  (kt:FX K "steps_by_new_views" (top 21))
  (oG:FX K "weather_parts" (top 23))
  (oH:FX K "views_of_rows" (top 24))
  (oJ:FX K "parts_by_came" (top 25))
  (uP:FX K "came_alone" (top 26))
  (qJ:FX K "_law_cell_at" (top 28))
  (yD:FX K "_law_mix" (top 29))
  (uQ:FX K "_law_whole" (top 30))
  (uR:FX K "_law_pairs" (top 31))
  (qK:FX K "_law_weather" (top 32))
  (wL:FX K "_law_road" (top 33))
  (nE:FX K "_law_road_case" (top 34))
  (wM:FX K "_law_rows" (top 35))
  (qL:FX K "_law_senders" (top 36))
  (wN:FX K "_law_view" (top 37))
  (uS:FX K "_law_parts" (top 38))
  (my:FX K "_law_came_parts" (top 39))
  (LS:FX K "law" (top 40))
  (IZ:nsIn K mainGlobals "bool" =some none)
  (I0:nsIn K mainGlobals "dict" =some none)
  (wO:nsIn K mainGlobals "enumerate" =some none)
  (LU:nsIn K mainGlobals "int" =some none)
  (uT:nsIn K mainGlobals "isinstance" =some none)
  (LV:nsIn K mainGlobals "len" =some none)
  (I_:nsIn K mainGlobals "list" =some none)
  (LW:nsIn K mainGlobals "min" =some none)
  (FP:nsIn K mainGlobals "range" =some none)
  (yE:nsIn K mainGlobals "reversed" =some none)
  (LX:nsIn K mainGlobals "set" =some none)
  (Di:nsIn K mainGlobals "sorted" =some none)
  (FQ:nsIn K mainGlobals "tuple" =some none)
  (wQ:nsIn K mainGlobals "MOST_RUNS" =some (some (.int 3000 t)))
  :∃fd:FuncData,(∀(s:Shared) (v:Value),BindsTo s fd ⟨[v],[]⟩ [("_law_script",v)])/\∀base:Heap,K.In base->base.Ns mainGlobals mg->iZ l.prog w K mg base y9 8 fa fd ["_law_script"] (ju K 1 qx):=by
 have T:Tx K mg t:=⟨FX.ex X G wI λ_ _ _ _ _ _=>AZ λ_ _=>rfl,FX.ex X G Dg λ_ _ _ _ _ _=>Bq λ_ _ _=>rfl,FX.ex X G wJ λ_ _ _ _ _ _=>Bq λ_ _ _=>rfl,FX.ex X G Dh λ_ _ _ _ _ _=>Ps λ_ _ _ _=>rfl,FX.ex X G yB λ_ _ _ _ _ _=>Bq λ_ _ _=>rfl,FX.ex X G A3 λ_ _ _ _ _ _=>Bq λ_ _ _=>rfl,FX.ex X G IY λ_ _ _ _ _ _=>AZ λ_ _=>rfl,FX.ex X G oD λ_ _ _ _ _ _=>Bq λ_ _ _=>rfl,FX.ex X G oF λ_ _ _ _ _ _=>AZ λ_ _=>rfl,FX.ex X G qF λ_ _ _ _ _ _=>AZ λ_ _=>rfl,FX.ex X G yC λ_ _ _ _ _ _=>AZ λ_ _=>rfl,FX.ex X G qG λ_ _ _ _ _ _=>FN λ_=>rfl,FX.ex X G qH λ_ _ _ _ _ _=>FN λ_=>rfl,FX.ex X G wK λ_ _ _ _ _ _=>Bq λ_ _ _=>rfl,FX.ex X G kt λ_ _ _ _ _ _=>Bq λ_ _ _=>rfl,FX.ex X G oG λ_ _ _ _ _ _=>Bq λ_ _ _=>rfl,FX.ex X G oH λ_ _ _ _ _ _=>Bq λ_ _ _=>rfl,FX.ex X G oJ λ_ _ _ _ _ _=>FN λ_=>rfl,FX.ex X G uP λ_ _ _ _ _ _=>FN λ_=>rfl,FX.ex X G qJ λ_ _ _ _ _ _=>AZ λ_ _=>rfl,FX.ex X G yD λ_ _ _ _ _ _=>AZ λ_ _=>rfl,FX.ex X G uQ λ_ _ _ _ _ _=>FN λ_=>rfl,FX.ex X G uR λ_ _ _ _ _ _=>FN λ_=>rfl,FX.ex X G qK λ_ _ _ _ _ _=>AZ λ_ _=>rfl,FX.ex X G wL λ_ _ _ _ _ _=>Bq λ_ _ _=>rfl,FX.ex X G nE λ_ _ _ _ _ _=>FN λ_=>rfl,FX.ex X G wM λ_ _ _ _ _ _=>AZ λ_ _=>rfl,FX.ex X G qL λ_ _ _ _ _ _=>Bq λ_ _ _=>rfl,FX.ex X G wN λ_ _ _ _ _ _=>AZ λ_ _=>rfl,FX.ex X G uS λ_ _ _ _ _ _=>AZ λ_ _=>rfl,FX.ex X G my λ_ _ _ _ _ _=>AZ λ_ _=>rfl,FX.ex X G LS λ_ _ _ _ _ _=>FN λ_=>rfl,PySem.W.mg_none_of X G IZ,PySem.W.mg_none_of X G I0,PySem.W.mg_none_of X G wO,PySem.W.mg_none_of X G LU,PySem.W.mg_none_of X G uT,PySem.W.mg_none_of X G LV,PySem.W.mg_none_of X G I_,PySem.W.mg_none_of X G LW,PySem.W.mg_none_of X G FP,PySem.W.mg_none_of X G yE,PySem.W.mg_none_of X G LX,PySem.W.mg_none_of X G Di,PySem.W.mg_none_of X G FQ,mg_of X G wQ⟩
 obtain⟨f,d,x⟩:=T.GS
 cases hfa.symm.trans x.m
 refine⟨d,?_,λbase _ _=> ?_⟩
 ·obtain⟨_,_,kV,dc,pm,an,cd,ct,_,rfl,_⟩:=x.F.ex
  exact λs v=> .of_eq rfl
 ·obtain⟨f,d,y,g⟩:=IX (P:=l.prog) (w:=w) (base:=base) T
  obtain⟨rfl,rfl⟩:=x.uniq y
  exact g
theorem walk (LY:∀ns:List Int,ns.length<=63->∃o,qx [.list (ns.map PyData.int)]=some (.ok (o,.bool true))){l:OpenLaw}{q:Program}{loose:List Str}{XP:(Str->Option Value)->Heap->Prop}{YP:World->Heap->Prop}{d:DefRec}{K:Params->Frag}(hn:l.most=some 63)(hdf:d.params.defaults=[])
  (hY:∀(w:World) (h:Heap),YP w h->(K w.params).In h)
  (F:∀(w:World) (mg:Str->Option Value) (fa:Addr) (h:Heap),(K w.params).In h->h.Ns mainGlobals mg->mg d.name=some (.ref fa)->
   ∃fd:FuncData,(∀(s:Shared) (u:Value),BindsTo s fd ⟨[u],[]⟩ [("_law_script",u)])/\∀base:Heap,(K w.params).In base->base.Ns mainGlobals mg->iZ l.prog w (K w.params) mg base y9 8 fa fd ["_law_script"] (ju (K w.params) 1 qx)) :
  PySem.W.WalkO q loose XP YP l.row.toRowW d [] (λf vs=>PySem.call f vs) :=
 L2.Es (n:=63) (k:=8) (x:="_law_script") (CX:=λ_=>y9) (sp:=λw=>ju (K w.params) 1 qx) hn (by decide) hdf ⟨rfl,by decide,by decide⟩ hY F (λ_ _ a ns hl _ hS=>B8 hS (LY ns hl)) λ_ _ _ _ _ z=>z
end K51
namespace K51
open PySem Y
def aI {a b:Prop}(x:a)(y:b):=And.intro x y
def rn:=aI @cA.eq_1<|aI @da.eq_1<|aI @aC.eq_1<|aI @kZ.eq_1<|aI @cu.eq_1<|aI @eQ.eq_1<|aI @M6.eq_1<|aI @aL.eq_1<|aI @Ak.eq_1<|aI @xQ.eq_1<|aI @bG.eq_1<|aI @iS.eq_1<|aI @xS.eq_1<|aI @Al.eq_1<|aI @cb.eq_1<|aI @Ey.eq_1<|aI @eV.eq_1<|aI @eC.eq_1<|aI @mR.eq_1<|aI @Ld.eq_1<|aI @HQ.eq_1<|aI @HR.eq_1<|aI @BK.eq_1<|aI @eArgs.eq_1<|aI @eArgs.eq_2<|aI @fM.eq_1<|aI @dw.eq_1<|aI @j2.eq_1<|aI @aR.eq_1<|aI @vp.eq_1<|aI @pz.eq_1<|aI @pz.eq_2<|aI @pz.eq_3<|aI @pz.eq_4<|aI @pz.eq_5<|aI @pz.eq_6<|aI @pz.eq_7<|aI @EA.eq_1<|aI @tE.eq_1<|aI @rU.eq_1<|aI @Ez.eq_1<|aI @j6.eq_1<|aI @ce.eq_1<|aI @mY.eq_1<|aI @mY.eq_2<|aI @bK.eq_1<|aI @bK.eq_2<|aI @bK.eq_3<|aI @iR.eq_1<|aI @iR.eq_2<|aI @iR.eq_3<|aI @iR.eq_4<|aI @j0.eq_1<|aI @j0.eq_2<|aI @j0.eq_3<|aI @j0.eq_4<|aI @cN.eq_1<|aI @lG.eq_1<|aI @c_.eq_1<|aI @itemsOf.eq_1<|aI @itemsOf.eq_2<|aI @itemsOf.eq_3<|aI @i8.eq_1<|aI @ay<|aI @bB<|aI @Fe<|aI @Ff<|aI @Fg<|aI @AW<|aI @CO<|aI @CP<|aI @Fk<|aI @CI<|aI @CJ<|aI @CK<|aI @AV<|aI @CL<|aI @CM<|aI @CN<|aI @Fh<|aI @Fi<|aI @Fj<|aI @ym<|aI @i7.eq_1<|aI @i7.eq_2<|aI @CQ<|aI @o3<|aI @II<|aI @Fa<|aI @Fb<|aI @Fc<|aI @Fd<|aI @kN<|aI @IH<|aI @E_<|aI @E9<|aI @md<|aI @cf<|aI @List.map_cons.{0,0}<|aI @List.map_nil.{0,0}<|aI @List.cons_append.{0}<|aI @List.nil_append.{0}<|aI @List.getElem?_cons_zero.{0}<|aI @List.getElem?_cons_succ.{0}<|aI @List.length_cons.{0}<|aI @List.length_nil.{0}<|aI @List.length_map.{0,0}<|aI @List.length_range<|aI @List.set_cons_zero.{0}<|aI @List.set_cons_succ.{0}<|aI @List.replicate_succ.{0}<|aI @List.replicate_zero.{0}<|aI @if_true.{0}<|aI @if_false.{0}<|aI @Bool.false_eq_true<|aI @Bool.not_true<|aI @Bool.not_false<|aI @decide_true<|aI @decide_false<|aI @ite_true.{0}<|aI @ite_false.{0}<|aI @Option.map_some.{0,0}<|aI @Option.join_some.{0}<|aI @beq_self_eq_true.{0}<|aI @eq_self.{0}<|aI @Bool.or_false<|aI @Bool.false_or<|aI @Bool.or_true<|@Bool.true_or
abbrev tL (x:List Z2):Option (Bool×Z2):=some (true,.list x)
abbrev tI (x:Int):Option (Bool×Z2):=some (true,.int x)
abbrev tN (x:Nat):Option (Bool×Z2):=some (true,.int (x:Int))
abbrev tT (x:List Z2):Option (Bool×Z2):=some (true,.tuple x)
abbrev tD (x:List (Z2×Z2)):Option (Bool×Z2):=some (true,.dict x)
abbrev tB (x:Bool):Option (Bool×Z2):=some (true,.bool x)
abbrev tA (x:Z2):Option (Bool×Z2):=some (true,x)
abbrev fL (x:List Z2):Option (Bool×Z2):=some (false,.list x)
abbrev fI (x:Int):Option (Bool×Z2):=some (false,.int x)
abbrev fN (x:Nat):Option (Bool×Z2):=some (false,.int (x:Int))
abbrev fT (x:List Z2):Option (Bool×Z2):=some (false,.tuple x)
abbrev fD (x:List (Z2×Z2)):Option (Bool×Z2):=some (false,.dict x)
abbrev fA (x:Z2):Option (Bool×Z2):=some (false,x)
noncomputable def nat (o:Nat):Z2:=.int (o:Int)
abbrev Pt:=(Nat->List Nat)×(Nat->List Nat)
def bM (h:Nat)(W:List Z2)(k:Nat):List Nat:=(!2).filter λo=> !((o:Int)==(k:Int)) && !cz W (.tuple [.int (o:Int),.int (k:Int)])
theorem FR (h k:Nat)(W:List Z2)(hh:h<=4)(hW:lays 60 W=true):kO [.int (h:Int),.tuple W,.int (k:Int)]=ah (true,.tuple ((bM h W k).map nat)):=by
 have hp:∀o:Nat,lay 60 (.tuple [.int (o:Int),.int (k:Int)])=true:=λ_=>rfl
 have hc:=uD (ft:=iI) (fe:=kn) (cap:=[fN k,fT W]) ((!2).map λ(i:Nat)=>PyData.int (i:Int))
  (λd=>match d with | .int o=> !(o==(k:Int)) && !cz W (.tuple [.int o,.int (k:Int)]) | _=>false) (λd=>(Kd.fr [],d)) (λd hd=>by
   obtain⟨o,_,rfl⟩:=Kw.mp hd
   have e:=qb (hp o) hW
   have n2:aq [PyData.int (o:Int),.int (k:Int)]=true:=rfl
   cases hb:(((o:Nat):Int)==(k:Int)) with
   | true=>simp(disch:=omega) only[iI,rn,reduceIte,hb,YQ]
   | false=>simp(disch:=omega) only[iI,rn,reduceIte,hb,e,au n2,J5]) (λd hd _=>by
   obtain⟨o,_,rfl⟩:=Kw.mp hd
   simp(disch:=omega) only[kn,rn,reduceIte])
 have e1:((((!2).map λ(i:Nat)=>PyData.int (i:Int)).filter λd=>match d with | .int o=> !(o==(k:Int)) && !cz W (.tuple [.int o,.int (k:Int)]) | _=>false))=(bM h W k).map nat:=by
  rw[List.filter_map];rfl
 rw[e1] at hc
 have k1:=dC ((bM h W k).map nat) id
 simp only[id] at k1
 have m1:(((bM h W k).map nat).map λd=>(Kd.fr [],d)).map Prod.snd=(bM h W k).map nat:=by rw[KQ];exact List.map_id _
 have hl:h<=100000:=by omega
 have nW:aq ((bM h W k).map nat)=true:=aU _ (λ_=>rfl) _
 generalize (bM h W k).map nat=L at*
 simp(disch:=omega) only[kO,nh,bj,rn,reduceIte,Ku,hc,k1,m1,hl,bT nW,au nW]
theorem qM (h k:Nat)(W:List Z2)(hh:h<=4)(hW:lays 60 W=true):dq [.int (h:Int),.tuple W,.int (k:Int)]=ah (true,.tuple ((bM h W k).map nat)):=by
 have hp:∀o:Nat,lay 60 (.tuple [.int (o:Int),.int (k:Int)])=true:=λ_=>rfl
 obtain⟨Γ',h1,c4,h2⟩:=br (g:=cN 4) (b:=cp) (ds:=(!2).map λ(i:Nat)=>PyData.int (i:Int)) (Γ:=[fN h,fT W,fN k,tL [],none])
  (λi Γ=>∃c4:Option (Bool×Z2),Γ=[fN h,fT W,fN k,tL ((bM i W k).map nat),c4]) ⟨none,rfl⟩ (by
  rintro i d Γ hd ⟨c4,rfl⟩
  obtain⟨rfl,hi⟩:=cm hd
  refine⟨_,[fN h,fT W,fN k,tL ((bM (i+1) W k).map nat),tN i],rfl,.inl ?_,_,rfl⟩
  have e:=qb (hp i) hW
  have n2:aq [PyData.int (i:Int),.int (k:Int)]=true:=rfl
  have hsz:(bM i W k).length < sizeLine:=Xz (KJ (U7 _ _) (by rw[X8];omega:_<=4)) (by decide)
  have es:bM (i+1) W k=bM i W k++(if (!((i:Int)==(k:Int)) && !cz W (.tuple [.int (i:Int),.int (k:Int)]))=true then [i] else []):=by
   unfold bM;rw[Yz,List.filter_append,Y7,Jv]
  rw[es]
  cases hb:(((i:Nat):Int)==(k:Int)) with
  | true=>simp(disch:=omega) only[cp,rn,reduceIte,hb,YQ,Xj]
  | false=>
   cases ha:cz W (.tuple [.int (i:Int),.int (k:Int)]) with
   | true=>simp(disch:=omega) only[cp,rn,reduceIte,hb,e,ha,au n2,J5,Xj]
   | false=>simp(disch:=omega) only[cp,rn,reduceIte,hb,e,ha,au n2,J5,hsz,X0,nat])
 rw[K4,X8] at h2
 have nW:aq ((bM h W k).map nat)=true:=aU _ (λ_=>rfl) _
 simp(disch:=omega) only[dq,iu,rn,reduceIte,Ku,h1,h2,bT nW,au nW]
theorem qN (H:List Nat)(k:Nat):cz (H.map nat) (.int (k:Int))=decide (k∈H):=by
 have e:H.map nat=(H.map λ(o:Nat)=>(o:Int)).map PyData.int:=by rw[KQ];rfl
 rw[e,yn]
 congr 1
 rw[Kw,eq_iff_iff]
 exact⟨λ⟨o,ho,h⟩=>(show o=k by omega) ▸ ho,λh=>⟨k,h,rfl⟩⟩
def ca (h:Nat)(W:List Z2)(H:List Nat)(k:Nat):Z2:=if k∈H then .tuple ((bM h W k).map nat) else .none
theorem jT (h:Nat)(W:List Z2)(H:List Nat)(k:Nat):bo (ca h W H k)=true:=by
 unfold ca;split
 ·exact aU _ (λ_=>rfl) _
 ·rfl
theorem Dj (h:Nat)(W:List Z2)(H:List Nat)(hh:h<=4)(hW:lays 60 W=true) :
  dZ [.int (h:Int),.tuple W,.list (H.map nat)]=ah (true,.tuple ((!2).map (ca h W H))):=by
 have hc:=ji (fe:=cS) (cap:=[fL (H.map nat),fN h,fT W]) ((!2).map λ(i:Nat)=>PyData.int (i:Int))
  (λd=>match d with | .int k=>(.fr [],ca h W H k.toNat) | _=>(.fr [],.none)) (λd hd=>by
   obtain⟨k,_,rfl⟩:=Kw.mp hd
   have e:=v_ (x:=.int (k:Int)) (ys:=H.map nat) rfl (j5 _ (λ_=>rfl) _)
   rw[qN] at e
   have c:=FR h k W hh hW
   have nW:aq ((bM h W k).map nat)=true:=aU _ (λ_=>rfl) _
   by_cases hb:k∈H
   ·simp(disch:=omega) only[cS,rn,reduceIte,e,hb,c,au nW,Ku,ca]
   ·simp(disch:=omega) only[cS,rn,reduceIte,e,hb,Ku,ca])
 rw[KQ] at hc
 have e1:(((!2).map λ(i:Nat)=>PyData.int (i:Int)).map λd=>match d with | .int k=>(Kd.fr [],ca h W H k.toNat) | _=>(Kd.fr [],PyData.none))=(!2).map λk=>(Kd.fr [],ca h W H k):=by
  rw[KQ];refine Uq λk _=> ?_;simp only[Function.comp,Ku]
 rw[KQ] at e1
 rw[e1] at hc
 have k1:=dC (!2) (ca h W H)
 have m1:((!2).map λk=>(Kd.fr [],ca h W H k)).map Prod.snd=(!2).map (ca h W H):=by rw[KQ];rfl
 have hl:h<=100000:=by omega
 have nW:aq ((!2).map (ca h W H))=true:=aU _ (jT h W H) _
 simp(disch:=omega) only[dZ,gH,bj,rn,reduceIte,Ku,hc,k1,m1,hl,bT nW,au nW]
def jU (h:Nat)(W:List Z2)(H:List Nat)(i:Nat):List Nat:=H++((List.range i).filter λk=>decide (k∈H)).flatMap (bM h W)
def iO (h:Nat)(W:List Z2)(H:List Nat):List Nat:=[0,1,2,3].filter λk=>decide (k∈jU h W H h)
theorem yF (E:List Nat):vN (E.map nat)=([0,1,2,3].filter λk=>decide (k∈E)).map nat:=by
 unfold vN
 show List.map nat _=_
 congr 1
 refine List.filter_congr λk _=> ?_
 rw[List.any_map,Yv,List.any_eq_true,JJ]
 constructor
 ·rintro⟨y,hy,hk⟩
  have hk2:((y:Nat):Int)=(k:Int):=by simpa [Lm,nat] using hk
  have:y=k:=by omega
  exact this ▸ hy
 ·intro h;exact⟨k,h,by simp[Lm,nat]⟩
theorem mz {h:Nat}{W:List Z2}{k o:Nat}(ho:o∈bM h W k):o < h:=XU.mp (UJ.mp ho).1
theorem yG (h:Nat)(W:List Z2)(H:List Nat)(hh:h<=4)(hH:∀k∈H,k < h)(hl:H.length<=4) :
  d_ [.list (H.map nat),.tuple ((!2).map (ca h W H))]=ah (true,.list ((iO h W H).map nat)):=by
 have LZ:∀k,(bM h W k).length<=4:=λk=>KJ (U7 _ _) (by rw[X8];exact hh)
 have NF:∀i,i<=h->(jU h W H i).length<=4+4*i:=by
  intro i
  induction i with
  | zero=>intro _;simp[jU];omega
  | succ i ih=>
   intro hi
   have:=ih (!1)
   have s:=LZ i
   unfold jU at this⊢
   rw[Yz,List.filter_append,List.flatMap_append,←X5,K1]
   by_cases hm:i∈H
   ·simp only[Y7,hm,decide_true,if_true,Jv,List.flatMap_cons,J0,Xj];omega
   ·simp only[Y7,hm,decide_false,XJ,if_false,Jv,J0,Y2];omega
 obtain⟨Γ',h1,c3,h2⟩:=br (g:=cN 3) (b:=cT) (ds:=(!2).map (ca h W H)) (Γ:=[fL (H.map nat),fT ((!2).map (ca h W H)),tL (H.map nat),none])
  (λi Γ=>∃c3:Option (Bool×Z2),Γ=[fL (H.map nat),fT ((!2).map (ca h W H)),tL ((jU h W H i).map nat),c3]) ⟨none,by simp[jU]⟩ (by
  rintro i d Γ hd ⟨c3,rfl⟩
  have hi:i < h:=by have:=(X1.mp hd).1;simpa using this
  rw[KY,Y9 hi] at hd
  have hd':ca h W H i=d:=Option.some.inj hd
  subst hd'
  refine⟨_,[fL (H.map nat),fT ((!2).map (ca h W H)),tL ((jU h W H (i+1)).map nat),tA (ca h W H i)],by rw[cQ (jT h W H i)];rfl,.inl ?_,_,rfl⟩
  have f1:=NF i (!1)
  have s1:=LZ i
  have nW:aq ((bM h W i).map nat)=true:=aU _ (λ_=>rfl) _
  have hsz:(jU h W H i).length+(bM h W i).length<=sizeLine:=KJ (show _<=100 by omega) (by decide)
  have es:jU h W H (i+1)=jU h W H i++(if i∈H then bM h W i else []):=by
   unfold jU
   rw[Yz,List.filter_append,List.flatMap_append,←X5]
   by_cases hm:i∈H
   ·simp only[Y7,hm,decide_true,if_true,Jv,List.flatMap_cons,J0,Xj]
   ·simp only[Y7,hm,decide_false,XJ,if_false,Jv,J0]
  rw[es]
  by_cases hm:i∈H
  ·simp(disch:=omega) only[cT,rn,i7,mY,bK,reduceIte,ca,hm,au nW,xR,nW,hsz,X0,and_self]
  ·simp(disch:=omega) only[cT,rn,i7,mY,bK,reduceIte,ca,hm,Xj])
 rw[K4,X8] at h2
 have hlt:∀k∈jU h W H h,k < 4:=λk hk=>by
  unfold jU at hk
  rcases Kk.mp hk with hk | hk
  ·have:=hH k hk;omega
  ·obtain⟨j,_,hj⟩:=Y8.mp hk
   have:=mz hj;omega
 have hin:((jU h W H h).map nat).all in4=true:=by
  rw[List.all_map,Uw]
  intro k hk
  have:=hlt k hk
  simp only[Function.comp,nat,in4,X9,JJ]
  omega
 have hs:j8 (.list ((jU h W H h).map nat))=some (.list ((iO h W H).map nat)):=by
  simp only[j8,hin,if_true,yF,iO]
 have n1:aq (H.map nat)=true:=aU _ (λ_=>rfl) _
 have n2:aq ((!2).map (ca h W H))=true:=aU _ (jT h W H) _
 simp(disch:=omega) only[d_,gI,rn,i7,mY,bK,reduceIte,qc n1,au n2,h1,h2,hs]
noncomputable def hs (h:Nat):List (List Z2)->List Nat->List Nat
 | [],H=>H
 | W :: R,H=>hs h R (iO h W H)
noncomputable def rows (h:Nat):List (List Z2)->List Nat->List Z2
 | [],_=> []
 | W :: R,H=> .tuple ((!2).map (ca h W H)) :: rows h R (iO h W H)
theorem zK (h:Nat)(W:List Z2):∀(R:List (List Z2)) (H:List Nat),hs h (R++[W]) H=iO h W (hs h R H)
 | [],H=>rfl
 | V :: R,H=>by rw[U6,hs,hs,zK h W R]
theorem sO (h:Nat)(W:List Z2):∀(R:List (List Z2)) (H:List Nat),rows h (R++[W]) H=rows h R H++[.tuple ((!2).map (ca h W (hs h R H)))]
 | [],H=>rfl
 | V :: R,H=>by rw[U6,rows,rows,sO h W R,hs,U6]
theorem wR {h:Nat}{W:List Z2}{H:List Nat}(hH:∀k∈H,k < h):∀k∈iO h W H,k < h:=λk hk=>by
 have hk':k∈jU h W H h:=by simpa using (UJ.mp hk).2
 unfold jU at hk'
 rcases Kk.mp hk' with z | z
 ·exact hH k z
 ·obtain⟨j,_,hj⟩:=Y8.mp z;exact mz hj
theorem A4 (h:Nat)(W:List Z2)(H:List Nat):(iO h W H).length<=4:=U7 _ _
theorem GU {h:Nat}:∀{R:List (List Z2)} {H:List Nat},(∀k∈H,k < h)->H.length<=4->(∀k∈hs h R H,k < h)/\(hs h R H).length<=4
 | [],H,h1,h2=>⟨h1,h2⟩
 | W :: R,H,h1,h2=>GU (R:=R) (H:=iO h W H) (wR h1) (A4 h W H)
theorem ku {h:Nat}:∀{R:List (List Z2)} {H:List Nat},aq (rows h R H)=true
 | [],H=>rfl
 | W :: R,H=>by rw[rows,aq,ku,cf,aU _ (jT h W H)];rfl
theorem mE {h:Nat}:∀{R:List (List Z2)} {H:List Nat},(rows h R H).length=R.length
 | [],H=>rfl
 | W :: R,H=>by rw[rows,Kz,mE,Kz]
def cr (vs:List Int)(H:List Nat)(k:Nat):Z2:=if k∈H then .int (vs.getD k 0) else .none
theorem mF (vs:List Int)(H:List Nat)(k:Nat):bo (cr vs H k)=true:=by unfold cr;split <;> rfl
def gO (vs:List Int)(Ws:List (List Z2))(hand:Nat):Z2 :=
 .tuple [.int (hand:Int),.tuple ((List.range vs.length).map (cr vs (hs vs.length Ws.reverse [hand]))),.tuple (rows vs.length Ws.reverse [hand]).reverse]
def jp (vs:List Int)(Ws:List (List Z2)):Z2:=.tuple [.tuple (vs.map PyData.int),.tuple (Ws.map PyData.tuple)]
theorem o5 {vs:List Int}{Ws:List (List Z2)}(hn:∀W∈Ws,aq W=true):aq [PyData.tuple (vs.map PyData.int),.tuple (Ws.map PyData.tuple)]=true:=by
 have:aq (Ws.map PyData.tuple)=true:=aQ.mpr λx hx=>by
  obtain⟨W,hW,rfl⟩:=Kw.mp hx;exact hn W hW
 simp only[aq,cf,fO,this,XZ]
theorem FT (vs:List Int)(Ws:List (List Z2))(hand:Nat)(hh:vs.length<=4)(hd:hand < vs.length)(hr:Ws.length<=5)(hn:∀W∈Ws,aq W=true)(hW:∀W∈Ws,lays 60 W=true) :
  qu [jp vs Ws,.int (hand:Int)]=ah (true,gO vs Ws hand):=by
 have nr:=o5 (vs:=vs) hn
 have nw:aq (Ws.map PyData.tuple)=true:=by simp only[aq,cf,fO,J5,Bool.and_true] at nr;exact nr
 generalize hh':vs.length=h at*
 have a0:rA [PyData.tuple (vs.map PyData.int),.tuple (Ws.map PyData.tuple)] 0=some (.tuple (vs.map PyData.int)):=rfl
 have a1:rA [PyData.tuple (vs.map PyData.int),.tuple (Ws.map PyData.tuple)] 1=some (.tuple (Ws.map PyData.tuple)):=rfl
 have hml:(vs.map PyData.int).length=h:=by rw[K4];exact hh'
 obtain⟨Γ',h1,c6,c7,h2⟩:=br (g:=cN 6) (b:=qt) (ds:=Ws.reverse.map PyData.tuple) (Γ:=[fA (jp vs Ws),fN hand,tT (vs.map PyData.int),tN h,tL [.int (hand:Int)],tL [],none,none,none])
  (λi Γ=>∃c6 c7:Option (Bool×Z2),Γ=[fA (jp vs Ws),fN hand,tT (vs.map PyData.int),tN h,tL ((hs h (Ws.reverse.take i) [hand]).map nat),tL (rows h (Ws.reverse.take i) [hand]),c6,c7,none]) ⟨none,none,rfl⟩ (by
  rintro i d Γ hd2 ⟨c6,c7,rfl⟩
  have hi:i < Ws.reverse.length:=by have:=(X1.mp hd2).1;simpa using this
  rw[KY,K3 hi] at hd2
  have hd':PyData.tuple Ws.reverse[i]=d:=Option.some.inj hd2
  subst hd'
  have hm:Ws.reverse[i]∈Ws:=Uz.mp (UX hi)
  have et:Ws.reverse.take (i+1)=Ws.reverse.take i++[Ws.reverse[i]]:=by rw[J8,K3 hi];rfl
  obtain⟨o1,o2⟩:=GU (R:=Ws.reverse.take i) (H:=[hand]) (h:=h) (λk hk=>by rw[K6.mp hk];exact hd) (by simp)
  have n1:=hn _ hm
  have c1:=Dj h Ws.reverse[i] (hs h (Ws.reverse.take i) [hand]) hh (hW _ hm)
  have c2:=yG h Ws.reverse[i] (hs h (Ws.reverse.take i) [hand]) hh o1 o2
  have nR:aq ((!2).map (ca h Ws.reverse[i] (hs h (Ws.reverse.take i) [hand])))=true:=aU _ (jT _ _ _) _
  have hsz:(rows h (Ws.reverse.take i) [hand]).length < sizeLine:=Xz (show _<=5 by rw[mE];simp at hi⊢;omega) (by decide)
  refine⟨_,[fA (jp vs Ws),fN hand,tT (vs.map PyData.int),tN h,tL ((hs h (Ws.reverse.take (i+1)) [hand]).map nat),tL (rows h (Ws.reverse.take (i+1)) [hand]),tT Ws.reverse[i],tT ((!2).map (ca h Ws.reverse[i] (hs h (Ws.reverse.take i) [hand]))),none],by rw[au n1];rfl,.inl ?_,_,_,rfl⟩
  rw[et,zK,sO]
  generalize Ws.reverse[i]=W at*
  simp(disch:=omega) only[qt,rn,reduceIte,au n1,c1,au nR,hsz,c2])
 rw[K4,J4] at h2
 simp only[jp] at h1 h2
 have hc:=ji (fe:=mj) (cap:=[fL ((hs h Ws.reverse [hand]).map nat),fT (vs.map PyData.int)]) ((!2).map λ(i:Nat)=>PyData.int (i:Int))
  (λd=>match d with | .int k=>(.fr [],cr vs (hs h Ws.reverse [hand]) k.toNat) | _=>(.fr [],.none)) (λd hd=>by
   obtain⟨k,hk,rfl⟩:=Kw.mp hd
   have e:=v_ (x:=.int (k:Int)) (ys:=(hs h Ws.reverse [hand]).map nat) rfl (j5 _ (λ_=>rfl) _)
   rw[qN] at e
   have hk':k < vs.length:=by rw[hh'];exact XU.mp hk
   have ea:rA (vs.map PyData.int) (k:Int)=some (.int (vs.getD k 0)):=iG (by rw[KY,X7,K3 hk'];rfl)
   by_cases hb:k∈hs h Ws.reverse [hand]
   ·simp(disch:=omega) only[mj,rn,reduceIte,e,hb,ea,au (fO vs),Ku,cr]
   ·simp(disch:=omega) only[mj,rn,reduceIte,e,hb,Ku,cr])
 have e1:(((!2).map λ(i:Nat)=>PyData.int (i:Int)).map λd=>match d with | .int k=>(Kd.fr [],cr vs (hs h Ws.reverse [hand]) k.toNat) | _=>(Kd.fr [],PyData.none))=(!2).map λk=>(Kd.fr [],cr vs (hs h Ws.reverse [hand]) k):=by
  rw[KQ];refine Uq λk _=> ?_;simp only[Function.comp,Ku]
 rw[e1] at hc
 have k1:=dC (!2) (cr vs (hs h Ws.reverse [hand]))
 have m1:((!2).map λk=>(Kd.fr [],cr vs (hs h Ws.reverse [hand]) k)).map Prod.snd=(!2).map (cr vs (hs h Ws.reverse [hand])):=by rw[KQ];rfl
 have hl:h<=100000:=by omega
 have n1:aq ((!2).map (cr vs (hs h Ws.reverse [hand])))=true:=aU _ (mF _ _) _
 have n2:aq (rows h Ws.reverse [hand])=true:=ku
 have n3:aq (rows h Ws.reverse [hand]).reverse=true:=aQ.mpr λx hx=>aQ.mp n2 x (Uz.mp hx)
 have n4:aq [PyData.int (hand:Int),.tuple ((!2).map (cr vs (hs h Ws.reverse [hand]))),.tuple (rows h Ws.reverse [hand]).reverse]=true:=by simp only[aq,kN,cf,n1,n3,XZ]
 simp(disch:=omega) only[qu,yv,bj,BO,EB,rn,reduceIte,jp,a0,a1,au nr,au (fO vs),au nw,hml,hh',←List.map_reverse,h1,h2,Ku,hc,k1,m1,hl,bT n1,qd n2,au n1,au n3,au n4,gO]
mutual
noncomputable def pl:Z2->Bool
 | .none=>true
 | .int _=>true
 | .tuple xs=>D9 xs
 | _=>false
noncomputable def D9:List Z2->Bool
 | []=>true
 | d :: ds=>pl d && D9 ds
end
mutual
theorem Dk:∀(x y:Z2),pl x=true->pl y=true->PyData.eqv x y=true->x=y
 | .none,.none,_,_,_=>rfl
 | .int i,.int j,_,_,h=>by simp[PyData.eqv] at h;rw[h]
 | .tuple xs,.tuple ys,hx,hy,h=>by
  rw[pl] at hx hy
  simp only[PyData.eqv] at h
  rw[zL xs ys hx hy h]
 | .none,.int _,_,_,h=>by simp[PyData.eqv] at h
 | .none,.tuple _,_,_,h=>by simp[PyData.eqv] at h
 | .int _,.none,_,_,h=>by simp[PyData.eqv] at h
 | .int _,.tuple _,_,_,h=>by simp[PyData.eqv] at h
 | .tuple _,.none,_,_,h=>by simp[PyData.eqv] at h
 | .tuple _,.int _,_,_,h=>by simp[PyData.eqv] at h
 | .bool _,_,hx,_,_=>by simp[pl] at hx
 | .str _,_,hx,_,_=>by simp[pl] at hx
 | .list _,_,hx,_,_=>by simp[pl] at hx
 | .dict _,_,hx,_,_=>by simp[pl] at hx
 | .none,.bool _,_,hy,_=>by simp[pl] at hy
 | .none,.str _,_,hy,_=>by simp[pl] at hy
 | .none,.list _,_,hy,_=>by simp[pl] at hy
 | .none,.dict _,_,hy,_=>by simp[pl] at hy
 | .int _,.bool _,_,hy,_=>by simp[pl] at hy
 | .int _,.str _,_,hy,_=>by simp[pl] at hy
 | .int _,.list _,_,hy,_=>by simp[pl] at hy
 | .int _,.dict _,_,hy,_=>by simp[pl] at hy
 | .tuple _,.bool _,_,hy,_=>by simp[pl] at hy
 | .tuple _,.str _,_,hy,_=>by simp[pl] at hy
 | .tuple _,.list _,_,hy,_=>by simp[pl] at hy
 | .tuple _,.dict _,_,hy,_=>by simp[pl] at hy
theorem zL:∀(xs ys:List Z2),D9 xs=true->D9 ys=true->PyData.eqvAll xs ys=true->xs=ys
 | [],[],_,_,_=>rfl
 | x :: xs,y :: ys,hx,hy,h=>by
  rw[D9,X9] at hx hy
  simp only[PyData.eqvAll,X9] at h
  rw[Dk x y hx.1 hy.1 h.1,zL xs ys hx.2 hy.2 h.2]
 | [],_ :: _,_,_,h=>by simp[PyData.eqvAll] at h
 | _ :: _,[],_,_,h=>by simp[PyData.eqvAll] at h
end
theorem mG:∀{xs:List Z2},D9 xs=true↔∀x∈xs,pl x=true
 | []=>by simp[D9]
 | x :: xs=>by rw[D9,X9,mG (xs:=xs)];simp
theorem Ja (h:Nat)(W:List Z2)(H:List Nat)(k:Nat):pl (ca h W H k)=true:=by
 unfold ca;split
 ·rw[pl];exact mG.mpr λx hx=>by
   obtain⟨o,_,rfl⟩:=Kw.mp hx;rfl
 ·rfl
theorem zM {h:Nat}:∀{R:List (List Z2)} {H:List Nat},∀x∈rows h R H,pl x=true
 | [],H,x,hx=>by cases hx
 | W :: R,H,x,hx=>by
  rw[rows] at hx
  rcases K0.mp hx with rfl | hx
  ·rw[pl];exact mG.mpr λy hy=>by
    obtain⟨k,_,rfl⟩:=Kw.mp hy;exact Ja h W H k
  ·exact zM x hx
def zz (h:Nat)(R1 R2:List (List Z2)):List Pt:=(R1.zip R2).map λx=>(bM h x.1,bM h x.2)
theorem qP {h:Nat}{W:List Z2}{H:List Nat}(hh:h<=4)(hH:∀k∈H,k < h)(k:Nat):k∈iO h W H↔k∈H++H.flatMap (bM h W):=by
 have e:∀k,k∈jU h W H h↔k∈H++H.flatMap (bM h W):=λk=>by
  unfold jU
  simp only[Kk,Y8,UJ,XU,JJ]
  exact⟨λz=>z.imp id λ⟨j,⟨_,hj⟩,r⟩=>⟨j,hj,r⟩,λz=>z.imp id λ⟨j,hj,r⟩=>⟨j,⟨hH j hj,hj⟩,r⟩⟩
 rw[←e k]
 unfold iO
 rw[UJ,JJ]
 refine⟨λz=>z.2,λz=>⟨?_,z⟩⟩
 have hk:k < h:=by
  rcases Kk.mp ((e k).mp z) with y | y
  ·exact hH k y
  ·obtain⟨j,_,hj⟩:=Y8.mp y;exact mz hj
 simp only[K0,List.not_mem_nil,or_false];omega
mutual
theorem zN:∀(x:Z2),pl x=true->PyData.eqv x x=true
 | .none,_=>by simp[PyData.eqv]
 | .int _,_=>by simp[PyData.eqv]
 | .tuple xs,h=>by rw[pl] at h;simp only[PyData.eqv];exact wU xs h
 | .bool _,h=>by simp[pl] at h
 | .str _,h=>by simp[pl] at h
 | .list _,h=>by simp[pl] at h
 | .dict _,h=>by simp[pl] at h
theorem wU:∀(xs:List Z2),D9 xs=true->PyData.eqvAll xs xs=true
 | [],_=>by simp[PyData.eqvAll]
 | x :: xs,h=>by
  rw[D9,X9] at h
  simp only[PyData.eqvAll,zN x h.1,wU xs h.2,XZ]
end
theorem mH {x y:Z2}(hx:pl x=true)(hy:pl y=true):PyData.eqv x y=true↔x=y :=
 ⟨Dk x y hx hy,λh=>by rw[←h];exact zN x hx⟩
theorem wV (vs:List Int)(Ws:List (List Z2))(hand:Nat):bo (gO vs Ws hand)=true:=by
 have n1:aq ((List.range vs.length).map (cr vs (hs vs.length Ws.reverse [hand])))=true:=aU _ (mF _ _) _
 have n2:aq (rows vs.length Ws.reverse [hand])=true:=ku
 have n3:aq (rows vs.length Ws.reverse [hand]).reverse=true:=aQ.mpr λx hx=>aQ.mp n2 x (Uz.mp hx)
 unfold gO
 rw[cf]
 simp only[aq,kN,cf,n1,n3,XZ]
structure rf (h:Nat)(b:Nat)(vs:List Int)(Ws:List (List Z2)):Prop where
 hv:vs.length=h
 hr:Ws.length<=5
 hp:∀W∈Ws,(∀x∈W,∃i j:Int,x= .tuple [.int i,.int j])/\W.length<=b
theorem rf.n {h b:Nat}{vs:List Int}{Ws:List (List Z2)}(w:rf h b vs Ws):∀W∈Ws,aq W=true:=λW hW=>aQ.mpr λx hx=>by
 obtain⟨i,j,rfl⟩:=(w.hp W hW).1 x hx;rfl
theorem rf.l {h b:Nat}{vs:List Int}{Ws:List (List Z2)}(w:rf h b vs Ws):∀W∈Ws,lays 60 W=true:=λW hW=>gj.mpr λx hx=>by
 obtain⟨i,j,rfl⟩:=(w.hp W hW).1 x hx;rfl
theorem rf.take {h b:Nat}{vs:List Int}{Ws:List (List Z2)}(w:rf h b vs Ws)(r:Nat):rf h b vs (Ws.take r) :=
 ⟨w.hv,by rw[Xk];have:=w.hr;omega,λW hW=>w.hp W (U2 hW)⟩
theorem rf.view {h b:Nat}{vs:List Int}{Ws:List (List Z2)}(w:rf h b vs Ws)(hh:h<=4){k:Nat}(hk:k < h):qu [jp vs Ws,.int (k:Int)]=ah (true,gO vs Ws k) :=
 FT vs Ws k (w.hv ▸ hh) (w.hv ▸ hk) w.hr w.n w.l
theorem mI {h b:Nat}{vs:List Int}{Ws:List (List Z2)}(w:rf h b vs Ws):bo (jp vs Ws)=true:=o5 w.n
theorem FU {xs:List Z2}{lo hi:Option Int}(h:aq xs=true):Md (.tuple xs) lo hi=some (.tuple (cutD xs lo hi)):=JQ h
theorem zO {h b:Nat}{vs:List Int}{Ws:List (List Z2)}(w:rf h b vs Ws):aq (Ws.map PyData.tuple)=true:=aQ.mpr λx hx=>by
 obtain⟨W,hW,rfl⟩:=Kw.mp hx;exact w.n W hW
theorem Oq (vs:List Int)(Ws:List (List Z2)):kY (jp vs Ws) (.int 0)=some (.tuple (vs.map PyData.int)):=rfl
theorem Pu (vs:List Int)(Ws:List (List Z2)):kY (jp vs Ws) (.int 1)=some (.tuple (Ws.map PyData.tuple)):=rfl
noncomputable def sp (p:Nat×Nat):Z2:=.tuple [.int (p.1:Int),.int (p.2:Int)]
def enc (l:List (Nat×Nat)):List (Z2×Z2):=l.map λp=>(sp p,.bool true)
noncomputable def ins (l:List (Nat×Nat))(p:Nat×Nat):List (Nat×Nat):=if p∈l then l else l++[p]
theorem Jb (p q:Nat×Nat):PyData.eqv (sp p) (sp q)=decide (p=q):=by
 obtain⟨a,b⟩:=p
 obtain⟨c,d⟩:=q
 have e:PyData.eqv (sp (a,b)) (sp (c,d))=((a:Int)==(c:Int) && ((b:Int)==(d:Int) && true)):=by simp[sp,PyData.eqv,PyData.eqvAll]
 rw[e,Yv,JJ,Prod.mk.injEq]
 simp only[Bool.and_true,X9,JY]
 omega
theorem wW (l:List (Nat×Nat))(p:Nat×Nat):lg (enc l) (sp p)=decide (p∈l):=by
 unfold lg enc
 rw[List.any_map]
 induction l with
 | nil=>rfl
 | cons q l ih=>
  rw[YJ,ih]
  simp only[Function.comp,Jb]
  by_cases h:q=p
  ·simp[h]
  ·have h':¬ p=q:=λz=>h z.symm
   simp[h,h']
theorem wX (l:List (Nat×Nat))(p:Nat×Nat):putK (enc l) (sp p) (.bool true)=enc (ins l p):=by
 unfold putK ins
 rw[wW]
 by_cases h:p∈l
 ·rw[JQ (Z9 h),JQ h]
  unfold enc
  rw[KQ]
  refine Uq λq _=> ?_
  simp only[Function.comp]
  split <;> rfl
 ·rw[JV (by rw[Z8 h];exact K5),JV h]
  unfold enc
  rw[X0];rfl
theorem sP:∀(m l:List (Nat×Nat)),k_ (enc l) (enc m)=enc (m.foldl ins l)
 | [],l=>rfl
 | p :: m,l=>by
  show k_ (putK (enc l) (sp p) (.bool true)) (enc m)=_
  rw[wX,sP m];rfl
theorem uU {l:List (Nat×Nat)}{p q:Nat×Nat}:q∈ins l p↔q∈l∨q=p:=by
 unfold ins
 split
 ·rename_i h
  exact⟨.inl,λz=>z.elim id λe=>e ▸ h⟩
 ·simp
theorem sR:∀{m l:List (Nat×Nat)} {q:Nat×Nat},q∈m.foldl ins l↔q∈l∨q∈m
 | [],l,q=>by simp
 | p :: m,l,q=>by
  rw[UZ,sR (m:=m),uU,K0]
  exact⟨λz=>z.elim (λy=>y.elim .inl λe=> .inr (.inl e)) λy=> .inr (.inr y),λz=>z.elim (λy=> .inl (.inl y)) λy=>y.elim (λe=> .inl (.inr e)) .inr⟩
theorem sS {l:List (Nat×Nat)}{p:Nat×Nat}(h:l.Nodup):(ins l p).Nodup:=by
 unfold ins
 split
 ·exact h
 ·rename_i hp
  refine Xv.mpr ⟨h,KU.mpr ⟨by simp,X2⟩,λa ha b hb e=>hp ?_⟩
  rw[←K6.mp hb,←e];exact ha
theorem n9:∀{m l:List (Nat×Nat)},l.Nodup->(m.foldl ins l).Nodup
 | [],l,h=>h
 | p :: m,l,h=>n9 (m:=m) (sS h)
theorem zP (l:List (Nat×Nat))(p:Nat×Nat):(ins l p).length<=l.length+1:=by
 unfold ins;split
 ·omega
 ·rw[K1,X3];omega
theorem nF:∀(m l:List (Nat×Nat)),(m.foldl ins l).length<=l.length+m.length
 | [],l=>K2 _
 | p :: m,l=>by
  have h1:=nF m (ins l p)
  have h2:=zP l p
  rw[UZ,Kz];omega
theorem Dl (l:List (Nat×Nat))(p:Nat×Nat):ins l p≠[]:=λz=>by
 have:p∈ins l p:=uU.mpr (.inr rfl)
 rw[z] at this;cases this
theorem qQ:∀{m l:List (Nat×Nat)},l≠[]->m.foldl ins l≠[]
 | [],l,h=>h
 | p :: m,l,h=>qQ (m:=m) (Dl l p)
def FV:List (Nat×Nat):=(List.range 4).flatMap λa=>(List.range 6).map λb=>(a,b)
theorem A5:(FV.map λp=>fH (sp p))=[-8458139203682520985,-1950498447580522560,7204814214171964562,-4734289103435588629,1773351652666409796,
  -3119722376306286570,-5164621852614943976,8389048192121911274,-3550055125485641917,-1440771752368011620,
  -6333845781340707986,173794974761290439,4685526799349444076,6794810172467074373,1901736143494378007,
  8409376899596376432,3516302870623680066,-8422800446983873125,2248468952609198383,8756109708711196808,
  3863035679738500442,5972319052856130739,1079245023883434373,7586885779985432798]:=by decide+kernel
theorem yH:(FV.map λp=>fH (sp p)).Nodup:=by rw[A5];decide+kernel
theorem Dm {α:Type}(f:α->Int):∀{l:List α},(l.map f).Nodup->∀{p q:α},p∈l->q∈l->f p=f q->p=q
 | x :: l,h,p,q,hp,hq,e=>by
  rw[KZ,KU] at h
  rcases K0.mp hp with z1 | z1
  ·rcases K0.mp hq with z2 | z2
   ·rw[z1,z2]
   ·refine absurd ?_ h.1
    rw[←z1,e];exact Yj z2
  ·rcases K0.mp hq with z2 | z2
   ·refine absurd ?_ h.1
    rw[←z2,←e];exact Yj z1
   ·exact Dm f h.2 z1 z2 e
theorem wY {α:Type}(f:α->Int):∀{l:List α},l.Nodup->(∀p∈l,∀q∈l,f p=f q->p=q)->(l.map f).Nodup
 | [],_,_=>X2
 | x :: l,h,hf=>by
  rw[KU] at h
  rw[KZ,KU]
  refine⟨λz=> ?_,wY f h.2 λp hp q hq=>hf p (K9 _ hp) q (K9 _ hq)⟩
  obtain⟨y,hy,e⟩:=Kw.mp z
  exact h.1 (hf y (K9 _ hy) x K8 e ▸ hy)
theorem wZ {p:Nat×Nat}(h:p.1 < 4/\p.2 < 6):p∈FV:=by
 unfold FV
 exact Y8.mpr ⟨p.1,XU.mpr h.1,Kw.mpr ⟨p.2,XU.mpr h.2,rfl⟩⟩
theorem Dn (f:Z2->Int)(l:List (Nat×Nat)):((enc l).map λp=>f p.1)=l.map λp=>f (sp p):=by unfold enc;rw[KQ];rfl
theorem yI {l:List (Nat×Nat)}(h:l.Nodup)(hb:∀p∈l,p.1 < 4/\p.2 < 6):((enc l).map λp=>fH p.1).Nodup:=by
 rw[Dn fH]
 exact wY _ h λp hp q hq e=>Dm _ yH (wZ (hb p hp)) (wZ (hb q hq)) e
theorem mJ (l:List (Nat×Nat)):dO (enc l)=true:=by
 unfold dO enc
 rw[KQ];exact aU _ (λ_=>rfl) l
theorem FW (p:Nat×Nat):db (sp p)=true:=rfl
theorem ky (l:List (Nat×Nat)):((enc l).all λp=>db p.1)=true:=by
 unfold enc;rw[List.all_map,Uw];intro p _;rfl
theorem sT {l:List (Nat×Nat)}(h:l≠[]):(enc l).isEmpty=false:=by
 cases l with
 | nil=>exact absurd rfl h
 | cons p l=>rfl
theorem uV (l:List (Nat×Nat)):(enc l).length=l.length:=K4 _
theorem w6 {l:List (Nat×Nat)}(h0:l≠[])(hn:l.Nodup)(hb:∀p∈l,p.1 < 4/\p.2 < 6):oV [.dict (enc l)]=some (.dict (enc l)):=JQ ⟨sT h0,ky l,mJ l,yI hn hb⟩
theorem Dp {l m:List (Nat×Nat)}(h0:l≠[])(hz:l.length+m.length<=sizeLine):vC 8 (.fr [3]) (enc l) (.dict (enc m))=some (enc (m.foldl ins l)):=by
 simp only[vC]
 rw[JQ ⟨rfl,.inl ⟨sT h0,ky l,ky m⟩,mJ l,mJ m,by rw[uV,uV];exact hz⟩,sP]
theorem w9 (l:List (Nat×Nat))(p:Nat×Nat):vA (sp p) (.dict (enc l))=some (.bool (decide (p∈l))):=by
 simp only[vA]
 rw[JQ (show dN (enc l) (sp p)=true by unfold dN gF;rw[ky,FW];rfl),wW]
def oM (h:Nat)(W:List Z2)(f:Nat->List (Nat×Nat))(k:Nat)(S:List Nat):List (Nat×Nat):=S.foldl (λacc s=>(f s).foldl ins acc) (f k)
def Lk (h:Nat)(Ws:List (List Z2)):Nat->Nat->List (Nat×Nat)
 | 0,k=> [(k,0)]
 | i+1,k=>ins (oM h (Ws.getD i []) (Lk h Ws i) k (bM h (Ws.getD i []) k)) (k,i+1)
theorem w_ {h:Nat}{W:List Z2}{f:Nat->List (Nat×Nat)}{q:Nat×Nat}:∀{S:List Nat} {l:List (Nat×Nat)},q∈S.foldl (λacc s=>(f s).foldl ins acc) l↔q∈l∨∃s∈S,q∈f s
 | [],l=>by simp
 | s :: S,l=>by
  rw[UZ,w_ (h:=h) (W:=W) (S:=S),sR]
  simp only[K0,exists_eq_or_imp]
  exact or_assoc
theorem qR {h:Nat}{Ws:List (List Z2)}{i k:Nat}{q:Nat×Nat}:q∈Lk h Ws (i+1) k↔(q∈Lk h Ws i k∨∃s∈bM h (Ws.getD i []) k,q∈Lk h Ws i s)∨q=(k,i+1):=by
 rw[Lk,uU,oM,w_ (h:=h) (W:=Ws.getD i [])]
theorem zQ {h:Nat}{W:List Z2}{f:Nat->List (Nat×Nat)}{k c:Nat}(h0:f k≠[])(hn:(f k).Nodup)(hl:∀s,(f s).length<=c):∀{S:List Nat},oM h W f k S≠[]/\(oM h W f k S).Nodup/\(oM h W f k S).length<=c+S.length*c:=by
 intro S
 have:∀(S:List Nat) (l:List (Nat×Nat)),l≠[]->l.Nodup->S.foldl (λacc s=>(f s).foldl ins acc) l≠[]/\(S.foldl (λacc s=>(f s).foldl ins acc) l).Nodup/\(S.foldl (λacc s=>(f s).foldl ins acc) l).length<=l.length+S.length*c:=by
  intro S
  induction S with
  | nil=>intro l a b;exact⟨a,b,by simp⟩
  | cons s S ih=>
   intro l a b
   obtain⟨x,y,z⟩:=ih _ (qQ (m:=f s) a) (n9 (m:=f s) b)
   have:=nF (f s) l
   have:=hl s
   refine⟨x,y,?_⟩
   rw[UZ,Kz,Y4];omega
 obtain⟨x,y,z⟩:=this S (f k) h0 hn
 have:=hl k
 exact⟨x,y,by unfold oM;omega⟩
theorem xa (h:Nat)(W:List Z2)(k:Nat)(hh:h<=4):(bM h W k).length<=4:=KJ (U7 _ _) (by rw[X8];exact hh)
theorem GV {h:Nat}{Ws:List (List Z2)}(hh:h<=4):∀(i k:Nat),Lk h Ws i k≠[]/\(Lk h Ws i k).Nodup/\(Lk h Ws i k).length<=6^i
 | 0,k=>⟨by simp[Lk],by simp[Lk],by simp[Lk]⟩
 | i+1,k=>by
  have ih:=GV (Ws:=Ws) hh i
  obtain⟨x,y,z⟩:=zQ (h:=h) (W:=Ws.getD i []) (f:=Lk h Ws i) (k:=k) (c:=6^i) (ih k).1 (ih k).2.1 (λs=>(ih s).2.2) (S:=bM h (Ws.getD i []) k)
  refine⟨Dl _ _,sS y,?_⟩
  have h1:=zP (oM h (Ws.getD i []) (Lk h Ws i) k (bM h (Ws.getD i []) k)) (k,i+1)
  have h2:=xa h (Ws.getD i []) k hh
  have h3:(bM h (Ws.getD i []) k).length*6^i<=4*6^i:=Nat.mul_le_mul_right _ h2
  have h4:0 < 6^i:=Nat.pow_pos (by decide)
  rw[Lk,Nat.pow_succ];omega
theorem Dq {h:Nat}{Ws:List (List Z2)}:∀(i k:Nat),k < h->∀q∈Lk h Ws i k,q.1 < h/\q.2<=i
 | 0,k,hk,q,hq=>by
  rw[Lk,K6] at hq;subst hq;exact⟨hk,K2 _⟩
 | i+1,k,hk,q,hq=>by
  rcases qR.mp hq with(hq | ⟨s,hs,hq⟩) | hq
  ·have:=Dq i k hk q hq;exact⟨this.1,Nat.le_succ_of_le this.2⟩
  ·have:=Dq i s (mz hs) q hq;exact⟨this.1,Nat.le_succ_of_le this.2⟩
  ·subst hq;exact⟨hk,K2 _⟩
theorem zR {h:Nat}{Ws:List (List Z2)}(hh:h<=4):∀(i:Nat),i<=Ws.length->∀(H:List Nat),(∀k∈H,k < h)->∀(o j:Nat),(∃k∈H,(o,j)∈Lk h Ws i k)↔j<=i/\o∈hs h ((Ws.take i).drop j).reverse H
 | 0,_,H,hH,o,j=>by
  simp only[Lk,K6,Prod.mk.injEq,YW,List.drop_nil,List.reverse_nil,hs]
  constructor
  ·rintro⟨k,hk,rfl,rfl⟩;exact⟨K2 _,hk⟩
  ·rintro⟨hj,ho⟩;exact⟨o,ho,rfl,by omega⟩
 | i+1,hi,H,hH,o,j=>by
  have hi':i < Ws.length:=by omega
  have eW:Ws.getD i []=Ws[i]:=by rw[X7,K3 hi'];rfl
  have ih:=zR (Ws:=Ws) hh i (!1) (iO h Ws[i] H) (wR hH) o j
  have key:(∃k∈H,(o,j)∈Lk h Ws (i+1) k)↔(∃k∈iO h Ws[i] H,(o,j)∈Lk h Ws i k)∨(j=i+1/\o∈H):=by
   constructor
   ·rintro⟨k,hk,hq⟩
    rcases qR.mp hq with(hq | ⟨s,hs',hq⟩) | hq
    ·exact .inl ⟨k,(qP hh hH k).mpr (KW _ hk),hq⟩
    ·rw[eW] at hs'
     exact .inl ⟨s,(qP hh hH s).mpr (Kx _ (Y8.mpr ⟨k,hk,hs'⟩)),hq⟩
    ·obtain⟨rfl,rfl⟩:=Prod.mk.inj hq
     exact .inr ⟨rfl,hk⟩
   ·rintro(⟨k,hk,hq⟩ | ⟨rfl,ho⟩)
    ·rcases Kk.mp ((qP hh hH k).mp hk) with hk | hk
     ·exact⟨k,hk,qR.mpr (.inl (.inl hq))⟩
     ·obtain⟨k',hk',hs'⟩:=Y8.mp hk
      exact⟨k',hk',qR.mpr (.inl (.inr ⟨k,by rw[eW];exact hs',hq⟩))⟩
    ·exact⟨o,ho,qR.mpr (.inr rfl)⟩
  rw[key,ih]
  have et:Ws.take (i+1)=Ws.take i++[Ws[i]]:=by rw[J8,K3 hi'];rfl
  have el:(Ws.take i).length=i:=by rw[Xk];omega
  by_cases hj:j<=i
  ·have ed:((Ws.take (i+1)).drop j).reverse=Ws[i] :: ((Ws.take i).drop j).reverse:=by
    rw[et,List.drop_append_of_le_length (by rw[el];exact hj),List.reverse_append];rfl
   rw[ed,hs]
   exact⟨λz=>z.elim (λy=>⟨by omega,y.2⟩) λy=>by omega,λz=> .inl ⟨hj,z.2⟩⟩
  ·have ed:((Ws.take (i+1)).drop (i+1)).reverse=[]:=by
    have z:(Ws.take (i+1)).drop (i+1)=[]:=Jy (by rw[Xk];omega)
    rw[z];rfl
   constructor
   ·rintro(y | ⟨rfl,ho⟩)
    ·omega
    ·refine⟨K2 _,?_⟩
     rw[ed];exact ho
   ·rintro⟨hj',ho⟩
    have:j=i+1:=by omega
    subst this
    rw[ed] at ho
    exact .inr ⟨rfl,ho⟩
theorem zS {h:Nat}{Ws:List (List Z2)}{hand:Nat}(hh:h<=4)(hd:hand < h)(o j:Nat):(o,j)∈Lk h Ws Ws.length hand↔j<=Ws.length/\o∈hs h (Ws.drop j).reverse [hand]:=by
 have:=zR (Ws:=Ws) hh Ws.length (K2 _) [hand] (λk hk=>by rw[K6.mp hk];exact hd) o j
 rw[J4] at this
 rw[←this];simp
theorem xb {h:Nat}:∀(R:List (List Z2)) (H:List Nat) (m:Nat) (hm:m < R.length),(rows h R H)[m]? =some (.tuple ((!2).map (ca h R[m] (hs h (R.take m) H))))
 | W :: R,H,0,_=>by rw[rows,List.getElem?_cons_zero,YW,hs];rfl
 | W :: R,H,m+1,hm=>by
  rw[rows,J1,xb R (iO h W H) m (by simpa using hm)]
  simp only[List.getElem_cons_succ,List.take_succ_cons,hs]
theorem Dr {h:Nat}{Ws:List (List Z2)}{hand m:Nat}(hm:m < Ws.length):(rows h Ws.reverse [hand]).reverse[m]? =some (.tuple ((!2).map (ca h Ws[m] (hs h (Ws.drop (m+1)).reverse [hand])))):=by
 have hl:(rows h Ws.reverse [hand]).length=Ws.length:=by rw[mE,UK]
 rw[List.getElem?_reverse (!1),hl,xb _ _ _ (by rw[UK];omega)]
 have e1:Ws.reverse[Ws.length - 1 - m]'(by rw[UK];omega)=Ws[m]:=by rw[List.getElem_reverse];congr 1;omega
 have e2:Ws.reverse.take (Ws.length - 1 - m)=(Ws.drop (m+1)).reverse:=by
  rw[List.take_reverse];congr 2;omega
 rw[e1,e2]
abbrev Slot:=Option (Bool×Z2)
def jY (h:Nat)(f:Nat->List (Nat×Nat)):List Z2:=(!2).map λk=> .dict (enc (f k))
theorem uW {h k:Nat}{f:Nat->List (Nat×Nat)}(hk:k < h):rA (jY h f) (k:Int)=some (.dict (enc (f k))):=iG (by unfold jY;rw[KY,Y9 hk];rfl)
theorem Ds (o:Nat):fX [fN o]=ah (.fr [],.dict (enc [(o,0)])):=by
 have hk:db (.tuple [.int (o:Int),.int 0])=true:=rfl
 have n2:aq [PyData.int (o:Int),.int 0]=true:=rfl
 simp(disch:=omega) only[fX,vB,rn,reduceIte,hk,au n2,and_self]
 rfl
theorem Dt (c0 c1 c2 c4 c5 c6 c7 c9 oN u9 c12:Slot)(h c:Nat)(f:Nat->List (Nat×Nat))(hl:∀s,(f s).length<=c)(S:List Nat)(hS:∀s∈S,s < h)(l0:List (Nat×Nat))(h0:l0≠[])(hz:l0.length+S.length*c<=100000) :
  ∃kC:Slot,bf (cN 9) fY (S.map nat) [c0,c1,c2,tL (jY h f),c4,c5,c6,c7,tD (enc l0),c9,oN,u9,c12]=
   ah (.nx [c0,c1,c2,tL (jY h f),c4,c5,c6,c7,tD (enc (S.foldl (λacc s=>(f s).foldl ins acc) l0)),kC,oN,u9,c12]):=by
 have len:∀(S:List Nat) (l:List (Nat×Nat)),(S.foldl (λacc s=>(f s).foldl ins acc) l).length<=l.length+S.length*c:=by
  intro S
  induction S with
  | nil=>intro l;simp
  | cons s S ih=>
   intro l
   have:=ih ((f s).foldl ins l)
   have:=nF (f s) l
   have:=hl s
   rw[UZ,Kz,Y4];omega
 have ne:∀(S:List Nat) (l:List (Nat×Nat)),l≠[]->S.foldl (λacc s=>(f s).foldl ins acc) l≠[]:=by
  intro S
  induction S with
  | nil=>intro l a;exact a
  | cons s S ih=>intro l a;exact ih _ (qQ (m:=f s) a)
 obtain⟨Γ',g1,kC,g2⟩:=br (g:=cN 9) (b:=fY) (ds:=S.map nat) (Γ:=[c0,c1,c2,tL (jY h f),c4,c5,c6,c7,tD (enc l0),c9,oN,u9,c12])
  (λi Γ=>∃kC:Slot,Γ=[c0,c1,c2,tL (jY h f),c4,c5,c6,c7,tD (enc ((S.take i).foldl (λacc s=>(f s).foldl ins acc) l0)),kC,oN,u9,c12]) ⟨c9,by simp⟩ (by
  rintro i d Γ hd ⟨kC,rfl⟩
  have hi:i < S.length:=by have:=(X1.mp hd).1;simpa using this
  rw[KY,K3 hi] at hd
  have hd':nat S[i]=d:=Option.some.inj hd
  subst hd'
  have hs:=hS _ (UX hi)
  have et:S.take (i+1)=S.take i++[S[i]]:=by rw[J8,K3 hi];rfl
  refine⟨_,[c0,c1,c2,tL (jY h f),c4,c5,c6,c7,tD (enc ((S.take (i+1)).foldl (λacc s=>(f s).foldl ins acc) l0)),tA (nat S[i]),oN,u9,c12],rfl,.inl ?_,_,rfl⟩
  rw[et,List.foldl_append,UZ,List.foldl_nil]
  have hlen:=len (S.take i) l0
  have hmul:(S.take i).length*c+c<=S.length*c:=by
   rw[←Y4];exact Nat.mul_le_mul_right _ (by rw[Xk];omega)
  have hne:=ne (S.take i) l0 h0
  have hfs:=hl S[i]
  generalize (S.take i).foldl (λacc s=>(f s).foldl ins acc) l0=l at*
  generalize S[i]=s at*
  have ek:=uW (f:=f) hs
  have eu:=Dp (l:=l) (m:=f s) hne (KJ (show _<=100000 by omega) (by decide))
  simp(disch:=omega) only[fY,rV,rn,reduceIte,nat,ek,eu])
 rw[K4,J4] at g2
 exact⟨kC,by rw[g1,g2]⟩
theorem Jc (c0 c1 c9 oN u9 c12:Slot)(h c i j:Nat)(hh:h<=4)(hj:j < h)(hi:i < 5)(W:List Z2)(nW:aq W=true)(hW:lays 60 W=true)(f:Nat->List (Nat×Nat))(hl:∀s,(f s).length<=c)(hc:c<=10000)(h0:∀s,f s≠[])(hn:∀s,(f s).Nodup)(hb:∀s,s < h->∀p∈f s,p.1 < h/\p.2<=i)(L0:List Z2)(ha:L0.length < 10) :
  ∃kC:Slot,fZ [c0,c1,tN h,tL (jY h f),tN i,tT W,tL L0,tN j,none,c9,oN,u9,c12]=
   ah (.nx [c0,c1,tN h,tL (jY h f),tN i,tT W,tL (L0++[.dict (enc (ins (oM h W f j (bM h W j)) (j,i+1)))]),tN j,none,kC,oN,u9,c12]):=by
 have ek:=uW (f:=f) hj
 have gd:=w6 (h0 j) (hn j) λp hp=>⟨by have:=(hb j hj p hp).1;omega,by have:=(hb j hj p hp).2;omega⟩
 have sn:=qM h j W hh hW
 have nS:aq ((bM h W j).map nat)=true:=aU _ (λ_=>rfl) _
 have sl:=xa h W j hh
 have PV:=hl j
 have hm:(bM h W j).length*c<=4*c:=Nat.mul_le_mul_right _ sl
 obtain⟨kC,hu⟩:=Dt c0 c1 (tN h) (tN i) (tT W) (tL L0) (tN j) c9 oN u9 c12 h c f hl (bM h W j) (λs hs=>mz hs) (f j) (h0 j) (!1)
 have e1:((i:Int)+1)=((i+1:Nat):Int):=by omega
 obtain⟨_,_,gl⟩:=zQ (h:=h) (W:=W) (f:=f) (k:=j) (c:=c) (h0 j) (hn j) hl (S:=bM h W j)
 have eg:(bM h W j).foldl (λacc s=>(f s).foldl ins acc) (f j)=oM h W f j (bM h W j):=rfl
 rw[eg] at hu
 generalize oM h W f j (bM h W j)=G at*
 have hk:db (.tuple [.int (j:Int),.int ((i+1:Nat):Int)])=true:=rfl
 have n2:aq [PyData.int (j:Int),.int ((i+1:Nat):Int)]=true:=rfl
 have hp:putK (enc G) (.tuple [.int (j:Int),.int ((i+1:Nat):Int)]) (.bool true)=enc (ins G (j,i+1)):=wX G (j,i+1)
 have hsz:(enc G).length < sizeLine:=by rw[uV];exact Xz (show _<=100000 by omega) (by decide)
 have hsz2:L0.length < sizeLine:=X6 ha (by decide)
 have nv:=mJ G
 have hom:dN (enc G) (.tuple [.int (j:Int),.int ((i+1:Nat):Int)])=true:=by unfold dN gF;rw[ky,hk];rfl
 refine⟨kC,?_⟩
 simp(disch:=omega) only[fZ,rW,pC,hom,rn,reduceIte,ek,gd,sn,au nW,au nS,hu,e1,hk,au n2,nv,hsz,hp,hsz2,and_self,ne_eq,Nat.reduceEqDiff,not_false_eq_true,and_true]
theorem xc {Ws:List (List Z2)}{i:Nat}{d:Z2}(h:(dI 0 (Ws.map PyData.tuple))[i]? =some d):∃hi:i < Ws.length,d= .tuple [.int (i:Int),.tuple Ws[i]]:=by
 rw[L2.jg,KY] at h
 by_cases hi:i < Ws.length
 ·rw[K3 hi] at h
  exact⟨hi,by have:=Option.some.inj h;rw[←this,Nat.zero_add]⟩
 ·rw[Xq (!1)] at h;cases h
theorem GW (c0 c1 c2 c3 c4 c5 c6 c7 c8 c9 oN u9 c12:Slot)(i:Nat)(W:List Z2)(nW:aq W=true) :
  jx [4,5] (cy .base (.tuple [.int (i:Int),.tuple W])) (.tuple [.int (i:Int),.tuple W]) [c0,c1,c2,c3,c4,c5,c6,c7,c8,c9,oN,u9,c12]=some [c0,c1,c2,c3,tN i,tT W,c6,c7,c8,c9,oN,u9,c12]:=by
 have n2:aq [PyData.int (i:Int),.tuple W]=true:=by simp only[aq,kN,cf,nW,XZ]
 rw[au n2]
 simp only[jx,Kz,Y2,if_true,pA,y_,o3,au nW,iR,List.set_cons_zero,List.set_cons_succ]
theorem Du {h b:Nat}{vs:List Int}{Ws:List (List Z2)}(w:rf h b vs Ws)(hh:h<=4)(c0 c1:Slot) :
  ∃c4 c5 c7 c9:Slot,bf (jx [4,5]) f6 (dI 0 (Ws.map PyData.tuple)) [c0,c1,tN h,tL (jY h (Lk h Ws 0)),none,none,none,none,none,none,none,none,none]=
   ah (.nx [c0,c1,tN h,tL (jY h (Lk h Ws Ws.length)),c4,c5,none,c7,none,c9,none,none,none]):=by
 obtain⟨Γ',g1,c4,c5,c7,c9,g2⟩:=br (g:=jx [4,5]) (b:=f6) (ds:=dI 0 (Ws.map PyData.tuple)) (Γ:=[c0,c1,tN h,tL (jY h (Lk h Ws 0)),none,none,none,none,none,none,none,none,none])
  (λi Γ=>∃c4 c5 c7 c9:Slot,Γ=[c0,c1,tN h,tL (jY h (Lk h Ws i)),c4,c5,none,c7,none,c9,none,none,none]) ⟨_,_,_,_,rfl⟩ (by
  rintro i d Γ hd ⟨c4,c5,c7,c9,rfl⟩
  obtain⟨hi,rfl⟩:=xc hd
  have hr:=w.hr
  have nW:=w.n _ (UX hi)
  have lW:=w.l _ (UX hi)
  have eW:Ws.getD i []=Ws[i]:=by rw[X7,K3 hi];rfl
  have NG:=GV (Ws:=Ws) hh i
  have h6:6^i<=6^5:=Nat.pow_le_pow_right (by decide) (!1)
  obtain⟨Γ',k1,eT,kC,k2⟩:=br (g:=cN 7) (b:=fZ) (ds:=(!2).map λ(i:Nat)=>PyData.int (i:Int)) (Γ:=[c0,c1,tN h,tL (jY h (Lk h Ws i)),tN i,tT Ws[i],tL [],c7,none,c9,none,none,none])
   (λj Γ=>∃c7 c9:Slot,Γ=[c0,c1,tN h,tL (jY h (Lk h Ws i)),tN i,tT Ws[i],tL (jY j (Lk h Ws (i+1))),c7,none,c9,none,none,none]) ⟨_,_,rfl⟩ (by
   rintro j d Γ hd ⟨c7,c9,rfl⟩
   obtain⟨rfl,hj⟩:=cm hd
   obtain⟨kC,e⟩:=Jc c0 c1 c9 none none none h (6^i) i j hh hj (!1) Ws[i] nW lW (Lk h Ws i) (λs=>(NG s).2.2) (KJ h6 (by decide)) (λs=>(NG s).1) (λs=>(NG s).2.1) (λs hs=>Dq i s hs) (jY j (Lk h Ws (i+1))) (by unfold jY;rw[K4,X8];omega)
   refine⟨_,_,rfl,.inl e,tN j,kC,?_⟩
   have e2:jY (j+1) (Lk h Ws (i+1))=jY j (Lk h Ws (i+1))++[.dict (enc (ins (oM h Ws[i] (Lk h Ws i) j (bM h Ws[i] j)) (j,i+1)))]:=by
    unfold jY;rw[Yz,X0]
    have:Lk h Ws (i+1) j=ins (oM h Ws[i] (Lk h Ws i) j (bM h Ws[i] j)) (j,i+1):=by rw[Lk,eW]
    rw[KZ,Ju,this]
   rw[e2])
  rw[K4,X8] at k2
  refine⟨_,[c0,c1,tN h,tL (jY h (Lk h Ws (i+1))),tN i,tT Ws[i],none,eT,none,kC,none,none,none],GW _ _ _ _ _ _ _ _ _ _ _ _ _ i Ws[i] nW,.inl ?_,_,_,_,_,rfl⟩
  simp(disch:=omega) only[f6,rn,reduceIte,Ku,k1,k2,Nat.reduceEqDiff])
 rw[L2.cG,K4] at g2
 exact⟨c4,c5,c7,c9,by rw[g1,g2]⟩
def pf (g:Nat->Z2)(i o:Nat):Z2:=if o < i then g o else .none
theorem Dv {g:Nat->Z2}(hg:∀o,bo (g o)=true)(i o:Nat):bo (pf g i o)=true:=by unfold pf;split;exact hg o;rfl
theorem xf (g:Nat->Z2){i h:Nat}(hi:i < h):((!2).map (pf g i)).set i (g i)=(!2).map (pf g (i+1)):=by
 refine Jk (by simp) λm h1 h2=> ?_
 rw[List.getElem_set,J3,J3,List.getElem_range]
 by_cases hm:i=m
 ·subst hm;rw[JQ rfl,pf,JQ (!1)]
 ·rw[JV hm,pf,pf]
  by_cases hlt:m < i
  ·rw[JQ hlt,JQ (!1)]
  ·rw[JV hlt,JV (!1)]
theorem sU (g:Nat->Z2){i h:Nat}(hg:g i= .none):(!2).map (pf g i)=(!2).map (pf g (i+1)):=by
 refine Uq λm _=> ?_
 unfold pf
 by_cases hlt:m < i
 ·rw[JQ hlt,JQ (!1)]
 ·rw[JV hlt]
  by_cases hm:m=i
  ·subst hm;rw[JQ (!1),hg]
  ·rw[JV (!1)]
theorem A6 (g:Nat->Z2)(h:Nat):(List.replicate h [PyData.none]).flatten=(!2).map (pf g 0):=by
 have:∀h:Nat,(List.replicate h [PyData.none]).flatten=List.replicate h PyData.none:=λh=>by
  induction h with
  | zero=>rfl
  | succ h ih=>rw[Uk,UQ,ih,Uk];rfl
 rw[this]
 refine Jk (by simp) λm h1 h2=> ?_
 rw[List.getElem_replicate,J3,pf,JV (!1)]
theorem xg (g:Nat->Z2)(h:Nat):(!2).map (pf g h)=(!2).map g:=Uq λm hm=>by
 unfold pf;rw[JQ (XU.mp hm)]
theorem o8 {n i:Nat}(h:i < n):Y.nM n (i:Int)=some i:=by
 unfold Y.nM;rw[JQ (!1),JQ (!1)];simp
theorem Dw {xs:List Z2}{k:Int}(h:aq xs=true/\ -(2^63)<=k/\k < 2^63/\xs.length*k.toNat<=sizeLine):Ah xs (.int k)=ah (.fr [],.list (List.replicate k.toNat xs).flatten):=JQ h
theorem sV (h:Nat)(hh:h<=4)(g:Nat->Z2):Ah [.none] (.int (h:Int))=ah (Kd.fr [],.list ((!2).map (pf g 0))):=by
 rw[←A6,Dw ⟨rfl,by omega,by omega,KJ (show _<=4 by rw[Ku,X3,Nat.one_mul];exact hh) (by decide)⟩,Ku]
theorem A7 {h b:Nat}{vs:List Int}{Ws:List (List Z2)}(w:rf h b vs Ws)(hh:h<=4){hand:Nat}(hd:hand < h)(c4 c5 c7 c9:Slot) :
  ∃eT:Slot,bf (cN 7) dR ((!2).map λ(i:Nat)=>PyData.int (i:Int)) [fA (jp vs Ws),fN hand,tN h,tL (jY h (Lk h Ws Ws.length)),c4,c5,none,c7,none,c9,tL ((!2).map (pf (cr vs (hs h Ws.reverse [hand])) 0)),tL [],none]=
   ah (.nx [fA (jp vs Ws),fN hand,tN h,tL (jY h (Lk h Ws Ws.length)),c4,c5,none,eT,none,c9,tL ((!2).map (cr vs (hs h Ws.reverse [hand]))),tL [],none]):=by
 have nr:=o5 (vs:=vs) w.n
 have hv:=w.hv
 have ek:=uW (f:=Lk h Ws Ws.length) hd
 obtain⟨Γ',g1,eT,g2⟩:=br (g:=cN 7) (b:=dR) (ds:=(!2).map λ(i:Nat)=>PyData.int (i:Int)) (Γ:=[fA (jp vs Ws),fN hand,tN h,tL (jY h (Lk h Ws Ws.length)),c4,c5,none,c7,none,c9,tL ((!2).map (pf (cr vs (hs h Ws.reverse [hand])) 0)),tL [],none])
  (λi Γ=>∃c7:Slot,Γ=[fA (jp vs Ws),fN hand,tN h,tL (jY h (Lk h Ws Ws.length)),c4,c5,none,c7,none,c9,tL ((!2).map (pf (cr vs (hs h Ws.reverse [hand])) i)),tL [],none]) ⟨_,rfl⟩ (by
  rintro i d Γ hd' ⟨c7,rfl⟩
  obtain⟨rfl,hi⟩:=cm hd'
  refine⟨_,[fA (jp vs Ws),fN hand,tN h,tL (jY h (Lk h Ws Ws.length)),c4,c5,none,tN i,none,c9,tL ((!2).map (pf (cr vs (hs h Ws.reverse [hand])) (i+1))),tL [],none],rfl,.inl ?_,_,rfl⟩
  have gi:vA (.tuple [.int (i:Int),.int 0]) (.dict (enc (Lk h Ws Ws.length hand)))=some (.bool (decide ((i,0)∈Lk h Ws Ws.length hand))):=w9 _ (i,0)
  have n2:aq [PyData.int (i:Int),.int 0]=true:=rfl
  have hm:(i,0)∈Lk h Ws Ws.length hand↔i∈hs h Ws.reverse [hand]:=by rw[zS hh hd,Y6];exact⟨λz=>z.2,λz=>⟨Xy _,z⟩⟩
  have np:=Dv (mF vs (hs h Ws.reverse [hand])) i
  have nl:aq ((!2).map (pf (cr vs (hs h Ws.reverse [hand])) i))=true:=aU _ np _
  have hix:Y.nM ((!2).map (pf (cr vs (hs h Ws.reverse [hand])) i)).length (i:Int)=some i:=o8 (by rw[K4,X8];exact hi)
  rw[K4,X8] at hix
  have hk':i < vs.length:=by omega
  have ea:rA (vs.map PyData.int) (i:Int)=some (.int (vs.getD i 0)):=iG (by rw[KY,X7,K3 hk'];rfl)
  by_cases hb:i∈hs h Ws.reverse [hand]
  ·have hb':=hm.mpr hb
   have hg:cr vs (hs h Ws.reverse [hand]) i= .int (vs.getD i 0):=JQ hb
   rw[←xf _ hi,hg]
   simp(disch:=omega) only[dR,rn,reduceIte,ek,gi,hb',au n2,Oq,cQ (mI w),au (fO vs),ea,hix,nl,XZ]
  ·have hb':¬ (i,0)∈Lk h Ws Ws.length hand:=λz=>hb (hm.mp z)
   rw[←sU _ (JV hb)]
   simp(disch:=omega) only[dR,rn,reduceIte,ek,gi,hb',au n2])
 rw[K4,X8,xg] at g2
 exact⟨eT,by rw[g1,g2]⟩
theorem Dx {h b:Nat}{vs:List Int}{Ws:List (List Z2)}(w:rf h b vs Ws)(hh:h<=4){hand m:Nat}(hd:hand < h)(hm:m < Ws.length)(c0 c7 c9 oN u9:Slot) :
  ∃eT:Slot,bf (cN 7) dS ((!2).map λ(i:Nat)=>PyData.int (i:Int)) [c0,fN hand,tN h,tL (jY h (Lk h Ws Ws.length)),tN m,tT Ws[m],none,c7,none,c9,oN,u9,tL ((!2).map (pf (ca h Ws[m] (hs h (Ws.drop (m+1)).reverse [hand])) 0))]=
   ah (.nx [c0,fN hand,tN h,tL (jY h (Lk h Ws Ws.length)),tN m,tT Ws[m],none,eT,none,c9,oN,u9,tL ((!2).map (ca h Ws[m] (hs h (Ws.drop (m+1)).reverse [hand])))]):=by
 have ek:=uW (f:=Lk h Ws Ws.length) hd
 have nW:=w.n _ (UX hm)
 have lW:=w.l _ (UX hm)
 have e1:((m:Int)+1)=((m+1:Nat):Int):=by omega
 generalize PX:Ws[m]=W at*
 obtain⟨Γ',g1,eT,g2⟩:=br (g:=cN 7) (b:=dS) (ds:=(!2).map λ(i:Nat)=>PyData.int (i:Int)) (Γ:=[c0,fN hand,tN h,tL (jY h (Lk h Ws Ws.length)),tN m,tT W,none,c7,none,c9,oN,u9,tL ((!2).map (pf (ca h W (hs h (Ws.drop (m+1)).reverse [hand])) 0))])
  (λi Γ=>∃c7:Slot,Γ=[c0,fN hand,tN h,tL (jY h (Lk h Ws Ws.length)),tN m,tT W,none,c7,none,c9,oN,u9,tL ((!2).map (pf (ca h W (hs h (Ws.drop (m+1)).reverse [hand])) i))]) ⟨_,rfl⟩ (by
  rintro i d Γ hd' ⟨c7,rfl⟩
  obtain⟨rfl,hi⟩:=cm hd'
  refine⟨_,[c0,fN hand,tN h,tL (jY h (Lk h Ws Ws.length)),tN m,tT W,none,tN i,none,c9,oN,u9,tL ((!2).map (pf (ca h W (hs h (Ws.drop (m+1)).reverse [hand])) (i+1)))],rfl,.inl ?_,_,rfl⟩
  have gi:vA (.tuple [.int (i:Int),.int ((m+1:Nat):Int)]) (.dict (enc (Lk h Ws Ws.length hand)))=some (.bool (decide ((i,m+1)∈Lk h Ws Ws.length hand))):=w9 _ (i,m+1)
  have n2:aq [PyData.int (i:Int),.int ((m+1:Nat):Int)]=true:=rfl
  have hmm:(i,m+1)∈Lk h Ws Ws.length hand↔i∈hs h (Ws.drop (m+1)).reverse [hand]:=by rw[zS hh hd];exact⟨λz=>z.2,λz=>⟨by omega,z⟩⟩
  have nl:aq ((!2).map (pf (ca h W (hs h (Ws.drop (m+1)).reverse [hand])) i))=true:=aU _ (Dv (jT h W _) i) _
  have hix:Y.nM h (i:Int)=some i:=o8 hi
  have sn:=qM h i W hh lW
  have nS:aq ((bM h W i).map nat)=true:=aU _ (λ_=>rfl) _
  by_cases hb:i∈hs h (Ws.drop (m+1)).reverse [hand]
  ·have hb':=hmm.mpr hb
   have hg:ca h W (hs h (Ws.drop (m+1)).reverse [hand]) i= .tuple ((bM h W i).map nat):=JQ hb
   rw[←xf _ hi,hg]
   simp(disch:=omega) only[dS,rn,reduceIte,e1,ek,gi,hb',au n2,au nW,sn,au nS,nS,hix,nl,XZ]
  ·have hb':¬ (i,m+1)∈Lk h Ws Ws.length hand:=λz=>hb (hmm.mp z)
   rw[←sU _ (JV hb)]
   simp(disch:=omega) only[dS,rn,reduceIte,e1,ek,gi,hb',au n2])
 rw[K4,X8,xg] at g2
 exact⟨eT,by rw[g1,g2]⟩
theorem A8 {h b:Nat}{vs:List Int}{Ws:List (List Z2)}(w:rf h b vs Ws)(hh:h<=4){hand:Nat}(hd:hand < h)(c0 c4 c5 c7 c9 oN:Slot) :
  ∃mS mT eT Jd:Slot,bf (jx [4,5]) f7 (dI 0 (Ws.map PyData.tuple)) [c0,fN hand,tN h,tL (jY h (Lk h Ws Ws.length)),c4,c5,none,c7,none,c9,oN,tL [],none]=
   ah (.nx [c0,fN hand,tN h,tL (jY h (Lk h Ws Ws.length)),mS,mT,none,eT,none,c9,oN,tL (rows h Ws.reverse [hand]).reverse,Jd]):=by
 have hr:=w.hr
 obtain⟨Γ',g1,mS,mT,eT,Jd,g2⟩:=br (g:=jx [4,5]) (b:=f7) (ds:=dI 0 (Ws.map PyData.tuple)) (Γ:=[c0,fN hand,tN h,tL (jY h (Lk h Ws Ws.length)),c4,c5,none,c7,none,c9,oN,tL [],none])
  (λi Γ=>∃c4 c5 c7 c12:Slot,Γ=[c0,fN hand,tN h,tL (jY h (Lk h Ws Ws.length)),c4,c5,none,c7,none,c9,oN,tL ((rows h Ws.reverse [hand]).reverse.take i),c12]) ⟨_,_,_,_,rfl⟩ (by
  rintro i d Γ hd' ⟨c4,c5,c7,c12,rfl⟩
  obtain⟨hi,rfl⟩:=xc hd'
  have nW:=w.n _ (UX hi)
  obtain⟨eT,e⟩:=Dx w hh hd hi c0 c7 c9 oN (tL ((rows h Ws.reverse [hand]).reverse.take i))
  have er:=Dr (h:=h) (hand:=hand) hi
  have et:(rows h Ws.reverse [hand]).reverse.take (i+1)=(rows h Ws.reverse [hand]).reverse.take i++[.tuple ((!2).map (ca h Ws[i] (hs h (Ws.drop (i+1)).reverse [hand])))]:=by rw[J8,er];rfl
  refine⟨_,[c0,fN hand,tN h,tL (jY h (Lk h Ws Ws.length)),tN i,tT Ws[i],none,eT,none,c9,oN,tL ((rows h Ws.reverse [hand]).reverse.take (i+1)),tL ((!2).map (ca h Ws[i] (hs h (Ws.drop (i+1)).reverse [hand])))],GW _ _ _ _ _ _ _ _ _ _ _ _ _ i Ws[i] nW,.inl ?_,_,_,_,_,rfl⟩
  rw[et]
  have hsz:((rows h Ws.reverse [hand]).reverse.take i).length < sizeLine:=Xz (show _<=5 by rw[Xk];omega) (by decide)
  generalize Ws[i]=W at*
  have rp:=sV h hh (ca h W (hs h (Ws.drop (i+1)).reverse [hand]))
  have nR:aq ((!2).map (ca h W (hs h (Ws.drop (i+1)).reverse [hand])))=true:=aU _ (jT h W _) _
  simp(disch:=omega) only[f7,rn,reduceIte,Ai,isNew,rp,Ku,e,bT nR,au nR,hsz])
 rw[L2.cG,K4,U9 (by rw[UK,mE,UK];exact K2 _)] at g2
 exact⟨mS,mT,eT,Jd,by rw[g1,g2]⟩
theorem yJ {h b:Nat}{vs:List Int}{Ws:List (List Z2)}(w:rf h b vs Ws)(hh:h<=4){hand:Nat}(hd:hand < h):gz [jp vs Ws,.int (hand:Int)]=ah (true,gO vs Ws hand):=by
 have hv:=w.hv
 have hr:=w.hr
 have nr:=mI w
 have nw:=zO w
 have hml:(vs.map PyData.int).length=h:=by rw[K4];exact hv
 have hc:=ji (fe:=fX) (cap:=[]) ((!2).map λ(i:Nat)=>PyData.int (i:Int))
  (λd=>match d with | .int k=>(.fr [],.dict (enc [(k.toNat,0)])) | _=>(.fr [],.none)) (λd hd=>by
   obtain⟨k,hk,rfl⟩:=Kw.mp hd
   rw[Ds];simp only[Ku])
 have e1:(((!2).map λ(i:Nat)=>PyData.int (i:Int)).map λd=>match d with | .int k=>(Kd.fr [],PyData.dict (enc [(k.toNat,0)])) | _=>(Kd.fr [],PyData.none))=(!2).map λk=>(Kd.fr [],PyData.dict (enc (Lk h Ws 0 k))):=by
  rw[KQ];refine Uq λk _=> ?_;simp only[Function.comp,Ku,Lk]
 rw[e1] at hc
 have k1:=dC (!2) λk=>PyData.dict (enc (Lk h Ws 0 k))
 have e2:((!2).map λk=>(Kd.fr [],PyData.dict (enc (Lk h Ws 0 k)))).map Prod.snd=jY h (Lk h Ws 0):=by rw[KQ];rfl
 have hle:h<=100000:=by omega
 obtain⟨c4,c5,c7,c9,l1⟩:=Du w hh (fA (jp vs Ws)) (fN hand)
 have rp:=sV h hh (cr vs (hs h Ws.reverse [hand]))
 obtain⟨eT,l2⟩:=A7 w hh hd c4 c5 c7 c9
 obtain⟨d4,d5,d7,PY,l3⟩:=A8 w hh hd (fA (jp vs Ws)) c4 c5 eT c9 (tL ((!2).map (cr vs (hs h Ws.reverse [hand]))))
 have n1:aq ((!2).map (cr vs (hs h Ws.reverse [hand])))=true:=aU _ (mF _ _) _
 have n2:aq (rows h Ws.reverse [hand]).reverse=true:=aQ.mpr λx hx=>aQ.mp (ku (h:=h) (R:=Ws.reverse) (H:=[hand])) x (Uz.mp hx)
 have n4:aq [PyData.int (hand:Int),.tuple ((!2).map (cr vs (hs h Ws.reverse [hand]))),.tuple (rows h Ws.reverse [hand]).reverse]=true:=by simp only[aq,kN,cf,n1,n2,XZ]
 simp(disch:=omega) only[gz,ki,bj,tW,EE,Ai,isNew,rn,reduceIte,Oq,Pu,cQ nr,au nw,au (fO vs),hv,hml,Ku,hc,k1,e2,hle,l1,rp,l2,l3,bT n1,bT n2,au n1,au n2,au n4,gO]
theorem A9 (i:Int):b9 [.int i]=ah (true,.bool true):=by
 simp(disch:=omega) only[b9,jR,rn,i7,mY,bK,reduceCtorEq,reduceIte,String.reduceBEq]
mutual
theorem mK:∀(n:Nat) (d:Z2),lay n d=true->PyData.eqv d d=true
 | _,.none,_=>by simp[PyData.eqv]
 | _,.bool _,_=>by simp[PyData.eqv]
 | _,.int _,_=>by simp[PyData.eqv]
 | _,.str _,_=>by simp[PyData.eqv]
 | 0,.list xs,h=>by simp[lay] at h
 | 0,.tuple xs,h=>by simp[lay] at h
 | n+1,.list xs,h=>by rw[lay] at h;simp only[PyData.eqv];exact qS n xs h
 | n+1,.tuple xs,h=>by rw[lay] at h;simp only[PyData.eqv];exact qS n xs h
 | 0,.dict _,h=>by simp[lay] at h
 | n+1,.dict _,h=>by simp[lay] at h
theorem qS:∀(n:Nat) (ds:List Z2),lays n ds=true->PyData.eqvAll ds ds=true
 | _,[],_=>by simp[PyData.eqvAll]
 | n,d :: ds,h=>by
  rw[lays,X9] at h
  simp only[PyData.eqvAll,mK n d h.1,qS n ds h.2,XZ]
end
theorem xh {n:Nat}{xs ys:List Z2}(h1:lays n xs=true)(h2:lays n ys=true):lays n (xs++ys)=true:=gj.mpr λx hx=>by
 rcases Kk.mp hx with h | h
 ·exact gj.mp h1 x h
 ·exact gj.mp h2 x h
structure Good (xs:List Z2):Prop where
 u:∀(d:Nat) (x:Z2),xs[d]? =some x->rB x xs=some d
 n:aq xs=true
 l:∀n,lays (n+3) xs=true
theorem sW {x:Z2}:∀{xs:List Z2} {d:Nat} (zs:List Z2),rB x xs=some d->rB x (xs++zs)=some d
 | [],d,zs,h=>by cases h
 | y :: ys,d,zs,h=>by
  rw[U6,rB]
  rw[rB] at h
  by_cases hy:PyData.eqv y x=true
  ·rw[JQ hy] at h⊢;exact h
  ·rw[JV hy] at h⊢
   cases e:rB x ys with
   | none=>rw[e] at h;cases h
   | some k=>rw[e] at h;rw[sW zs e];exact h
theorem qT {x:Z2}(hx:PyData.eqv x x=true):∀{xs:List Z2},cz xs x=false->rB x (xs++[x])=some xs.length
 | [],_=>by simp[rB,hx]
 | y :: ys,h=>by
  rw[cz,YJ,Bool.or_eq_false_iff] at h
  rw[U6,rB,JV (by rw[h.1];exact K5),qT hx h.2];rfl
theorem Good.snoc {xs:List Z2}{x:Z2}(g:Good xs)(hn:bo x=true)(hl:∀n,lay (n+3) x=true)(hx:cz xs x=false):Good (xs++[x]) where
 u:=λd y h=>by
  by_cases hd:d < xs.length
  ·rw[Xx hd] at h
   exact sW _ (g.u d y h)
  ·rw[Xu (!1)] at h
   have h0:d - xs.length=0:=by
    have:=(X1.mp h).1
    simp at this;omega
   rw[h0] at h
   have:x=y:=by simpa using h
   subst this
   rw[qT (mK _ _ (hl 0)) hx]
   congr 1;omega
 n:=by rw[gh,g.n,aq,aq,hn];rfl
 l:=λn=>xh (g.l n) (by rw[lays,lays,hl n];rfl)
theorem qU:Good []:=⟨λd x h=>by simp at h,rfl,λ_=>rfl⟩
theorem Good.bo {xs:List Z2}{x:Z2}(g:Good xs)(h:x∈xs):bo x=true:=aQ.mp g.n x h
theorem Good.lay {xs:List Z2}{x:Z2}(g:Good xs)(h:x∈xs)(n:Nat):Y.lay (n+3) x=true:=gj.mp (g.l n) x h
theorem Good.cz {xs:List Z2}{x:Z2}(g:Good xs)(h:x∈xs):Y.cz xs x=true:=List.any_eq_true.mpr ⟨x,h,mK _ _ (g.lay h 0)⟩
theorem zT (xs:List Z2)(n:Nat)(hx:xs.length<=1000)(hn:n<=100):gB [.list xs,.int (n:Int)]=ah (true,.int ((xs.length^n:Nat):Int)):=by
 obtain⟨Γ',h1,c3,h2⟩:=br (g:=cN 3) (b:=iV) (ds:=(List.range n).map λ(i:Nat)=>PyData.int (i:Int)) (Γ:=[fL xs,fN n,tI 1,none])
  (λi Γ=>∃c3:Option (Bool×Z2),Γ=[fL xs,fN n,tI ((xs.length^i:Nat):Int),c3]) ⟨none,by simp⟩ (by
  rintro i d Γ hd ⟨c3,rfl⟩
  obtain⟨rfl,hi⟩:=cm hd
  refine⟨_,[fL xs,fN n,tI ((xs.length^(i+1):Nat):Int),tN i],rfl,.inl ?_,_,rfl⟩
  simp(disch:=omega) only[iV,rn,reduceIte,Nat.pow_succ,Int.natCast_mul])
 simp(disch:=omega) only[gB,ko,rn,reduceIte,h1,h2,Ku]
noncomputable def dig (L n:Nat):Nat->List Nat
 | 0=> []
 | k+1=>dig L n k++[n / L^k % L]
theorem FY (L n k:Nat):(dig L n k).length=k:=by
 induction k with
 | zero=>rfl
 | succ k ih=>rw[dig,K1,ih];rfl
theorem Dy {L n k d:Nat}(hL:0 < L)(h:d∈dig L n k):d < L:=by
 induction k with
 | zero=>cases h
 | succ k ih=>
  rw[dig] at h
  rcases Kk.mp h with h | h
  ·exact ih h
  ·rw[K6.mp h];exact Nat.mod_lt _ hL
noncomputable def nG (xs:List Z2)(n k:Nat):List Z2:=(dig xs.length n k).reverse.map λd=>xs.getD d .none
theorem getD_at {xs:List Z2}{d:Nat}(h:d < xs.length):xs[d]? =some (xs.getD d .none):=by rw[X7,K3 h];rfl
theorem getD_mem {xs:List Z2}{d:Nat}(h:d < xs.length):xs.getD d .none∈xs:=Y1 (getD_at h)
theorem Dz {xs:List Z2}{n k:Nat}{x:Z2}(hv:1<=xs.length)(h:x∈nG xs n k):x∈xs:=by
 obtain⟨d,hd,rfl⟩:=Kw.mp h
 exact getD_mem (Dy hv (Uz.mp hd))
theorem DB (xs:List Z2)(n k:Nat)(g:Good xs)(hv:1<=xs.length)(GC:xs.length<=1000)(hk:k<=100):ml [.list xs,.int (k:Int),.int (n:Int)]=ah (true,.tuple (nG xs n k)):=by
 obtain⟨Γ',h1,c5,h2⟩:=br (g:=cN 5) (b:=lD) (ds:=(List.range k).map λ(i:Nat)=>PyData.int (i:Int)) (Γ:=[fL xs,fN k,fN n,tL [],tN n,none])
  (λi Γ=>∃c5:Option (Bool×Z2),Γ=[fL xs,fN k,fN n,tL ((dig xs.length n i).map λd=>xs.getD d .none),tI ((n / xs.length^i:Nat):Int),c5]) ⟨none,by simp[dig]⟩ (by
  rintro i d Γ hd ⟨c5,rfl⟩
  obtain⟨rfl,hi⟩:=cm hd
  refine⟨_,[fL xs,fN k,fN n,tL ((dig xs.length n (i+1)).map λd=>xs.getD d .none),tI ((n / xs.length^(i+1):Nat):Int),tN i],rfl,.inl ?_,_,rfl⟩
  have hlt:n / xs.length^i % xs.length < xs.length:=Nat.mod_lt _ hv
  have e1:((n / xs.length^i:Nat):Int) % (xs.length:Int)=((n / xs.length^i % xs.length:Nat):Int):=(Int.natCast_emod _ _).symm
  have e2:rA xs ((n / xs.length^i % xs.length:Nat):Int)=some (xs.getD (n / xs.length^i % xs.length) .none):=iG (getD_at hlt)
  have e3:((n / xs.length^i:Nat):Int) / (xs.length:Int)=((n / xs.length^(i+1):Nat):Int):=by
   rw[Nat.pow_succ,←Nat.div_div_eq_div_mul];exact(Int.natCast_ediv _ _).symm
  have hsz:(dig xs.length n i).length < sizeLine:=Xz (show _<=100 by rw[FY];omega) (by decide)
  have e4:bo (xs.getD (n / xs.length^i % xs.length) .none)=true:=g.bo (getD_mem hlt)
  simp(disch:=omega) only[lD,rn,reduceIte,e1,e2,e3,hsz,dig,X0,cQ e4])
 have hn:aq ((dig xs.length n k).map λd=>xs.getD d .none)=true:=aQ.mpr λx hx=>by
  obtain⟨d,hd,rfl⟩:=Kw.mp hx
  exact g.bo (getD_mem (Dy hv hd))
 rw[K4,X8] at h2
 simp(disch:=omega) only[ml,qv,rn,reduceIte,h1,h2,Ku,qd hn,nG,←List.map_reverse]
theorem DC (ws ss:List Z2)(k N:Nat)(gw:Good ws)(gs:Good ss)(hv:1<=ws.length)(GC:ws.length<=8)(hk:k<=5)(hN:N < ss.length*ws.length^k) :
  mm [.list ws,.int (k:Int),.list ss,.int (N:Int)]=ah (true,.tuple [ss.getD (N / ws.length^k) .none,.tuple (nG ws (N % ws.length^k) k)]):=by
 have hp:0 < ws.length^k:=Nat.pow_pos hv
 have hp2:ws.length^k<=32768:=KJ (Nat.pow_le_pow_left GC k) (KJ (Nat.pow_le_pow_right (by decide) hk) (by decide))
 have hq:N / ws.length^k < ss.length:=Nat.div_lt_of_lt_mul (by rw[Jx];exact hN)
 have hm:=zT ws k (!1) (!1)
 have hr:=DB ws (N % ws.length^k) k gw hv (!1) (!1)
 have e1:((N:Nat):Int) / ((ws.length^k:Nat):Int)=((N / ws.length^k:Nat):Int):=(Int.natCast_ediv _ _).symm
 have e2:((N:Nat):Int) % ((ws.length^k:Nat):Int)=((N % ws.length^k:Nat):Int):=(Int.natCast_emod _ _).symm
 have e3:=iG (getD_at hq)
 have ns:bo (ss.getD (N / ws.length^k) .none)=true:=gs.bo (getD_mem hq)
 have nr:aq (nG ws (N % ws.length^k) k)=true:=aQ.mpr λx hx=>gw.bo (Dz hv hx)
 have hT:aq [ss.getD (N / ws.length^k) .none,.tuple (nG ws (N % ws.length^k) k)]=true:=by simp only[aq,ns,cf,nr,XZ]
 generalize ws.length^k=L at*
 simp(disch:=omega) only[mm,qw,rn,reduceIte,hm,hr,e1,e2,e3,cQ ns,au nr,au hT]
theorem FZ (ws ss:List Z2)(k:Nat)(GC:ws.length<=8)(hs:ss.length<=81)(hk:k<=5) :
  gC [.list ws,.int (k:Int),.list ss]=ah (true,.int ((ss.length*ws.length^k:Nat):Int)):=by
 have hm:=zT ws k (!1) (!1)
 simp(disch:=omega) only[gC,kq,rn,reduceIte,hm,Int.natCast_mul]
theorem DD {xs ys:List Z2}(h1:aq xs=true)(h2:aq ys=true)(h3:xs.length+ys.length<=sizeLine):kX (.tuple xs) (.tuple ys)=some (.tuple (xs++ys)):=by
 simp only[kX,h1,h2,XZ,J5,Z9 h3,if_true]
theorem xi (L m:Nat):∀k:Nat,dig L m (k+1)=(m % L) :: dig L (m / L) k
 | 0=>by simp[dig]
 | k+1=>by
  rw[dig,xi L m k,dig,U6,Nat.pow_succ,Jx (L^k) L,←Nat.div_div_eq_div_mul]
theorem A_ (xs:List Z2)(n d k:Nat)(hd:d < xs.length):nG xs (n*xs.length+d) (k+1)=nG xs n k++[xs.getD d .none]:=by
 have e1:(n*xs.length+d) % xs.length=d:=by rw[Jx,Nat.mul_add_mod,Nat.mod_eq_of_lt hd]
 have e2:(n*xs.length+d) / xs.length=n:=by rw[Jx,Nat.mul_add_div (!1),Nat.div_eq_of_lt hd,Nat.add_zero]
 unfold nG
 rw[xi,e1,e2,J7,X0]
 rfl
theorem sX (a b:Nat):List.range (a*b)=(List.range a).flatMap λn=>(List.range b).map λd=>n*b+d:=by
 induction a with
 | zero=>simp
 | succ a ih=>
  rw[Y4,List.range_add,ih,Yz,List.flatMap_append]
  simp
theorem map_getD (xs:List Z2):(List.range xs.length).map (λd=>xs.getD d .none)=xs:=by
 refine Jk (by simp) λi h1 h2=> ?_
 simp[X7,K3 h2]
theorem Je {α:Type}(xs:List Z2)(f:Z2->α):xs.map f=(List.range xs.length).map λd=>f (xs.getD d .none):=(congrArg (List.map f) (map_getD xs)).symm.trans (KQ ..)
theorem F0 {α:Type}(xs:List Z2)(f:Z2->List α):xs.flatMap f=(List.range xs.length).flatMap λd=>f (xs.getD d .none):=(congrArg (List.flatMap f) (map_getD xs)).symm.trans (List.flatMap_map ..)
noncomputable def rws (ws:List Z2):Nat->List (List Z2)
 | 0=> [[]]
 | k+1=>(rws ws k).flatMap λr=>ws.map λw=>r++[w]
theorem yK (ws:List Z2):∀k:Nat,rws ws k=(List.range (ws.length^k)).map λn=>nG ws n k
 | 0=>by simp[rws,nG,dig]
 | k+1=>by
  rw[rws,yK ws k,Nat.pow_succ,sX,List.map_flatMap,List.flatMap_map]
  refine congrArg (λf=>List.flatMap f (List.range (ws.length^k))) (funext λn=> ?_)
  rw[KQ,Je ws]
  refine Uq λd hd=> ?_
  exact(A_ ws n d k (XU.mp hd)).symm
def xj (ws ss:List Z2)(k N:Nat):Z2:=.tuple [ss.getD (N / ws.length^k) .none,.tuple (nG ws (N % ws.length^k) k)]
def DF (ws ss:List Z2)(k:Nat):List Z2:=(List.range (ss.length*ws.length^k)).map (xj ws ss k)
theorem F1 (ws ss:List Z2)(k:Nat):(ss.flatMap λs=>(rws ws k).map λr=>PyData.tuple [s,.tuple r])=DF ws ss k:=by
 unfold DF
 rw[sX,List.map_flatMap]
 rw[F0 ss]
 refine congrArg (λf=>List.flatMap f (List.range ss.length)) (funext λm=> ?_)
 rw[yK,KQ,KQ]
 refine Uq λn hn=> ?_
 have hn':n < ws.length^k:=XU.mp hn
 show PyData.tuple [ss.getD m .none,.tuple (nG ws n k)]=xj ws ss k (m*ws.length^k+n)
 unfold xj
 rw[Jx,Nat.mul_add_div (!1),Nat.div_eq_of_lt hn',Nat.add_zero,Nat.mul_add_mod,Nat.mod_eq_of_lt hn']
theorem zU (ws:List Z2)(k:Nat):(rws ws k).length=ws.length^k:=by rw[yK];simp
theorem o9 {ws:List Z2}:∀{k:Nat} {r:List Z2},r∈rws ws k->r.length=k/\∀x∈r,x∈ws
 | 0,r,h=>by rw[K6.mp h];exact⟨rfl,λx hx=>by cases hx⟩
 | k+1,r,h=>by
  obtain⟨r',h1,h2⟩:=Y8.mp h
  obtain⟨w,h3,rfl⟩:=Kw.mp h2
  obtain⟨h4,h5⟩:=o9 h1
  refine⟨by rw[K1,h4];rfl,λx hx=> ?_⟩
  rcases Kk.mp hx with hx | hx
  ·exact h5 x hx
  ·rw[K6.mp hx];exact h3
theorem DH {ws:List Z2}(g:Good ws){k:Nat}{r:List Z2}(h:r∈rws ws k):aq r=true:=aQ.mpr λx hx=>g.bo ((o9 h).2 x hx)
def tups (l:List (List Z2)):List Z2:=l.map PyData.tuple
theorem xk (a b:List (List Z2)):tups (a++b)=tups a++tups b:=by simp[tups]
def pairD (s:Z2)(l:List (List Z2)):List Z2:=l.map λr=>PyData.tuple [s,.tuple r]
theorem Jf (ws ss:List Z2)(k:Nat)(g:Good ws)(gs:Good ss)(hw1:1<=ws.length)(hw:ws.length<=8)(hk:k<=5)(hs:ss.length<=81)(hm:ss.length*ws.length^k<=3000) :
  jQ [.list ws,.int (k:Int),.list ss]=ah (true,.list (DF ws ss k)):=by
 have hr:gC [.list ws,.int (k:Int),.list ss]=ah (true,.int ((ss.length*ws.length^k:Nat):Int)):=FZ ws ss k hw hs hk
 have hgt:decide ((3000:Int) < ((ss.length*ws.length^k:Nat):Int))=false:=Z8 (!1)
 have hc:cc ce gZ [fL ws,fN k,fL ss] ((List.range (ss.length*ws.length^k)).map λ(i:Nat)=>PyData.int (i:Int))=some (((List.range (ss.length*ws.length^k)).map λ(i:Nat)=>PyData.int (i:Int)).map λd=>(Kd.fr [],match d with | .int i=>xj ws ss k i.toNat | _=> .none)):=ji _ _ λd hd=>by
  obtain⟨N,hN,rfl⟩:=Kw.mp hd
  have e:=DC ws ss k N g gs hw1 hw hk (XU.mp hN)
  simp(disch:=omega) only[gZ,rn,reduceIte,e,v9 (md _),Ku,xj]
  unfold cy;split <;> rfl
 rw[KQ] at hc
 have k1:=dC (List.range (ss.length*ws.length^k)) (xj ws ss k)
 have m1:((List.range (ss.length*ws.length^k)).map λa=>(Kd.fr [],xj ws ss k a)).map Prod.snd=DF ws ss k:=by rw[KQ];rfl
 have hc':cc ce gZ [fL ws,fN k,fL ss] ((List.range (ss.length*ws.length^k)).map λ(i:Nat)=>PyData.int (i:Int))=some ((List.range (ss.length*ws.length^k)).map λa=>(Kd.fr [],xj ws ss k a)):=hc
 have hl:ss.length*ws.length^k<=100000:=by omega
 generalize hM:ss.length*ws.length^k=Mm at*
 simp(disch:=omega) only[jQ,lE,bj,rn,reduceIte,hr,hgt,Ku,hc',k1,m1,hl,v9 (md _)]
end K51
namespace Y
open PySem
section
variable {a b:SF}{t:TF}{Γ Γ':aW}{o:Bool}{d:Z2}
theorem aH (h:a Γ=ah (.nx Γ')):aC a b Γ=b Γ':=by unfold aC;rw[h];rfl
theorem GX (h:t Γ=ah true):kZ t a b Γ=a Γ:=by unfold kZ;rw[h];rfl
theorem DJ (h:t Γ=ah false):kZ t a b Γ=b Γ:=by unfold kZ;rw[h];rfl
theorem F2 (Γ:aW):eQ Γ=ah (.nx Γ):=rfl
theorem gg {n:Nat}{ds:List Z2}(h:a (da n ds)=ah (.rt o d)):cA n a ds=ah (o,d):=by unfold cA;rw[h];rfl
theorem mL {n:Nat}(h:t Γ=ah true)(h2:b Γ=ah (.nx Γ')):eG (n+1) t b Γ=eG n t b Γ':=by rw[eG,h,ay,JQ rfl,h2,ay]
theorem qV {n:Nat}(h:t Γ=ah false):eG (n+1) t b Γ=ah (.nx Γ):=by rw[eG,h,ay,JV K5]
end
end Y
namespace K51
open PySem Y
def qW (ns:List Int)(k:Int):Int:=if k < ns.length then (ns[k.toNat]?).getD 0 else 0
theorem uX (ns:List Int)(k:Int)(hk:0<=k):bb [.list (ns.map PyData.int),.int k]=ah (true,.int (qW ns k)):=by
 by_cases h:k < ns.length
 ·have e:(ns.map PyData.int)[k.toNat]? =some (.int (qW ns k)):=by
   rw[KY,K3 (!1),qW,JQ h,K3 (!1)];rfl
  simp(disch:=omega) only[bb,fc,rn,reduceIte,h,Fl hk e]
 ·have e:qW ns k=0:=JV h
  simp(disch:=omega) only[bb,fc,rn,reduceIte,h,e]
theorem Jg (n k:Int)(h0:0<=k)(h1:k < 1000):∃z:Nat,z < 2147483648/\fP [.int n,.int k]=ah (true,.int (z:Int)):=by
 by_cases hn:1000000000000<=n
 ·have b1:=Yw k (show(61:Int)≠0 by decide)
  have b2:=Y3 k (show(0:Int) < 61 by decide)
  obtain⟨Γ',g1,z,c2,g2⟩:=br (g:=cN 2) (b:=jJ) (ds:=(List.range (k % 61).toNat).map λ(i:Nat)=>PyData.int (i:Int)) (Γ:=[tI (n / 1000000000000 - 1),fI k,none,none])
   (λi Γ=>∃(z:Int) (c2:Option (Bool×Z2)),Γ=[tI z,fI k,c2,none]) ⟨_,none,rfl⟩ (by
   rintro i d Γ hd ⟨z,c2,rfl⟩
   obtain⟨rfl,hi⟩:=cm hd
   refine⟨_,[tI (z / 2147483648),fI k,tN i,none],rfl,.inl ?_,_,_,rfl⟩
   simp(disch:=omega) only[jJ,rn,reduceIte])
  refine⟨(z % 2147483648).toNat,by omega,?_⟩
  have ez:((z % 2147483648).toNat:Int)=z % 2147483648:=by omega
  rw[ez]
  simp(disch:=omega) only[fP,jK,rn,reduceIte,zp,Int.reduceToNat,Int.reducePow,hn,g1,g2]
 ·have b1:=Yw n (show(1000003:Int)≠0 by decide)
  have b2:=Y3 n (show(0:Int) < 1000003 by decide)
  have b3:=Yw ((n % 1000003+k*k*7919+k)*48271) (show(2147483629:Int)≠0 by decide)
  have b4:=Y3 ((n % 1000003+k*k*7919+k)*48271) (show(0:Int) < 2147483629 by decide)
  generalize ha:(n % 1000003+k*k*7919+k)*48271 % 2147483629=a at b3 b4
  have b5:=Yw (a*a) (show(2147483587:Int)≠0 by decide)
  have b6:=Y3 (a*a) (show(0:Int) < 2147483587 by decide)
  generalize hb:a*a % 2147483587=b at b5 b6
  have b7:=Yw (b*(b+2)) (show(2147483579:Int)≠0 by decide)
  have b8:=Y3 (b*(b+2)) (show(0:Int) < 2147483579 by decide)
  generalize hc:b*(b+2) % 2147483579=c at b7 b8
  refine⟨(c / 7).toNat,by omega,?_⟩
  have ez:((c / 7).toNat:Int)=c / 7:=by omega
  rw[ez]
  simp(disch:=omega) only[fP,jK,rn,reduceIte,zp,Int.reduceToNat,Int.reducePow,hn,ha,hb,hc]
def prs (ls:List (Int×Int)):List Z2:=ls.map λp=> .tuple [.int p.1,.int p.2]
theorem DK (h:Nat)(h2:2<=h)(h4:h<=4):∃ls:List (Int×Int),jL [.int (h:Int)]=ah (true,.list (prs ls))/\2<=ls.length/\ls.length<=12:=by
 have hc:h=2∨h=3∨h=4:=by omega
 rcases hc with rfl | rfl | rfl
 ·exact⟨[(0,1),(1,0)],by rfl,by decide,by decide⟩
 ·exact⟨[(0,1),(0,2),(1,0),(1,2),(2,0),(2,1)],by rfl,by decide,by decide⟩
 ·exact⟨[(0,1),(0,2),(0,3),(1,0),(1,2),(1,3),(2,0),(2,1),(2,3),(3,0),(3,1),(3,2)],by rfl,by decide,by decide⟩
def Ba (W:List Z2):Prop:=∀x∈W,∃i j:Int,x= .tuple [.int i,.int j]
theorem Ba.n {W:List Z2}(h:Ba W):aq W=true:=aQ.mpr λx hx=>by
 obtain⟨i,j,rfl⟩:=h x hx;rfl
theorem Ba.l {W:List Z2}(h:Ba W)(n:Nat):lays (n+2) W=true:=gj.mpr λx hx=>by
 obtain⟨i,j,rfl⟩:=h x hx;rfl
theorem Ba.snoc {W:List Z2}{x:Z2}(h:Ba W)(hx:∃i j:Int,x= .tuple [.int i,.int j]):Ba (W++[x]):=λy hy=>by
 rcases Kk.mp hy with hy | hy
 ·exact h y hy
 ·rw[K6.mp hy];exact hx
theorem F3 (ls:List (Int×Int)):Ba (prs ls):=λx hx=>by
 obtain⟨p,_,rfl⟩:=Kw.mp hx;exact⟨_,_,rfl⟩
theorem yL (z:Int)(h:Nat)(h2:2<=h)(h4:h<=4):∃W:List Z2,Ba W/\W.length<=12/\di [.int z,.int (h:Int)]=ah (true,.tuple W):=by
 obtain⟨ls,hp,l1,l2⟩:=DK h h2 h4
 obtain⟨Γ',g1,W,y,o,c3,g2,g3,g4⟩:=br (g:=cN 3) (b:=dD) (ds:=prs ls) (Γ:=[fI z,fN h,tL [],none])
  (λi Γ=>∃(W:List Z2) (y:Int) (o:Bool) (c3:Option (Bool×Z2)),Γ=[some (o,.int y),fN h,tL W,c3]/\Ba W/\W.length<=i) ⟨[],z,false,none,rfl,(λx hx=>by cases hx),K2 _⟩ (by
  rintro i d Γ hd ⟨W,y,o,c3,rfl,hW,hl⟩
  have hi:i < ls.length:=by have:=(X1.mp hd).1;simpa [prs] using this
  obtain⟨a,b,rfl⟩:=F3 ls d (Y1 hd)
  have hsz:W.length < sizeLine:=Xz (show _<=12 by omega) (by decide)
  have nT:aq [PyData.int a,.int b]=true:=rfl
  cases hb:(y % 3==0) with
  | true=>
   refine⟨_,[tI (y / 3),fN h,tL (W++[.tuple [.int a,.int b]]),tT [.int a,.int b]],by rw[au nT];rfl,.inl ?_,_,_,_,_,rfl,hW.snoc ⟨a,b,rfl⟩,by rw[K1,X3];omega⟩
   simp(disch:=omega) only[dD,rn,reduceIte,hb,au nT,hsz]
  | false=>
   refine⟨_,[tI (y / 3),fN h,tL W,tT [.int a,.int b]],by rw[au nT];rfl,.inl ?_,_,_,_,_,rfl,hW,by omega⟩
   simp(disch:=omega) only[dD,rn,reduceIte,hb,au nT,hsz])
 have gl:(prs ls).length=ls.length:=K4 _
 refine⟨W,g3,by omega,?_⟩
 simp(disch:=omega) only[di,il,rn,reduceIte,hp,g1,g2,bT g3.n,au g3.n]
abbrev Sl:=Option (Bool×Z2)
def Bb (x:Z2):Prop:=∃W:List Z2,x= .tuple W/\Ba W/\W.length<=12
theorem Bb.bo {x:Z2}(h:Bb x):bo x=true:=by
 obtain⟨W,rfl,p,_⟩:=h
 exact p.n
theorem Bb.lay {x:Z2}(h:Bb x)(n:Nat):lay (n+3) x=true:=by
 obtain⟨W,rfl,p,_⟩:=h
 rw[Y.lay];exact p.l n
theorem Jh {x:Z2}{ws:List Z2}(hx:lay 60 x=true)(hw:lays 60 ws=true):gE x (.list ws)=some (.bool (!cz ws x)):=wa hx hw
def r5:SF:=aL 5 (aR fP [(aR bb [(eV 0),(cb kX (eC (.int 2)) (eV 4))]),(cb kX (eC (.int 20)) (eV 4))])
def r6:SF:=aL 6 (aR di [(eV 5),(eV 1)])
def rT:TF:=tE (cb xN (cb jZ (cb jV (eV 5) (eC (.int 600000))) (eC (.int 3))) (eC (.int 1)))
def rX:SF:=aL 6 (Me (eV 6) none (some (eC (.int 1))))
def Ms:TF:=rU (tE (cb gE (eV 6) (eV 3))) (tE (cb JM (j2 j7 [(eV 3)]) (eV 2)))
def NH:SF:=iS 3 (eV 6)
theorem DL:cI=aC r5 (aC r6 (aC (kZ rT rX eQ) (kZ Ms NH eQ))):=rfl
theorem Bc (ns:List Int)(h:Nat)(h2:2<=h)(h4:h<=4)(m k:Nat)(hm:m<=3)(hm1:1<=m)(hk:k < 3)(ws:List Z2)(g:Good ws)(hw:∀x∈ws,Bb x)(hl:ws.length<=m)(c5 c6:Sl) :
  ∃(ws':List Z2) (mT qX:Sl),Good ws'/\(∀x∈ws',Bb x)/\ws'.length<=m/\1<=ws'.length/\cI [fL (ns.map PyData.int),fN h,fN m,tL ws,tN k,c5,c6]=ah (.nx [fL (ns.map PyData.int),fN h,fN m,tL ws',tN k,mT,qX]):=by
 have c1:=uX ns (2+(k:Int)) (!1)
 obtain⟨z,_,m1⟩:=Jg (qW ns (2+(k:Int))) (20+(k:Int)) (!1) (!1)
 obtain⟨W,w1,w2,w3⟩:=yL (z:Int) h h2 h4
 have nW:=w1.n
 have s1:r5 [fL (ns.map PyData.int),fN h,fN m,tL ws,tN k,c5,c6]=ah (.nx [fL (ns.map PyData.int),fN h,fN m,tL ws,tN k,tN z,c6]):=by
  simp(disch:=omega) only[r5,rn,reduceIte,c1,m1]
 have s2:r6 [fL (ns.map PyData.int),fN h,fN m,tL ws,tN k,tN z,c6]=ah (.nx [fL (ns.map PyData.int),fN h,fN m,tL ws,tN k,tN z,tT W]):=by
  simp(disch:=omega) only[r6,rn,reduceIte,w3,au nW]
 have t1:rT [fL (ns.map PyData.int),fN h,fN m,tL ws,tN k,tN z,tT W]=ah ((z:Int) / 600000 % 3==1):=by
  simp(disch:=omega) only[rT,rn,reduceIte]
 have s3:∃W':List Z2,Ba W'/\W'.length<=12/\(kZ rT rX eQ) [fL (ns.map PyData.int),fN h,fN m,tL ws,tN k,tN z,tT W]=ah (.nx [fL (ns.map PyData.int),fN h,fN m,tL ws,tN k,tN z,tT W']):=by
  cases hb:((z:Int) / 600000 % 3==1) with
  | false=>
   rw[hb] at t1
   exact⟨W,w1,w2,(DJ t1).trans rfl⟩
  | true=>
   rw[hb] at t1
   have gs:=FU (lo:=none) (hi:=some 1) nW
   refine⟨cutD W none (some 1),λx hx=> ?_,?_,(GX t1).trans ?_⟩
   ·unfold cutD at hx
    exact w1 x (U1 (U2 hx))
   ·unfold cutD
    rw[Xk,XQ];omega
   ·simp(disch:=omega) only[rX,rn,reduceIte,Me,oE,oI,au nW,gs]
 obtain⟨W',v1,v2,s3⟩:=s3
 have iw:Bb (.tuple W'):=⟨W',rfl,v1,v2⟩
 have nI:=Jh (x:=.tuple W') (ws:=ws) (iw.lay 57) (g.l 57)
 have Ot:=v1.n
 have t2:Ms [fL (ns.map PyData.int),fN h,fN m,tL ws,tN k,tN z,tT W']=ah (!cz ws (.tuple W') && decide ((ws.length:Int) < (m:Int))):=by
  cases hb:cz ws (.tuple W') <;> rw[hb] at nI <;> simp(disch:=omega) only[Ms,rn,reduceIte,au Ot,nI,Bool.not_true,Bool.not_false,J5,YQ]
 have pre:∀o,(kZ Ms NH eQ) [fL (ns.map PyData.int),fN h,fN m,tL ws,tN k,tN z,tT W']=o->cI [fL (ns.map PyData.int),fN h,fN m,tL ws,tN k,c5,c6]=o:=λo q=>by
  rw[DL,aH s1,aH s2,aH s3];exact q
 cases hb:(!cz ws (.tuple W') && decide ((ws.length:Int) < (m:Int))) with
 | true=>
  rw[hb] at t2
  rw[X9,Bool.not_eq_true',JJ] at hb
  have hz:ws.length < sizeLine:=X6 (show ws.length < 100 by omega) (by decide)
  refine⟨ws++[.tuple W'],tN z,tT W',g.snoc iw.bo iw.lay hb.1,λx hx=> ?_,by rw[K1,X3];omega,by simp,pre _ ((GX t2).trans ?_)⟩
  ·rcases Kk.mp hx with hx | hx
   ·exact hw x hx
   ·rw[K6.mp hx];exact iw
  ·simp(disch:=omega) only[NH,rn,reduceIte,au Ot,hz]
 | false=>
  rw[hb] at t2
  refine⟨ws,tN z,tT W',g,hw,hl,?_,pre _ ((DJ t2).trans rfl)⟩
  cases ws with
  | nil=>
   have:(!cz [] (PyData.tuple W') && decide ((([]:List Z2).length:Int) < (m:Int)))=true:=by
    rw[Z9 (show((([]:List Z2).length:Nat):Int) < (m:Int) by simp;omega)];rfl
   rw[hb] at this
   cases this
  | cons a b=>simp
theorem F4 (ns:List Int)(h:Nat)(h2:2<=h)(h4:h<=4)(m:Nat)(hm:m<=3)(hm1:1<=m):∃ws:List Z2,kh [.list (ns.map PyData.int),.int (h:Int),.int (m:Int)]=ah (true,.list ws)/\Good ws/\(∀x∈ws,Bb x)/\1<=ws.length/\ws.length<=m:=by
 have c1:=uX ns 1 (by decide)
 obtain⟨w0,g0,i0,l0,e0⟩:∃w0:List Z2,Good w0/\(∀x∈w0,Bb x)/\w0.length<=1/\(kZ (tE (cb xN (cb jZ (aR bb [(eV 0),(eC (.int 1))]) (eC (.int 2))) (eC (.int 1)))) (iS 3 (fM [])) eQ) [fL (ns.map PyData.int),fN h,fN m,tL [],none,none,none]=ah (.nx [fL (ns.map PyData.int),fN h,fN m,tL w0,none,none,none]):=by
  cases hb:(qW ns 1 % 2==1) with
  | false=>exact⟨[],qU,(λx hx=>by cases hx),by simp,by simp(disch:=omega) only[rn,reduceIte,c1,hb]⟩
  | true=>
   have e:cy (Kd.fr []) (.tuple [])= .fr []:=rfl
   have hz:0 < sizeLine:=by decide
   exact⟨[.tuple []],qU.snoc (x:=.tuple []) rfl (λ_=>rfl) rfl,λx hx=>by rw[K6.mp hx];exact⟨[],rfl,(λy hy=>by cases hy),by simp⟩,by simp,by simp(disch:=omega) only[rn,reduceIte,c1,hb,e,hz]⟩
 obtain⟨Γ',k1,ws,c4,c5,c6,rfl,k2,k3,k4,k5⟩:=br (g:=cN 4) (b:=cI) (ds:=(List.range m).map λ(i:Nat)=>PyData.int (i:Int)) (Γ:=[fL (ns.map PyData.int),fN h,fN m,tL w0,none,none,none])
  (λi Γ=>∃(ws:List Z2) (c4 c5 c6:Sl),Γ=[fL (ns.map PyData.int),fN h,fN m,tL ws,c4,c5,c6]/\Good ws/\(∀x∈ws,Bb x)/\ws.length<=m/\(0 < i->1<=ws.length))
  ⟨w0,none,none,none,rfl,g0,i0,by omega,λz=>absurd z (U3 _)⟩ (by
  rintro i d Γ hd ⟨ws,c4,c5,c6,rfl,q1,q2,q3,q4⟩
  obtain⟨rfl,hi⟩:=cm hd
  obtain⟨ws',mT,qX,r1,r2,r3,r4,r5⟩:=Bc ns h h2 h4 m i hm hm1 (!1) ws q1 q2 q3 c5 c6
  exact⟨_,_,rfl,.inl r5,ws',_,mT,qX,rfl,r1,r2,r3,λ_=>r4⟩)
 rw[K4,X8] at k5
 refine⟨ws,?_,k2,k3,k5 (!1),k4⟩
 have hmt:(m:Int).toNat=m:=Ku m
 have s1:(aL 3 (dw [])) (da 7 [.list (ns.map PyData.int),.int (h:Int),.int (m:Int)])=ah (.nx [fL (ns.map PyData.int),fN h,fN m,tL [],none,none,none]):=rfl
 have s3:(bG (c_ (eV 2)) (cN 4) cI) [fL (ns.map PyData.int),fN h,fN m,tL w0,none,none,none]=ah (.nx [fL (ns.map PyData.int),fN h,fN m,tL ws,c4,c5,c6]):=by
  simp(disch:=omega) only[rn,reduceIte,hmt,k1]
 refine gg ?_
 unfold kg
 rw[aH s1,aH e0,aH s3]
 rfl
def L1 (h:Nat)(x:Z2):Prop:=∃vs:List Int,x= .tuple (vs.map PyData.int)/\vs.length=h
theorem L1.bo {h:Nat}{x:Z2}(i:L1 h x):bo x=true:=by
 obtain⟨vs,rfl,_⟩:=i
 exact fO vs
theorem L1.lay {h:Nat}{x:Z2}(i:L1 h x)(n:Nat):lay (n+3) x=true:=by
 obtain⟨vs,rfl,_⟩:=i
 rw[Y.lay];exact AU vs
theorem F5 (ns:List Int):∃(h:Nat) (ws:List Z2) (k:Nat),2<=h/\h<=4/\Good ws/\(∀x∈ws,Bb x)/\1<=ws.length/\ws.length<=3/\k<=4/\bt [.list (ns.map PyData.int)]=ah (false,.tuple [.int (h:Int),.list ws,.int (k:Int)]):=by
 have c0:=uX ns 0 (by decide)
 generalize qW ns 0=z at c0
 have b1:=Yw z (show(3:Int)≠0 by decide)
 have b2:=Y3 z (show(0:Int) < 3 by decide)
 obtain⟨h,m,q,hh,h2,h4,m1,m3,q1,q4,e1,e2⟩:∃(h m q:Nat),2+z % 3=(h:Int)/\2<=h/\h<=4/\1<=m/\m<=3/\1<=q/\q<=5/\rA [PyData.int 3,.int 3,.int 2] ((h:Int) - 2)=some (.int (m:Int))/\rA [PyData.int 5,.int 4,.int 3] ((h:Int) - 2)=some (.int (q:Int)):=by
  have hc:z % 3=0∨z % 3=1∨z % 3=2:=by omega
  rcases hc with e | e | e <;> rw[e]
  ·exact⟨2,3,5,rfl,by decide,by decide,by decide,by decide,by decide,by decide,rfl,rfl⟩
  ·exact⟨3,3,4,rfl,by decide,by decide,by decide,by decide,by decide,by decide,rfl,rfl⟩
  ·exact⟨4,2,3,rfl,by decide,by decide,by decide,by decide,by decide,by decide,rfl,rfl⟩
 have q0:(0:Int) < (q:Int):=by omega
 have d1:=Yw (z / 3) (show(q:Int)≠0 by omega)
 have d2:=Y3 (z / 3) q0
 obtain⟨k,hk⟩:=Int.eq_ofNat_of_zero_le d1
 have hk:z / 3 % (q:Int)=(k:Int):=hk
 obtain⟨ws,w1,w2,w3,w4,w5⟩:=F4 ns h h2 h4 m m3 m1
 refine⟨h,ws,k,h2,h4,w2,w3,w4,by omega,by omega,?_⟩
 have nt:∀kk,cy kk (.tuple [.int (h:Int),.list ws,.int (k:Int)])=kk:=λkk=>rfl
 simp(disch:=omega) only[bt,fQ,rn,i7,mY,bK,reduceIte,c0,hh,e1,e2,hk,w1,nt]
theorem xm (d0 d1 d2 d3:Sl)(r:List Z2)(hr:aq r=true)(hrl:r.length<=10):∀(l acc:List Z2) (c7:Sl),aq l=true->acc.length+l.length<=10000->∃eT:Sl,bf (cN 6) f9 l [d0,d1,d2,d3,tL acc,tT r,c7]=
  ah (.nx [d0,d1,d2,d3,tL (acc++l.map λw=> .tuple (r++[w])),tT r,eT])
 | [],acc,c7,_,_=>⟨c7,by simp[bf]⟩
 | w :: l,acc,c7,hn,hl=>by
  simp only[aq,X9] at hn
  rw[Kz] at hl
  obtain⟨eT,ih⟩:=xm d0 d1 d2 d3 r hr hrl l (acc++[.tuple (r++[w])]) (tA w) hn.2 (by rw[K1,X3];omega)
  refine⟨eT,?_⟩
  have hs:cN 6 (cy .base w) w [d0,d1,d2,d3,tL acc,tT r,c7]=some [d0,d1,d2,d3,tL acc,tT r,tA w]:=by rw[cQ hn.1];rfl
  have nw:aq [w]=true:=by simp only[aq,hn.1,XZ]
  have ga:=DD hr nw (KJ (show r.length+[w].length<=100 by simp;omega) (by decide))
  have hz:acc.length < sizeLine:=X6 (show acc.length < 100000 by omega) (by decide)
  have hb:f9 [d0,d1,d2,d3,tL acc,tT r,tA w]=ah (.nx [d0,d1,d2,d3,tL (acc++[.tuple (r++[w])]),tT r,tA w]):=by
   simp only[f9,rn,reduceIte,au hr,cQ hn.1,au nw,ga,hz]
  rw[bf,hs,bB,ay,hb,ay]
  refine ih.trans ?_
  rw[KZ,X5];rfl
theorem xn (ws:List Z2)(g:Good ws)(hw:ws.length<=8)(d1 d2 d3:Sl):∀(l:List (List Z2)) (acc:List Z2) (c6 c7:Sl),(∀r∈l,aq r=true/\r.length<=10)->acc.length+l.length*ws.length<=9000->∃qX eT:Sl,bf (cN 5) cJ (tups l) [fL ws,d1,d2,d3,tL acc,c6,c7]=
  ah (.nx [fL ws,d1,d2,d3,tL (acc++tups (l.flatMap λr=>ws.map λw=>r++[w])),qX,eT])
 | [],acc,c6,c7,_,_=>⟨c6,c7,by simp[bf,tups]⟩
 | r :: l,acc,c6,c7,hl,hb=>by
  obtain⟨h1,h2⟩:=hl r K8
  have em:(r :: l).length*ws.length=l.length*ws.length+ws.length:=by rw[Kz,Y4]
  rw[em] at hb
  obtain⟨eT,e⟩:=xm (fL ws) d1 d2 d3 r h1 h2 ws acc c7 g.n (!1)
  obtain⟨DM,yM,ih⟩:=xn ws g hw d1 d2 d3 l (acc++ws.map λw=> .tuple (r++[w])) (tT r) eT (λx hx=>hl x (K9 _ hx)) (by rw[K1,K4];omega)
  refine⟨DM,yM,?_⟩
  have hs:cN 5 (cy .base (.tuple r)) (.tuple r) [fL ws,d1,d2,d3,tL acc,c6,c7]=some [fL ws,d1,d2,d3,tL acc,tT r,c7]:=by rw[au h1];rfl
  have hb2:cJ [fL ws,d1,d2,d3,tL acc,tT r,c7]=ah (.nx [fL ws,d1,d2,d3,tL (acc++ws.map λw=> .tuple (r++[w])),tT r,eT]):=by
   simp only[cJ,rn,reduceIte,e]
  show bf (cN 5) cJ (.tuple r :: tups l) _=_
  rw[bf,hs,bB,ay,hb2,ay]
  refine ih.trans ?_
  rw[List.flatMap_cons,xk,X5]
  congr 8
  simp[tups]
theorem Bd {ws:List Z2}(g:Good ws){k:Nat}(hk:k<=5):∀r∈rws ws k,aq r=true/\r.length<=10:=λr hr=>⟨DH g hr,by have:=(o9 hr).1;omega⟩
theorem yN (ws:List Z2)(k:Nat)(g:Good ws)(hw1:1<=ws.length)(hw:ws.length<=3)(hk:k<=4):gA [.list ws,.int (k:Int)]=ah (true,.list (tups (rws ws k))):=by
 have hp:∀i,i<=4->ws.length^i<=81:=λi hi=>KJ (Nat.pow_le_pow_left hw i) (KJ (Nat.pow_le_pow_right (by decide) hi) (by decide))
 have hlen:∀i,(rws ws i).length=ws.length^i:=zU ws
 obtain⟨Γ',k1,c4,c5,c6,c7,rfl⟩:=br (g:=cN 3) (b:=dU) (ds:=(List.range k).map λ(i:Nat)=>PyData.int (i:Int)) (Γ:=[fL ws,fN k,tL (tups (rws ws 0)),none,none,none,none])
  (λi Γ=>∃c4 c5 c6 c7:Sl,Γ=[fL ws,fN k,tL (tups (rws ws i)),c4,c5,c6,c7]) ⟨none,none,none,none,rfl⟩ (by
  rintro i d Γ hd ⟨c4,c5,c6,c7,rfl⟩
  obtain⟨rfl,hi⟩:=cm hd
  have hl1:=hlen i
  have hp1:=hp i (!1)
  have hm:(rws ws i).length*ws.length<=243:=by rw[hl1];exact KJ (Nat.mul_le_mul hp1 hw) (by decide)
  obtain⟨qX,eT,e⟩:=xn ws g (!1) (fN k) (fL (tups (rws ws i))) (tN i) (rws ws i) [] c6 c7 (Bd g (!1)) (by rw[Y2];omega)
  have el:tups ((rws ws i).flatMap λr=>ws.map λw=>r++[w])=tups (rws ws (i+1)):=rfl
  rw[YZ,el] at e
  have hs3:dU [fL ws,fN k,tL (tups (rws ws i)),tN i,c5,c6,c7]=ah (.nx [fL ws,fN k,tL (tups (rws ws (i+1))),tN i,none,qX,eT]):=by
   have e2:(bG (lG (eV 2)) (cN 5) cJ) [fL ws,fN k,tL (tups (rws ws i)),tN i,tL [],c6,c7]=ah (.nx [fL ws,fN k,fL (tups (rws ws i)),tN i,tL (tups (rws ws (i+1))),qX,eT]):=e
   unfold dU
   rw[aH (show(aL 4 (dw [])) _=ah (.nx [fL ws,fN k,tL (tups (rws ws i)),tN i,tL [],c6,c7]) from rfl),aH e2]
   rfl
  exact⟨_,_,rfl,.inl hs3,tN i,none,qX,eT,rfl⟩)
 rw[K4,X8] at k1
 have hkt:(k:Int).toNat=k:=Ku k
 have s1:(aL 2 (dw [(fM [])])) (da 7 [.list ws,.int (k:Int)])=ah (.nx [fL ws,fN k,tL (tups (rws ws 0)),none,none,none,none]):=rfl
 have s2:(bG (c_ (eV 1)) (cN 3) dU) [fL ws,fN k,tL (tups (rws ws 0)),none,none,none,none]=ah (.nx [fL ws,fN k,tL (tups (rws ws k)),c4,c5,c6,c7]):=by
  simp(disch:=omega) only[rn,reduceIte,hkt,k1]
 refine gg ?_
 unfold kj
 rw[aH s1,aH s2]
 rfl
abbrev Rn:=List Int×List (List Z2)
def GY (p:Rn):Z2:=jp p.1 p.2
theorem xo {ws:List Z2}(hw:∀x∈ws,Bb x):∀(l:List Z2),(∀x∈l,x∈ws)->∃Ws:List (List Z2),l=Ws.map PyData.tuple/\∀W∈Ws,Ba W/\W.length<=12
 | [],_=>⟨[],rfl,λW hW=>by cases hW⟩
 | x :: l,h=>by
  obtain⟨Ws,rfl,h2⟩:=xo hw l λy hy=>h y (K9 _ hy)
  obtain⟨W,rfl,p1,p2⟩:=hw x (h x K8)
  refine⟨W :: Ws,rfl,λV hV=> ?_⟩
  rcases K0.mp hV with rfl | hV
  ·exact⟨p1,p2⟩
  ·exact h2 V hV
def sY (h:Nat):List Int:=List.replicate h 0
def lH (p:Rn):Z2:=.tuple (p.2.map PyData.tuple)
theorem sZ {ws:List Z2}{h k:Nat}(hw:∀x∈ws,Bb x)(hk:k<=5):∀(l:List (List Z2)),(∀r∈l,r∈rws ws k)->∃L:List Rn,tups l=L.map lH/\pairD (.tuple ((sY h).map PyData.int)) l=L.map GY/\L.length=l.length/\∀p∈L,p.1=sY h/\rf h 12 p.1 p.2
 | [],_=>⟨[],rfl,rfl,rfl,λp hp=>by cases hp⟩
 | r :: l,hr=>by
  obtain⟨L,e1,e0,e2,e3⟩:=sZ hw hk l λM hM=>hr M (K9 _ hM)
  obtain⟨r1,r2⟩:=o9 (hr r K8)
  obtain⟨Ws,eW,pW⟩:=xo hw r r2
  have Pw:Ws.length=k:=by
   have:=congrArg List.length eW
   rw[r1,K4] at this
   exact this.symm
  refine⟨(sY h,Ws) :: L,?_,?_,by rw[Kz,Kz,e2],λp hp=> ?_⟩
  ·rw[KZ,←e1,eW];rfl
  ·rw[KZ,←e0,eW];rfl
  ·rcases K0.mp hp with rfl | hp
   ·exact⟨rfl,Uu,by rw[Pw];exact hk,λW hW=>pW W hW⟩
   ·exact e3 p hp
abbrev Gp:=List (Z2×List Nat)
def aG (G:Gp):k6:=G.map λp=>(p.1,.list (p.2.map nat))
noncomputable def jq:Gp->Z2->Nat->Gp
 | [],x,i=> [(x,[i])]
 | p :: r,x,i=>if PyData.eqv p.1 x=true then (p.1,p.2++[i]) :: r else p :: jq r x i
theorem zV:∀(G:Gp) (x:Z2) (i:Nat),(∀p∈G,p.2.length < sizeLine)->za (aG G) x (.int (i:Int))=some (aG (jq G x i))
 | [],x,i,_=>rfl
 | p :: r,x,i,h=>by
  have h1:=h p K8
  show za ((p.1,.list (p.2.map nat)) :: aG r) x _=_
  rw[za,jq]
  by_cases e:PyData.eqv p.1 x=true
  ·rw[JQ e,JQ e]
   have hn:aq (p.2.map nat)=true:=aU _ (λ_=>rfl) _
   have hl:(p.2.map nat).length < sizeLine:=by rw[K4];exact h1
   simp only[hn,hl,and_self,if_true]
   simp[aG,nat]
  ·rw[JV e,JV e,zV r x i λq hq=>h q (K9 _ hq)]
   rfl
theorem xp {x:Z2}{i:Nat}:∀{G:Gp} {q:Z2×List Nat},q∈jq G x i->q∈G∨q=(x,[i])∨∃p∈G,q=(p.1,p.2++[i])
 | [],q,h=>by rw[jq] at h;exact .inr (.inl (K6.mp h))
 | p :: r,q,h=>by
  rw[jq] at h
  split at h
  ·rcases K0.mp h with h | h
   ·exact .inr (.inr ⟨p,K8,h⟩)
   ·exact .inl (K9 _ h)
  ·rcases K0.mp h with h | h
   ·exact .inl (h ▸ K8)
   ·rcases xp h with h | h | ⟨p',h1,h2⟩
    ·exact .inl (K9 _ h)
    ·exact .inr (.inl h)
    ·exact .inr (.inr ⟨p',K9 _ h1,h2⟩)
theorem xq {x:Z2}{i:Nat}:∀{G:Gp},(jq G x i).length<=G.length+1
 | []=>by simp[jq]
 | p :: r=>by
  rw[jq]
  split
  ·simp
  ·have:=xq (x:=x) (i:=i) (G:=r);simp only[Kz];omega
structure s_ (G:Gp)(b:Nat):Prop where
 k:∀p∈G,db p.1=true/\p.2.length<=b
 l:G.length<=b
theorem s_.add {G:Gp}{b:Nat}(g:s_ G b){x:Z2}(hx:db x=true)(i:Nat):s_ (jq G x i) (b+1) where
 k:=λq hq=>by
  rcases xp hq with h | rfl | ⟨p,hp,rfl⟩
  ·have:=g.k q h;exact⟨this.1,by omega⟩
  ·exact⟨hx,by simp⟩
  ·have:=g.k p hp;exact⟨this.1,by rw[K1,X3];omega⟩
 l:=by have:=xq (x:=x) (i:=i) (G:=G);have:=g.l;omega
theorem s_.mono {G:Gp}{b c:Nat}(g:s_ G b)(h:b<=c):s_ G c:=⟨λp hp=>⟨(g.k p hp).1,KJ (g.k p hp).2 h⟩,KJ g.l h⟩
theorem s_.gF {G:Gp}{b:Nat}(g:s_ G b):gF (aG G)=true:=Uw.mpr λp hp=>by
 obtain⟨q,hq,rfl⟩:=Kw.mp hp
 exact(g.k q hq).1
theorem DN (G:Gp):(aG G).length=G.length:=K4 _
theorem qY {x:Z2}{i:Nat}(hx:pl x=true):∀{G:Gp},(∀p∈G,pl p.1=true)->(x∉G.map (·.1)/\jq G x i=G++[(x,[i])])∨∃A l B,G=A++(x,l) :: B/\jq G x i=A++(x,l++[i]) :: B
 | [],_=> .inl ⟨by simp,rfl⟩
 | p :: r,h=>by
  have hp:=h p K8
  rw[jq]
  by_cases e:PyData.eqv p.1 x=true
  ·have e':=(mH hp hx).mp e
   rw[JQ e]
   exact .inr ⟨[],p.2,r,by rw[←e'];rfl,by rw[←e'];rfl⟩
  ·have e':p.1≠x:=λz=>e ((mH hp hx).mpr z)
   rw[JV e]
   rcases qY hx (G:=r) λq hq=>h q (K9 _ hq) with⟨h1,h2⟩ | ⟨A,l,B,h1,h2⟩
   ·refine .inl ⟨?_,by rw[h2];rfl⟩
    rw[KZ,K0]
    rintro(z | z)
    ·exact e' z.symm
    ·exact h1 z
   ·exact .inr ⟨p :: A,l,B,by rw[h1];rfl,by rw[h2];rfl⟩
structure GI (E:List (Z2×Nat))(G:Gp):Prop where
 nd:(G.map (·.1)).Nodup
 p:∀p∈G,pl p.1=true
 ne:∀p∈G,p.2≠[]
 mem:∀p∈G,∀i,i∈p.2↔(p.1,i)∈E
 key:∀e∈E,∃l,(e.1,l)∈G
theorem GI.add {E:List (Z2×Nat)}{G:Gp}(g:GI E G){x:Z2}(hx:pl x=true)(i:Nat):GI (E++[(x,i)]) (jq G x i):=by
 rcases qY (i:=i) hx g.p with⟨h1,h2⟩ | ⟨A,l,B,rfl,h2⟩
 ·rw[h2]
  have hne:∀p∈G,p.1≠x:=λp hp z=>h1 (z ▸ Kw.mpr ⟨p,hp,rfl⟩)
  refine⟨?_,?_,?_,?_,?_⟩
  ·rw[X0]
   refine Xv.mpr ⟨g.nd,by simp,?_⟩
   intro a ha b hb
   rw[KZ,Ju,K6] at hb
   intro z;exact h1 (by rw[←show a=x from z.trans hb];exact ha)
  ·intro p hp
   rcases Kk.mp hp with h | h
   ·exact g.p p h
   ·rw[K6.mp h];exact hx
  ·intro p hp
   rcases Kk.mp hp with h | h
   ·exact g.ne p h
   ·rw[K6.mp h];simp
  ·intro p hp j
   rcases Kk.mp hp with h | h
   ·rw[g.mem p h j,Kk,K6]
    exact⟨.inl,λz=>z.elim id λz=>absurd (congrArg Prod.fst z) (hne p h)⟩
   ·rw[K6.mp h,Kk,K6,K6]
    constructor
    ·rintro rfl;exact .inr rfl
    ·rintro(z | z)
     ·obtain⟨l,hl⟩:=g.key _ z
      exact absurd rfl (hne _ hl)
     ·exact congrArg Prod.snd z
  ·intro e he
   rcases Kk.mp he with h | h
   ·obtain⟨l,hl⟩:=g.key e h
    exact⟨l,KW _ hl⟩
   ·rw[K6.mp h];exact⟨[i],Kx _ (K6.mpr rfl)⟩
 ·rw[h2]
  have nd:=g.nd
  rw[X0,KZ] at nd
  have hA:∀p∈A,p.1≠x:=λp hp=>(Xv.mp nd).2.2 _ (Kw.mpr ⟨p,hp,rfl⟩) _ K8
  have hB:∀p∈B,p.1≠x:=λp hp z=>(KU.mp (Xv.mp nd).2.1).1 (Kw.mpr ⟨p,hp,z⟩)
  have old:∀p,p∈A∨p∈B->p∈A++(x,l) :: B/\p.1≠x:=λp hp=>hp.elim (λh=>⟨KW _ h,hA p h⟩) λh=>⟨Kx _ (K9 _ h),hB p h⟩
  have cs:∀p,p∈A++(x,l++[i]) :: B->(p∈A∨p∈B)∨p=(x,l++[i]):=λp hp=>by
   rcases Kk.mp hp with h | h
   ·exact .inl (.inl h)
   ·rcases K0.mp h with h | h
    ·exact .inr h
    ·exact .inl (.inr h)
  have xl:(x,l)∈A++(x,l) :: B:=Kx _ K8
  refine⟨?_,?_,?_,?_,?_⟩
  ·rw[X0,KZ];exact nd
  ·intro p hp
   rcases cs p hp with h | rfl
   ·exact g.p p (old p h).1
   ·exact hx
  ·intro p hp
   rcases cs p hp with h | rfl
   ·exact g.ne p (old p h).1
   ·simp
  ·intro p hp j
   rcases cs p hp with h | rfl
   ·rw[g.mem p (old p h).1 j,Kk,K6]
    exact⟨.inl,λz=>z.elim id λz=>absurd (congrArg Prod.fst z) (old p h).2⟩
   ·rw[Kk,Kk,K6,K6,g.mem _ xl j]
    exact⟨λz=>z.elim .inl λz=> .inr (by rw[z]),λz=>z.elim .inl λz=> .inr (congrArg Prod.snd z)⟩
  ·intro e he
   rcases Kk.mp he with h | h
   ·obtain⟨l',hl⟩:=g.key e h
    rcases Kk.mp hl with h | h
    ·exact⟨l',KW _ h⟩
    ·rcases K0.mp h with h | h
     ·rw[show e.1=x from congrArg Prod.fst h];exact⟨_,Kx _ K8⟩
     ·exact⟨l',Kx _ (K9 _ h)⟩
   ·rw[K6.mp h];exact⟨_,Kx _ K8⟩
def iX (vs:List Int)(Ws:List (List Z2))(hand:Nat):Z2:=.tuple [.int (hand:Int),.tuple (rows vs.length Ws.reverse [hand]).reverse]
theorem yO (vs:List Int)(Ws:List (List Z2))(hand:Nat):pl (iX vs Ws hand)=true:=by
 unfold iX
 rw[pl]
 refine mG.mpr λx hx=> ?_
 simp only[K0,List.not_mem_nil,or_false] at hx
 rcases hx with rfl | rfl
 ·rfl
 ·rw[pl];exact mG.mpr λy hy=>zM y (Uz.mp hy)
theorem uY (vs:List Int)(Ws:List (List Z2))(hand:Nat):aq (rows vs.length Ws.reverse [hand]).reverse=true:=aQ.mpr λx hx=>aQ.mp ku x (Uz.mp hx)
theorem o_ (vs:List Int)(Ws:List (List Z2))(hand:Nat):bo (iX vs Ws hand)=true:=by
 unfold iX
 rw[cf]
 simp only[aq,kN,cf,uY,XZ]
def mM (h:Nat)(p:Rn):List Z2:=(!2).map (iX p.1 p.2)
def nH (i:Nat)(xs:List Z2)(G:Gp):Gp:=xs.foldl (λG x=>jq G x i) G
def oO (h:Nat):Nat->List Rn->Gp->Gp
 | _,[],G=>G
 | i,p :: L,G=>oO h (i+1) L (nH i (mM h p) G)
def Ji (h:Nat):Nat->List Rn->List (Z2×Nat)
 | _,[]=> []
 | i,p :: L=>(mM h p).map (λx=>(x,i))++Ji h (i+1) L
theorem GI.nH {i:Nat}:∀{xs:List Z2} {E:List (Z2×Nat)} {G:Gp},GI E G->(∀x∈xs,pl x=true)->GI (E++xs.map λx=>(x,i)) (nH i xs G)
 | [],E,G,g,_=>by simpa [K51.nH] using g
 | x :: xs,E,G,g,h=>by
  have:=GI.nH (i:=i) (g.add (h x K8) i) λy hy=>h y (K9 _ hy)
  rw[X5] at this
  exact this
theorem Jl {h:Nat}{p:Rn}:∀x∈mM h p,pl x=true:=λx hx=>by
 obtain⟨k,_,rfl⟩:=Kw.mp hx
 exact yO _ _ _
theorem GI.grp {h:Nat}:∀{L:List Rn} {i:Nat} {E:List (Z2×Nat)} {G:Gp},GI E G->GI (E++Ji h i L) (oO h i L G)
 | [],i,E,G,g=>by simpa [Ji,oO] using g
 | p :: L,i,E,G,g=>by
  have:=GI.grp (L:=L) (i:=i+1) (h:=h) (g.nH (i:=i) (Jl (h:=h) (p:=p)))
  rw[X5] at this
  exact this
theorem Jm:GI [] []:=⟨by simp,(λp hp=>by cases hp),(λp hp=>by cases hp),(λp hp=>by cases hp),(λp hp=>by cases hp)⟩
theorem zW {h:Nat}{x:Z2}{j:Nat}:∀{L:List Rn} {i:Nat},(x,j)∈Ji h i L↔∃m p,L[m]? =some p/\j=i+m/\∃k,k < h/\x=iX p.1 p.2 k
 | [],i=>by simp[Ji]
 | p :: L,i=>by
  rw[Ji,Kk,zW (L:=L) (i:=i+1)]
  constructor
  ·rintro(z | ⟨m,q,h1,h2,h3⟩)
   ·obtain⟨y,hy,e⟩:=Kw.mp z
    obtain⟨k,hk,rfl⟩:=Kw.mp hy
    exact⟨0,p,rfl,(congrArg Prod.snd e).symm,k,XU.mp hk,(congrArg Prod.fst e).symm⟩
   ·exact⟨m+1,q,by simpa using h1,by omega,h3⟩
  ·rintro⟨m,q,h1,h2,k,hk,rfl⟩
   cases m with
   | zero=>
    have:p=q:=by simpa using h1
    subst this
    refine .inl (Kw.mpr ⟨_,Kw.mpr ⟨k,XU.mpr hk,rfl⟩,?_⟩)
    rw[h2];rfl
   | succ m=>exact .inr ⟨m,q,by simpa using h1,by omega,k,hk,rfl⟩
theorem jr {n:Nat}:∀{xs:List Z2},nests n xs=true↔∀x∈xs,nest n x=true
 | []=>by simp[nests]
 | x :: xs=>by rw[nests,X9,jr (xs:=xs)];simp
theorem DO (h:Nat)(W:List Z2)(H:List Nat)(k n:Nat):nest (n+1) (ca h W H k)=true:=by
 unfold ca
 split
 ·rw[nest];exact jr.mpr λx hx=>by obtain⟨o,_,rfl⟩:=Kw.mp hx;cases n <;> rfl
 ·rfl
theorem td {h n:Nat}:∀{R:List (List Z2)} {H:List Nat},∀x∈rows h R H,nest (n+2) x=true
 | [],H,x,hx=>by cases hx
 | W :: R,H,x,hx=>by
  rw[rows] at hx
  rcases K0.mp hx with rfl | hx
  ·rw[nest];exact jr.mpr λy hy=>by obtain⟨o,_,rfl⟩:=Kw.mp hy;exact DO _ _ _ _ _
  ·exact td x hx
theorem mN (vs:List Int)(Ws:List (List Z2))(hand:Nat):db (iX vs Ws hand)=true:=by
 unfold iX
 rw[db]
 refine jr.mpr λx hx=> ?_
 rcases K0.mp hx with rfl | hx
 ·rfl
 ·rw[K6.mp hx,nest]
  exact jr.mpr λy hy=>td y (Uz.mp hy)
theorem tf {vs vs':List Int}{Ws Px:List (List Z2)}{k k':Nat}(e:iX vs Ws k=iX vs' Px k'):k=k':=by
 unfold iX at e
 injection e with e
 injection e with e _
 injection e with e
 omega
theorem pb {i:Nat}:∀{xs:List Z2} {G:Gp} {b:Nat},s_ G b->(∀x∈xs,db x=true)->s_ (nH i xs G) (b+xs.length)
 | [],G,b,g,_=>g
 | x :: xs,G,b,g,h=>by
  have:=pb (i:=i) (g.add (h x K8) i) λy hy=>h y (K9 _ hy)
  rw[Kz,show b+(xs.length+1)=b+1+xs.length by omega]
  exact this
theorem mO {h:Nat}{p:Rn}:∀x∈mM h p,db x=true:=λx hx=>by
 obtain⟨k,_,rfl⟩:=Kw.mp hx
 exact mN _ _ _
theorem uZ (h:Nat)(p:Rn):(mM h p).length=h:=by unfold mM;rw[K4,X8]
theorem zX {h:Nat}:∀{L:List Rn} {i:Nat} {G:Gp} {b:Nat},s_ G b->s_ (oO h i L G) (b+L.length*h)
 | [],i,G,b,g=>by simpa [oO] using g
 | p :: L,i,G,b,g=>by
  have:=zX (L:=L) (i:=i+1) (h:=h) (pb (i:=i) g (mO (h:=h) (p:=p)))
  rw[uZ] at this
  rw[Kz,Y4,show b+(L.length*h+h)=b+h+L.length*h by omega]
  exact this
def vw (L:List Rn)(i k:Nat):Z2:=iX (L.getD i ([],[])).1 (L.getD i ([],[])).2 k
structure D_ (n h:Nat)(vw:Nat->Nat->Z2)(G:Gp):Prop where
 g:∀p∈G,∃k,k < h/\∀i,i∈p.2↔i < n/\vw i k=p.1
 ne:∀p∈G,p.2≠[]
 get:∀i k,i < n->k < h->∃l,jz (aG G) (vw i k)=some (.list (l.map nat))/\(vw i k,l)∈G
 ok:s_ G 1000
 hand:∀i j k k',vw i k=vw j k'->k=k'
theorem D_.mem_of {n h:Nat}{vw:Nat->Nat->Z2}{G:Gp}(g:D_ n h vw G){a k:Nat}{l:List Nat}(hl:(vw a k,l)∈G)(b:Nat):b∈l↔b < n/\vw b k=vw a k:=by
 obtain⟨k',hk',hm⟩:=g.g _ hl
 obtain⟨i0,hi0⟩:=List.exists_mem_of_ne_nil _ (g.ne _ hl)
 have:k'=k:=g.hand _ _ _ _ ((hm i0).mp hi0).2
 subst this
 exact hm b
theorem xr {x:Z2}(hx:pl x=true):∀{G:Gp},(∀p∈G,pl p.1=true)->(∃l,(x,l)∈G)->∃l,jz (aG G) x=some (.list (l.map nat))/\(x,l)∈G
 | [],_,⟨l,h⟩=>by cases h
 | p :: r,hp,⟨l,h⟩=>by
  have h1:=hp p K8
  by_cases e:PyData.eqv p.1 x=true
  ·have e':=(mH h1 hx).mp e
   refine⟨p.2,?_,by rw[←e'];exact K8⟩
   show(List.find? _ ((p.1,PyData.list (p.2.map nat)) :: aG r)).map _=_
   rw[U4,e];rfl
  ·have:(x,l)∈r:=by
    rcases K0.mp h with h | h
    ·exact absurd ((mH h1 hx).mpr (by rw[←h])) e
    ·exact h
   obtain⟨l',h3,h4⟩:=xr hx (G:=r) (λq hq=>hp q (K9 _ hq)) ⟨l,this⟩
   refine⟨l',?_,K9 _ h4⟩
   show(List.find? _ ((p.1,PyData.list (p.2.map nat)) :: aG r)).map _=_
   rw[U4,Bool.eq_false_iff.mpr e];exact h3
theorem DP {h:Nat}(L:List Rn)(hb:L.length*h<=1000):D_ L.length h (vw L) (oO h 0 L []):=by
 have gi:=GI.grp (L:=L) (i:=0) (h:=h) Jm
 rw[YZ] at gi
 have ok:s_ (oO h 0 L []) 1000:=(zX (L:=L) (i:=0) (h:=h) (G:=[]) (b:=0) ⟨(λp hp=>by cases hp),by simp⟩).mono (!1)
 have ev:∀{x:Z2} {j:Nat},(x,j)∈Ji h 0 L↔j < L.length/\∃k,k < h/\x=vw L j k:=by
  intro x j
  rw[zW]
  constructor
  ·rintro⟨m,p,h1,h2,k,hk,rfl⟩
   obtain rfl:j=m:=by omega
   obtain⟨hm,e⟩:=X1.mp h1
   refine⟨hm,k,hk,?_⟩
   unfold vw
   rw[X7,h1];rfl
  ·rintro⟨hj,k,hk,rfl⟩
   refine⟨j,L[j],K3 hj,by omega,k,hk,?_⟩
   unfold vw
   rw[X7,K3 hj];rfl
 refine⟨?_,gi.ne,?_,ok,λi j k k' e=>tf e⟩
 ·intro p hp
  obtain⟨i0,hi0⟩:=List.exists_mem_of_ne_nil _ (gi.ne p hp)
  obtain⟨h1,k,hk,e⟩:=ev.mp ((gi.mem p hp i0).mp hi0)
  refine⟨k,hk,λi=> ?_⟩
  rw[gi.mem p hp i,ev]
  constructor
  ·rintro⟨h2,k',hk',e'⟩
   have:k=k':=tf (e.symm.trans e')
   subst this
   exact⟨h2,e'.symm⟩
  ·rintro⟨h2,e'⟩;exact⟨h2,k,hk,e'.symm⟩
 ·intro i k hi hk
  exact xr (yO _ _ _) gi.p (gi.key (vw L i k,i) (ev.mpr ⟨hi,k,hk,rfl⟩))
def J_ (h:Nat)(L:List Rn):Prop:=∀p∈L,rf h 12 p.1 p.2
theorem DQ {h:Nat}{p:Rn}{L:List Rn}(r:J_ h (p :: L)):J_ h L:=λq hq=>r q (K9 _ hq)
theorem F6 {h b:Nat}{p:Rn}(w:rf h b p.1 p.2):bo (GY p)=true:=mI w
def oP (h:Nat)(p:Rn):List Z2:=(!2).map (gO p.1 p.2)
theorem yP {h:Nat}{p:Rn}(hh:h<=4)(w:rf h 12 p.1 p.2):jP [.int (h:Int),GY p]=ah (true,.list (oP h p)):=by
 have hc:=ji (fe:=jO) (cap:=[fA (GY p)]) ((!2).map λ(i:Nat)=>PyData.int (i:Int))
  (λd=>match d with | .int k=>(.fr [],gO p.1 p.2 k.toNat) | _=>(.fr [],.none)) (λd hd=>by
   obtain⟨k,hk,rfl⟩:=Kw.mp hd
   have hk:=XU.mp hk
   have e:=w.view hh hk
   simp(disch:=omega) only[jO,rn,reduceIte,GY,e,cQ (mI w),cQ (wV p.1 p.2 k),Ku])
 have e1:(((!2).map λ(i:Nat)=>PyData.int (i:Int)).map λd=>match d with | .int k=>(Kd.fr [],gO p.1 p.2 k.toNat) | _=>(Kd.fr [],PyData.none))=(!2).map λk=>(Kd.fr [],gO p.1 p.2 k):=by
  rw[KQ];refine Uq λk _=> ?_;simp only[Function.comp,Ku]
 rw[e1] at hc
 have k1:=dC (!2) λk=>gO p.1 p.2 k
 have e2:((!2).map λk=>(Kd.fr [],gO p.1 p.2 k)).map Prod.snd=oP h p:=by rw[KQ];rfl
 have hle:h<=100000:=by omega
 simp(disch:=omega) only[jP,lC,rn,reduceIte,bj,hc,k1,e2,hle,Ku]
theorem jt {α:Type}{ft:TF}{fe:EF}{cap:aW}(f:α->Z2)(g:α->Kd×Z2):∀(l:List α),(∀a∈l,ft (fA (f a) :: cap)=ah true/\fe (fA (f a) :: cap)=ah (g a))->cc ft fe cap (l.map f)=some (l.map g)
 | [],_=>rfl
 | a :: l,h=>by
  obtain⟨h0,h1⟩:=h a K8
  rw[KZ,cc]
  simp only[ah] at h0 h1⊢
  rw[h0,h1]
  simp only
  rw[jt f g l λb hb=>h b (K9 _ hb)]
  rfl
theorem xt {α:Type}{fe:EF}{cap:aW}(f:α->Z2)(g:α->Kd×Z2)(l:List α)(h:∀a∈l,fe (fA (f a) :: cap)=ah (g a)):cc ce fe cap (l.map f)=some (l.map g):=jt f g l λa ha=>⟨rfl,h a ha⟩
def mP (h:Nat)(L:List Rn):List Z2:=L.map λp=> .list (oP h p)
theorem xu {h:Nat}{L:List Rn}(hh:h<=4)(r:J_ h L)(hl:L.length<=1000):fy [.int (h:Int),.list (L.map GY)]=ah (true,.list (mP h L)):=by
 have hc:=jt (ft:=ce) (fe:=fS) (cap:=[fN h]) GY (λp=>(Kd.fr [],PyData.list (oP h p))) L (λp hp=>by
  have w:=r p hp
  have e:=yP hh w
  refine⟨rfl,?_⟩
  simp(disch:=omega) only[fS,rn,reduceIte,e,cQ (F6 w)])
 have k1:=dC L λp=>PyData.list (oP h p)
 have e2:(L.map λp=>(Kd.fr [],PyData.list (oP h p))).map Prod.snd=mP h L:=by rw[KQ];rfl
 have hle:L.length<=100000:=by omega
 simp(disch:=omega) only[fy,iA,rn,reduceIte,bj,hc,k1,e2,hle]
theorem DR (h:Nat)(p:Rn)(hh:h<=4):gY [.list (oP h p)]=ah (true,.list (mM h p)):=by
 have hc:=jt (ft:=kc GO ce) (fe:=kc GO fx) (cap:=[]) (gO p.1 p.2) (λk=>(Kd.fr [],iX p.1 p.2 k)) (!2) (λk hk=>by
  have n:=uY p.1 p.2 k
  refine⟨rfl,?_⟩
  show fx [fN k,_,fT (rows p.1.length p.2.reverse [k]).reverse]=_
  have nk:=o_ p.1 p.2 k
  unfold iX at nk⊢
  simp(disch:=omega) only[fx,rn,reduceIte,au n,cQ nk])
 have k1:=dC (!2) λk=>iX p.1 p.2 k
 have e2:((!2).map λk=>(Kd.fr [],iX p.1 p.2 k)).map Prod.snd=mM h p:=by rw[KQ];rfl
 have hv:(!2).map (gO p.1 p.2)=oP h p:=rfl
 rw[hv] at hc
 have hle:(oP h p).length<=100000:=by unfold oP;rw[K4,X8];omega
 simp(disch:=omega) only[gY,jN,rn,reduceIte,bj,hc,k1,e2,hle]
def dv (h:Nat)(L:List Rn):List Z2:=L.map λp=> .list (mM h p)
theorem Be {h:Nat}{L:List Rn}(hh:h<=4)(hl:L.length<=1000)(Γ:aW):bj (lG (eV 0)) [] ce bY (fL (mP h L) :: Γ)=ah (.fr [],.list (dv h L)):=by
 have hc:=jt (ft:=ce) (fe:=bY) (cap:=[]) (λp=>PyData.list (oP h p)) (λp=>(Kd.fr [],PyData.list (mM h p))) L (λp hp=>by
  have e:=DR h p hh
  refine⟨rfl,?_⟩
  simp(disch:=omega) only[bY,rn,reduceIte,e])
 have k1:=dC L λp=>PyData.list (mM h p)
 have e2:(L.map λp=>(Kd.fr [],PyData.list (mM h p))).map Prod.snd=dv h L:=by rw[KQ];rfl
 have hv:(L.map λp=>PyData.list (oP h p))=mP h L:=rfl
 rw[hv] at hc
 have hle:(mP h L).length<=100000:=by unfold mP;rw[K4];omega
 simp(disch:=omega) only[rn,reduceIte,bj,hc,k1,e2,hle]
theorem DU (h:Nat)(hh:h<=4)(Γ:aW):bj (c_ (eV 0)) [] ce bZ (fN h :: Γ)=ah (.fr [],.list ((sY h).map PyData.int)):=by
 have hc:=jt (ft:=ce) (fe:=bZ) (cap:=[]) (λ(i:Nat)=>PyData.int (i:Int)) (λ_=>(Kd.fr [],PyData.int 0)) (!2) (λk hk=>⟨rfl,rfl⟩)
 have k1:=dC (!2) λ_=>PyData.int 0
 have e2:((!2).map λ_=>(Kd.fr [],PyData.int 0)).map Prod.snd=(sY h).map PyData.int:=by
  rw[KQ];unfold sY;rw[List.map_replicate]
  exact(List.map_const' ..).trans (by rw[X8])
 have hle:h<=100000:=by omega
 simp(disch:=omega) only[rn,reduceIte,bj,hc,k1,e2,hle,Ku]
theorem DV {Γ:aW}{i j n b:Nat}{o:Bool}{fk:EF}{kd:Kd}{x:Z2}{G:Gp}(h1:Γ[i]? =some (tD (aG G)))(h2:Γ[j]? =some (some (o,.int (n:Int))))(h3:fk Γ=ah (kd,x))(hx:db x=true)(g:s_ G b)(hb:b<=1000) :
  AA i fk j Γ=ah (.nx (Γ.set i (tD (aG (jq G x n))))):=by
 have hs:(1000:Nat) < sizeLine:=by decide
 unfold AA
 rw[h1]
 simp only[h3,ay,h2]
 rw[JQ ⟨hx,g.gF,by rw[DN];have:=g.l;omega⟩,zV G x n λp hp=>by have:=(g.k p hp).2;omega]
theorem zY (d0 d3:Sl)(i:Nat)(o:Bool):∀(xs:List Z2) (G:Gp) (b:Nat) (c4:Sl),(∀x∈xs,db x=true/\bo x=true)->s_ G b->b+xs.length<=1000->∃mS:Sl,bf (cN 4) fR xs [d0,tD (aG G),some (o,.int (i:Int)),d3,c4]=
  ah (.nx [d0,tD (aG (nH i xs G)),some (o,.int (i:Int)),d3,mS])
 | [],G,b,c4,_,_,_=>⟨c4,rfl⟩
 | x :: xs,G,b,c4,hx,g,hb=>by
  obtain⟨k1,k2⟩:=hx x K8
  rw[Kz] at hb
  obtain⟨mS,ih⟩:=zY d0 d3 i o xs (jq G x i) (b+1) (tA x) (λy hy=>hx y (K9 _ hy)) (g.add k1 i) (!1)
  refine⟨mS,?_⟩
  have hs:cN 4 (cy .base x) x [d0,tD (aG G),some (o,.int (i:Int)),d3,c4]=some [d0,tD (aG G),some (o,.int (i:Int)),d3,tA x]:=by rw[cQ k2];rfl
  have e4:eV 4 [d0,tD (aG G),some (o,.int (i:Int)),d3,tA x]=ah (.fr [],x):=by
   show ah (cy _ x,x)=_
   rw[cQ k2]
  have hb2:fR [d0,tD (aG G),some (o,.int (i:Int)),d3,tA x]=ah (.nx [d0,tD (aG (jq G x i)),some (o,.int (i:Int)),d3,tA x]) :=
   DV (i:=1) (j:=2) (Γ:=[d0,tD (aG G),some (o,.int (i:Int)),d3,tA x]) rfl rfl e4 k1 g (!1)
  rw[bf,hs,bB,ay,hb2,ay]
  exact ih
theorem Jn {h:Nat}{p:Rn}:∀x∈mM h p,db x=true/\bo x=true:=λx hx=>⟨mO x hx,by
 obtain⟨k,_,rfl⟩:=Kw.mp hx
 exact o_ _ _ _⟩
theorem zZ (d0:Sl)(h:Nat):∀(L:List Rn) (i:Nat) (G:Gp) (b:Nat) (c2 c3 c4:Sl),s_ G b->b+L.length*h<=1000->∃c2' NI mS:Sl,bf (jx [2,3]) cq (dI i (dv h L)) [d0,tD (aG G),c2,c3,c4]=
  ah (.nx [d0,tD (aG (oO h i L G)),c2',NI,mS])
 | [],i,G,b,c2,c3,c4,_,_=>⟨c2,c3,c4,rfl⟩
 | p :: L,i,G,b,c2,c3,c4,g,hb=>by
  rw[Kz,Y4] at hb
  have vl:=uZ h p
  obtain⟨mS,e⟩:=zY d0 (fL (mM h p)) i true (mM h p) G b c4 Jn g (!1)
  have g2:=pb (i:=i) g (mO (h:=h) (p:=p))
  obtain⟨NJ,Jo,DX,ih⟩:=zZ d0 h L (i+1) (nH i (mM h p) G) (b+(mM h p).length) (tN i) (fL (mM h p)) mS g2 (!1)
  refine⟨NJ,Jo,DX,?_⟩
  show bf (jx [2,3]) cq (.tuple [.int (i:Int),.list (mM h p)] :: dI (i+1) (dv h L)) _=_
  have hs:jx [2,3] (cy .base (.tuple [.int (i:Int),.list (mM h p)])) (.tuple [.int (i:Int),.list (mM h p)]) [d0,tD (aG G),c2,c3,c4]=some [d0,tD (aG G),tN i,fL (mM h p),c4]:=rfl
  have hb2:cq [d0,tD (aG G),tN i,fL (mM h p),c4]=ah (.nx [d0,tD (aG (nH i (mM h p) G)),tN i,fL (mM h p),mS]):=e
  rw[bf,hs,bB,ay,hb2,ay]
  exact ih
theorem Bf {h:Nat}{L:List Rn}(hb:L.length*h<=1000):fu [.list (dv h L)]=ah (true,.dict (aG (oO h 0 L []))):=by
 obtain⟨c2,c3,c4,e⟩:=zZ (fL (dv h L)) h L 0 [] 0 none none none ⟨(λp hp=>by cases hp),by simp⟩ (!1)
 refine gg ?_
 unfold iy
 rw[aH (show(aL 1 lO) (da 5 [.list (dv h L)])=ah (.nx [fL (dv h L),tD (aG []),none,none,none]) from rfl)]
 rw[aH (show(bG (jH (eV 0)) (jx [2,3]) cq) [fL (dv h L),tD (aG []),none,none,none]=_ from e)]
 rfl
theorem u0 {h b:Nat}{p:Rn}(w:rf h b p.1 p.2):bo (lH p)=true:=zO w
theorem NL (h:Nat)(h2:2<=h)(hh:h<=4):wo (.tuple [.int 0]) (.int (h:Int))=some (.tuple ((sY h).map PyData.int)):=by
 obtain rfl | rfl | rfl:h=2∨h=3∨h=4:=by omega
 all_goals rfl
theorem Py (vs:List Int)(Ws:List (List Z2))(k:Nat):kY (gO vs Ws k) (.int 2)=some (.tuple (rows vs.length Ws.reverse [k]).reverse):=rfl
theorem Ou (d1:Sl){h:Nat}{p:Rn}(h2:2<=h)(hh:h<=4)(w:rf h 12 p.1 p.2)(hz:p.1=sY h)(i:Nat):∀(ks:List Nat) (G:Gp) (b:Nat) (c5:Sl),(∀k∈ks,k < h)->s_ G b->b+ks.length<=1000->∃mT:Sl,bf (cN 5) cg (ks.map λ(k:Nat)=>PyData.int (k:Int)) [fN h,d1,tD (aG G),tN i,tA (lH p),c5]=
  ah (.nx [fN h,d1,tD (aG (nH i (ks.map (iX p.1 p.2)) G)),tN i,tA (lH p),mT])
 | [],G,b,c5,_,_,_=>⟨c5,rfl⟩
 | k :: ks,G,b,c5,hk,g,hb=>by
  rw[Kz] at hb
  have hk1:=hk k K8
  have e:=yJ w hh hk1
  obtain⟨mT,ih⟩:=Ou d1 h2 hh w hz i ks (jq G (iX p.1 p.2 k) i) (b+1) (tN k) (λy hy=>hk y (K9 _ hy)) (g.add (mN _ _ _) i) (!1)
  refine⟨mT,?_⟩
  have nz:aq [PyData.tuple ((sY h).map PyData.int),lH p]=true:=by rw[←hz];exact o5 w.n
  have eR:PyData.tuple [PyData.tuple ((sY h).map PyData.int),lH p]=jp p.1 p.2:=by rw[←hz];rfl
  have hf:(fM [(eV 5),(mR kY (aR gz [(fM [(cb wo (fM [(eC (.int 0))]) (eV 0)),(eV 4)]),(eV 5)]) (eC (.int 2)))]) [fN h,d1,tD (aG G),tN i,tA (lH p),tN k]=ah (.fr [],iX p.1 p.2 k):=by
   have nk:=o_ p.1 p.2 k
   unfold iX at nk⊢
   simp(disch:=omega) only[rn,reduceIte,NL h h2 hh,cQ (u0 w),au nz,eR,e,cQ (wV p.1 p.2 k),Py,au (uY p.1 p.2 k),cQ nk]
  have hb2:cg [fN h,d1,tD (aG G),tN i,tA (lH p),tN k]=ah (.nx [fN h,d1,tD (aG (jq G (iX p.1 p.2 k) i)),tN i,tA (lH p),tN k]) :=
   DV (i:=2) (j:=3) (Γ:=[fN h,d1,tD (aG G),tN i,tA (lH p),tN k]) rfl rfl hf (mN _ _ _) g (!1)
  show bf (cN 5) cg (.int (k:Int) :: ks.map λ(k:Nat)=>PyData.int (k:Int)) _=_
  rw[bf,show cN 5 (cy .base (.int (k:Int))) (.int (k:Int)) [fN h,d1,tD (aG G),tN i,tA (lH p),c5]=some [fN h,d1,tD (aG G),tN i,tA (lH p),tN k] from rfl,bB,ay,hb2,ay]
  exact ih
theorem Ov (d1:Sl){h:Nat}(h2:2<=h)(hh:h<=4):∀(L:List Rn) (i:Nat) (G:Gp) (b:Nat) (c3 c4 c5:Sl),J_ h L->(∀p∈L,p.1=sY h)->s_ G b->b+L.length*h<=1000->∃NI mS mT:Sl,bf (jx [3,4]) bq (dI i (L.map lH)) [fN h,d1,tD (aG G),c3,c4,c5]=
  ah (.nx [fN h,d1,tD (aG (oO h i L G)),NI,mS,mT])
 | [],i,G,b,c3,c4,c5,_,_,_,_=>⟨c3,c4,c5,rfl⟩
 | p :: L,i,G,b,c3,c4,c5,r,z,g,hb=>by
  rw[Kz,Y4] at hb
  have w:=r p K8
  have hz:=z p K8
  have vl:=uZ h p
  obtain⟨mT,e⟩:=Ou d1 h2 hh w hz i (!2) G b c5 (λk hk=>XU.mp hk) g (by rw[X8];omega)
  have g2:=pb (i:=i) g (mO (h:=h) (p:=p))
  obtain⟨Jo,DX,Jp,ih⟩:=Ov d1 h2 hh L (i+1) (nH i (mM h p) G) (b+(mM h p).length) (tN i) (tA (lH p)) mT (DQ r) (λq hq=>z q (K9 _ hq)) g2 (!1)
  refine⟨Jo,DX,Jp,?_⟩
  show bf (jx [3,4]) bq (.tuple [.int (i:Int),lH p] :: dI (i+1) (L.map lH)) _=_
  have nt:bo (.tuple [.int (i:Int),lH p])=true:=by rw[cf,aq,aq,u0 w];rfl
  have hs:jx [3,4] (cy .base (.tuple [.int (i:Int),lH p])) (.tuple [.int (i:Int),lH p]) [fN h,d1,tD (aG G),c3,c4,c5]=some [fN h,d1,tD (aG G),tN i,tA (lH p),c5]:=by
   rw[cQ nt]
   show some (iR (iR _ 3 (cy (.fr []) (.int (i:Int))) (.int (i:Int))) 4 (cy (.fr []) (lH p)) (lH p))=_
   rw[o3,cQ (u0 w)];rfl
  have hb2:bq [fN h,d1,tD (aG G),tN i,tA (lH p),c5]=ah (.nx [fN h,d1,tD (aG (nH i (mM h p) G)),tN i,tA (lH p),mT]):=by
   unfold bq
   simp(disch:=omega) only[rn,reduceIte,Ku]
   exact e
  rw[bf,hs,bB,ay,hb2,ay]
  exact ih
theorem xw {h:Nat}{L:List Rn}{d':List Z2}(h2:2<=h)(hh:h<=4)(r:J_ h L)(z:∀p∈L,p.1=sY h)(hb:L.length*h<=1000)(ep:gX [.int (L.length:Int),.dict (aG (oO h 0 L []))]=ah (true,.list d')):bV [.int (h:Int),.list (L.map lH)]=ah (true,.list d'):=by
 obtain⟨c3,c4,c5,e⟩:=Ov (fL (L.map lH)) h2 hh L 0 [] 0 none none none r z ⟨(λp hp=>by cases hp),by simp⟩ (!1)
 refine gg ?_
 unfold fq
 rw[aH (show(aL 2 lO) (da 6 [.int (h:Int),.list (L.map lH)])=ah (.nx [fN h,fL (L.map lH),tD (aG []),none,none,none]) from rfl)]
 rw[aH (show(bG (jH (eV 1)) (jx [3,4]) bq) [fN h,fL (L.map lH),tD (aG []),none,none,none]=_ from e)]
 have hll:((L.map lH).length:Int)=(L.length:Int):=by rw[K4]
 simp(disch:=omega) only[rn,reduceIte,hll,ep]
inductive Cn (n h:Nat)(vw:Nat->Nat->Z2):Nat->Nat->Prop
 | rel {a b k:Nat}:a < n->b < n->k < h->vw a k=vw b k->Cn n h vw a b
 | refl (a:Nat):Cn n h vw a a
 | symm {a b:Nat}:Cn n h vw a b->Cn n h vw b a
 | trans {a b c:Nat}:Cn n h vw a b->Cn n h vw b c->Cn n h vw a c
theorem Cn.closed {n h:Nat}{vw:Nat->Nat->Z2}(S:Nat->Prop)(hS:∀a b k,a < n->b < n->k < h->vw a k=vw b k->S a->S b){a b:Nat}(c:Cn n h vw a b):S a↔S b:=by
 induction c with
 | rel h1 h2 h3 h4=>exact⟨hS _ _ _ h1 h2 h3 h4,hS _ _ _ h2 h1 h3 h4.symm⟩
 | refl a=>exact Iff.rfl
 | symm _ ih=>exact ih.symm
 | trans _ _ i1 i2=>exact i1.trans i2
theorem Cn.const {n h:Nat}{vw:Nat->Nat->Z2}(f:Nat->Nat)(hf:∀a b k,a < n->b < n->k < h->vw a k=vw b k->f a=f b){a b:Nat}(c:Cn n h vw a b):f a=f b:=by
 induction c with
 | rel h1 h2 h3 h4=>exact hf _ _ _ h1 h2 h3 h4
 | refl a=>rfl
 | symm _ ih=>exact ih.symm
 | trans _ _ i1 i2=>exact i1.trans i2
def iP (n:Nat)(f:Nat->Nat):List Z2:=(List.range n).map λi=> .int ((f i:Nat):Int)
noncomputable def upd (f:Nat->Nat)(i m:Nat):Nat->Nat:=λj=>if j=i then m else f j
theorem F7 {n i:Nat}(f:Nat->Nat)(m:Nat):(iP n f).set i (.int (m:Int))=iP n (upd f i m):=by
 unfold iP upd
 refine Jk (by simp) λj h1 h2=> ?_
 rw[List.getElem_set]
 simp only[J3,List.getElem_range]
 by_cases e:i=j
 ·rw[JQ e,JQ e.symm]
 ·rw[JV e,JV (λz=>e z.symm)]
theorem u6 {n i:Nat}(f:Nat->Nat)(h:i < n):rA (iP n f) (i:Int)=some (.int ((f i:Nat):Int)):=iG (by unfold iP;rw[KY,Y9 h];rfl)
theorem F8 (n:Nat)(f:Nat->Nat):(iP n f).length=n:=by unfold iP;rw[K4,X8]
theorem F9 (n:Nat)(f:Nat->Nat):aq (iP n f)=true:=aU _ (λ_=>rfl) _
def Q2 (n m:Nat)(l:List Nat)(f:Nat->Nat)(b:Bool)(f':Nat->Nat)(b':Bool):Prop :=
 (∀i,f' i=f i∨(f' i=m/\m < f i/\i∈l))/\(b'=true->b=true∨∃i,i < n/\f' i < f i)/\(b'=false->b=false/\f'=f/\∀i∈l,f i<=m)
theorem yQ (d0 d1 d4 d5 d8 d9:Sl)(n m:Nat):∀(l:List Nat) (f:Nat->Nat) (b:Bool) (c7:Sl),(∀i∈l,i < n)->∃(f':Nat->Nat) (b':Bool) (eT:Sl),bf (cN 7) bv (l.map nat) [d0,d1,tL (iP n f),tB b,d4,d5,tN m,c7,d8,d9]=
  ah (.nx [d0,d1,tL (iP n f'),tB b',d4,d5,tN m,eT,d8,d9])/\Q2 n m l f b f' b'
 | [],f,b,c7,_=>⟨f,b,c7,rfl,λi=> .inl rfl,λh=> .inl h,λh=>⟨h,rfl,λi hi=>by cases hi⟩⟩
 | i :: l,f,b,c7,hl=>by
  have hi:=hl i K8
  have ea:=u6 f hi
  have nn:=F9 n f
  have el:=F8 n f
  have ei:=o8 hi
  have es:=F7 (n:=n) (i:=i) f m
  by_cases hc:m < f i
  ·obtain⟨f',b',eT,e,q1,q2,q3⟩:=yQ d0 d1 d4 d5 d8 d9 n m l (upd f i m) true (tN i) λj hj=>hl j (K9 _ hj)
   have hb2:bv [d0,d1,tL (iP n f),tB b,d4,d5,tN m,tN i,d8,d9]=ah (.nx [d0,d1,tL (iP n (upd f i m)),tB true,d4,d5,tN m,tN i,d8,d9]):=by
    have hd:decide ((m:Int) < ((f i:Nat):Int))=true:=Z9 (!1)
    simp(disch:=omega) only[bv,rn,reduceIte,ea,hd,el,ei,nn,es,XZ]
   have ui:upd f i m i=m:=JQ rfl
   have uj:∀j,j≠i->upd f i m j=f j:=λj hj=>JV hj
   have fi:f' i=m:=by rcases q1 i with z | z;exact z.trans ui;exact z.1
   refine⟨f',b',eT,?_,?_,?_,?_⟩
   ·show bf (cN 7) bv (.int (i:Int) :: l.map nat) _=_
    rw[bf,show cN 7 (cy .base (.int (i:Int))) (.int (i:Int)) [d0,d1,tL (iP n f),tB b,d4,d5,tN m,c7,d8,d9]=some [d0,d1,tL (iP n f),tB b,d4,d5,tN m,tN i,d8,d9] from rfl,bB,ay,hb2,ay]
    exact e
   ·intro j
    by_cases hj:j=i
    ·subst hj;exact .inr ⟨fi,hc,K8⟩
    ·rcases q1 j with z | z
     ·exact .inl (z.trans (uj j hj))
     ·exact .inr ⟨z.1,by have:=z.2.1;rw[uj j hj] at this;exact this,K9 _ z.2.2⟩
   ·intro _;exact .inr ⟨i,hi,by rw[fi];exact hc⟩
   ·intro z;cases(q3 z).1
  ·obtain⟨f',b',eT,e,q1,q2,q3⟩:=yQ d0 d1 d4 d5 d8 d9 n m l f b (tN i) λj hj=>hl j (K9 _ hj)
   have hb2:bv [d0,d1,tL (iP n f),tB b,d4,d5,tN m,tN i,d8,d9]=ah (.nx [d0,d1,tL (iP n f),tB b,d4,d5,tN m,tN i,d8,d9]):=by
    have hd:decide ((m:Int) < ((f i:Nat):Int))=false:=Z8 (!1)
    simp(disch:=omega) only[bv,rn,reduceIte,ea,hd]
   refine⟨f',b',eT,?_,?_,q2,?_⟩
   ·show bf (cN 7) bv (.int (i:Int) :: l.map nat) _=_
    rw[bf,show cN 7 (cy .base (.int (i:Int))) (.int (i:Int)) [d0,d1,tL (iP n f),tB b,d4,d5,tN m,c7,d8,d9]=some [d0,d1,tL (iP n f),tB b,d4,d5,tN m,tN i,d8,d9] from rfl,bB,ay,hb2,ay]
    exact e
   ·intro j
    rcases q1 j with z | z
    ·exact .inl z
    ·exact .inr ⟨z.1,z.2.1,K9 _ z.2.2⟩
   ·intro z
    obtain⟨z1,z2,z3⟩:=q3 z
    refine⟨z1,z2,λj hj=> ?_⟩
    rcases K0.mp hj with rfl | hj
    ·omega
    ·exact z3 j hj
theorem foldl_min:∀(l:List Nat) (a:Nat),∃m:Nat,(l.map λ(x:Nat)=>(x:Int)).foldl (λa b=>if b < a then b else a) (a:Int)=(m:Int)/\(m=a∨m∈l)/\m<=a/\∀x∈l,m<=x
 | [],a=>⟨a,rfl,.inl rfl,K2 _,λx hx=>by cases hx⟩
 | x :: l,a=>by
  rw[KZ,UZ]
  by_cases hc:x < a
  ·rw[JQ (!1)]
   obtain⟨m,h1,h2,h3,h4⟩:=foldl_min l x
   refine⟨m,h1,?_,by omega,λy hy=> ?_⟩
   ·exact h2.elim (λz=> .inr (z ▸ K8)) λz=> .inr (K9 _ z)
   ·rcases K0.mp hy with rfl | hy
    ·exact h3
    ·exact h4 y hy
  ·rw[JV (!1)]
   obtain⟨m,h1,h2,h3,h4⟩:=foldl_min l a
   refine⟨m,h1,?_,h3,λy hy=> ?_⟩
   ·exact h2.elim .inl λz=> .inr (K9 _ z)
   ·rcases K0.mp hy with rfl | hy
    ·omega
    ·exact h4 y hy
theorem xx:∀l:List Nat,(l.map nat).mapM intOf=some (l.map λ(x:Nat)=>(x:Int))
 | []=>rfl
 | x :: l=>by
  rw[KZ,List.mapM_cons,xx l];rfl
theorem Bg (l:List Nat)(h:l≠[]):∃m:Nat,sD [.list (l.map nat)]=some (.int (m:Int))/\m∈l/\∀x∈l,m<=x:=by
 cases l with
 | nil=>exact absurd rfl h
 | cons a l=>
  obtain⟨m,h1,h2,h3,h4⟩:=foldl_min l a
  refine⟨m,?_,?_,λx hx=> ?_⟩
  ·rw[sD,xx]
   show some (PyData.int (uv ((a:Int) :: l.map λ(x:Nat)=>(x:Int))))=_
   rw[uv,h1]
  ·rcases h2 with rfl | z
   ·exact K8
   ·exact K9 _ z
  ·rcases K0.mp hx with rfl | hx
   ·exact h3
   ·exact h4 x hx
def PS (n h:Nat)(vw:Nat->Nat->Z2)(f:Nat->Nat):Prop:=∀i,i < n->f i<=i/\Cn n h vw i (f i)
theorem Jr (d0 d1 d4 d8 d9:Sl){n h:Nat}{vw:Nat->Nat->Z2}(hn:n<=1000)(l:List Nat)(hne:l≠[])(hl:∀i∈l,i < n)(hcn:∀i∈l,∀j∈l,Cn n h vw i j)(hll:l.length<=1000)(f:Nat->Nat)(ps:PS n h vw f)(b:Bool)(c6 c7:Sl):∃(f':Nat->Nat) (b':Bool) (qX eT:Sl),dk [d0,d1,tL (iP n f),tB b,d4,fL (l.map nat),c6,c7,d8,d9]=
  ah (.nx [d0,d1,tL (iP n f'),tB b',d4,fL (l.map nat),qX,eT,d8,d9])/\PS n h vw f'/\(∀i,f' i<=f i)/\(b'=true->b=true∨∃i,i < n/\f' i < f i)/\(b'=false->b=false/\f'=f/\∀i∈l,∀j∈l,f i=f j):=by
 have hc:=xt (fe:=fm) (cap:=[fL (iP n f)]) nat (λi=>(Kd.fr [],nat (f i))) l (λi hi=>by
  have ea:=u6 f (hl i hi)
  simp(disch:=omega) only[fm,rn,reduceIte,nat,ea])
 have k1:=dC l λi=>nat (f i)
 have e2:(l.map λi=>(Kd.fr [],nat (f i))).map Prod.snd=(l.map f).map nat:=by rw[KQ,KQ];rfl
 obtain⟨m,hm1,hm2,Pz⟩:=Bg (l.map f) (by simpa using hne)
 have hle:l.length<=100000:=by omega
 have s1:(aL 6 (j2 sD [(bj (lG (eV 5)) [2] ce fm)])) [d0,d1,tL (iP n f),tB b,d4,fL (l.map nat),c6,c7,d8,d9]=ah (.nx [d0,d1,tL (iP n f),tB b,d4,fL (l.map nat),tN m,c7,d8,d9]):=by
  simp(disch:=omega) only[rn,reduceIte,bj,hc,k1,e2,hle,hm1]
 obtain⟨f',b',eT,e,q1,q2,q3⟩:=yQ d0 d1 d4 (fL (l.map nat)) d8 d9 n m l f b c7 hl
 obtain⟨j,hj,rfl⟩:=Kw.mp hm2
 refine⟨f',b',tI ((f j:Nat):Int),eT,?_,?_,?_,q2,?_⟩
 ·unfold dk
  rw[aH s1];exact e
 ·intro i hi
  obtain⟨p1,p2⟩:=ps i hi
  rcases q1 i with z | ⟨z1,z2,z3⟩
  ·rw[z];exact⟨p1,p2⟩
  ·rw[z1];exact⟨by omega,(hcn i z3 j hj).trans (ps j (hl j hj)).2⟩
 ·intro i
  rcases q1 i with z | z
  ·omega
  ·omega
 ·intro z
  obtain⟨z1,z2,z3⟩:=q3 z
  have ea:∀i∈l,f i=f j:=λi hi=>Jz (z3 i hi) (Pz _ (Kw.mpr ⟨i,hi,rfl⟩))
  exact⟨z1,z2,λi hi i' hi'=>(ea i hi).trans (ea i' hi').symm⟩
def Js (G:Gp):List Z2:=(aG G).map λp=> .tuple [p.1,p.2]
theorem DY (d0 d1 d8 d9:Sl){n h:Nat}{vw:Nat->Nat->Z2}(hn:n<=1000):∀(G:Gp),(∀p∈G,p.2≠[]/\(∀i∈p.2,i < n)/\(∀i∈p.2,∀j∈p.2,Cn n h vw i j)/\p.2.length<=1000)->∀(f:Nat->Nat) (b:Bool) (c4 c5 c6 c7:Sl),PS n h vw f->
  ∃(f':Nat->Nat) (b':Bool) (mS mT qX eT:Sl),bf (jx [4,5]) dk (Js G) [d0,d1,tL (iP n f),tB b,c4,c5,c6,c7,d8,d9]=
  ah (.nx [d0,d1,tL (iP n f'),tB b',mS,mT,qX,eT,d8,d9])/\PS n h vw f'/\(∀i,f' i<=f i)/\(b'=true->b=true∨∃i,i < n/\f' i < f i)/\(b'=false->b=false/\f'=f/\∀p∈G,∀i∈p.2,∀j∈p.2,f i=f j)
 | [],_,f,b,c4,c5,c6,c7,ps=>⟨f,b,c4,c5,c6,c7,rfl,ps,λi=>K2 _,λz=> .inl z,λz=>⟨z,rfl,λp hp=>by cases hp⟩⟩
 | p :: G,hG,f,b,c4,c5,c6,c7,ps=>by
  obtain⟨a1,a2,a3,a4⟩:=hG p K8
  have hs:∃mS:Sl,jx [4,5] (cy .base (.tuple [p.1,.list (p.2.map nat)])) (.tuple [p.1,.list (p.2.map nat)]) [d0,d1,tL (iP n f),tB b,c4,c5,c6,c7,d8,d9]=some [d0,d1,tL (iP n f),tB b,mS,fL (p.2.map nat),c6,c7,d8,d9]:=by
   have nt:bo (.tuple [p.1,.list (p.2.map nat)])=false:=by
    rw[cf,aq,aq,md,YQ,Bool.and_false]
   rw[v9 nt]
   show∃mS:Sl,some (iR (iR _ 4 (cy .base p.1) p.1) 5 .base (.list (p.2.map nat)))=_
   cases e:bo p.1 with
   | true=>rw[cQ e];exact⟨_,rfl⟩
   | false=>rw[v9 e];exact⟨_,rfl⟩
  obtain⟨mS,hs⟩:=hs
  obtain⟨f1,b1,qX,eT,e1,p1,p2,p3,p4⟩:=Jr d0 d1 mS d8 d9 hn p.2 a1 a2 a3 a4 f ps b c6 c7
  obtain⟨f',b',DX,Jp,DM,yM,e,q1,q2,q3,q4⟩:=DY d0 d1 d8 d9 hn G (λq hq=>hG q (K9 _ hq)) f1 b1 mS (fL (p.2.map nat)) qX eT p1
  refine⟨f',b',DX,Jp,DM,yM,?_,q1,λi=>KJ (q2 i) (p2 i),?_,?_⟩
  ·show bf (jx [4,5]) dk (.tuple [p.1,.list (p.2.map nat)] :: Js G) _=_
   rw[bf,hs,bB,ay,e1,ay]
   exact e
  ·intro z
   rcases q3 z with z | ⟨i,z1,z2⟩
   ·rcases p3 z with z | ⟨i,z1,z2⟩
    ·exact .inl z
    ·exact .inr ⟨i,z1,Xz (q2 i) z2⟩
   ·exact .inr ⟨i,z1,X6 z2 (p2 i)⟩
  ·intro z
   obtain⟨z1,z2,z3⟩:=q4 z
   obtain⟨y1,y2,y3⟩:=p4 z1
   subst z2
   refine⟨y1,y2,λq hq=> ?_⟩
   rcases K0.mp hq with rfl | hq
   ·exact y3
   ·rw[←y2];exact z3 q hq
def wt (n:Nat)(f:Nat->Nat):Nat:=((List.range n).map f).sum
theorem mQ (n:Nat)(f:Nat->Nat):wt (n+1) f=wt n f+f n:=by
 unfold wt;rw[Yz,X0,List.sum_append];simp
theorem GZ {f g:Nat->Nat}(h:∀i,f i<=g i):∀n,wt n f<=wt n g
 | 0=>K2 _
 | n+1=>by rw[mQ,mQ];have:=GZ h n;have:=h n;omega
theorem G0 {f g:Nat->Nat}(h:∀i,f i<=g i){i:Nat}(hi:f i < g i):∀{n},i < n->wt n f < wt n g
 | n+1,hn=>by
  rw[mQ,mQ]
  by_cases e:i=n
  ·subst e;have:=GZ h i;omega
  ·have:=G0 h hi (n:=n) (!1);have:=h n;omega
theorem xy {f:Nat->Nat}{b:Nat}:∀(n:Nat),(∀i,i < n->f i<=b)->wt n f<=n*b
 | 0,_=>by simp[wt]
 | n+1,h=>by
  rw[mQ,Y4]
  have:=xy n λi hi=>h i (!1)
  have:=h n (!1)
  omega
theorem Jt (d0 d8 d9:Sl){n h:Nat}{vw:Nat->Nat->Z2}(hn:n<=1000){G:Gp}(g:s_ G 1000)(hG:∀p∈G,p.2≠[]/\(∀i∈p.2,i < n)/\(∀i∈p.2,∀j∈p.2,Cn n h vw i j)/\p.2.length<=1000):∀(w fuel:Nat) (f:Nat->Nat) (c4 c5 c6 c7:Sl),PS n h vw f->wt n f < w->w+1<=fuel->
  ∃(f':Nat->Nat) (mS mT qX eT:Sl),eG fuel im dm [d0,fD (aG G),tL (iP n f),tB true,c4,c5,c6,c7,d8,d9]=
  ah (.nx [d0,fD (aG G),tL (iP n f'),tB false,mS,mT,qX,eT,d8,d9])/\PS n h vw f'/\∀p∈G,∀i∈p.2,∀j∈p.2,f' i=f' j:=by
 intro w
 induction w with
 | zero=>
  intro fuel f c4 c5 c6 c7 ps hw hf
  omega
 | succ w ih=>
  intro fuel f c4 c5 c6 c7 ps hw hf
  obtain⟨fuel,rfl⟩:∃k,fuel=k+2:=⟨fuel - 2,by omega⟩
  obtain⟨f',b',mS,mT,qX,eT,e,q1,q2,q3,q4⟩:=DY d0 (fD (aG G)) d8 d9 hn G hG f false c4 c5 c6 c7 ps
  have hb:dm [d0,fD (aG G),tL (iP n f),tB true,c4,c5,c6,c7,d8,d9]=ah (.nx [d0,fD (aG G),tL (iP n f'),tB b',mS,mT,qX,eT,d8,d9]):=by
   unfold dm
   rw[aH (show(aL 3 (eC (.bool false))) _=ah (.nx [d0,fD (aG G),tL (iP n f),tB false,c4,c5,c6,c7,d8,d9]) from rfl)]
   have hi:ut (eV 1) [d0,fD (aG G),tL (iP n f),tB false,c4,c5,c6,c7,d8,d9]=ah (.base,Js G):=by
    show AB .base (.dict (aG G))=_
    rw[AB,JQ g.gF];rfl
   unfold bG
   rw[hi,ay];exact e
  cases b' with
  | true=>
   rcases q3 rfl with z | ⟨i,z1,z2⟩
   ·cases z
   ·have hlt:=G0 q2 z2 z1
    obtain⟨f'',d4,d5,d6,d7,e',r1,r2⟩:=ih (fuel+1) f' mS mT qX eT q1 (!1) (!1)
    exact⟨f'',d4,d5,d6,d7,by rw[mL rfl hb];exact e',r1,r2⟩
  | false=>
   obtain⟨_,rfl,z3⟩:=q4 rfl
   exact⟨f',mS,mT,qX,eT,by rw[mL rfl hb,qV rfl],q1,z3⟩
theorem tj {α:Type}{ft:TF}{fe:EF}{cap:aW}(f:α->Z2)(p:α->Bool)(g:α->Kd×Z2):∀(l:List α),(∀a∈l,ft (fA (f a) :: cap)=ah (p a))->(∀a∈l,p a=true->fe (fA (f a) :: cap)=ah (g a))->cc ft fe cap (l.map f)=some ((l.filter p).map g)
 | [],_,_=>rfl
 | a :: l,ht,h=>by
  have h0:=ht a K8
  have ih:=tj f p g l (λb hb=>ht b (K9 _ hb)) λb hb=>h b (K9 _ hb)
  rw[KZ,cc]
  cases hp:p a with
  | true=>
   have h1:=h a K8 hp
   rw[hp] at h0
   simp only[ah] at h0 h1⊢
   rw[h0,h1]
   simp only
   rw[ih,List.filter_cons_of_pos hp];rfl
  | false=>
   rw[hp] at h0
   simp only[ah] at h0⊢
   rw[h0]
   simp only
   rw[ih,List.filter_cons_of_neg (by rw[hp];exact K5)]
theorem pc (a b:Nat):((a:Int)==(b:Int))=decide (a=b):=by
 by_cases e:a=b
 ·subst e;simp
 ·rw[Z8 e];exact beq_eq_false_iff_ne.mpr λz=>e (!1)
noncomputable def lot (n:Nat)(f:Nat->Nat)(a:Nat):List Nat:=(List.range n).filter λj=>decide (f j=a)
def lots (n:Nat)(f:Nat->Nat)(i:Nat):List Z2:=((List.range i).filter λa=>decide (f a=a)).map λa=> .list ((lot n f a).map nat)
theorem tm (n:Nat)(f:Nat->Nat)(i:Nat):lots n f (i+1)=lots n f i++(if f i=i then [.list ((lot n f i).map nat)] else []):=by
 unfold lots
 rw[Yz,List.filter_append,X0]
 by_cases e:f i=i
 ·rw[JQ e,List.filter_cons_of_pos (by simpa using e)];rfl
 ·rw[JV e,List.filter_cons_of_neg (by simpa using e)];rfl
theorem qZ (n:Nat)(f:Nat->Nat)(i:Nat):(lots n f i).length<=i:=by
 unfold lots;rw[K4];exact KJ (U7 _ _) (by rw[X8];exact K2 _)
theorem JA (d1 c3 c4 c5 c6 c7:Sl){n:Nat}(hn:n<=1000)(f:Nat->Nat)(hf:∀i,i < n->f i < n):∃kC:Sl,bf (cN 9) cn ((List.range n).map λ(i:Nat)=>PyData.int (i:Int)) [fN n,d1,tL (iP n f),c3,c4,c5,c6,c7,tL [],none]=
  ah (.nx [fN n,d1,tL (iP n f),c3,c4,c5,c6,c7,tL (lots n f n),kC]):=by
 obtain⟨Γ',k1,kC,rfl⟩:=br (g:=cN 9) (b:=cn) (ds:=(List.range n).map λ(i:Nat)=>PyData.int (i:Int)) (Γ:=[fN n,d1,tL (iP n f),c3,c4,c5,c6,c7,tL [],none])
  (λi Γ=>∃c9:Sl,Γ=[fN n,d1,tL (iP n f),c3,c4,c5,c6,c7,tL (lots n f i),c9]) ⟨none,rfl⟩ (by
  rintro i d Γ hd ⟨c9,rfl⟩
  obtain⟨rfl,hi⟩:=cm hd
  have ea:=u6 f hi
  have hz:(lots n f i).length < sizeLine:=Xz (KJ (qZ n f i) (show i<=1000 by omega)) (by decide)
  refine⟨_,[fN n,d1,tL (iP n f),c3,c4,c5,c6,c7,tL (lots n f (i+1)),tN i],rfl,.inl ?_,_,rfl⟩
  have hc:=tj (ft:=ip) (fe:=iq) (cap:=[fN i,fL (iP n f)]) (λ(j:Nat)=>PyData.int (j:Int)) (λj=>decide (f j=i)) (λj=>(Kd.fr [],nat j)) (List.range n) (λj hj=>by
   have eb:=u6 f (XU.mp hj)
   simp(disch:=omega) only[ip,rn,reduceIte,eb,pc]) (λj hj _=>by
   simp(disch:=omega) only[iq,rn,reduceIte,nat])
  have k1:=dC ((List.range n).filter λj=>decide (f j=i)) nat
  have e2:(((List.range n).filter λj=>decide (f j=i)).map λj=>(Kd.fr [],nat j)).map Prod.snd=(lot n f i).map nat:=by rw[KQ];rfl
  have hle:n<=100000:=by omega
  rw[tm]
  by_cases e:f i=i
  ·rw[JQ e]
   have hd:decide (f i=i)=true:=Z9 e
   simp(disch:=omega) only[cn,rn,reduceIte,ea,pc,hd,bj,hc,k1,e2,hle,hz,Ku]
  ·rw[JV e,Xj]
   have hd:decide (f i=i)=false:=Z8 e
   simp(disch:=omega) only[cn,rn,reduceIte,ea,pc,hd])
 rw[K4,X8] at k1
 exact⟨kC,k1⟩
theorem DZ {n h:Nat}{vw:Nat->Nat->Z2}{G:Gp}(hn:n<=900)(gr:D_ n h vw G):∃f:Nat->Nat,gX [.int (n:Int),.dict (aG G)]=ah (true,.list (lots n f n))/\(∀i,i < n->f i<=i/\f (f i)=f i)/\∀i j,i < n->j < n->(f i=f j↔Cn n h vw i j):=by
 have hG:∀p∈G,p.2≠[]/\(∀i∈p.2,i < n)/\(∀i∈p.2,∀j∈p.2,Cn n h vw i j)/\p.2.length<=1000:=λp hp=>by
  obtain⟨k,hk,hm⟩:=gr.g p hp
  exact⟨gr.ne p hp,λi hi=>((hm i).mp hi).1,λi hi j hj=> .rel ((hm i).mp hi).1 ((hm j).mp hj).1 hk (((hm i).mp hi).2.trans ((hm j).mp hj).2.symm),(gr.ok.k p hp).2⟩
 have hw:wt n id<=900*900:=KJ (xy (b:=900) n λi hi=>by show i<=900;omega) (Nat.mul_le_mul_right _ hn)
 obtain⟨f,c4,c5,c6,c7,e,p1,p2⟩:=Jt (fN n) none none (!1) gr.ok hG (900*900+1) vq id none none none none (λi hi=>⟨K2 _,.refl _⟩) (Nat.lt_succ_of_le hw) (by decide)
 have hc:∀a b k,a < n->b < n->k < h->vw a k=vw b k->f a=f b:=λa b k ha hb hk ev=>by
  obtain⟨l,_,hl⟩:=gr.get a k ha hk
  refine p2 _ hl a ?_ b ?_
  ·exact(gr.mem_of hl a).mpr ⟨ha,rfl⟩
  ·exact(gr.mem_of hl b).mpr ⟨hb,ev.symm⟩
 obtain⟨c9,e8⟩:=JA (fD (aG G)) (tB false) c4 c5 c6 c7 (!1) f λi hi=>Xz (p1 i hi).1 hi
 refine⟨f,?_,λi hi=>⟨(p1 i hi).1,((p1 i hi).2.const f hc).symm⟩,λi j hi hj=>⟨λz=> ?_,λz=>z.const f hc⟩⟩
 ·have hn2:(0:Int)<=(n:Int)/\(n:Int)<=100000:=by omega
  have s1:(aL 2 (Ey p0 (eV 0))) (da 10 [.int (n:Int),.dict (aG G)])=ah (.nx [fN n,fD (aG G),tL (iP n id),none,none,none,none,none,none,none]):=by
   simp(disch:=omega) only[rn,reduceIte,p0,hn2,and_self,Ku];rfl
  refine gg ?_
  unfold jM
  rw[aH s1]
  rw[aH (show(aL 3 (eC (.bool true))) _=ah (.nx [fN n,fD (aG G),tL (iP n id),tB true,none,none,none,none,none,none]) from rfl)]
  rw[aH (show(pB vq im dm) _=_ from e)]
  rw[aH (show(aL 8 (dw [])) _=ah (.nx [fN n,fD (aG G),tL (iP n f),tB false,c4,c5,c6,c7,tL [],none]) from rfl)]
  have s8:(bG (c_ (eV 0)) (cN 9) cn) [fN n,fD (aG G),tL (iP n f),tB false,c4,c5,c6,c7,tL [],none]=ah (.nx [fN n,fD (aG G),tL (iP n f),tB false,c4,c5,c6,c7,tL (lots n f n),c9]):=by
   simp(disch:=omega) only[rn,reduceIte,Ku,e8]
  rw[aH s8]
  rfl
 ·have h1:=(p1 i hi).2
  have h2:=(p1 j hj).2
  rw[←z] at h2
  exact h1.trans h2.symm
def encV (V:List Z2):k6:=V.map λx=>(x,.bool true)
def q8 (S:List (Nat×Nat)):List Z2:=S.map λp=> .tuple [.int ((p.1:Nat):Int),.int ((p.2:Nat):Int)]
theorem F_ (S:List (Nat×Nat)):aq (q8 S)=true:=aU _ (λ_=>rfl) _
theorem z8 (S:List (Nat×Nat)):(q8 S).length=S.length:=K4 _
def JB (V:List Z2):Prop:=∀x∈V,pl x=true/\db x=true
theorem nJ {x:Z2}(hx:pl x=true):∀{V:List Z2},JB V->(lg (encV V) x=true↔x∈V)
 | [],_=>by simp[lg,encV]
 | y :: V,h=>by
  have ih:=nJ hx (V:=V) λz hz=>h z (K9 _ hz)
  show((PyData.eqv y x || lg (encV V) x)=true)↔_
  rw[Bool.or_eq_true,ih,mH (h y K8).1 hx,K0]
  exact⟨λz=>z.elim (λz=> .inl z.symm) .inr,λz=>z.elim (λz=> .inl z.symm) .inr⟩
theorem Bh {V:List Z2}(h:JB V):gF (encV V)=true:=Uw.mpr λp hp=>by
 obtain⟨q,hq,rfl⟩:=Kw.mp hp
 exact(h q hq).2
theorem Bi (V:List Z2):dO (encV V)=true:=aQ.mpr λx hx=>by
 obtain⟨p,hp,rfl⟩:=Kw.mp hx
 obtain⟨y,_,rfl⟩:=Kw.mp hp
 rfl
theorem JC {V:List Z2}(h:JB V){x:Z2}(hx:db x=true):dN (encV V) x=true:=by unfold dN;rw[hx,Bh h];rfl
structure SI (n h:Nat)(vw:Nat->Nat->Z2)(a:Nat)(V:List Z2)(j:Nat)(V':List Z2)(S:List (Nat×Nat)):Prop where
 v:JB V'
 l:V'.length<=V.length+j
 sl:S.length<=j*1000
 up:∀x∈V,x∈V'
 dn:∀k,k < j->vw a k∈V'
 no:∀x∈V',x∈V∨∃k,k < j/\x=vw a k
 s:∀s∈S,s.1 < h/\s.2 < n/\vw s.2 s.1=vw a s.1
 c:∀k,k < j->vw a k∈V∨∀i,i < n->vw i k=vw a k->∃k',(k',i)∈S
theorem JD {n h:Nat}{vw:Nat->Nat->Z2}{G:Gp}(gr:D_ n h vw G)(hh:h<=4)(hp:∀i k,pl (vw i k)=true/\db (vw i k)=true/\bo (vw i k)=true)(a:Nat)(ha:a < n)(V:List Z2)(hV:JB V)(hl:V.length<=10000)(d0:Sl) :
  ∃(V':List Z2) (S:List (Nat×Nat)) (c4 c5:Sl),bf (jx [4,5]) a8 (dI 0 ((!2).map (vw a))) [d0,fD (aG G),tD (encV V),tL (q8 []),none,none]=
  ah (.nx [d0,fD (aG G),tD (encV V'),tL (q8 S),c4,c5])/\SI n h vw a V h V' S:=by
 obtain⟨Γ',k1,V',S,c4,c5,rfl,si⟩:=br (g:=jx [4,5]) (b:=a8) (ds:=dI 0 ((!2).map (vw a))) (Γ:=[d0,fD (aG G),tD (encV V),tL (q8 []),none,none])
  (λj Γ=>∃(V':List Z2) (S:List (Nat×Nat)) (c4 c5:Sl),Γ=[d0,fD (aG G),tD (encV V'),tL (q8 S),c4,c5]/\SI n h vw a V j V' S)
  ⟨V,[],none,none,rfl,hV,by omega,by simp,λx hx=>hx,(λk hk=>by omega),(λx hx=> .inl hx),(λs hs=>by cases hs),(λk hk=>by omega)⟩ (by
  rintro j d Γ hd ⟨V',S,c4,c5,rfl,si⟩
  rw[L2.jg,KY] at hd
  have hj:j < h:=by
   apply Classical.byContradiction;intro z
   rw[Xq (by rw[X8];omega)] at hd;cases hd
  rw[Y9 hj,Nat.zero_add] at hd
  have hd:PyData.tuple [.int (j:Int),vw a j]=d:=by simpa using hd
  subst hd
  obtain⟨p1,p2,p3⟩:=hp a j
  have nt:bo (.tuple [.int (j:Int),vw a j])=true:=by rw[cf,aq,aq,p3];rfl
  have hs:jx [4,5] (cy .base (.tuple [.int (j:Int),vw a j])) (.tuple [.int (j:Int),vw a j]) [d0,fD (aG G),tD (encV V'),tL (q8 S),c4,c5]=some [d0,fD (aG G),tD (encV V'),tL (q8 S),tN j,tA (vw a j)]:=by
   rw[cQ nt]
   show some (iR (iR _ 4 (cy (.fr []) (.int (j:Int))) (.int (j:Int))) 5 (cy (.fr []) (vw a j)) (vw a j))=_
   rw[o3,cQ p3];rfl
  have hK:=JC si.v p2
  by_cases hin:vw a j∈V'
  ·have hk:=(nJ p1 si.v).mpr hin
   refine⟨_,_,hs,.inl ?_,V',S,tN j,tA (vw a j),rfl,?_⟩
   ·simp(disch:=omega) only[a8,rn,reduceIte,cQ p3,eU,hK,hk]
   ·refine⟨si.v,by have:=si.l;omega,by have:=si.sl;omega,si.up,λk hk=> ?_,λx hx=> ?_,si.s,λk hk=> ?_⟩
    ·by_cases e:k=j
     ·subst e;exact hin
     ·exact si.dn k (!1)
    ·rcases si.no x hx with z | ⟨k,z1,z2⟩
     ·exact .inl z
     ·exact .inr ⟨k,by omega,z2⟩
    ·by_cases e:k=j
     ·subst e
      rcases si.no _ hin with z | ⟨k',z1,z2⟩
      ·exact .inl z
      ·have:=gr.hand _ _ _ _ z2;omega
     ·exact si.c k (!1)
  ·have hk:lg (encV V') (vw a j)=false:=Bool.eq_false_iff.mpr λz=>hin ((nJ p1 si.v).mp z)
   obtain⟨l,g1,g2⟩:=gr.get a j ha hj
   have hll:l.length<=1000:=(gr.ok.k _ g2).2
   have PB:dN (aG G) (vw a j)=true:=by unfold dN;rw[p2,gr.ok.gF];rfl
   have hc:=xt (fe:=cw) (cap:=[fN j]) nat (λi=>(Kd.fr [],.tuple [.int (j:Int),nat i])) l (λi hi=>by
    have nn:aq [PyData.int (j:Int),.int (i:Int)]=true:=rfl
    simp(disch:=omega) only[cw,rn,reduceIte,nat,au nn])
   have k1:=dC l λi=>PyData.tuple [.int (j:Int),nat i]
   have e2:(l.map λi=>(Kd.fr [],PyData.tuple [.int (j:Int),nat i])).map Prod.snd=q8 (l.map λi=>(j,i)):=by unfold q8;rw[KQ,KQ];rfl
   have hle:l.length<=100000:=by omega
   have nn:=F_ (l.map λi=>(j,i))
   have hsz:(q8 S).length+(q8 (l.map λi=>(j,i))).length<=sizeLine:=KJ (show _<=10000 by rw[z8,z8,K4];have:=si.sl;omega) (by decide)
   have hvl:(encV V').length < sizeLine:=Xz (show _<=20000 by unfold encV;rw[K4];have:=si.l;omega) (by decide)
   have nv:=Bi V'
   have ep:putK (encV V') (vw a j) (.bool true)=encV (V'++[vw a j]):=by
    unfold putK;rw[hk,JV K5];unfold encV;rw[X0];rfl
   have ea:q8 S++q8 (l.map λi=>(j,i))=q8 (S++l.map λi=>(j,i)):=by unfold q8;rw[X0]
   refine⟨_,_,hs,.inl ?_,V'++[vw a j],S++l.map (λi=>(j,i)),tN j,tA (vw a j),rfl,?_⟩
   ·simp(disch:=omega) only[a8,rn,reduceIte,cQ p3,eU,hK,hk,pC,nv,hvl,and_self,ep,EC,PB,g1,bj,hc,k1,e2,hle,xR,Gy,nn,hsz,ea]
   ·refine⟨λx hx=> ?_,by rw[K1,X3];have:=si.l;omega,by rw[K1,K4];have:=si.sl;omega,λx hx=>KW _ (si.up x hx),λk hk=> ?_,λx hx=> ?_,λs hs=> ?_,λk hk=> ?_⟩
    ·rcases Kk.mp hx with z | z
     ·exact si.v x z
     ·rw[K6.mp z];exact⟨p1,p2⟩
    ·by_cases e:k=j
     ·subst e;exact Kx _ (K6.mpr rfl)
     ·exact KW _ (si.dn k (!1))
    ·rcases Kk.mp hx with z | z
     ·rcases si.no x z with z | ⟨k,z1,z2⟩
      ·exact .inl z
      ·exact .inr ⟨k,by omega,z2⟩
     ·exact .inr ⟨j,by omega,K6.mp z⟩
    ·rcases Kk.mp hs with z | z
     ·exact si.s s z
     ·obtain⟨i,hi,rfl⟩:=Kw.mp z
      have:=(gr.mem_of g2 i).mp hi
      exact⟨hj,this.1,this.2⟩
    ·by_cases e:k=j
     ·subst e
      exact .inr λi hi ev=>⟨k,Kx _ (Kw.mpr ⟨i,(gr.mem_of g2 i).mpr ⟨hi,ev⟩,rfl⟩)⟩
     ·rcases si.c k (!1) with z | z
      ·exact .inl z
      ·exact .inr λi hi ev=>by
        obtain⟨k',hk'⟩:=z i hi ev
        exact⟨k',KW _ hk'⟩)
 rw[L2.cG,K4,X8] at si
 exact⟨V',S,c4,c5,k1,si⟩
theorem D0 {n h:Nat}{vw:Nat->Nat->Z2}{G:Gp}(gr:D_ n h vw G)(hh:h<=4)(hp:∀i k,pl (vw i k)=true/\db (vw i k)=true/\bo (vw i k)=true)(a:Nat)(ha:a < n)(V:List Z2)(hV:JB V)(hl:V.length<=10000) :
  ∃(V':List Z2) (S:List (Nat×Nat)),bX [.list ((!2).map (vw a)),.dict (aG G)] (.dict (encV V))=ah (.list (q8 S),.dict (encV V'))/\SI n h vw a V h V' S:=by
 obtain⟨V',S,c4,c5,e,si⟩:=JD gr hh hp a ha V hV hl (fL ((!2).map (vw a)))
 refine⟨V',S,?_,si⟩
 have e0:bW (ka 6 [.list ((!2).map (vw a)),.dict (aG G)] (.dict (encV V)))=ah (.nx [fL ((!2).map (vw a)),fD (aG G),tD (encV V'),tL (q8 S),c4,c5]):=by
  unfold bW
  rw[aH (show(aL 3 (dw [])) (ka 6 [.list ((!2).map (vw a)),.dict (aG G)] (.dict (encV V)))=ah (.nx [fL ((!2).map (vw a)),fD (aG G),tD (encV V),tL (q8 []),none,none]) from rfl)]
  rw[aH (show(bG (jH (eV 0)) (jx [4,5]) a8) [fL ((!2).map (vw a)),fD (aG G),tD (encV V),tL (q8 []),none,none]=_ from e)]
  rfl
 unfold bX runIO
 rw[e0];rfl
abbrev Wy:=List (Nat×Option (Nat×Nat))
def Ga:Option (Nat×Nat)->Z2
 | none=> .none
 | some p=> .tuple [.int ((p.1:Nat):Int),.int ((p.2:Nat):Int)]
def bg (W:Wy):k6:=W.map λp=>(.int ((p.1:Nat):Int),Ga p.2)
def kW (W:Wy):List Nat:=W.map (·.1)
theorem Gb (a b:Nat):PyData.eqv (.int (a:Int)) (.int (b:Int))=decide (a=b):=pc a b
theorem kQ (x:Nat):∀W:Wy,lg (bg W) (.int (x:Int))=decide (x∈kW W)
 | []=>rfl
 | p :: W=>by
  show(PyData.eqv (.int ((p.1:Nat):Int)) (.int (x:Int)) || lg (bg W) (.int (x:Int)))=_
  rw[kQ x W,Gb]
  unfold kW
  rw[KZ,Yv]
  simp only[Bool.or_eq_true,JJ,K0]
  exact⟨λz=>z.elim (λz=> .inl z.symm) .inr,λz=>z.elim (λz=> .inl z.symm) .inr⟩
theorem kR (W:Wy):allI (bg W)=true:=Uw.mpr λp hp=>by
 obtain⟨q,hq,rfl⟩:=Kw.mp hp;rfl
theorem D1 (W:Wy)(x:Nat):dN (bg W) (.int (x:Int))=true:=by unfold dN;rw[kR];rfl
theorem nK (W:Wy):dO (bg W)=true:=aQ.mpr λx hx=>by
 obtain⟨p,hp,rfl⟩:=Kw.mp hx
 obtain⟨y,_,rfl⟩:=Kw.mp hp
 show bo (Ga y.2)=true
 cases y.2 <;> rfl
inductive Br (n h:Nat)(vw:Nat->Nat->Z2)(first:Nat):Wy->Prop
 | one:first < n->Br n h vw first [(first,none)]
 | snoc {W:Wy} {i k a:Nat}:Br n h vw first W->a∈kW W->i∉kW W->i < n->k < h->vw i k=vw a k->Br n h vw first (W++[(i,some (k,a))])
theorem u7 (W:Wy)(e:Nat×Option (Nat×Nat)):kW (W++[e])=kW W++[e.1]:=by unfold kW;rw[X0];rfl
theorem Br.nd {n h:Nat}{vw:Nat->Nat->Z2}{first:Nat}{W:Wy}(o:Br n h vw first W):(kW W).Nodup/\(∀i∈kW W,i < n/\Cn n h vw first i)/\first∈kW W:=by
 induction o with
 | one h1=>exact⟨by simp[kW],λi hi=>by rw[show i=first from K6.mp hi];exact⟨h1,.refl _⟩,K6.mpr rfl⟩
 | snoc _ h1 h2 h3 h4 h5 ih=>
  obtain⟨i1,i2,i3⟩:=ih
  rw[u7]
  refine⟨Xv.mpr ⟨i1,by simp,λx hx y hy z=> ?_⟩,λx hx=> ?_,KW _ i3⟩
  ·have zz:=z.trans (K6.mp hy)
   dsimp only at zz
   subst zz;exact h2 hx
  ·rcases Kk.mp hx with z | z
   ·exact i2 x z
   ·rw[K6.mp z]
    exact⟨h3,(i2 _ h1).2.trans (.rel (i2 _ h1).1 h3 h4 h5.symm)⟩
theorem q9:∀(n:Nat) (l:List Nat),l.Nodup->(∀i∈l,i < n)->l.length<=n
 | 0,l,_,h=>by
  cases l with
  | nil=>simp
  | cons a l=>exact absurd (h a K8) (!1)
 | n+1,l,nd,h=>by
  have ih:=q9 n (l.erase n) (nd.erase n) λi hi=>by
   have h1:=(List.Nodup.mem_erase_iff nd).mp hi
   have:=h i h1.2
   have:=h1.1
   omega
  by_cases hm:n∈l
  ·rw[List.length_erase_of_mem hm] at ih;omega
  ·rw[List.erase_of_not_mem hm] at ih;omega
theorem Br.len {n h:Nat}{vw:Nat->Nat->Z2}{first:Nat}{W:Wy}(o:Br n h vw first W):W.length<=n:=by
 have:=q9 n (kW W) o.nd.1 λi hi=>(o.nd.2.1 i hi).1
 unfold kW at this;rw[K4] at this;exact this
theorem D2 (d0 d1 d2 d4 d5:Sl){n h:Nat}{vw:Nat->Nat->Z2}{first a:Nat}(hn:n<=1000)(o7:Bool):∀(S:List (Nat×Nat)) (W:Wy) (Fu:List Nat) (c8 c9:Sl),(∀s∈S,s.1 < h/\s.2 < n/\vw s.2 s.1=vw a s.1)->Br n h vw first W->a∈kW W->Fu.length<=W.length->
  ∃(W':Wy) (N:List Nat) (xB kC:Sl),bf (jx [8,9]) bF (q8 S) [d0,d1,d2,tD (bg W),d4,d5,tL (Fu.map nat),some (o7,.int (a:Int)),c8,c9]=
  ah (.nx [d0,d1,d2,tD (bg W'),d4,d5,tL ((Fu++N).map nat),some (o7,.int (a:Int)),xB,kC])/\Br n h vw first W'/\kW W'=kW W++N/\∀s∈S,s.2∈kW W'
 | [],W,Fu,c8,c9,_,o,_,_=>⟨W,[],c8,c9,by rw[Xj];rfl,o,by rw[Xj],λs hs=>by cases hs⟩
 | s :: S,W,Fu,c8,c9,hS,o,ha,hF=>by
  obtain⟨s1,s2,s3⟩:=hS s K8
  have hK:=D1 W s.2
  have hk:=kQ s.2 W
  have PC:=o.len
  have hs:jx [8,9] (cy .base (.tuple [.int ((s.1:Nat):Int),.int ((s.2:Nat):Int)])) (.tuple [.int ((s.1:Nat):Int),.int ((s.2:Nat):Int)]) [d0,d1,d2,tD (bg W),d4,d5,tL (Fu.map nat),some (o7,.int (a:Int)),c8,c9]=some [d0,d1,d2,tD (bg W),d4,d5,tL (Fu.map nat),some (o7,.int (a:Int)),tN s.1,tN s.2]:=rfl
  show∃(W':Wy) (N:List Nat) (xB kC:Sl),bf (jx [8,9]) bF (.tuple [.int ((s.1:Nat):Int),.int ((s.2:Nat):Int)] :: q8 S) _=_/\_
  by_cases hin:s.2∈kW W
  ·obtain⟨W',N,xB,kC,e,r1,r2,r3⟩:=D2 d0 d1 d2 d4 d5 hn o7 S W Fu (tN s.1) (tN s.2) (λt ht=>hS t (K9 _ ht)) o ha hF
   refine⟨W',N,xB,kC,?_,r1,r2,λt ht=> ?_⟩
   ·rw[Z9 hin] at hk
    have hb:bF [d0,d1,d2,tD (bg W),d4,d5,tL (Fu.map nat),some (o7,.int (a:Int)),tN s.1,tN s.2]=ah (.nx [d0,d1,d2,tD (bg W),d4,d5,tL (Fu.map nat),some (o7,.int (a:Int)),tN s.1,tN s.2]):=by
     simp(disch:=omega) only[bF,rn,reduceIte,eU,hK,hk]
    rw[bf,hs,bB,ay,hb,ay];exact e
   ·rcases K0.mp ht with rfl | ht
    ·rw[r2];exact KW _ hin
    ·exact r3 t ht
  ·have o2:Br n h vw first (W++[(s.2,some (s.1,a))]):=.snoc o ha hin s2 s1 s3
   have k2:kW (W++[(s.2,some (s.1,a))])=kW W++[s.2]:=u7 _ _
   obtain⟨W',N,xB,kC,e,r1,r2,r3⟩:=D2 d0 d1 d2 d4 d5 hn o7 S (W++[(s.2,some (s.1,a))]) (Fu++[s.2]) (tN s.1) (tN s.2) (λt ht=>hS t (K9 _ ht)) o2 (by rw[k2];exact KW _ ha) (by simp only[K1,X3];omega)
   rw[k2] at r2
   refine⟨W',s.2 :: N,xB,kC,?_,r1,by rw[r2,X5];rfl,λt ht=> ?_⟩
   ·rw[Z8 hin] at hk
    have hwl:(bg W).length < sizeLine:=Xz (show _<=1000 by unfold bg;rw[K4];omega) (by decide)
    have hfl:Fu.length < sizeLine:=Xz (show _<=1000 by omega) (by decide)
    have nv:=nK W
    have nt:aq [PyData.int ((s.1:Nat):Int),.int (a:Int)]=true:=rfl
    have ep:putK (bg W) (.int ((s.2:Nat):Int)) (.tuple [.int ((s.1:Nat):Int),.int (a:Int)])=bg (W++[(s.2,some (s.1,a))]):=by
     unfold putK;rw[hk,JV K5];unfold bg;rw[X0];rfl
    have ef:Fu.map nat++[.int ((s.2:Nat):Int)]=(Fu++[s.2]).map nat:=by rw[X0];rfl
    have hb:bF [d0,d1,d2,tD (bg W),d4,d5,tL (Fu.map nat),some (o7,.int (a:Int)),tN s.1,tN s.2]=ah (.nx [d0,d1,d2,tD (bg (W++[(s.2,some (s.1,a))])),d4,d5,tL ((Fu++[s.2]).map nat),some (o7,.int (a:Int)),tN s.1,tN s.2]):=by
     simp(disch:=omega) only[bF,rn,reduceIte,eU,hK,hk,rW,pC,au nt,nt,nv,hwl,hfl,and_self,ep,ef]
    rw[bf,hs,bB,ay,hb,ay]
    rw[show Fu++s.2 :: N=Fu++[s.2]++N by rw[X5];rfl]
    exact e
   ·rcases K0.mp ht with rfl | ht
    ·rw[r2];exact KW _ (Kx _ (K6.mpr rfl))
    ·exact r3 t ht
structure BI (n h:Nat)(vw:Nat->Nat->Z2)(first:Nat)(W:Wy)(V:List Z2)(R Fu:List Nat):Prop where
 o:Br n h vw first W
 v:JB V
 l:V.length+h*(R.length+Fu.length)<=h*W.length
 f:Fu.length<=W.length
 a:∀x∈V,∀i k,i < n->k < h->vw i k=x->i∈kW W
 b:∀i∈kW W,i∈R∨i∈Fu∨∀k,k < h->vw i k∈V
 c:∀i,i∈R∨i∈Fu->i∈kW W
theorem G1 {n h:Nat}{vw:Nat->Nat->Z2}{first:Nat}{G:Gp}(gr:D_ n h vw G)(hh:h<=4)(hp:∀i k,pl (vw i k)=true/\db (vw i k)=true/\bo (vw i k)=true)(hn:n<=1000)(d2 d5:Sl):∀(R:List Nat) (W:Wy) (V:List Z2) (Fu:List Nat) (c7 c8 c9:Sl),BI n h vw first W V R Fu->
  ∃(W':Wy) (V':List Z2) (Gc:List Nat) (eT xB kC:Sl),bf (cN 7) cK (R.map nat) [fL ((List.range n).map λi=> .list ((!2).map (vw i))),fD (aG G),d2,tD (bg W),tD (encV V),d5,tL (Fu.map nat),c7,c8,c9]=
  ah (.nx [fL ((List.range n).map λi=> .list ((!2).map (vw i))),fD (aG G),d2,tD (bg W'),tD (encV V'),d5,tL (Gc.map nat),eT,xB,kC])/\BI n h vw first W' V' [] Gc/\W'.length+Fu.length=W.length+Gc.length
 | [],W,V,Fu,c7,c8,c9,bi=>⟨W,V,Fu,c7,c8,c9,rfl,bi,rfl⟩
 | a :: R,W,V,Fu,c7,c8,c9,bi=>by
  have Mt:=bi.c a (.inl K8)
  have han:=(bi.o.nd.2.1 a Mt).1
  have PC:=bi.o.len
  have hVl:V.length<=10000:=by
   have h1:=bi.l
   have h2:h*W.length<=4*1000:=Nat.mul_le_mul hh (!1)
   omega
  obtain⟨V',S,e1,si⟩:=D0 gr hh hp a han V bi.v hVl
  obtain⟨W',N,xB,kC,e2,r1,r2,r3⟩:=D2 (fL ((List.range n).map λi=> .list ((!2).map (vw i)))) (fD (aG G)) d2 (tD (encV V')) d5 hn true S W Fu c8 c9 si.s bi.o Mt bi.f
  have wl:W'.length=W.length+N.length:=by
   have:=congrArg List.length r2
   unfold kW at this
   rw[K1,K4,K4] at this;exact this
  have PD:BI n h vw first W' V' R (Fu++N):=by
   refine⟨r1,si.v,?_,by rw[K1,wl];have:=bi.f;omega,λx hx i k hi hk ev=> ?_,λi hi=> ?_,λi hi=> ?_⟩
   ·have h1:=bi.l
    have h2:=si.l
    rw[Kz] at h1
    rw[K1,wl]
    have e1:h*(R.length+1+Fu.length)=h*R.length+h+h*Fu.length:=by rw[Nat.mul_add,Nat.mul_add,Nat.mul_one]
    have e2:h*(R.length+(Fu.length+N.length))=h*R.length+(h*Fu.length+h*N.length):=by rw[Nat.mul_add,Nat.mul_add]
    have e3:h*(W.length+N.length)=h*W.length+h*N.length:=Nat.mul_add ..
    rw[e1] at h1
    rw[e2,e3]
    omega
   ·have old:∀i,i∈kW W->i∈kW W':=λi hi=>by rw[r2];exact KW _ hi
    rcases si.no x hx with z | ⟨k',z1,z2⟩
    ·exact old i (bi.a x z i k hi hk ev)
    ·have:k=k':=gr.hand _ _ _ _ (ev.trans z2)
     subst this
     rcases si.c k z1 with z | z
     ·exact old i (bi.a _ z i k hi hk (ev.trans z2))
     ·obtain⟨k',hk'⟩:=z i hi (ev.trans z2)
      exact r3 _ hk'
   ·rw[r2] at hi
    rcases Kk.mp hi with z | z
    ·rcases bi.b i z with z | z | z
     ·rcases K0.mp z with rfl | z
      ·exact .inr (.inr si.dn)
      ·exact .inl z
     ·exact .inr (.inl (KW _ z))
     ·exact .inr (.inr λk hk=>si.up _ (z k hk))
    ·exact .inr (.inl (Kx _ z))
   ·rw[r2]
    rcases hi with z | z
    ·exact KW _ (bi.c i (.inl (K9 _ z)))
    ·rcases Kk.mp z with z | z
     ·exact KW _ (bi.c i (.inr z))
     ·exact Kx _ z
  obtain⟨NM,NN,NO,yM,JE,JF,e,q1,q2⟩:=G1 gr hh hp hn d2 d5 R W' V' (Fu++N) (tN a) xB kC PD
  refine⟨NM,NN,NO,yM,JE,JF,?_,q1,by rw[K1] at q2;omega⟩
  have ea:rA ((List.range n).map λi=>PyData.list ((!2).map (vw i))) (a:Int)=some (.list ((!2).map (vw a))):=iG (by rw[KY,Y9 han];rfl)
  have hx:mR kY (eV 0) (eV 7) [fL ((List.range n).map λi=> .list ((!2).map (vw i))),fD (aG G),d2,tD (bg W),tD (encV V),d5,tL (Fu.map nat),tN a,c8,c9]=ah (.base,.list ((!2).map (vw a))):=by
   simp(disch:=omega) only[rn,reduceIte,ea]
  have hb:cK [fL ((List.range n).map λi=> .list ((!2).map (vw i))),fD (aG G),d2,tD (bg W),tD (encV V),d5,tL (Fu.map nat),tN a,c8,c9]=
    bf (jx [8,9]) bF (q8 S) [fL ((List.range n).map λi=> .list ((!2).map (vw i))),fD (aG G),d2,tD (bg W),tD (encV V'),d5,tL (Fu.map nat),tN a,c8,c9]:=by
   unfold cK zx
   show(ap _ λx=>ap (ah (Kd.base,PyData.dict (aG G))) λy=>_)=_
   rw[hx]
   simp only[ay,e1,lu,and_self,if_true]
   rfl
  show bf (cN 7) cK (.int (a:Int) :: R.map nat) _=_
  rw[bf,show cN 7 (cy .base (.int (a:Int))) (.int (a:Int)) [fL ((List.range n).map λi=> .list ((!2).map (vw i))),fD (aG G),d2,tD (bg W),tD (encV V),d5,tL (Fu.map nat),c7,c8,c9]=some [fL ((List.range n).map λi=> .list ((!2).map (vw i))),fD (aG G),d2,tD (bg W),tD (encV V),d5,tL (Fu.map nat),tN a,c8,c9] from rfl,bB,ay,hb,e2,ay]
  exact e
def eK (n h:Nat)(vw:Nat->Nat->Z2):List Z2:=(List.range n).map λi=> .list ((!2).map (vw i))
theorem L3 {n h:Nat}{vw:Nat->Nat->Z2}{first:Nat}{G:Gp}(gr:D_ n h vw G)(hh:h<=4)(hp:∀i k,pl (vw i k)=true/\db (vw i k)=true/\bo (vw i k)=true)(hn:n<=1000)(d2:Sl):∀(m fuel:Nat) (W:Wy) (V:List Z2) (R:List Nat) (c6 c7 c8 c9:Sl),BI n h vw first W V R []->n < W.length+m->m+1<=fuel->
  ∃(W':Wy) (V':List Z2) (qX eT xB kC:Sl),eG fuel f_ dX [fL (eK n h vw),fD (aG G),d2,tD (bg W),tD (encV V),tL (R.map nat),c6,c7,c8,c9]=
  ah (.nx [fL (eK n h vw),fD (aG G),d2,tD (bg W'),tD (encV V'),tL [],qX,eT,xB,kC])/\BI n h vw first W' V' [] []:=by
 intro m
 induction m with
 | zero=>
  intro fuel W V R c6 c7 c8 c9 bi hm hf
  have:=bi.o.len
  omega
 | succ m ih=>
  intro fuel W V R c6 c7 c8 c9 bi hm hf
  obtain⟨fuel,rfl⟩:∃k,fuel=k+2:=⟨fuel - 2,by omega⟩
  cases R with
  | nil=>exact⟨W,V,c6,c7,c8,c9,by rw[qV rfl];rfl,bi⟩
  | cons a R=>
   obtain⟨W',V',Gc,eT,xB,kC,e,q1,q2⟩:=G1 gr hh hp hn d2 (fL ((a :: R).map nat)) (a :: R) W V [] c7 c8 c9 bi
   have hb:dX [fL (eK n h vw),fD (aG G),d2,tD (bg W),tD (encV V),tL ((a :: R).map nat),c6,c7,c8,c9]=ah (.nx [fL (eK n h vw),fD (aG G),d2,tD (bg W'),tD (encV V'),tL (Gc.map nat),none,eT,xB,kC]):=by
    unfold dX
    rw[aH (show(aL 6 (dw [])) _=ah (.nx [fL (eK n h vw),fD (aG G),d2,tD (bg W),tD (encV V),tL ((a :: R).map nat),tL ([].map nat),c7,c8,c9]) from rfl)]
    rw[aH (show(bG (lG (eV 5)) (cN 7) cK) [fL (eK n h vw),fD (aG G),d2,tD (bg W),tD (encV V),tL ((a :: R).map nat),tL ([].map nat),c7,c8,c9]=_ from e)]
    rfl
   have hc:f_ [fL (eK n h vw),fD (aG G),d2,tD (bg W),tD (encV V),tL ((a :: R).map nat),c6,c7,c8,c9]=ah true:=by
    have hd:decide ((0:Int) < (((a :: R).map nat).length:Nat))=true:=Z9 (by rw[K4,Kz];omega)
    show ah (decide ((0:Int) < (((a :: R).map nat).length:Nat)))=_
    rw[hd]
   rw[Y2] at q2
   have Ow:BI n h vw first W' V' Gc []:=⟨q1.o,q1.v,by have:=q1.l;rw[Y2] at this⊢;rw[Nat.add_zero];rw[Nat.zero_add] at this;exact this,by simp,q1.a,λi hi=>(q1.b i hi).elim (λz=>by cases z) λz=>z.elim .inl λz=> .inr (.inr z),λi hi=>hi.elim (λz=>q1.c i (.inr z)) λz=>by cases z⟩
   cases Gc with
   | nil=>exact⟨W',V',none,eT,xB,kC,by rw[mL hc hb,qV rfl];rfl,Ow⟩
   | cons b Gc=>
    rw[Kz] at q2
    obtain⟨NM,NN,DM,yM,JE,JF,e',r⟩:=ih (fuel+1) W' V' (b :: Gc) none eT xB kC Ow (!1) (!1)
    exact⟨NM,NN,DM,yM,JE,JF,by rw[mL hc hb];exact e',r⟩
theorem Gd {n h:Nat}{vw:Nat->Nat->Z2}{first:Nat}{G:Gp}(gr:D_ n h vw G)(hh:h<=4)(hp:∀i k,pl (vw i k)=true/\db (vw i k)=true/\bo (vw i k)=true)(hn:n<=1000)(hf:first < n) :
  ∃W:Wy,km [.list (eK n h vw),.dict (aG G),.int (first:Int)]=ah (true,.dict (bg W))/\Br n h vw first W/\∀i,i < n->(i∈kW W↔Cn n h vw first i):=by
 have PF:BI n h vw first [(first,none)] [] [first] []:=⟨.one hf,(λx hx=>by cases hx),by simp,by simp,(λx hx=>by cases hx),λi hi=> .inl hi,λi hi=>hi.elim id λz=>by cases z⟩
 obtain⟨W,V,c6,c7,c8,c9,e,bi⟩:=L3 gr hh hp hn (fN first) 1000 vq [(first,none)] [] [first] none none none none PF (by rw[X3];omega) (by decide)
 refine⟨W,?_,bi.o,λi hi=>⟨λz=>(bi.o.nd.2.1 i z).2,λz=> ?_⟩⟩
 ·refine gg ?_
  unfold kl
  rw[aH (show(aL 3 (vB (eV 2) (eC .none))) (da 10 [.list (eK n h vw),.dict (aG G),.int (first:Int)])=ah (.nx [fL (eK n h vw),fD (aG G),fN first,tD (bg [(first,none)]),none,none,none,none,none,none]) from rfl)]
  rw[aH (show(aL 4 lO) _=ah (.nx [fL (eK n h vw),fD (aG G),fN first,tD (bg [(first,none)]),tD (encV []),none,none,none,none,none]) from rfl)]
  rw[aH (show(aL 5 (dw [(eV 2)])) _=ah (.nx [fL (eK n h vw),fD (aG G),fN first,tD (bg [(first,none)]),tD (encV []),tL ([first].map nat),none,none,none,none]) from rfl)]
  rw[aH (show(pB vq f_ dX) [fL (eK n h vw),fD (aG G),fN first,tD (bg [(first,none)]),tD (encV []),tL ([first].map nat),none,none,none,none]=_ from e)]
  rfl
 ·have hcl:∀a b k,a < n->b < n->k < h->vw a k=vw b k->a∈kW W->b∈kW W:=λa b k ha hb hk ev Mt=>by
   rcases bi.b a Mt with z | z | z
   ·cases z
   ·cases z
   ·exact bi.a _ (z k hk) b k hb hk ev.symm
  exact(z.closed (λa=>a∈kW W) hcl).mp bi.o.nd.2.2
theorem Ge (h:Nat)(L:List Rn):dv h L=eK L.length h (vw L):=by
 unfold dv eK
 refine Jk (by simp) λi h1 h2=> ?_
 have hi:i < L.length:=by rw[K4] at h1;exact h1
 simp only[J3,List.getElem_range]
 unfold mM vw
 rw[X7,K3 hi];rfl
theorem NP (L:List Rn)(i k:Nat):pl (vw L i k)=true/\db (vw L i k)=true/\bo (vw L i k)=true:=⟨yO _ _ _,mN _ _ _,o_ _ _ _⟩
theorem q_:∀(W P:Wy),(kW W).Nodup->(∀i∈kW W,i∉kW P)->k_ (bg P) (bg W)=bg (P++W)
 | [],P,_,_=>by rw[Xj];rfl
 | e :: W,P,nd,hd=>by
  obtain⟨n1,n2⟩:=KU.mp (show(e.1 :: kW W).Nodup from nd)
  have hk:=kQ e.1 P
  rw[Z8 (hd e.1 K8)] at hk
  have ep:putK (bg P) (.int ((e.1:Nat):Int)) (Ga e.2)=bg (P++[e]):=by
   unfold putK;rw[hk,JV K5];unfold bg;rw[X0];rfl
  show k_ (putK (bg P) (.int ((e.1:Nat):Int)) (Ga e.2)) (bg W)=_
  rw[ep,q_ W (P++[e]) n2 λi hi=> ?_,X5]
  ·rfl
  ·rw[u7,Kk,K6]
   rintro(z | z)
   ·exact hd i (K9 _ hi) z
   ·exact n1 (z ▸ hi)
theorem Bj (W:Wy):((bg W).map λp=>FA p.1)=(kW W).map λ(i:Nat)=>(i:Int):=by
 unfold bg kW;rw[KQ,KQ];rfl
theorem Gf {n:Nat}{f:Nat->Nat}{a:Nat}{W:Wy}(nd:(kW W).Nodup)(hm:∀i,i∈kW W↔i < n/\f i=a):qo [.dict (bg W)]=some (.list ((lot n f a).map nat)):=by
 rw[qo,JQ (kR W),Bj]
 have nl:(lot n f a).Nodup:=List.nodup_range.filter _
 have p1:(kW W).Perm (lot n f a):=(List.perm_ext_iff_of_nodup nd nl).mpr λi=>by
  rw[hm i];unfold lot;rw[UJ,XU,JJ]
 have asc:((lot n f a).map λ(i:Nat)=>(i:Int)).Pairwise (· <= ·):=by
  refine List.pairwise_map.mpr ?_
  have:(List.range n).Pairwise (λ(x y:Nat)=>(x:Int)<=(y:Int)):=List.pairwise_lt_range.imp λh=>by omega
  exact this.sublist List.filter_sublist
 have e:=PySem.W.ksm_same ((Ts.jl ((kW W).map λ(i:Nat)=>(i:Int))).trans (p1.map _)) (Ts.qm _) asc
 rw[e,KQ];rfl
section
variable {h:Nat}{L:List Rn}(hh:h<=4)(hl:L.length<=200){f:Nat->Nat}(hf:∀i,i < L.length->f i<=i/\f (f i)=f i)(hc:∀i j,i < L.length->j < L.length->(f i=f j↔Cn L.length h (vw L) i j))
include hh hl hf hc
theorem Gg (G:Gp)(gr:D_ L.length h (vw L) G)(i:Nat)(hi:i < L.length)(P:Wy)(nd:(kW P).Nodup)(hP:∀j,j∈kW P↔j < L.length/\f j < i)(c5:Sl) :
  ∃(P':Wy) (mT:Sl),bH [fL (dv h L),tD (aG G),tD (bg P),tL (lots L.length f i),tN i,c5]=ah (.nx [fL (dv h L),tD (aG G),tD (bg P'),tL (lots L.length f (i+1)),tN i,mT])/\(kW P').Nodup/\∀j,j∈kW P'↔j < L.length/\f j < i+1:=by
 have hfi:=hf i hi
 have hK:=D1 P i
 have hk:=kQ i P
 rw[tm]
 by_cases e:f i=i
 ·have hn:i∉kW P:=λz=>by have:=((hP i).mp z).2;omega
  rw[Z8 hn] at hk
  obtain⟨W,ew,o,hW⟩:=Gd (first:=i) gr hh (NP L) (!1) hi
  rw[←Ge] at ew
  have nW:=o.nd
  have hm:∀j,j∈kW W↔j < L.length/\f j=i:=λj=>by
   constructor
   ·intro z
    have hj:=(nW.2.1 j z).1
    exact⟨hj,((hc i j hi hj).mpr ((hW j hj).mp z)).symm.trans e⟩
   ·rintro⟨hj,ej⟩
    exact(hW j hj).mpr ((hc i j hi hj).mp (by rw[e,ej]))
  have es:=Gf nW.1 hm
  have lP:P.length<=L.length:=by
   have:=q9 L.length (kW P) nd λj hj=>((hP j).mp hj).1
   unfold kW at this;rw[K4] at this;exact this
  have lW:=o.len
  have eu:vC 2 (.fr [5]) (bg P) (.dict (bg W))=some (bg (P++W)):=by
   have hsz:(bg P).length+(bg W).length<=sizeLine:=KJ (show _<=1000 by unfold bg;rw[K4,K4];omega) (by decide)
   rw[vC,JQ ⟨rfl,.inr ⟨kR P,kR W⟩,nK P,nK W,hsz⟩,q_ W P nW.1 λj hj z=> ?_]
   have:=((hP j).mp z).2
   have:=((hm j).mp hj).2
   omega
  have hz:(lots L.length f i).length < sizeLine:=Xz (KJ (qZ _ _ _) (show i<=1000 by omega)) (by decide)
  refine⟨P++W,tD (bg W),?_,?_,λj=> ?_⟩
  ·rw[JQ e]
   simp(disch:=omega) only[bH,rn,reduceIte,eU,hK,hk,ew,rV,eu,es,hz]
  ·unfold kW;rw[X0]
   exact Xv.mpr ⟨nd,nW.1,λa ha b hb z=>by
    subst z
    have:=((hP a).mp ha).2
    have:=((hm a).mp hb).2
    omega⟩
  ·unfold kW;rw[X0,Kk]
   rw[show j∈P.map (·.1)↔_ from hP j,show j∈W.map (·.1)↔_ from hm j]
   constructor
   ·rintro(z | z)
    ·exact⟨z.1,by omega⟩
    ·exact⟨z.1,by omega⟩
   ·rintro⟨z1,z2⟩
    by_cases hj:f j=i
    ·exact .inr ⟨z1,hj⟩
    ·exact .inl ⟨z1,by omega⟩
 ·have hn:i∈kW P:=(hP i).mpr ⟨hi,by omega⟩
  rw[Z9 hn] at hk
  refine⟨P,c5,?_,nd,λj=> ?_⟩
  ·rw[JV e,Xj]
   simp(disch:=omega) only[bH,rn,reduceIte,eU,hK,hk]
  ·rw[hP j]
   constructor
   ·rintro⟨z1,z2⟩;exact⟨z1,by omega⟩
   ·rintro⟨z1,z2⟩
    refine⟨z1,?_⟩
    by_cases hj:f j=i
    ·have:=(hf j z1).2
     rw[hj] at this;exact absurd this e
    ·omega
theorem Bk:fw [.list (dv h L)]=ah (true,.list (lots L.length f L.length)):=by
 have hb:L.length*h<=1000:=KJ (Nat.mul_le_mul hl hh) (by decide)
 have gr:=DP (h:=h) L hb
 have eg:=Bf (h:=h) (L:=L) hb
 have sl:(dv h L).length=L.length:=K4 _
 generalize oO h 0 L []=G at gr eg
 obtain⟨Γ',k1,P,c4,c5,rfl,_,_⟩:=br (g:=cN 4) (b:=bH) (ds:=(List.range L.length).map λ(i:Nat)=>PyData.int (i:Int)) (Γ:=[fL (dv h L),tD (aG G),tD (bg []),tL [],none,none])
  (λi Γ=>∃(P:Wy) (c4 c5:Sl),Γ=[fL (dv h L),tD (aG G),tD (bg P),tL (lots L.length f i),c4,c5]/\(kW P).Nodup/\∀j,j∈kW P↔j < L.length/\f j < i) ⟨[],none,none,rfl,by simp[kW],λj=>by simp[kW]⟩ (by
  rintro i d Γ hd ⟨P,c4,c5,rfl,nd,hP⟩
  obtain⟨rfl,hi⟩:=cm hd
  obtain⟨P',mT,e,q1,q2⟩:=Gg hh hl hf hc G gr i hi P nd hP c5
  exact⟨_,_,rfl,.inl e,P',_,mT,rfl,q1,q2⟩)
 rw[K4,X8] at k1
 have s1:(aL 1 (aR fu [(eV 0)])) (da 6 [.list (dv h L)])=ah (.nx [fL (dv h L),tD (aG G),none,none,none,none]):=by
  simp(disch:=omega) only[rn,reduceIte,eg]
 have s4:(bG (c_ (j2 j7 [(eV 0)])) (cN 4) bH) [fL (dv h L),tD (aG G),tD (bg []),tL [],none,none]=ah (.nx [fL (dv h L),tD (aG G),tD (bg P),tL (lots L.length f L.length),c4,c5]):=by
  simp(disch:=omega) only[rn,reduceIte,sl,Ku,k1]
 refine gg ?_
 unfold iz
 rw[aH s1]
 rw[aH (show(aL 2 lO) _=ah (.nx [fL (dv h L),tD (aG G),tD (bg []),none,none,none]) from rfl)]
 rw[aH (show(aL 3 (dw [])) _=ah (.nx [fL (dv h L),tD (aG G),tD (bg []),tL [],none,none]) from rfl)]
 rw[aH s4]
 rfl
end
theorem Bl (n:Nat)(f:Nat->Nat):∃ls:List (List Nat),lots n f n=ls.map λl=> .list (l.map nat):=⟨((List.range n).filter λa=>decide (f a=a)).map (lot n f),by unfold lots;rw[KQ];rfl⟩
theorem rc (n:Nat)(f:Nat->Nat):lay 60 (.list (lots n f n))=true:=by
 rw[lay];unfold lots
 exact j5 _ (λa=>by rw[lay];exact j5 _ (λ_=>rfl) _) _
theorem D3 {n:Nat}{f:Nat->Nat}(hn:0 < n)(hf:∀i,i < n->f i<=i/\f (f i)=f i):∃ys,pL (lots n f n) (.int 0)=some (0,ys):=by
 have h0:f 0=0:=Nat.le_zero.mp (hf 0 hn).1
 have hm:0∈(List.range n).filter λa=>decide (f a=a):=UJ.mpr ⟨XU.mpr hn,Z9 h0⟩
 unfold lots
 cases e:(List.range n).filter λa=>decide (f a=a) with
 | nil=>rw[e] at hm;cases hm
 | cons a l=>
  refine⟨(lot n f a).map nat,?_⟩
  rw[KZ]
  have hz:Y.nM ((l.map λa=>PyData.list ((lot n f a).map nat)).length+1) 0=some 0:=o8 (i:=0) (!1)
  unfold pL
  dsimp only
  rw[Kz,hz]
  show(if aq ((lot n f a).map nat)=true then some (0,(lot n f a).map nat) else none)=_
  rw[aU _ (λ_=>rfl) _];rfl
def qI:QF:=wu (lG (eV 8)) 9 [] (FK (j6 (tE (aR b9 [(eV 9)]))))
def qO:QF:=FJ [] (FK (j6 (tE (vp "list" (eV 8))))) qI
theorem JG (d0 d1 d2 d3 d4 d5 d6 d7 d8:Sl)(i:Nat):FK (j6 (tE (aR b9 [(eV 9)]))) [d0,d1,d2,d3,d4,d5,d6,d7,d8,fN i]=true:=by
 have e:(j6 (tE (aR b9 [(eV 9)]))) [d0,d1,d2,d3,d4,d5,d6,d7,d8,fN i]=ah false:=by
  simp(disch:=omega) only[rn,reduceIte,A9]
 unfold FK;rw[e];rfl
theorem whole2 (d0 d1 d2 d3 d4 d5 d6 d7:Sl)(l:List Nat):qO [d0,d1,d2,d3,d4,d5,d6,d7,fL (l.map nat),none]=true:=by
 unfold qO FJ
 rw[X9]
 refine⟨rfl,?_⟩
 show((l.map nat).all λd=>FK (j6 (tE (aR b9 [(eV 9)]))) [d0,d1,d2,d3,d4,d5,d6,d7,fL (l.map nat),fA d])=true
 refine Uw.mpr λx hx=> ?_
 obtain⟨i,_,rfl⟩:=Kw.mp hx
 exact JG _ _ _ _ _ _ _ _ _ i
theorem D4 (d0 d1 d2 d3 d4 d5 d6 c8 c9:Sl)(n:Nat)(f:Nat->Nat):sQ [8,9] (wu (lG (eV 7)) 8 [9] qO) [d0,d1,d2,d3,d4,d5,d6,tL (lots n f n),c8,c9]=ah (.nx [d0,d1,d2,d3,d4,d5,d6,tL (lots n f n),none,none]):=by
 obtain⟨ls,el⟩:=Bl n f
 have h:wu (lG (eV 7)) 8 [9] qO [d0,d1,d2,d3,d4,d5,d6,tL (lots n f n),c8,c9]=true:=by
  show((lots n f n).all λd=>qO [d0,d1,d2,d3,d4,d5,d6,fL (lots n f n),fA d,none])=true
  refine Uw.mpr λx hx=> ?_
  rw[el] at hx
  obtain⟨l,_,rfl⟩:=Kw.mp hx
  exact whole2 _ _ _ _ _ _ _ _ l
 unfold sQ;rw[JQ h];rfl
def lT:TF:=Ez (j6 (tE (vp "list" (eV 7)))) (tE (cb BL (eV 7) (eV 4)))
def lP:EF:=aR cB [(eV 1),(eV 5),(eV 3)]
theorem Gh:kP=aC (aL 7 lP) (aC (kZ lT (cu (eC (.bool false))) eQ) (aC (sQ [8,9] (wu (lG (eV 7)) 8 [9] qO)) (aC (ng 7 (eC (.int 0))) (iS 7 (dw []))))):=rfl
theorem JH:Dd=aC (Ak (jx [1,2,3]) (aR bt [(eV 0)])) (aC (aL 4 (aR bV [(eV 1),(aR gA [(eV 2),(eV 3)])])) (aC (aL 5 (j2 nN [(eV 2)]))
 (aC (bG (c_ (eC (.int 2))) (cN 6) kP) (cu (cb xN (eV 5) (eV 2)))))):=rfl
theorem JI (d0 d1 d2 d3 d4 d5 d6 d8 d9:Sl)(Z:List Z2)(lz:Z.length < sizeLine):(iS 7 (dw [])) [d0,d1,d2,d3,d4,d5,d6,tL Z,d8,d9]=ah (.nx [d0,d1,d2,d3,d4,d5,d6,tL (Z++[.list []]),d8,d9]):=by
 show(if Z.length < sizeLine then _ else _)=_
 rw[JQ lz];rfl
theorem NQ (g:GF)(b:SF)(Γ:aW):bG (c_ (eC (.int 2))) g b Γ=bf g b [.int ((0:Nat):Int),.int ((1:Nat):Int)] Γ:=by
 simp(disch:=omega) only[rn,reduceIte]
 rfl
theorem main (ns:List Int)(hns:ns.length<=63):∃o,qx [.list (ns.map PyData.int)]=some (.ok (o,.bool true)):=by
 obtain⟨h,ws,k,h2,h4,gw,iw,hw1,hw,hk,ec⟩:=F5 ns
 have hp:ws.length^k<=81:=KJ (Nat.pow_le_pow_left hw k) (KJ (Nat.pow_le_pow_right (by decide) hk) (by decide))
 have hp1:1<=ws.length^k:=Nat.pow_pos hw1
 obtain⟨L,eL,eN,lL,rL⟩:=sZ (h:=h) iw (!1) (rws ws k) (λr hr=>hr)
 rw[zU] at lL
 have rr:J_ h L:=λp hp=>(rL p hp).2
 have rz:∀p∈L,p.1=sY h:=λp hp=>(rL p hp).1
 have hl:L.length<=200:=by omega
 have hb:L.length*h<=1000:=KJ (Nat.mul_le_mul hl h4) (by decide)
 have er:=yN ws k gw hw1 hw hk
 rw[eL] at er
 obtain⟨f,ep,hf,hcn⟩:=DZ (show L.length<=900 by omega) (DP (h:=h) L hb)
 have eg:=xw h2 h4 rr rz hb ep
 have ej:=Bk h4 hl hf hcn
 have is:L1 h (.tuple ((sY h).map PyData.int)):=⟨sY h,rfl,Uu⟩
 have gs:Good [.tuple ((sY h).map PyData.int)]:=qU.snoc is.bo (λn=>is.lay n) rfl
 have ea:=Jf ws [.tuple ((sY h).map PyData.int)] k gw gs hw1 (!1) (!1) (by simp) (by rw[X3];omega)
 have e1:DF ws [.tuple ((sY h).map PyData.int)] k=L.map GY:=by
  rw[←F1,←eN,List.flatMap_cons,J0,Xj];rfl
 rw[e1] at ea
 have ev:=xu h4 rr (!1)
 have es:=DU h h4 [fL ws,fN k,none]
 have nz:aq ((sY h).map PyData.int)=true:=is.bo
 have PH:gK [.int (h:Int),.list ws,.int (k:Int)]=ah (true,.list (mP h L)):=by
  refine gg ?_
  unfold gJ
  rw[aH (show(aL 3 (j2 eF [(bj (c_ (eV 0)) [] ce bZ)])) (da 4 [.int (h:Int),.list ws,.int (k:Int)])=ah (.nx [fN h,fL ws,fN k,tT ((sY h).map PyData.int)]) by
   show(aL 3 (j2 eF [(bj (c_ (eV 0)) [] ce bZ)])) [fN h,fL ws,fN k,none]=_
   simp(disch:=omega) only[rn,reduceIte,es,bT nz])]
  simp(disch:=omega) only[rn,reduceIte,au nz,ea,ev]
 have al:=Be (h:=h) (L:=L) h4 (!1) []
 have eB:gG [.list (mP h L)]=ah (true,.list (lots L.length f L.length)):=by
  refine gg ?_
  show(cu (aR fw [(bj (lG (eV 0)) [] ce bY)])) [fL (mP h L)]=_
  simp(disch:=omega) only[rn,reduceIte,al,ej]
 have eP:cB [.int (h:Int),.list ws,.int (k:Int)]=ah (true,.list (lots L.length f L.length)):=by
  simp(disch:=omega) only[cB,gL,rn,reduceIte,PH,eB]
 have gn:BL (.list (lots L.length f L.length)) (.list (lots L.length f L.length))=some (.bool false):=by rw[LG (rc _ f) (rc _ f),mK 60 _ (rc _ f)];rfl
 obtain⟨ys,eb⟩:=D3 (n:=L.length) (f:=f) (!1) hf
 obtain⟨s0,hs0⟩:∃s0,s0=PyData.list (ns.map PyData.int):=⟨_,rfl⟩
 have hn0:cy (.base) s0= .base:=by rw[hs0];rfl
 rw[←hs0] at ec⊢
 have nT:bo (.tuple [.int (h:Int),.list ws,.int (k:Int)])=false:=by rw[cf];simp only[aq,md,YQ,Bool.and_false]
 have PJ:aR bt [(eV 0)] (da 10 [s0])=ah (.any,.tuple [.int (h:Int),.list ws,.int (k:Int)]):=by
  simp(disch:=omega) only[rn,reduceIte,hn0,ec,v9 nT]
 have s1:(Ak (jx [1,2,3]) (aR bt [(eV 0)])) (da 10 [s0])=ah (.nx [fA s0,fN h,fL ws,tN k,none,none,none,none,none,none]):=by
  unfold Ak;rw[PJ];rfl
 have s2:(aL 4 (aR bV [(eV 1),(aR gA [(eV 2),(eV 3)])])) [fA s0,fN h,fL ws,tN k,none,none,none,none,none,none]=ah (.nx [fA s0,fN h,fL ws,tN k,tL (lots L.length f L.length),none,none,none,none,none]):=by
  simp(disch:=omega) only[rn,reduceIte,er,eg]
 have s3:(aL 5 (j2 nN [(eV 2)])) [fA s0,fN h,fL ws,tN k,tL (lots L.length f L.length),none,none,none,none,none]=ah (.nx [fA s0,fN h,fL ws,tN k,tL (lots L.length f L.length),tL ws,none,none,none,none]):=by
  simp(disch:=omega) only[rn,reduceIte,qc gw.n]
 have lz:((lots L.length f L.length).set 0 (.list [])).length < sizeLine:=by
  rw[XW]
  exact Xz (qZ _ _ _) (Xz hl (by decide))
 have turn:∀(i:Nat) (c7 c8 c9:Sl),∃eT:Sl,kP [fA s0,fN h,fL ws,tN k,tL (lots L.length f L.length),tL ws,tN i,c7,c8,c9]=ah (.nx [fA s0,fN h,fL ws,tN k,tL (lots L.length f L.length),tL ws,tN i,eT,none,none]):=λi c7 c8 c9=>by
  have t1:(aL 7 lP) [fA s0,fN h,fL ws,tN k,tL (lots L.length f L.length),tL ws,tN i,c7,c8,c9]=ah (.nx [fA s0,fN h,fL ws,tN k,tL (lots L.length f L.length),tL ws,tN i,tL (lots L.length f L.length),c8,c9]):=by
   simp(disch:=omega) only[lP,rn,reduceIte,eP]
  have t2:lT [fA s0,fN h,fL ws,tN k,tL (lots L.length f L.length),tL ws,tN i,tL (lots L.length f L.length),c8,c9]=ah false:=by
   simp(disch:=omega) only[lT,rn,i7,mY,bK,reduceCtorEq,reduceIte,String.reduceBEq,gn]
  have t4:(ng 7 (eC (.int 0))) [fA s0,fN h,fL ws,tN k,tL (lots L.length f L.length),tL ws,tN i,tL (lots L.length f L.length),none,none]=ah (.nx [fA s0,fN h,fL ws,tN k,tL (lots L.length f L.length),tL ws,tN i,tL ((lots L.length f L.length).set 0 (.list [])),none,none]):=by
   simp(disch:=omega) only[rn,reduceIte,ng,eb]
  rw[Gh,aH t1,aH ((DJ t2).trans (F2 _)),aH (D4 ..),aH t4]
  refine⟨tL ((lots L.length f L.length).set 0 (.list [])++[.list []]),?_⟩
  exact JI _ _ _ _ _ _ _ _ _ _ lz
 obtain⟨x1,y1⟩:=turn 0 none none none
 obtain⟨x2,y2⟩:=turn 1 x1 none none
 have s4:(bG (c_ (eC (.int 2))) (cN 6) kP) [fA s0,fN h,fL ws,tN k,tL (lots L.length f L.length),tL ws,none,none,none,none]=ah (.nx [fA s0,fN h,fL ws,tN k,tL (lots L.length f L.length),tL ws,tN 1,x2,none,none]):=by
  rw[NQ]
  rw[bf,show cN 6 (cy .base (.int ((0:Nat):Int))) (.int ((0:Nat):Int)) [fA s0,fN h,fL ws,tN k,tL (lots L.length f L.length),tL ws,none,none,none,none]=some [fA s0,fN h,fL ws,tN k,tL (lots L.length f L.length),tL ws,tN 0,none,none,none] from rfl,bB,ay,y1,ay]
  show bf (cN 6) kP [.int ((1:Nat):Int)] _=_
  rw[bf,show cN 6 (cy .base (.int ((1:Nat):Int))) (.int ((1:Nat):Int)) [fA s0,fN h,fL ws,tN k,tL (lots L.length f L.length),tL ws,tN 0,x1,none,none]=some [fA s0,fN h,fL ws,tN k,tL (lots L.length f L.length),tL ws,tN 1,x1,none,none] from rfl,bB,ay,y2,ay]
  rfl
 have ly:lay 60 (.list ws)=true:=by rw[lay];exact gw.l 56
 have ge:xN (.list ws) (.list ws)=some (.bool true):=by rw[LF ly ly,mK 60 _ ly]
 refine⟨true,?_⟩
 show qx _=ah (true,.bool true)
 refine gg ?_
 rw[JH,aH s1,aH s2,aH s3,aH s4]
 simp(disch:=omega) only[rn,reduceIte,ge]
end K51
namespace PySem.W.Fast
theorem tw1409396141609772366:1=1:=rfl
theorem tw11980767766738735704:1=1:=rfl
theorem tw3855962470953122111:1=1:=rfl
theorem tw3667018019957578476:1=1:=rfl
theorem tw16232755370045299507:1=1:=rfl
theorem tw16414586344056676291:1=1:=rfl
theorem tw11869063756142975444:1=1:=rfl
theorem tw6713446168493389218:1=1:=rfl
theorem tw3278733088511464563:1=1:=rfl
theorem tw1116609352760795666:1=1:=rfl
theorem tw17367690310985079173:1=1:=rfl
theorem tw9578482920263630856:1=1:=rfl
theorem tw4739052416399227486:1=1:=rfl
theorem tw4697514739062630212:1=1:=rfl
theorem tw3423210193406144259:1=1:=rfl
theorem tw5274581116767369993:1=1:=rfl
theorem tw2562682175837854698:1=1:=rfl
theorem tw14719410326372758477:1=1:=rfl
theorem tw13906025387941522307:1=1:=rfl
theorem tw9716573026905282644:1=1:=rfl
theorem tw11234804535510214725:1=1:=rfl
theorem tw687794278261026383:1=1:=rfl
theorem tw16668744251000130232:1=1:=rfl
theorem tw16869674936341659803:1=1:=rfl
theorem tw6658851134638983923:1=1:=rfl
theorem tw3178826132128995376:1=1:=rfl
theorem tw16477017413766364479:1=1:=rfl
theorem tw4091474778806392963:1=1:=rfl
theorem tw3480823503157282295:1=1:=rfl
theorem tw8337527796162819813:1=1:=rfl
theorem tw17572543123371614737:1=1:=rfl
theorem tw11182699456652512969:1=1:=rfl
theorem tw13036166262796811458:1=1:=rfl
theorem tw13605092541296731860:1=1:=rfl
theorem tw706847598824518199:1=1:=rfl
theorem tw15541592826492683760:1=1:=rfl
theorem tw1818055891914413013:1=1:=rfl
theorem tw18164707554326938257:1=1:=rfl
theorem tw11058711388158474207:1=1:=rfl
theorem tw16343261552241516322:1=1:=rfl
theorem tw19511342500844739:1=1:=rfl
theorem tw14218825283817691832:1=1:=rfl
theorem tw18412960679467057068:1=1:=rfl
theorem tw18211738843388434034:1=1:=rfl
theorem tw12298144447098412373:1=1:=rfl
theorem tw17502406848018208308:1=1:=rfl
theorem tw6264735431949420086:1=1:=rfl
theorem tw6455955384466182371:1=1:=rfl
theorem tw17778160266177566329:1=1:=rfl
theorem tw1749217421111527014:1=1:=rfl
theorem tw11129562754680866673:1=1:=rfl
theorem tw14238172349857947509:1=1:=rfl
theorem tw14972499887448310686:1=1:=rfl
theorem tw17038885394907744894:1=1:=rfl
theorem tw14513527548359703582:1=1:=rfl
theorem tw4073951446756739868:1=1:=rfl
theorem tw15782349959270642552:1=1:=rfl
theorem tw17330462581135925018:1=1:=rfl
theorem tw10808255991812454430:1=1:=rfl
theorem tw3758559321408009204:1=1:=rfl
theorem tw13519056355232404522:1=1:=rfl
theorem tw4803652166809398609:1=1:=rfl
theorem tw1564241799629067562:1=1:=rfl
theorem tw3860434578344865233:1=1:=rfl
theorem tw16603884537223996735:1=1:=rfl
theorem tw826525572247480265:1=1:=rfl
theorem tw12688025412851187593:1=1:=rfl
theorem tw16352337267811709701:1=1:=rfl
theorem tw9202916537974434032:1=1:=rfl
theorem tw790985983764228843:1=1:=rfl
theorem tw2059845698362811375:1=1:=rfl
theorem tw4165080447971636290:1=1:=rfl
theorem tw10128322899586967261:1=1:=rfl
theorem tw121038515194031840:1=1:=rfl
theorem tw574755741841777997:1=1:=rfl
theorem tw4613403492414813340:1=1:=rfl
theorem tw16108391728537694430:1=1:=rfl
theorem tw13755239544518167973:1=1:=rfl
theorem tw8083237554994782692:1=1:=rfl
theorem tw1609797881383529343:1=1:=rfl
theorem tw11408795405288656762:1=1:=rfl
theorem tw896667146195009915:1=1:=rfl
theorem tw11250660834204013602:1=1:=rfl
theorem tw2742288518628786916:1=1:=rfl
theorem tw9622341574143982405:1=1:=rfl
theorem tw1885059708098941679:1=1:=rfl
theorem tw18343577809667411497:1=1:=rfl
theorem tw2743748581727419100:1=1:=rfl
theorem tw6480523281647436107:1=1:=rfl
theorem tw12374105969629937232:1=1:=rfl
theorem tw18419173677942362687:1=1:=rfl
theorem tw9279311807169845455:1=1:=rfl
theorem tw11635688211382469411:1=1:=rfl
theorem tw17733287321428588802:1=1:=rfl
theorem tw8406819177545669992:1=1:=rfl
theorem tw10731636078166803859:1=1:=rfl
theorem tw2905031271491613634:1=1:=rfl
theorem tw10905117874988014165:1=1:=rfl
theorem tw13946360315685633686:1=1:=rfl
theorem tw13897186817042922578:1=1:=rfl
theorem tw1323955453015867877:1=1:=rfl
theorem tw9006358231521302769:1=1:=rfl
theorem tw16703815312485305365:1=1:=rfl
theorem tw9360867452376139440:1=1:=rfl
theorem tw7504393178895217099:1=1:=rfl
theorem tw12271252959184589798:1=1:=rfl
theorem tw8592852612422149953:1=1:=rfl
theorem tw13169771552247330076:1=1:=rfl
theorem tw1292278067923075111:1=1:=rfl
theorem tw1925158232071811592:1=1:=rfl
theorem tw13111226139457748539:1=1:=rfl
theorem tw14836385094428639387:1=1:=rfl
theorem tw10220672755915192794:1=1:=rfl
theorem tw10573385054827076022:1=1:=rfl
theorem tw1874836836824852879:1=1:=rfl
theorem tw6846711714185872635:1=1:=rfl
theorem tw11679635606105686833:1=1:=rfl
theorem tw7885171924312899113:1=1:=rfl
theorem tw14500114121470044348:1=1:=rfl
theorem tw13769136497720083393:1=1:=rfl
theorem tw9790773643317635861:1=1:=rfl
theorem tw9528202050679154786:1=1:=rfl
theorem tw933372560407209963:1=1:=rfl
theorem tw7576994744469935921:1=1:=rfl
theorem tw7474558651257097680:1=1:=rfl
theorem tw6531034439112610300:1=1:=rfl
theorem tw6162926728932831960:1=1:=rfl
theorem tw5804102611639498251:1=1:=rfl
theorem tw5359850502590734024:1=1:=rfl
theorem tw4854553066572359486:1=1:=rfl
theorem tw3276210426704999966:1=1:=rfl
theorem tw2074931447092119873:1=1:=rfl
theorem tw16321651238918090349:1=1:=rfl
theorem tw16262386892620974639:1=1:=rfl
theorem tw15377950718692208366:1=1:=rfl
theorem tw14806457946602049908:1=1:=rfl
theorem tw14231469318177875151:1=1:=rfl
theorem tw13843154278235334385:1=1:=rfl
theorem tw13519004147636466401:1=1:=rfl
theorem tw11763108583823660851:1=1:=rfl
theorem tw11735139862075403413:1=1:=rfl
theorem tw11549985741329528492:1=1:=rfl
theorem tw11045929568986826496:1=1:=rfl
theorem tw10438460115032124956:1=1:=rfl
theorem tw10303612346583145106:1=1:=rfl
theorem tw4826373650303541050:1=1:=rfl
theorem tw5107224334310107640:1=1:=rfl
theorem tw6887523188661937341:1=1:=rfl
theorem tw11380980919254907150:1=1:=rfl
theorem tw5885845615017567108:1=1:=rfl
theorem tw4307778129414507032:1=1:=rfl
theorem tw132876813836886420:1=1:=rfl
theorem tw6329884377511336782:1=1:=rfl
theorem tw17246703020087262567:1=1:=rfl
theorem tw1125387618368872086:1=1:=rfl
theorem tw5350460070383359182:1=1:=rfl
theorem tw15976961410383008012:1=1:=rfl
theorem tw13416934565927204353:1=1:=rfl
theorem tw2850114404193997146:1=1:=rfl
theorem tw9603683966233085294:1=1:=rfl
theorem tw6053583753395116512:1=1:=rfl
theorem tw5602873350072225885:1=1:=rfl
theorem tw5046487623196780566:1=1:=rfl
theorem tw5874446352241368666:1=1:=rfl
theorem tw5791744232871991514:1=1:=rfl
theorem tw4275440853129608778:1=1:=rfl
theorem tw4007298762617972507:1=1:=rfl
theorem tw2107160037666784297:1=1:=rfl
theorem tw6232930725925762732:1=1:=rfl
theorem tw2429021587307913315:1=1:=rfl
theorem tw16161880342310911313:1=1:=rfl
theorem tw3598104153390812035:1=1:=rfl
theorem tw14467818624107400709:1=1:=rfl
theorem tw11868016994946612882:1=1:=rfl
theorem tw2109685606233735696:1=1:=rfl
theorem tw17034367120896216515:1=1:=rfl
theorem tw4182964422085432534:1=1:=rfl
theorem tw9710408187417221222:1=1:=rfl
theorem tw9708725137097912335:1=1:=rfl
theorem tw9561643123238094124:1=1:=rfl
theorem tw9199536042904066287:1=1:=rfl
theorem tw8999829628400431034:1=1:=rfl
theorem tw8874152144399647421:1=1:=rfl
theorem tw878650984255090320:1=1:=rfl
theorem tw8679979283371549849:1=1:=rfl
theorem tw7518979781808378893:1=1:=rfl
theorem tw7378198452700452245:1=1:=rfl
theorem tw7182116627584125999:1=1:=rfl
theorem tw7174263500885494547:1=1:=rfl
theorem tw6708125743752673456:1=1:=rfl
theorem tw6374600683532663828:1=1:=rfl
theorem tw5687868100937486962:1=1:=rfl
theorem tw5193662671893357397:1=1:=rfl
theorem tw5182629628768917880:1=1:=rfl
theorem tw4648068359180260466:1=1:=rfl
theorem tw4218411531156405563:1=1:=rfl
theorem tw2957700683603107026:1=1:=rfl
theorem tw2646203211019417271:1=1:=rfl
theorem tw1977006259118928846:1=1:=rfl
theorem tw17751178559598178635:1=1:=rfl
theorem tw17592857221974770520:1=1:=rfl
theorem tw16107345248418737371:1=1:=rfl
theorem tw15831383538773328960:1=1:=rfl
theorem tw15406507100489582157:1=1:=rfl
theorem tw14223695621791548777:1=1:=rfl
theorem tw14161067717519717118:1=1:=rfl
theorem tw13444701686177473745:1=1:=rfl
theorem tw1337008627750584291:1=1:=rfl
theorem tw13297320981412823157:1=1:=rfl
theorem tw1309255537947019417:1=1:=rfl
theorem tw12531670979835629317:1=1:=rfl
theorem tw12308134623344521003:1=1:=rfl
theorem tw11891289122503567144:1=1:=rfl
theorem tw11577338229587210390:1=1:=rfl
theorem tw11278707964271113598:1=1:=rfl
theorem tw10978046776683653589:1=1:=rfl
theorem tw10733973426732433259:1=1:=rfl
theorem tw10563422519582246456:1=1:=rfl
end PySem.W.Fast
open PySem PySem.W PyProof.Rows
set_option maxRecDepth 100000 in
set_option maxHeartbeats 0 in
theorem PySem.Challenge.cw_losspact_k51_parts_of_weathers_holds : PySem.Challenge.rw_losspact_k51_parts_of_weathers.Holds := by
  w_on; o_law; k_head; (case hw => w_witness2)
  k_fill
  refine K51.walk K51.main (l:=PySem.Challenge.rw_losspact_k51_parts_of_weathers) rfl rfl (fun w h Y => PySem.W.kIn_of Y) ?F
  case F =>
    intro w mg fa h KX G hmg
    refine' K51.all_mk KX G hmg (.mk ..) (.mk ..) (.mk ..) (.mk ..) (.mk ..) (.mk ..) (.mk ..) (.mk ..) (.mk ..) (.mk ..) (.mk ..) (.mk ..) (.mk ..) (.mk ..) (.mk ..) (.mk ..) (.mk ..) (.mk ..) (.mk ..) (.mk ..) (.mk ..) (.mk ..) (.mk ..) (.mk ..) (.mk ..) (.mk ..) (.mk ..) (.mk ..) (.mk ..) (.mk ..) (.mk ..) (.mk ..) ..
    any_goals k_is

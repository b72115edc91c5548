import PyProof.Rows.All
import Wide.All
import OpenK.AllK
import Wide.FinOn
import Lean
import PyProof.EqAt
import PyProof.EqKinds
import PyProof.TupleCall
import PySem.Sem
import PyProof.P3Statements
import PyProof.SliceList
import PyProof.Dict
import PyProof.TupleKey
import PyProof.P3In
import PyProof.NeData
import KE.KRevIter
import PyProof.CollectIter
import PyProof.TupleOfGen
import PyProof.DictRoadsH
import PyProof.P3Eq
import PyProof.FactsAll.NoneType_1
import PyProof.FString2
import KE.KDictOf
import PyProof.DictDisplay
import PyProof.ListRange
import PyProof.MinMaxWalk
import PyProof.WalkInts
import PyProof.DictItems
import PyProof.Draws
import PyProof.EnumMake
import PyProof.Rows.TupIter
import KE.KPairComp
import PyProof.Rows.SetFrom
import PyProof.Rows.SortWalk
import KE.KSortedM
import PyProof.IsRules
import PyProof.ListMulRoad
import PyProof.AutoSeq1
import PyProof.FactsAll.tuple_2
import KE.KTryMore
import OpenK.KOwn
import PyProof.NsDelKeeps
import PyProof.ExcAttrAll.ValueError
import PyProof.Rows.SortRuns
import PyProof.Rows.SortShell
import KE.KDictSum
import PySem.Challenge.RW_losspact_k52_callers
set_option hygiene false
local macro_rules|`(!0)=>`(⟨rfl,rfl,rfl,by decide+kernel,rfl,by decide+kernel,by decide+kernel⟩)
local macro_rules|`(!1)=>`((by omega))
local macro_rules|`(!2)=>`((List.range h))
local macro_rules|`(!3)=>`((model prog w))
local macro_rules|`(!4)=>`((Or.inl rfl))
local macro_rules|`(!5)=>`((by decide+kernel))
local macro_rules|`(!6)=>`((.ref s.heap.objs.size))
local macro_rules|`(!7)=>`((model X.prog X.w))
local macro_rules|`(!8)=>`((by decide))
local macro_rules|`(!9)=>`((PyData×V×V))
def K9:=@List.mem_cons_of_mem
def K8:=@PySem.Heap.get?_push_of_some
def K7:=@List.mem_cons_self
def K6:=@List.length_map
def K5:=@List.mem_singleton
def K4:=@Bool.false_ne_true
def K3:=@List.getElem?_eq_getElem
def K2:=@List.length_append
def K1:=@Nat.le_refl
def K0:=@List.mem_cons
def Kk:=@List.mem_append
def Kx:=@List.mem_append_right
def Ku:=@Int.toNat_natCast
def Ky:=@PySem.Heap.get?_push_size
def Kj:=@List.length_cons
def Kz:=@Nat.le_trans
def Kw:=@List.size_toArray
def Kv:=@List.mem_map
def Kq:=@PySem.Heap.lt_size
def KU:=@List.getElem?_map
def KY:=@Array.length_toList
def KJ:=@List.nodup_cons
def KZ:=@List.map_map
def KW:=@List.length_range
def KQ:=@List.map_cons
def X9:=@List.mem_append_left
def X8:=@List.getD_eq_getElem?_getD
def X7:=@Bool.and_eq_true
def X6:=@Nat.lt_of_lt_of_le
def X5:=@List.append_assoc
def X4:=@List.length_singleton
def X3:=@Nat.ne_of_lt
def X2:=@List.nodup_nil
def X1:=@List.getElem?_eq_some_iff
def X0:=@List.map_append
def Xk:=@List.length_filter_le
def Xx:=@List.length_take
def Xu:=@List.getElem?_append_left
def Xy:=@List.mem_range
def Xj:=@List.getElem?_append_right
def Xz:=@List.append_nil
def Xw:=@Nat.zero_le
def Xv:=@Nat.lt_of_le_of_lt
def Xq:=@List.getElem?_set_ne
def XX:=@List.nodup_append
def XU:=@List.getElem?_eq_none
def XY:=@PySem.Heap.get?_update_self
def XJ:=@PySem.Heap.size_push
def XZ:=@Bool.false_eq_true
def XW:=@Bool.and_self
def XQ:=@List.mem_filter
def U9:=@List.length_set
def U8:=@List.length_drop
def U7:=@List.take_of_length_le
def U6:=@List.getElem?_set_self
def U5:=@List.cons_append
def U4:=@List.drop_eq_getElem_cons
def U3:=@List.find?_cons
def U2:=@Nat.lt_irrefl
def U1:=@List.mem_of_mem_take
def U0:=@List.mem_of_mem_drop
def Uk:=@Option.map_some
def Ux:=@List.replicate_succ
def Uu:=@List.take_append_drop
def Uy:=@List.length_replicate
def Uj:=@Array.getElem?_toList
def Uz:=@Nat.lt_succ_self
def Uw:=@List.mem_reverse
def Uv:=@List.all_eq_true
def Uq:=@Nat.ne_of_gt
def UK:=@List.map_congr_left
def UX:=@List.length_reverse
def UU:=@List.getElem_mem
def UY:=@List.mem_of_getElem?
def UJ:=@Nat.lt_succ_of_lt
def UZ:=@List.getElem?_range
def UW:=@Array.toList_append
def UQ:=@List.length_nil
def Y9:=@List.foldl_cons
def Y8:=@Nat.le_succ
def Y7:=@List.pairwise_append
def Y6:=@List.flatten_cons
def Y5:=@List.mem_flatMap
def Y4:=@List.filter_cons
def Y3:=@List.drop_zero
def Y2:=@Nat.succ_mul
def Y1:=@Nat.le_of_lt
def Y0:=@Int.emod_lt_of_pos
def Yk:=@List.range_succ
def Yx:=@List.map_nil
def Yu:=@List.lookup_cons
def Yy:=@Int.le_of_lt
def Yj:=@List.pairwise_iff_getElem
def Yz:=@Array.getElem?_eq_getElem
def Yw:=@List.mem_map_of_mem
def Yv:=@List.nil_append
def Yq:=@Int.emod_nonneg
def YK:=@Bool.eq_iff_iff
def YX:=@List.length_eq_zero_iff
def YU:=@List.getElem_take
def YY:=@List.drop_sublist
def YJ:=@Int.le_trans
def YZ:=@Array.toList_push
def YW:=@List.any_cons
def YV:=@List.take_zero
def YQ:=@List.drop_drop
def J9:=@Bool.false_and
def J8:=@List.take_sublist
def J7:=@List.take_add_one
def J6:=@List.reverse_cons
def J5:=@List.getElem_drop
def J4:=@Bool.true_and
def J3:=@List.take_length
def J2:=@List.getElem_map
def J1:=@List.getElem?_replicate
def J0:=@List.getElem?_cons_succ
def Jk:=@List.flatMap_nil
def Jx:=@List.ext_getElem
def Ju:=@Nat.mul_comm
def Jy:=@List.drop_eq_nil_of_le
def Jj:=@PySem.Heap.get?_update_other
def Jz:=@Nat.le_antisymm
def Jw:=@List.forIn_cons
def Jv:=@List.filter_nil
def Jq:=@List.perm_append_comm
set_option linter.all false
section
open PySem PySem.Spec PyProof PyProof.Rows
def JK:=@wpS_bind
def JX:=@wpS_pure
def JU:=@wpS_get
def JY:=@beq_iff_eq
def JJ:=@decide_eq_true_eq
def JZ:=@wpAny_bind
def JW:=@wpAny_pure
def JV:=@if_neg
def JQ:=@if_pos
def Z9:=@decide_eq_true
def Z8:=@decide_eq_false
def Z7:=@wpAny_holding
def Z6:=@wpAny_call_entry
def Z5:=@wpAny_newObj_type
def Z4:=@wpAny_specialOf
abbrev Z3:=Value->Shared->Prop
abbrev Z2:=PyData
end
set_option maxHeartbeats 0
open PySem.W (nsIn codeIn keepIn fnOf mg_of Frag OpenLaw)
set_option Elab.async false
set_option linter.all false
set_option maxRecDepth 100000
noncomputable section
namespace L2
open PySem PySem.Spec PyProof.Rows
abbrev Key:=Sum Int Str
noncomputable def Hd:Key->Value->Bool
 | .inl k,v=>Value.isInt k v
 | .inr x,v=>Value.isStrOf x v
noncomputable def Nl (w:World):Key->Int
 | .inl k=>hashInt k
 | .inr x=>hashStr w x
theorem b_:∀{k:Key} {v:Value},Hd k v=true->(∃i t,k=Sum.inl i/\v=Value.int i t)∨(∃x t,k=Sum.inr x/\v=Value.str x t)
 | .inl i,v,h=>by
  obtain⟨t,e⟩:=Value.isInt_shape (k:=i) (v:=v) h
  exact .inl ⟨i,t,rfl,e⟩
 | .inr x,v,h=>by
  obtain⟨t,e⟩:=Value.isStrOf_shape (x:=x) (v:=v) h
  exact .inr ⟨x,t,rfl,e⟩
theorem HR (a b:Int):decide ((Sum.inl a:Key)=Sum.inl b)=(a==b):=by
 by_cases e:a=b
 ·subst e;simp
 ·have h:¬ (Sum.inl a:Key)=Sum.inl b:=λq=>e (Sum.inl.inj q)
  rw[Z8 h]
  exact(beq_eq_false_iff_ne.mpr e).symm
theorem HS (a b:Str):decide ((Sum.inr a:Key)=Sum.inr b)=decide (a=b):=by
 by_cases e:a=b
 ·subst e;simp
 ·have h:¬ (Sum.inr a:Key)=Sum.inr b:=λq=>e (Sum.inr.inj q)
  rw[Z8 h,Z8 e]
theorem HU (a:Int)(b:Str):decide ((Sum.inl a:Key)=Sum.inr b)=false:=Z8 (λq=>nomatch q)
theorem HV (a:Str)(b:Int):decide ((Sum.inr a:Key)=Sum.inl b)=false:=Z8 (λq=>nomatch q)
noncomputable def zK (prog:Program)(w:World):PySem.KeyKind prog w Key where
 is:=Hd
 hash:=Nl w
 inj:=λv a b ha hb=>by
  rcases b_ ha with⟨i,t,rfl,rfl⟩ | ⟨x,t,rfl,rfl⟩
  ·rcases b_ hb with⟨j,u,rfl,e⟩ | ⟨y,u,rfl,e⟩
   ·injection e with e1 _;rw[e1]
   ·exact nomatch e
  ·rcases b_ hb with⟨j,u,rfl,e⟩ | ⟨y,u,rfl,e⟩
   ·exact nomatch e
   ·injection e with e1 _;rw[e1]
 byValue:=λk v h=>by
  rcases b_ h with⟨i,t,rfl,rfl⟩ | ⟨x,t,rfl,rfl⟩ <;> rfl
 pyHash:=λhv h=>by
  rcases b_ hv with⟨i,t,rfl,rfl⟩ | ⟨x,t,rfl,rfl⟩
  ·exact wpAny_pyHash_int h
  ·exact wpAny_pyHash_str h
 eqBool:=λhu hv h=>by
  rcases b_ hu with⟨i,t,rfl,rfl⟩ | ⟨x,t,rfl,rfl⟩
  ·rcases b_ hv with⟨j,u,rfl,rfl⟩ | ⟨y,u,rfl,rfl⟩
   ·rw[HR] at h;exact wpAny_eqBool_int h
   ·rw[HU] at h;exact SeqAt.EqAt.int_str i t y u _ _ _ _ h
  ·rcases b_ hv with⟨j,u,rfl,rfl⟩ | ⟨y,u,rfl,rfl⟩
   ·rw[HV] at h;exact SeqAt.EqAt.str_int x t j u _ _ _ _ h
   ·rw[HS] at h;exact wpAny_eqBool_str h
 «strs»:=λk x t v h=>by
  rcases b_ h with⟨i,u,rfl,e⟩ | ⟨y,u,rfl,e⟩
  ·exact nomatch e
  ·injection e with e1 _
   subst e1
   cases v <;> rfl
inductive V where
 | non | bl (b:Bool) | int (i:Int) | str (x:Str) | Nm (b:Array UInt8) | flt (b:UInt64) | ref (a:Addr) | ty (n:String)
 deriving DecidableEq
def RelV:V->Value->Prop
 | .non,u=>u=Value.none
 | .bl b,u=>u=Value.bool b
 | .int i,u=>∃t,u=Value.int i t
 | .str x,u=>∃t,u=Value.str x t
 | .Nm b,u=>∃t,u=Value.bytes b t
 | .flt b,u=>∃t,u=Value.float b t
 | .ref a,u=>u=Value.ref a
 | .ty n,u=>u=Value.type n
abbrev Vals:List V->List Value->Prop:=Paired RelV
theorem Vals.length (r:Vals xs us):xs.length=us.length:=Paired.length r
theorem Vals.get:∀{xs:List V} {us:List Value} {i:Nat} {x:V},Vals xs us->xs[i]? =some x->∃u,us[i]? =some u/\RelV x u
 | _,_,_,_,.nil,e=>by simp at e
 | _,_,0,_,.cons r _,e=>by simp at e;subst e;exact⟨_,rfl,r⟩
 | _,_,i+1,x,.cons _ t,e=>by
  obtain⟨u,h1,h2⟩:=Vals.get (i:=i) (x:=x) t (by simpa using e)
  exact⟨u,by simpa using h1,h2⟩
theorem Vals.set (r:RelV x u):∀{xs:List V} {us:List Value} (i:Nat),Vals xs us->Vals (xs.set i x) (us.set i u)
 | _,_,_,.nil=> .nil
 | _,_,0,.cons _ t=> .cons r t
 | _,_,i+1,.cons q t=> .cons q (Vals.set r i t)
theorem Vals.append:∀{xs ys:List V} {us ws:List Value},Vals xs us->Vals ys ws->Vals (xs++ys) (us++ws)
 | _,_,_,_,.nil,s=>s
 | _,_,_,_,.cons r t,s=> .cons r (Vals.append t s)
theorem Vals.take:∀{xs:List V} {us:List Value} (n:Nat),Vals xs us->Vals (xs.take n) (us.take n)
 | _,_,0,_=> .nil
 | _,_,_+1,.nil=> .nil
 | _,_,n+1,.cons r t=> .cons r (Vals.take n t)
theorem Vals.drop:∀{xs:List V} {us:List Value} (n:Nat),Vals xs us->Vals (xs.drop n) (us.drop n)
 | _,_,0,r=>r
 | _,_,_+1,.nil=> .nil
 | _,_,n+1,.cons _ t=>Vals.drop n t
def Ls:Option V->Option Value->Prop
 | some v,some u=>RelV v u
 | none,none=>True
 | _,_=>False
def KV {κ:Type}:List (κ×V)->List (κ×Value)->Prop:=Paired λ(p:κ×V) (q:κ×Value)=>p.1=q.1/\RelV p.2 q.2
def kV:Key->V
 | .inl i=> .int i
 | .inr x=> .str x
inductive HO where
  | lst (xs:List V)
  | tup (xs:List V)
  | dK (kvs:List (Key×V)) | dT (kvs:List (List Key×V))
  | set (S:Int->Bool) (n:Nat)
  | ins (C dx:Addr) (fs:List (Str×V))
  | own (x:Addr)
  | xd (fs:List (Str×V))
  | met (f x:Addr)
  | rng (lo hi:Int)
  | Ci (o:Obj) (u:HO)
  | E3 (ps:Array Value)
  | ext (φ:Heap->Prop)
abbrev Hp:=Addr->Option HO
noncomputable def upd (H:Hp)(a:Addr)(o:HO):Hp:=λb=>if b=a then some o else H b
theorem az :upd H a o a=some o:=by unfold upd;rw[JQ rfl]
theorem aR (h:b≠a):upd H a o b=H b:=by unfold upd;rw[JV h]
theorem He {H:Hp}{a b:Addr}{o u:HO}(h:H a=some o)(h':H b=some u)(d:o≠u):a≠b:=by
 intro e;subst e;rw[h] at h';exact d (Option.some.inj h')
theorem dw {H:Hp}{a b:Addr}{o:HO}(h:H a=some o)(h':H b=none):a≠b:=by
 intro e;subst e;rw[h] at h';cases h'
section
variable (P:Program)(w:World)
def d_ (H:Hp)(h:Heap)(a:Addr):HO->Prop
 | .lst xs=>xs.length<=sizeLine/\∃(its:List Value) (n:Nat),Vals xs its/\h.get? a=some {cls:=.type "list",data:=.seq its.toArray n}
 | .tup xs=>xs.length<=sizeLine/\∃its:List Value,Vals xs its/\IsTup h a its.toArray
 | .dK kvs=>kvs.length<=sizeLine/\(a==sysModules)=false/\∃vs,KV kvs vs/\h.DictOf (zK P w) a vs
 | .dT kvs=>kvs.length<=sizeLine/\(a==sysModules)=false/\∃xs:List (List Key×Addr×Value),
   Paired (λ(p:List Key×V) (q:List Key×Addr×Value)=>p.1=q.1/\H q.2.1=some (.tup (p.1.map kV))/\RelV p.2 q.2.2) kvs xs/\
   ∃o es ep,h.get? a=some o/\o.ExactDict/\o.data= .dict es ep/\es.toList=xs.map (entryOfKey (tupleKind (zK P w)))/\(xs.map (·.1)).Nodup
 | .set S n=>h.SetOf (intKind P w) a S n
 | .ins C dx fs=>H dx=some (.own a)/\fs.length<=1000/\dx≠a/\h.get? a=some (PySem.W.instObj C dx)/\
   ∃mA,h.Ns1 dx mA/\(∀f,Ls (fs.lookup f) (mA f))/\PySem.Within mA (fs.map (·.1))
 | .own _=>∃o,h.get? a=some o
 | .xd fs=>∃mA,h.Ns1 a mA/\∀f,Ls (fs.lookup f) (mA f)
 | .rng lo hi=>∃t u v,h.get? a=some {cls:=.type "range",data:=.fields #[.int lo t,.int hi u,.int 1 v]}
 | .Ci o u=>h.get? a=some o/\d_ H h a u
 | .E3 ps=>h.get? a=some {cls:=.none,data:=.fields ps}
 | .met f x=>h.get? a=some (PySem.W.methodObj (.ref f) (.ref x))
 | .ext φ=>φ h/\(∃o,h.get? a=some o)/\∀h1 h2:Heap,φ h1->(∀o,h1.get? a=some o->h2.get? a=some o)->φ h2
def pS (H:Hp)(h:Heap):Prop:=∀a o,H a=some o->d_ P w H h a o
end
section
variable {h h':Heap}
theorem d_.lt (x:d_ P w H h a o):a < h.objs.size:=by
 cases o with
 | lst xs=>obtain⟨_,_,_,_,e⟩:=x;exact Kq e
 | tup xs=>obtain⟨_,_,_,p⟩:=x;exact p.lt
 | dK kvs=>obtain⟨_,_,_,_,o,_,_,e,_⟩:=x;exact Kq e
 | dT kvs=>obtain⟨_,_,_,_,o,_,_,e,_⟩:=x;exact Kq e
 | set S n=>obtain⟨o,_,_,_,e,_⟩:=x;exact Kq e
 | ins C dx fs=>obtain⟨_,_,_,e,_⟩:=x;exact Kq e
 | own y=>obtain⟨_,e⟩:=x;exact Kq e
 | xd fs=>obtain⟨_,⟨_,_,_,e,_⟩,_⟩:=x;exact Kq e
 | rng lo hi=>obtain⟨_,_,_,e⟩:=x;exact Kq e
 | Ci ob u=>obtain⟨e,_⟩:=x;exact Kq e
 | E3 ps=>exact Kq (show h.get? a=some _ from x)
 | met f y=>exact Kq (show h.get? a=some _ from x)
 | ext φ=>obtain⟨_,⟨_,e⟩,_⟩:=x;exact Kq e
theorem Paired.Lu {α β:Type}{F G:α->β->Prop}:∀{l₁:List α} {l₂:List β},Paired F l₁ l₂->(∀a b,F a b->G a b)->Paired G l₁ l₂
 | _,_,.nil,_=> .nil
 | _,_,.cons r t,f=> .cons (f _ _ r) (Paired.Lu t f)
theorem d_.stay (x:d_ P w H h a o)(k:∀b u,(b=a∨H b=some (.own a))->h.get? b=some u->h'.get? b=some u)
  (ho:∀b,H b=some (.own a)->H' b=some (.own a)) (ht:∀b xs,H b=some (.tup xs)->H' b=some (.tup xs)):d_ P w H' h' a o:=by
 induction o with
 | lst xs=>obtain⟨z,its,n,r,e⟩:=x;exact⟨z,its,n,r,k _ _ (.inl rfl) e⟩
 | tup xs=>obtain⟨z,its,r,ob,e,c⟩:=x;exact⟨z,its,r,ob,k _ _ (.inl rfl) e,c⟩
 | dK kvs=>obtain⟨z,y,vs,r,ob,es,ep,e,c⟩:=x;exact⟨z,y,vs,r,ob,es,ep,k _ _ (.inl rfl) e,c⟩
 | dT kvs=>
  obtain⟨z,y,xs,r,ob,es,ep,e,c⟩:=x
  exact⟨z,y,xs,Paired.Lu r λp q z=>⟨z.1,ht _ _ z.2.1,z.2.2⟩,ob,es,ep,k _ _ (.inl rfl) e,c⟩
 | set S n=>obtain⟨ob,es,ep,t,e,c⟩:=x;exact⟨ob,es,ep,t,k _ _ (.inl rfl) e,c⟩
 | ins C dx fs=>
  obtain⟨d,z,ne,e,mA,⟨od,es,ep,e2,c⟩,r⟩:=x
  exact⟨ho _ d,z,ne,k _ _ (.inl rfl) e,mA,⟨od,es,ep,k _ _ (.inr d) e2,c⟩,r⟩
 | own y=>obtain⟨ob,e⟩:=x;exact⟨ob,k _ _ (.inl rfl) e⟩
 | xd fs=>obtain⟨mA,⟨od,es,ep,e,c⟩,r⟩:=x;exact⟨mA,⟨od,es,ep,k _ _ (.inl rfl) e,c⟩,r⟩
 | rng lo hi=>obtain⟨t,u,v,e⟩:=x;exact⟨t,u,v,k _ _ (.inl rfl) e⟩
 | Ci ob u ih=>obtain⟨e,q⟩:=x;exact⟨k _ _ (.inl rfl) e,ih q⟩
 | E3 ps=>
  have e:h.get? a=some {cls:=.none,data:=.fields ps}:=x
  show h'.get? a=some {cls:=.none,data:=.fields ps}
  exact k a _ (.inl rfl) e
 | met f y=>
  have e:h.get? a=some (PySem.W.methodObj (.ref f) (.ref y)):=x
  show h'.get? a=some (PySem.W.methodObj (.ref f) (.ref y))
  exact k a _ (.inl rfl) e
 | ext φ=>obtain⟨p,⟨o,e⟩,st⟩:=x;exact⟨st _ _ p λo q=>k _ _ (.inl rfl) q,⟨o,k _ _ (.inl rfl) e⟩,st⟩
theorem pS.lt (x:pS P w H h)(e:H a=some o):a < h.objs.size:=(x a o e).lt
theorem pS.fresh (x:pS P w H h)(e:h.objs.size<=a):H a=none:=by
 cases q:H a with
 | none=>rfl
 | some u=>exact absurd (X6 (x.lt q) e) (U2 _)
theorem pS.kept (x:pS P w H h)(k:∀b u,h.get? b=some u->h'.get? b=some u):pS P w H h':=λa o e=>
 (x a o e).stay (λb u _ q=>k b u q) (λ_ q=>q) λ_ _ q=>q
theorem pS.laid (x:pS P w H h)(k:∀b u,h.get? b=some u->h'.get? b=some u)(hp:h.objs.size<=a)(new:d_ P w (upd H a o) h' a o):pS P w (upd H a o) h':=λb u e=>by
 have hn:=x.fresh hp
 by_cases hb:b=a
 ·subst hb;rw[az] at e;cases e;exact new
 ·rw[aR hb] at e
  exact(x b u e).stay (λc v _ q=>k c v q) (λc q=>by rw[aR (dw q hn)];exact q) λc xs q=>by rw[aR (dw q hn)];exact q
end
def Rd (H:Hp)(a:Addr)(u:HO):Prop:=H a=some u∨∃o,H a=some (.Ci o u)
theorem Rd.of (h:H a=some u):Rd H a u:=.inl h
theorem Rd.ok (r:Rd H a u)(x:pS P w H h):d_ P w H h a u:=by
 rcases r with r | ⟨o,r⟩
 ·exact x a u r
 ·obtain⟨_,q⟩:=x a _ r
  exact q
def MV:Option HO->Prop
 | some (.lst _)=>True
 | some (.dK _)=>True
 | some (.dT _)=>True
 | some (.set _ _)=>True
 | some (.ins _ _ _)=>True
 | some (.ext _)=>True
 | _=>False
section
variable {h h':Heap}
theorem pS.write (ok:pS P w H h)(mu:MV (H x))(he:e=x∨H e=some (.own x))(k:∀b u,b≠e->h.get? b=some u->h'.get? b=some u)(heo:∃u,h'.get? e=some u)
  (new:d_ P w (upd H x o') h' x o'):pS P w (upd H x o') h':=λb u q=>by
 have Lw:∀c y,H c=some (.own y)->c≠x:=λc y r z=>by subst z;rw[r] at mu;exact mu
 have Nn:∀c xs,H c=some (.tup xs)->c≠x:=λc xs r z=>by subst z;rw[r] at mu;exact mu
 by_cases hb:b=x
 ·subst hb;rw[az] at q;cases q;exact new
 ·rw[aR hb] at q
  by_cases hbe:b=e
  ·have q':H b=some (.own x):=by
    rcases he with z | z
    ·exact absurd (hbe.trans z) hb
    ·rw[hbe];exact z
   rw[q] at q';cases q'
   obtain⟨v,hv⟩:=heo
   exact⟨v,by rw[hbe];exact hv⟩
  ·refine(ok b u q).stay (λc v hc r=>k c v ?_ r) (λc r=>by rw[aR (Lw c b r)];exact r) λc xs r=>by rw[aR (Nn c xs r)];exact r
   rcases hc with rfl | hc
   ·exact hbe
   ·rintro rfl
    rcases he with z | z
    ·exact Lw c b hc z
    ·rw[hc] at z;cases z;exact hb rfl
end
structure Un (fs ex:List Addr)(H H':Hp)(h h':Heap):Prop where
 keep:∀b o,h.get? b=some o->H b=none->b∉fs->b∉ex->h'.get? b=some o
 slot:∀b o,h.get? b=some o->H b=none->b∈fs->b∉ex->∃sl,h'.get? b=some {o with slots:=sl}
 free:∀b o,h.get? b=some o->H b=none->b∉ex->H' b=none
 there:∀b o,h.get? b=some o->b∉ex->∃o',h'.get? b=some o'
 tups:∀b xs,H b=some (.tup xs)->H' b=some (.tup xs)
 mi:∀b o u,H b=some (.Ci o u)->H' b=some (.Ci o u)
 mN:∀b ps,H b=some (.E3 ps)->∃more,H' b=some (.E3 (ps++more))
section
variable {h h1 h':Heap}{a:Addr}
theorem Un.any (u:Un fs ex H H1 h h1)(q:h.get? b=some ob)(n:H b=none)(hx:b∉ex):∃sl,h1.get? b=some {ob with slots:=sl}:=by
 by_cases hb:b∈fs
 ·exact u.slot b ob q n hb hx
 ·exact⟨ob.slots,u.keep b ob q n hb hx⟩
theorem Un.trans (a:Un fs ex H H1 h h1)(b:Un fs ex H1 H2 h1 h2):Un fs ex H H2 h h2 where
 keep:=λc ob q n hc hx=>b.keep c ob (a.keep c ob q n hc hx) (a.free c ob q n hx) hc hx
 slot:=λc ob q n hc hx=>by
  obtain⟨sl,e1⟩:=a.slot c ob q n hc hx
  obtain⟨sl',e2⟩:=b.slot c _ e1 (a.free c ob q n hx) hc hx
  exact⟨sl',e2⟩
 free:=λc ob q n hx=>by
  obtain⟨o',e1⟩:=a.there c ob q hx
  exact b.free c o' e1 (a.free c ob q n hx) hx
 there:=λc ob q hx=>by
  obtain⟨o',e1⟩:=a.there c ob q hx
  exact b.there c o' e1 hx
 tups:=λc xs q=>b.tups c xs (a.tups c xs q)
 mi:=λc ob xs q=>b.mi c ob xs (a.mi c ob xs q)
 mN:=λc ps q=>by
  obtain⟨m1,e1⟩:=a.mN c ps q
  obtain⟨m2,e2⟩:=b.mN c _ e1
  exact⟨m1++m2,by rw[e2,Array.append_assoc]⟩
theorem Un.kept (k:∀b u,h.get? b=some u->h'.get? b=some u):Un fs ex H H h h' :=
 ⟨λb ob q _ _ _=>k b ob q,λb ob q _ _ _=>⟨ob.slots,k b ob q⟩,λ_ _ _ n _=>n,λb ob q _=>⟨ob,k b ob q⟩,λ_ _ q=>q,λ_ _ _ q=>q,λ_ ps q=>⟨#[],by rw[q];simp⟩⟩
theorem Un.refl:Un fs ex H H h h:=Un.kept λ_ _ q=>q
theorem Un.laid (k:∀b u,h.get? b=some u->h'.get? b=some u)(hp:h.objs.size<=a)(hn:H a=none):Un fs ex H (upd H a o) h h' where
 keep:=λb u q _ _ _=>k b u q
 slot:=λb u q _ _ _=>⟨u.slots,k b u q⟩
 free:=λb u q n _=>by rw[aR (X3 (X6 (Kq q) hp))];exact n
 there:=λb u q _=>⟨u,k b u q⟩
 tups:=λb xs q=>by rw[aR (dw q hn)];exact q
 mi:=λb u xs q=>by rw[aR (dw q hn)];exact q
 mN:=λb ps q=>⟨#[],by rw[aR (dw q hn),q];simp⟩
theorem Un.write (mu:MV (H x))(he:e=x∨H e=some (.own x))(k:∀b u,b≠e->h.get? b=some u->h'.get? b=some u)(heo:∃u,h'.get? e=some u):Un fs ex H (upd H x o) h h':=by
 have hx:∀b,H b=none->b≠x:=λb n z=>by subst z;rw[n] at mu;exact mu
 have hb:∀b,H b=none->b≠e:=λb n z=>by
  subst z
  rcases he with r | r
  ·exact hx b n r
  ·rw[n] at r;cases r
 have hm:∀b u,H b=some u->¬ MV (some u)->b≠x:=λb u q nm z=>by subst z;rw[q] at mu;exact nm mu
 refine⟨λb u q n _ _=>k b u (hb b n) q,λb u q n _ _=>⟨u.slots,k b u (hb b n) q⟩,λb u q n _=>by rw[aR (hx b n)];exact n,λb u q _=> ?_,
  λb xs q=>by rw[aR (hm b _ q λz=>z)];exact q,λb u xs q=>by rw[aR (hm b _ q λz=>z)];exact q,λb ps q=>⟨#[],by rw[aR (hm b _ q λz=>z),q];simp⟩⟩
 by_cases hbe:b=e
 ·subst hbe;exact heo
 ·exact⟨u,k b u hbe q⟩
theorem Un.mono (u:Un fs ex H H1 h h1)(hs:∀b∈fs,b∈fs')(hx:∀b∈ex,b∈ex'):Un fs' ex' H H1 h h1 :=
 ⟨λb ob q n hb he=>u.keep b ob q n (λz=>hb (hs b z)) λz=>he (hx b z),λ_ _ q n _ he=>u.any q n λz=>he (hx _ z),λb ob q n he=>u.free b ob q n λz=>he (hx b z),λb ob q he=>u.there b ob q λz=>he (hx b z),u.tups,u.mi,u.mN⟩
end
noncomputable def MW (h:Heap)(H:Hp):List Addr:=(List.range h.objs.size).filter λa=>(H a).isSome
def uv (h:Heap)(H:Hp):Heap:=PySem.W.hideAll h (MW h H)
theorem A0 (h:Heap)(H:Hp):(uv h H).objs.size=h.objs.size:=PySem.W.hideAll_size _ _
theorem Cq (e:h.get? b=some o)(n:H b=none):(uv h H).get? b=some o :=
 PySem.W.hideAll_get _ e λhm=>by
  have q:(H b).isSome=true:=(XQ.mp hm).2
  rw[n] at q;simp at q
theorem E4 (e:(uv h H).get? b=some o):h.get? b=some o/\H b=none:=by
 have e':h.get? b=some o:=PySem.W.of_hideAll (MW h H) e
 refine⟨e',?_⟩
 cases q:H b with
 | none=>rfl
 | some x=>
  have hm:b∈MW h H:=XQ.mpr ⟨Xy.mpr (Kq e'),by simp[q]⟩
  have z:(uv h H).get? b=none:=PySem.W.hideAll_none (MW h H) hm
  rw[z] at e;cases e
noncomputable def E5 (g h:Heap)(L:Addr):List (Addr×Obj):=(List.range h.objs.size).filterMap λa=>if a=L∨(g.get? a).isSome=true then none else (h.get? a).map λo=>(a,o)
noncomputable def rest (g h:Heap)(L d:Addr):List (Addr×Obj):=(E5 g h L).filter λp=>decide (p.1≠d)
structure Mod (K:Frag)(mg:Str->Option Value)(base:Heap):Prop where
 MX:K.In base
 glob:base.Ns mainGlobals mg
 blt:∃mb,base.Ns builtinsNs mb/\∀x:Str,x≠ "__name__" ->mb x=bootBuiltins x
 nolimit:base.NoLimit
structure Cx where
 prog:Program
 w:World
 K:Frag
 mg:Str->Option Value
 base:Heap
 A:Around
 N:List Str
 s₀:Shared
 H₀:Hp
 env:Env
 outer:List Env
 stack:List Env
 ex:List Addr
 fn:Str->Bool
 calm:Bool
 pn:List (Addr×Obj)
 xe:Value->Shared->Prop
noncomputable def frs (l:List Env):List Addr:=l.filterMap (·.frame)
abbrev Cx.fs (X:Cx):List Addr:=frs X.outer
def MY (sc:Scope)(x:Str):Prop:=sc.names.lookup x=some .local∨sc.names.lookup x=some .cell∨sc.names.lookup x=some .free
def Loc (sc:Scope)(x:Str):Prop:=sc.names.lookup x=some .local∨sc.names.lookup x=some .cell
def Look (env:Env)(h:Heap)(m:Str->Option Value)(x:Str)(u:Value):Prop :=
 (env.kindOf x=some .local/\m x=some u)∨((env.kindOf x=some .cell∨env.kindOf x=some .free)/\∃c,env.cells.lookup x=some c/\h.IsCell c (some u))
structure Cx.Ok (X:Cx):Prop where
 mod:Mod X.K X.mg X.base
 kind:X.env.scope.kind= .function
 glob:X.env.globals=mainGlobals
 blt:X.env.builtins=builtinsNs
 above:X.s₀.heap.objs.size<=X.env.locals
 inj:∀x y c,X.env.cells.lookup x=some c->X.env.cells.lookup y=some c->x=y
 has:∀x,(X.env.kindOf x=some .cell∨X.env.kindOf x=some .free)->∃c,X.env.cells.lookup x=some c
 cab:∀x c,X.fn x=true->X.env.cells.lookup x=some c->X.s₀.heap.objs.size<=c
 hd:X.calm=true->X.A.handled=none
 frames:X.A.frames=some X.stack
 stk:X.stack=X.outer∨(X.stack=X.env :: X.outer/\X.env.frame=some X.env.locals)
 HW:∀b∈X.ex,b≠X.env.locals/\∀x c,X.env.cells.lookup x=some c->c≠b
 bs:∀b o,X.base.get? b=some o->X.s₀.heap.get? b=some o/\X.H₀ b=none
 yr:X.base.objs.size<=X.s₀.heap.objs.size
 uw:∀b o,X.base.get? b=some o->b∉X.ex
 v8:∀b∈X.ex,b∉X.fs
 lV:X.s₀.heap.FunFrames X.base X.outer
 Cr:∀b∈X.fs,X.H₀ b=none
structure Inv (X:Cx)(pins:List (Addr×Obj))(σ:List (Option V))(H:Hp)(s:Shared):Prop where
 ok:X.Ok
 os:s.os=X.s₀.os
 bare:AllBare s.gens
 base:Un X.fs X.ex X.H₀ H X.s₀.heap s.heap
 loc:∃m,s.heap.Ns X.env.locals m/\∀(i:Nat) (x:Str) (v:V),X.N[i]? =some x->σ[i]? =some (some v)->MY X.env.scope x->∃u,RelV v u/\Look X.env s.heap m x u
 cell:∀x c,X.env.cells.lookup x=some c->∃v,s.heap.IsCell c v
 free:H X.env.locals=none
 jx:∀x c,X.env.cells.lookup x=some c->H c=none
 pin:∀p∈X.pn++pins,s.heap.get? p.1=some p.2/\H p.1=none/\p.1≠X.env.locals/\p.1∉X.fs/\∀v,p.2.data≠ .cell v
 hok:pS X.prog X.w H s.heap
 len:σ.length=X.N.length
section
variable {X:Cx}{σ:List (Option V)}{s:Shared}{h':Heap}
theorem Cx.Ok.Np (ok:X.Ok)(e:X.base.get? b=some o):b∉X.fs:=λhb=>by
 have:=(ok.lV.mem hb).1
 rw[e] at this;cases this
theorem Inv.bs (I:Inv X pins σ H s):∀b o,X.base.get? b=some o->s.heap.get? b=some o/\H b=none:=λb o e=>
 ⟨I.base.keep b o (I.ok.bs b o e).1 (I.ok.bs b o e).2 (I.ok.Np e) (I.ok.uw b o e),I.base.free b o (I.ok.bs b o e).1 (I.ok.bs b o e).2 (I.ok.uw b o e)⟩
theorem Inv.bk (I:Inv X pins σ H s):∀b o,X.base.get? b=some o->s.heap.get? b=some o:=λb o e=>(I.bs b o e).1
theorem Inv.mod (I:Inv X pins σ H s):Mod X.K X.mg X.base:=I.ok.mod
theorem Inv.A1 (I:Inv X pins σ H s):X.K.In s.heap:=I.ok.mod.MX.keeps I.bk
theorem Inv.nolimit (I:Inv X pins σ H s):s.heap.NoLimit:=I.ok.mod.nolimit.keeps I.bk
theorem Inv.fr (I:Inv X pins σ H s):∃m,Fr X.base X.env.locals s.heap m :=
 let ⟨m,hn,_⟩:=I.loc
 ⟨m,hn,I.bk,Kz I.ok.yr I.ok.above⟩
theorem Inv.lt (I:Inv X pins σ H s):X.env.locals < s.heap.objs.size:=let ⟨_,hn,_⟩:=I.loc;hn.lt
theorem Inv.sz (I:Inv X pins σ H s):X.s₀.heap.objs.size<=s.heap.objs.size:=Kz I.ok.above (Y1 I.lt)
theorem Inv.Nq (I:Inv X pins σ H s)(h:s.heap.objs.size<=a):a∉X.fs:=λhb=>by
 obtain⟨_,o,ho,_⟩:=I.ok.lV.mem hb
 exact absurd (X6 (Kq ho) (Kz I.sz h)) (U2 _)
theorem Inv.HX (I:Inv X pins σ H s):∀x c,X.env.cells.lookup x=some c->c≠X.env.locals:=λx c e z=>by
 obtain⟨v,o,ho,hd⟩:=I.cell x c e
 obtain⟨m,⟨o',es,ep,ho',hd',_⟩,_⟩:=I.loc
 rw[z,ho'] at ho;cases ho;rw[hd'] at hd;cases hd
theorem Inv.lV (I:Inv X pins σ H s):s.heap.FunFrames X.base X.outer:=by
 have all:∀(l:List Env),(∀b∈frs l,b∈X.fs)->X.s₀.heap.FunFrames X.base l->s.heap.FunFrames X.base l:=by
  intro l
  induction l with
  | nil=>intro _ _;trivial
  | cons env r ih=>
   intro hs hl
   obtain⟨hk,⟨L,o,hf,hn,ho,hd⟩,hr⟩:=hl
   have hL:L∈X.fs:=hs L (by unfold frs;rw[List.filterMap_cons,hf];exact K7)
   obtain⟨sl,e⟩:=I.base.slot L o ho (I.ok.Cr L hL) hL λz=>I.ok.v8 L z hL
   exact⟨hk,⟨L,_,hf,hn,e,hd⟩,ih (λb hb=>hs b (by unfold frs;rw[List.filterMap_cons,hf];exact K9 _ hb)) hr⟩
 exact all X.outer (λ_ hb=>hb) I.ok.lV
theorem Inv.stack (I:Inv X pins σ H s):s.heap.FunFrames X.base X.stack:=by
 rcases I.ok.stk with e | ⟨e,hf⟩
 ·rw[e];exact I.lV
 ·rw[e]
  obtain⟨m,hn,_⟩:=I.loc
  refine .cons (by rw[I.ok.kind];decide) hf hn ?_ I.lV
  exact Heap.get?_none_of_le (Kz I.ok.yr I.ok.above)
theorem Inv.ux (I:Inv X pins σ H s):∀b∈frs X.stack,b∈X.env.locals :: X.fs:=λb hb=>by
 rcases I.ok.stk with e | ⟨e,hf⟩
 ·rw[e] at hb;exact K9 _ hb
 ·rw[e] at hb
  unfold frs at hb
  rw[List.filterMap_cons,hf] at hb
  exact hb
theorem Inv.uy (I:Inv X pins σ H s):∀b∈frs X.stack,H b=none:=λb hb=>by
 rcases K0.mp (I.ux b hb) with e | hb
 ·rw[e];exact I.free
 ·obtain⟨_,o,ho,_⟩:=I.ok.lV.mem hb
  exact I.base.free b o ho (I.ok.Cr b hb) λz=>I.ok.v8 b z hb
theorem Inv.step {g':Array GenState}{t':Nat}{d':Drawn}{ch:List Addr}(I:Inv X pins σ H s)
  (hch:∀b∈ch,(b∈X.ex∨X.s₀.heap.objs.size<=b)/\b≠X.env.locals/\(∀x c,X.env.cells.lookup x=some c->c≠b)/\∀p∈X.pn++pins,p.1≠b)
  (keep:∀b o,b≠X.env.locals->b∉X.fs->b∉ch->s.heap.get? b=some o->H b=none->h'.get? b=some o)
  (slot:∀b o,b≠X.env.locals->b∈X.fs->b∉ch->s.heap.get? b=some o->H b=none->∃sl,h'.get? b=some {o with slots:=sl}) (free:∀b o,b∉ch->s.heap.get? b=some o->H b=none->H' b=none)
  (there:∀b o,b∉ch->s.heap.get? b=some o->∃o',h'.get? b=some o')
  (tups:∀b xs,H b=some (.tup xs)->H' b=some (.tup xs)) (mi:∀b o u,H b=some (.Ci o u)->H' b=some (.Ci o u)) (mN:∀b ps,H b=some (.E3 ps)->∃more,H' b=some (.E3 (ps++more)))
  (ns:∀m,s.heap.Ns X.env.locals m->h'.Ns X.env.locals m) (hok:pS X.prog X.w H' h') (hg:AllBare g') :
  Inv X pins σ H' {s with heap:=h',gens:=g',drawn:=d',toks:=t'}:=by
 have OL:∀b o,X.s₀.heap.get? b=some o->b≠X.env.locals:=λb o e=>X3 (X6 (Kq e) I.ok.above)
 have MZ:∀b o,X.s₀.heap.get? b=some o->b∉X.ex->b∉ch:=λb o e hx hb=>by
  rcases(hch b hb).1 with z | z
  ·exact hx z
  ·exact absurd (X6 (Kq e) z) (U2 _)
 have cellK:∀x c,X.env.cells.lookup x=some c->∀v,s.heap.IsCell c v->h'.IsCell c v:=λx c e v ⟨o,ho,hd⟩=>by
  have Lx:c∉ch:=λz=>(hch c z).2.2.1 x c e rfl
  by_cases hc:c∈X.fs
  ·obtain⟨sl,q⟩:=slot c o (I.HX x c e) hc Lx ho (I.jx x c e)
   exact⟨_,q,hd⟩
  ·exact⟨o,keep c o (I.HX x c e) hc Lx ho (I.jx x c e),hd⟩
 refine⟨I.ok,I.os,hg,⟨λb o e n hb hx=> ?_,λb o e n hb hx=> ?_,λb o e n hx=> ?_,λb o e hx=> ?_,λb xs e=>tups b xs (I.base.tups b xs e),λb o xs e=>mi b o xs (I.base.mi b o xs e),λb ps e=> ?_⟩,?_,λx c e=> ?_,?_,λx c e=> ?_,λp hp=> ?_,hok,I.len⟩
 ·exact keep b o (OL b o e) hb (MZ b o e hx) (I.base.keep b o e n hb hx) (I.base.free b o e n hx)
 ·obtain⟨sl,e1⟩:=I.base.slot b o e n hb hx
  obtain⟨sl',e2⟩:=slot b _ (OL b o e) hb (MZ b o e hx) e1 (I.base.free b o e n hx)
  exact⟨sl',e2⟩
 ·obtain⟨o',e1⟩:=I.base.there b o e hx
  exact free b o' (MZ b o e hx) e1 (I.base.free b o e n hx)
 ·obtain⟨o',e1⟩:=I.base.there b o e hx
  exact there b o' (MZ b o e hx) e1
 ·obtain⟨m1,e1⟩:=I.base.mN b ps e
  obtain⟨m2,e2⟩:=mN b _ e1
  exact⟨m1++m2,by rw[e2,Array.append_assoc]⟩
 ·obtain⟨m,hn,hl⟩:=I.loc
  refine⟨m,ns m hn,λi x v e1 e2 e3=> ?_⟩
  obtain⟨u,r,l⟩:=hl i x v e1 e2 e3
  refine⟨u,r,?_⟩
  rcases l with l | ⟨k,c,e,z⟩
  ·exact .inl l
  ·exact .inr ⟨k,c,e,cellK x c e _ z⟩
 ·obtain⟨v,z⟩:=I.cell x c e
  exact⟨v,cellK x c e v z⟩
 ·obtain⟨m,⟨o,_,_,ho,_⟩,_⟩:=I.loc
  exact free _ o (λz=>(hch _ z).2.1 rfl) ho I.free
 ·obtain⟨v,o,ho,hd⟩:=I.cell x c e
  exact free c o (λz=>(hch c z).2.2.1 x c e rfl) ho (I.jx x c e)
 ·obtain⟨e,n,ne,nf,d⟩:=I.pin p hp
  have Lx:p.1∉ch:=λz=>(hch p.1 z).2.2.2 p hp rfl
  exact⟨keep p.1 p.2 ne nf Lx e n,free p.1 p.2 Lx e n,ne,nf,d⟩
theorem Inv.un (I:Inv X pins σ H s)(u:Un X.fs [] H H' s.heap h')(hok:pS X.prog X.w H' h'):Inv X pins σ H' {s with heap:=h',toks:=t'}:=by
 obtain⟨m,⟨o,es,ep,ho,r⟩,_⟩:=id I.loc
 obtain⟨sl,hL⟩:=u.any ho I.free (by simp)
 exact I.step (g':=s.gens) (d':=s.drawn) (ch:=[]) (λ_ z=>nomatch z) (λb o _ hb _ e n=>u.keep b o e n hb (by simp)) (λb o _ hb _ e n=>u.slot b o e n hb (by simp)) (λb o _ e n=>u.free b o e n (by simp)) (λb o _ e=>u.there b o e (by simp)) u.tups u.mi u.mN (λm' hm=>by
  obtain⟨o',es',ep',ho',r'⟩:=hm
  rw[ho] at ho';cases ho'
  exact⟨_,es',ep',hL,r'⟩) hok I.bare
theorem Inv.call (I:Inv X pins σ H s)(u:Un (frs X.stack) ch H H' s.heap h')(hok:pS X.prog X.w H' h')(hg:AllBare g')
  (hch:∀b∈ch,(b∈X.ex∨X.s₀.heap.objs.size<=b)/\b≠X.env.locals/\(∀x c,X.env.cells.lookup x=some c->c≠b)/\∀p∈X.pn++pins,p.1≠b) :
  Inv X pins σ H' {s with heap:=h',gens:=g',drawn:=d',toks:=t'}:=by
 obtain⟨m,⟨o,es,ep,ho,r⟩,_⟩:=id I.loc
 obtain⟨sl,hL⟩:=u.any ho I.free λz=>(hch _ z).2.1 rfl
 exact I.step (ch:=ch) hch (λb o hL hb hc e n=>u.keep b o e n (λz=>(K0.mp (I.ux b z)).elim hL hb) hc) (λb o _ _ hc e n=>u.any e n hc) (λb o hc e n=>u.free b o e n hc) (λb o hc e=>u.there b o e hc) u.tups u.mi u.mN (λm' hm=>by
  obtain⟨o',es',ep',ho',r'⟩:=hm
  rw[ho] at ho';cases ho'
  exact⟨_,es',ep',hL,r'⟩) hok hg
theorem Inv.turned (I:Inv X pins σ H s)(k:∀b o,b≠it->s.heap.get? b=some o->h'.get? b=some o)(hn:H it=none)(hL:it≠X.env.locals)
  (h1:it∈X.ex∨X.s₀.heap.objs.size<=it) (h2:∀x c,X.env.cells.lookup x=some c->c≠it) (h3:∀p∈X.pn++pins,p.1≠it):Inv X pins σ H {s with heap:=h',toks:=t'}:=by
 have OM:∀b u,H b=some u->b≠it:=λb u e z=>by rw[z,hn] at e;cases e
 refine I.step (g':=s.gens) (d':=s.drawn) (ch:=[it]) (λb hb=> ?_) (λb o _ _ hc e _=>k b o (λz=>hc (by simp[z])) e) (λb o _ _ hc e _=>⟨o.slots,k b o (λz=>hc (by simp[z])) e⟩) (λ_ _ _ _ n=>n)
  (λb o hc e=>⟨o,k b o (λz=>hc (by simp[z])) e⟩) (λ_ _ e=>e) (λ_ _ _ e=>e) (λb ps e=>⟨#[],by rw[e];simp⟩) (λm hm=> ?_) (λb u e=> ?_) I.bare
 ·have e:b=it:=by simpa using hb
  subst e
  exact⟨h1,hL,h2,h3⟩
 ·obtain⟨o,es,ep,ho,r⟩:=hm
  exact⟨o,es,ep,k _ o (Ne.symm hL) ho,r⟩
 ·refine(I.hok b u e).stay (λc v hc q=>k c v ?_ q) (λ_ q=>q) λ_ _ q=>q
  rcases hc with z | z
  ·rw[z];exact OM b u e
  ·exact OM c _ z
theorem Inv.tok (I:Inv X pins σ H s)(t:Nat):Inv X pins σ H {s with toks:=t}:=I.un (h':=s.heap) (t':=t) Un.refl I.hok
theorem Inv.kept (I:Inv X pins σ H s)(k:∀b u,s.heap.get? b=some u->h'.get? b=some u):Inv X pins σ H {s with heap:=h',toks:=t'}:=I.un (Un.kept k) (I.hok.kept k)
theorem Inv.laid (I:Inv X pins σ H s)(k:∀b u,s.heap.get? b=some u->h'.get? b=some u)(hp:s.heap.objs.size<=a)(new:d_ X.prog X.w (upd H a o) h' a o) :
  Inv X pins σ (upd H a o) {s with heap:=h',toks:=t'}:=I.un (Un.laid k hp (I.hok.fresh hp)) (I.hok.laid k hp new)
theorem Inv.write (I:Inv X pins σ H s)(mu:MV (H x))(he:e=x∨H e=some (.own x))(k:∀b u,b≠e->s.heap.get? b=some u->h'.get? b=some u)(heo:∃u,h'.get? e=some u)
  (new:d_ X.prog X.w (upd H x o) h' x o):Inv X pins σ (upd H x o) {s with heap:=h',toks:=t'}:=I.un (Un.write mu he k heo) (I.hok.write mu he k heo new)
theorem Inv.weak (I:Inv X pins σ H s)(hl:σ'.length=σ.length)(w:∀(i:Nat) v,σ'[i]? =some (some v)->σ[i]? =some (some v)):Inv X pins σ' H s :=
 ⟨I.ok,I.os,I.bare,I.base,let ⟨m,hn,hl'⟩:=I.loc;⟨m,hn,λi x v e1 e2 e3=>hl' i x v e1 (w i v e2) e3⟩,I.cell,I.free,I.jx,I.pin,I.hok,hl.trans I.len⟩
theorem Inv.zL (I:Inv X pins σ H s)(h:∀p∈Hf,s.heap.get? p.1=some p.2/\H p.1=none/\p.1≠X.env.locals/\p.1∉X.fs/\∀v,p.2.data≠ .cell v):Inv X Hf σ H s :=
 ⟨I.ok,I.os,I.bare,I.base,I.loc,I.cell,I.free,I.jx,λp hp=>(Kk.mp hp).elim (λz=>I.pin p (X9 _ z)) (h p),I.hok,I.len⟩
theorem v9 {N:List Str}(hN:N.Nodup){i j:Nat}{x:Str}(a:N[i]? =some x)(b:N[j]? =some x):i=j:=by
 obtain⟨h1,e1⟩:=X1.mp a
 obtain⟨h2,e2⟩:=X1.mp b
 exact(List.getElem_inj hN).mp (e1.trans e2.symm)
theorem sW (I:Inv X pins σ H s)(hN:X.N.Nodup)(hi:X.N[i]? =some x)(hx:Loc X.env.scope x)(r:RelV v u)
  (h:∀s',Inv X pins (σ.set i (some v)) H s'->(∃a,Heap.SameBut a s.heap s'.heap/\(a=X.env.locals∨X.env.cells.lookup x=some a))->Q () s') (hf:X.fn x=true∨X.env.scope.names.lookup x=some .local:=by first | exact .inl rfl | exact .inr rfl | assumption):wpAny M A (storeName X.env x u) Q E s:=by
 obtain⟨m,hn,hl⟩:=id I.loc
 have hcls:(X.env.scope.kind== .class || (X.env.scope.kind== .module && X.env.locals !=X.env.globals))=false:=by rw[I.ok.kind];rfl
 have hiσ:i < σ.length:=by rw[I.len];exact(X1.mp hi).1
 have HX:=I.HX
 have tracked:∀{a:Addr} {h':Heap},(∃o,s.heap.get? a=some o/\H a=none)->Heap.SameBut a s.heap h'->pS X.prog X.w H h':=λ{a h'} ha hs b ob e=>by
  obtain⟨_,_,hfree⟩:=ha
  refine(I.hok b ob e).stay (λc w' hc q=>(hs.2 c ?_).trans q) (λ_ q=>q) λ_ _ q=>q
  rintro rfl
  rcases hc with rfl | hc
  ·rw[hfree] at e;cases e
  ·rw[hfree] at hc;cases hc
 rcases hx with hk | hk
 ·refine wpAny_storeName_local hk hn (λh' hn' hs=> ?_) hcls
  obtain⟨oL,_,_,hoL,_⟩:=id hn
  refine h _ ⟨I.ok,I.os,I.bare,⟨λb o e n hb hx=> ?_,λb o e n hb hx=> ?_,I.base.free,λb o e hx=> ?_,I.base.tups,I.base.mi,I.base.mN⟩,⟨_,hn',λj y v' e1 e2 e3=> ?_⟩,λy c e=> ?_,I.free,I.jx,λp hp=> ?_,tracked ⟨oL,hoL,I.free⟩ hs,by simpa using I.len⟩ ⟨_,hs,.inl rfl⟩
  ·exact(hs.2 b (X3 (X6 (Kq e) I.ok.above))).trans (I.base.keep b o e n hb hx)
  ·obtain⟨sl,e1⟩:=I.base.slot b o e n hb hx
   exact⟨sl,(hs.2 b (X3 (X6 (Kq e) I.ok.above))).trans e1⟩
  ·obtain⟨o',e1⟩:=I.base.there b o e hx
   exact⟨o',(hs.2 b (X3 (X6 (Kq e) I.ok.above))).trans e1⟩
  ·by_cases hj:j=i
   ·subst hj
    rw[hi] at e1;cases e1
    rw[U6 hiσ] at e2
    cases e2
    exact⟨u,r,.inl ⟨hk,by simp⟩⟩
   ·rw[Xq (Ne.symm hj)] at e2
    obtain⟨u',r',q⟩:=hl j y v' e1 e2 e3
    refine⟨u',r',?_⟩
    rcases q with⟨k,e⟩ | ⟨k,c,e,z⟩
    ·refine .inl ⟨k,?_⟩
     have:y≠x:=λe=>hj (v9 hN e1 (e ▸ hi))
     simp[this,e]
    ·exact .inr ⟨k,c,e,z.sameBut hs (HX y c e)⟩
  ·obtain⟨w',z⟩:=I.cell y c e
   exact⟨w',z.sameBut hs (HX y c e)⟩
  ·obtain⟨e,n,ne,nf,d⟩:=I.pin p hp
   exact⟨(hs.2 p.1 ne).trans e,n,ne,nf,d⟩
 ·have hfn:X.fn x=true:=by
   rcases hf with z | z
   ·exact z
   ·rw[z] at hk;cases hk
  obtain⟨c,hc⟩:=I.ok.has x (.inl hk)
  obtain⟨w',z⟩:=I.cell x c hc
  refine wpAny_storeName_cell I.ok.kind hk hc z (λh' hc' hs=> ?_)
  obtain⟨oc,hoc,Nr⟩:=id z
  refine h {s with heap:=h'} ⟨I.ok,I.os,I.bare,⟨λb o e n hb hx=> ?_,λb o e n hb hx=> ?_,I.base.free,λb o e hx=> ?_,I.base.tups,I.base.mi,I.base.mN⟩,⟨m,hn.sameBut hs (Ne.symm (HX x c hc)),λj y v' e1 e2 e3=> ?_⟩,λy c' e=> ?_,I.free,I.jx,λp hp=> ?_,tracked ⟨oc,hoc,I.jx x c hc⟩ hs,by simpa using I.len⟩ ⟨c,hs,.inr hc⟩
  ·exact(hs.2 b (X3 (X6 (Kq e) (I.ok.cab x c hfn hc)))).trans (I.base.keep b o e n hb hx)
  ·obtain⟨sl,e1⟩:=I.base.slot b o e n hb hx
   exact⟨sl,(hs.2 b (X3 (X6 (Kq e) (I.ok.cab x c hfn hc)))).trans e1⟩
  ·obtain⟨o',e1⟩:=I.base.there b o e hx
   exact⟨o',(hs.2 b (X3 (X6 (Kq e) (I.ok.cab x c hfn hc)))).trans e1⟩
  ·by_cases hj:j=i
   ·subst hj
    rw[hi] at e1;cases e1
    rw[U6 hiσ] at e2
    cases e2
    exact⟨u,r,.inr ⟨.inl hk,c,hc,hc'⟩⟩
   ·rw[Xq (Ne.symm hj)] at e2
    obtain⟨u',r',q⟩:=hl j y v' e1 e2 e3
    refine⟨u',r',?_⟩
    rcases q with q | ⟨k,c',e,z'⟩
    ·exact .inl q
    ·refine .inr ⟨k,c',e,z'.sameBut hs ?_⟩
     rintro rfl
     exact hj (v9 hN e1 (I.ok.inj _ _ _ e hc ▸ hi))
  ·by_cases hcc:c'=c
   ·subst hcc;exact⟨_,hc'⟩
   ·obtain⟨w2,z2⟩:=I.cell y c' e
    exact⟨w2,z2.sameBut hs hcc⟩
  ·obtain⟨e,n,ne,nf,d⟩:=I.pin p hp
   refine⟨(hs.2 p.1 ?_).trans e,n,ne,nf,d⟩
   intro q
   rw[q,hoc] at e
   have q':oc=p.2:=Option.some.inj e
   exact d w' (by rw[←q'];exact Nr)
theorem v_ (I:Inv X pins σ H s)(hN:X.N.Nodup)(hi:X.N[i]? =some x)(hx:Loc X.env.scope x)(r:RelV v u)
  (h:∀s',Inv X pins (σ.set i (some v)) H s'->Q () s') (hf:X.fn x=true∨X.env.scope.names.lookup x=some .local:=by first | exact .inl rfl | exact .inr rfl | assumption):wpAny M A (storeName X.env x u) Q E s :=
 sW I hN hi hx r (λs' I' _=>h s' I') hf
theorem Inv.call' (I:Inv X pins σ H s)(ho:s'.os=s.os)(u:Un (frs X.stack) ch H H' s.heap s'.heap)(hok:pS X.prog X.w H' s'.heap)(hg:AllBare s'.gens)
  (hch:∀b∈ch,(b∈X.ex∨X.s₀.heap.objs.size<=b)/\b≠X.env.locals/\(∀x c,X.env.cells.lookup x=some c->c≠b)/\∀p∈X.pn++pins,p.1≠b):Inv X pins σ H' s':=by
 obtain⟨h',g',d',t',o'⟩:=s'
 have e:o'=s.os:=ho
 subst e
 exact I.call (g':=g') (t':=t') (d':=d') u hok hg hch
end
abbrev XK:=Value->Option Addr->Hp->Prop
abbrev St:=List (Option V)
abbrev VK:=V->Hp->Prop
abbrev TE:=St->Hp->VK->Prop
abbrev TT:=St->Hp->(Bool->Hp->Prop)->Prop
abbrev TA:=St->Hp->(List V->Hp->Prop)->Prop
structure Ends where
 nx:St->Hp->Prop
 rt:VK
 bk:St->Hp->Prop:=λ_ _=>False
 ct:St->Hp->Prop:=λ_ _=>False
abbrev TS:=Ends->St->Hp->Prop
def EP (X:Cx)(pins:List (Addr×Obj))(σ:St)(Q:VK)(u:Value)(s':Shared):Prop:=∃v H',Inv X pins σ H' s'/\RelV v u/\Q v H'
def TP (X:Cx)(pins:List (Addr×Obj))(σ:St)(Q:Bool->Hp->Prop)(b:Bool)(s':Shared):Prop:=∃H',Inv X pins σ H' s'/\Q b H'
def AP (X:Cx)(pins:List (Addr×Obj))(σ:St)(Q:List V->Hp->Prop)(us:List Value)(s':Shared):Prop:=∃vs H',Inv X pins σ H' s'/\Vals vs us/\Q vs H'
def SP (X:Cx)(pins:List (Addr×Obj))(D:Ends)(f:Flow)(s':Shared):Prop :=
 match f with
 | .next=>∃σ' H',Inv X pins σ' H' s'/\D.nx σ' H'
 | .brk=>∃σ' H',Inv X pins σ' H' s'/\D.bk σ' H'
 | .cont=>∃σ' H',Inv X pins σ' H' s'/\D.ct σ' H'
 | .ret u=>∃v σ' H',Inv X pins σ' H' s'/\RelV v u/\D.rt v H'
def PE (X:Cx)(e:Expr)(t:TE):Prop :=
 ∀(pins:List (Addr×Obj)) (s:Shared) (σ:St) (H:Hp) (Q:VK),Inv X pins σ H s->t σ H Q->wpAny (!7) X.A (eval e X.env) (EP X pins σ Q) X.xe s
def PT (X:Cx)(e:Expr)(t:TT):Prop :=
 ∀(pins:List (Addr×Obj)) (s:Shared) (σ:St) (H:Hp) (Q:Bool->Hp->Prop),Inv X pins σ H s->t σ H Q->wpAny (!7) X.A (isTrue e X.env (eval e X.env)) (TP X pins σ Q) X.xe s
def PW (X:Cx)(e:Expr)(t:TT):Prop :=
 ∀(whole:Sem Value) (pins:List (Addr×Obj)) (s:Shared) (σ:St) (H:Hp) (Q:Bool->Hp->Prop),Inv X pins σ H s->t σ H Q->wpAny (!7) X.A (isTrue e X.env whole) (TP X pins σ Q) X.xe s
theorem PW.pt (h:PW X e t):PT X e t:=h _
def PA (X:Cx)(es:List Expr)(t:TA):Prop :=
 ∀(pos:Pos) (pins:List (Addr×Obj)) (s:Shared) (σ:St) (H:Hp) (Q:List V->Hp->Prop),Inv X pins σ H s->t σ H Q->wpAny (!7) X.A (spliced (backTo pos (starEach es X.env))) (AP X pins σ Q) X.xe s
def PS (X:Cx)(st:Stmt)(t:TS):Prop :=
 ∀(pins:List (Addr×Obj)) (s:Shared) (σ:St) (H:Hp) (D:Ends),Inv X pins σ H s->t D σ H->wpAny (!7) X.A (exec st X.env) (SP X pins D) X.xe s
def qf (X:Cx)(st:List Stmt)(t:TS):Prop :=
 ∀(pins:List (Addr×Obj)) (s:Shared) (σ:St) (H:Hp) (D:Ends),Inv X pins σ H s->t D σ H->wpAny (!7) X.A (execs st X.env) (SP X pins D) X.xe s
theorem dv {α:Type}{t:Sem α}{Q Q':α->Shared->Prop}{M:Model}{A:Around}{E:Z3}{s:Shared}(h:wpAny M A t Q E s)(hQ:∀a s,Q a s->Q' a s):wpAny M A t Q' E s:=wpAny_mono h hQ λ_ _ x=>x
section
variable {X:Cx}
def lX (i:Nat):TE:=λσ H Q=>∃v,σ[i]? =some (some v)/\Q v H
def tC (v:V):TE:=λ_ H Q=>Q v H
theorem Cs (hN:X.N[i]? =some x)(hv:MY X.env.scope x)(hd:(x==("__debug__":Str))=false:=by decide)(hcd:(x==("__classdict__":Str))=false:=by decide):PE X (.Name x pos) (lX i):=by
 intro pins s σ H Q I h
 obtain⟨v,e,h⟩:=h
 obtain⟨m,hn,hl⟩:=I.loc
 obtain⟨u,r,l⟩:=hl i x v hN e hv
 have fin:EP X pins σ Q u s:=⟨v,H,I,r,h⟩
 rcases l with⟨hk,hm⟩ | ⟨hk,c,hc,hcell⟩
 ·exact wpAny_Name (wpAny_loadName_local I.ok.kind hk hn hm fin) hd
 ·rcases hk with hk | hk
  ·exact wpAny_Name (wpAny_loadName_cell I.ok.kind hk hc hcell fin) hd
  ·exact wpAny_Name (wpAny_loadName_free I.ok.kind hk hc hcell fin hcd) hd
theorem HY {i j pos}:PE X (.Constant (.int i) j pos) (tC (.int i)):=λ_ _ _ H _ I h=>wpAny_Constant_int ⟨.int i,H,I.tok _,⟨_,rfl⟩,h⟩
theorem Ly {b j pos}:PE X (.Constant (.bool b) j pos) (tC (.bl b)):=λ_ _ _ H _ I h=>Constant_bool ⟨.bl b,H,I,rfl,h⟩
theorem HZ {j pos}:PE X (.Constant .none j pos) (tC .non):=λ_ _ _ H _ I h=>Constant_none ⟨.non,H,I,rfl,h⟩
def Gl (X:Cx)(x:Str):Prop:=X.env.kindOf x=some .globalImplicit
theorem zM (I:Inv X pins σ H s)(hg:Gl X x)(hm:X.mg x=some u)(h:Q u s)
  (hd:(x==("__debug__":Str))=false:=by decide):wpAny (!7) X.A (eval (.Name x pos) X.env) Q E s :=
 Calls.Name_function_global I.ok.kind hg (Calls.loadGlobal_global (by rw[I.ok.glob];exact I.mod.glob.keeps I.bk) hm h) hd
theorem fw (I:Inv X pins σ H s)(hg:Gl X x)(hm:X.mg x=none)(hv:bootBuiltins x=some u)(h:Q u s)
  (hn:x≠ "__name__":=by decide) (hd:(x==("__debug__":Str))=false:=by decide):wpAny (!7) X.A (eval (.Name x pos) X.env) Q E s:=by
 obtain⟨mb,h1,h2⟩:=I.mod.blt
 exact Calls.Name_function_global I.ok.kind hg (Calls.loadGlobal_builtin (by rw[I.ok.glob];exact I.mod.glob.keeps I.bk) hm (by rw[I.ok.blt];exact h1.keeps I.bk) ((h2 x hn).trans hv) h) hd
theorem E6 (hg:Gl X x)(hm:X.mg x=some u)(r:RelV v u)(hd:(x==("__debug__":Str))=false:=by decide):PE X (.Name x pos) (tC v) :=
 λ_ _ _ H _ I h=>zM I hg hm ⟨v,H,I,r,h⟩ hd
theorem pT (hg:Gl X x)(hm:X.mg x=none)(hv:bootBuiltins x=some u)(r:RelV v u)(hn:x≠ "__name__":=by decide)(hd:(x==("__debug__":Str))=false:=by decide):PE X (.Name x pos) (tC v) :=
 λ_ _ _ H _ I h=>fw I hg hm hv ⟨v,H,I,r,h⟩ hn hd
variable {a b:Expr}{ta tb:TE}{pos:Pos}
def tB (t:TE):TT:=λσ H Q=>t σ H λx H1=>∃c,x= .bl c/\Q c H1
theorem H_ (h:PE X e t)(he:∀whole,isTrue e X.env whole=(do let v←whole;standAt e.pos;holding [v] (truthy v)):=by intro _;rfl):PT X e (tB t):=by
 intro pins s σ H Q I hw
 refine isTrue_plain (dv (h pins s σ H _ I hw) λv s1 ⟨x,H1,I1,r1,q1⟩=> ?_) (he _)
 obtain⟨d,rfl,q⟩:=q1
 cases r1
 exact wpAny_truthy_bool ⟨H1,I1,q⟩
variable {tA M0:TT}{rest:List Expr}
def Nt (t u:TT):TT:=λσ H Q=>t σ H λc H1=>if c=true then u σ H1 Q else Q false H1
def Pr (t u:TT):TT:=λσ H Q=>t σ H λc H1=>if c=true then Q true H1 else u σ H1 Q
def Nu (t:TT):TT:=λσ H Q=>t σ H λc H1=>Q (!c) H1
theorem E7 (ha:PT X a tA):PW X (.BoolOp .And [a] pos) tA:=by
 intro wh pins s σ H Q I h
 refine isTrue_and (dv (ha pins s σ H Q I h) λc s1 e=> ?_)
 cases c with
 | true=>exact isTrue_and_nil e
 | false=>exact e
theorem Ia (ha:PT X a tA):PW X (.BoolOp .Or [a] pos) tA:=by
 intro wh pins s σ H Q I h
 refine isTrue_or (dv (ha pins s σ H Q I h) λc s1 e=> ?_)
 cases c with
 | false=>exact isTrue_or_nil e
 | true=>exact e
theorem Ib (ha:PT X a tA)(hb:PW X (.BoolOp .And (b :: rest) pos) M0):PW X (.BoolOp .And (a :: b :: rest) pos) (Nt tA M0):=by
 intro wh pins s σ H Q I h
 refine isTrue_and (dv (ha pins s σ H _ I h) λc s1 ⟨H1,I1,q1⟩=> ?_)
 cases c with
 | true=>exact hb wh pins s1 σ H1 Q I1 q1
 | false=>exact⟨H1,I1,q1⟩
theorem Lz (ha:PT X a tA)(hb:PW X (.BoolOp .Or (b :: rest) pos) M0):PW X (.BoolOp .Or (a :: b :: rest) pos) (Pr tA M0):=by
 intro wh pins s σ H Q I h
 refine isTrue_or (dv (ha pins s σ H _ I h) λc s1 ⟨H1,I1,q1⟩=> ?_)
 cases c with
 | true=>exact⟨H1,I1,q1⟩
 | false=>exact hb wh pins s1 σ H1 Q I1 q1
theorem Ic (ha:PT X a tA):PT X (.UnaryOp .Not a pos) (Nu tA):=by
 intro pins s σ H Q I h
 exact isTrue_not (ha pins s σ H (λc H1=>Q (!c) H1) I h)
def LA (ta tb:TE):TE:=λσ H Q=>ta σ H λx H1=>∃c,x= .bl c/\if c=true then tb σ H1 Q else Q (.bl false) H1
def LB (ta:TE):TE:=λσ H Q=>ta σ H λx H1=>∃c,x= .bl c/\Q (.bl (!c)) H1
theorem Ie {op}(h:PE X a t):PE X (.BoolOp op [a] pos) t:=λpins s σ H Q I hw=>BoolOp_one (h pins s σ H Q I hw)
theorem Ig (ha:PE X a ta)(hb:PE X (.BoolOp .And (b :: rest) pos) tb):PE X (.BoolOp .And (a :: b :: rest) pos) (LA ta tb):=by
 intro pins s σ H Q I h
 refine BoolOp_and (dv (ha pins s σ H _ I h) λv s1 ⟨x,H1,I1,r1,q1⟩=> ?_)
 obtain⟨c,rfl,q1⟩:=q1
 cases r1
 refine wpAny_truthy_bool ?_
 cases c with
 | true=>exact hb pins s1 σ H1 Q I1 q1
 | false=>exact⟨.bl false,H1,I1,rfl,q1⟩
theorem Ih (ha:PE X a ta):PE X (.UnaryOp .Not a pos) (LB ta):=by
 intro pins s σ H Q I h
 refine UnaryOp_ (dv (ha pins s σ H _ I h) λv s1 ⟨x,H1,I1,r1,q1⟩=> ?_)
 obtain⟨c,rfl,q1⟩:=q1
 cases r1
 exact not_of (wpAny_truthy_bool ⟨.bl (!c),H1,I1,rfl,q1⟩)
def Ps (t:TT)(ta tb:TE):TE:=λσ H Q=>t σ H λc H1=>if c=true then ta σ H1 Q else tb σ H1 Q
theorem Ct (hc:PT X c tA)(ha:PE X a ta)(hb:PE X b tb):PE X (.IfExp c a b pos) (Ps tA ta tb):=by
 intro pins s σ H Q I h
 refine wpAny_IfExp (dv (hc pins s σ H _ I h) λd s1 ⟨H1,I1,q1⟩=> ?_)
 cases d with
 | true=>exact ha pins s1 σ H1 Q I1 q1
 | false=>exact hb pins s1 σ H1 Q I1 q1
end
def gD (K:Frag)(H:Hp)(a:Addr)(xs:List V):Prop :=
 Rd H a (.lst xs)∨
  ∃(o:Obj) (its:Array Value) (n:Nat),K.lookup a=some o/\o.cls= .type "list" /\o.dict=none/\o.data= .seq its n/\its.size<=sizeLine/\Vals xs its.toList
def ee (K:Frag)(H:Hp)(a:Addr)(xs:List V):Prop :=
 Rd H a (.tup xs)∨
  ∃(o:Obj) (its:Array Value) (n:Nat),K.lookup a=some o/\o.cls= .type "tuple" /\o.data= .seq its n/\its.size<=sizeLine/\Vals xs its.toList
noncomputable def Nv:Value->Option V
 | .none=>some .non
 | .bool b=>some (.bl b)
 | .int i _=>some (.int i)
 | .str x _=>some (.str x)
 | .bytes b _=>some (.Nm b)
 | .float b _=>some (.flt b)
 | .ref a=>some (.ref a)
 | .type n=>some (.ty n)
 | _=>none
theorem RelV.abs (r:RelV x u):Nv u=some x:=by
 cases x with
 | non=>cases r;rfl
 | bl _=>cases r;rfl
 | int _=>obtain⟨t,rfl⟩:=r;rfl
 | str _=>obtain⟨t,rfl⟩:=r;rfl
 | Nm _=>obtain⟨t,rfl⟩:=r;rfl
 | flt _=>obtain⟨t,rfl⟩:=r;rfl
 | ref _=>cases r;rfl
 | ty _=>cases r;rfl
theorem RelV.inj (r:RelV x u)(q:RelV y u):x=y:=Option.some.inj (r.abs.symm.trans q.abs)
theorem Vals.inj:∀{xs ys:List V} {us:List Value},Vals xs us->Vals ys us->xs=ys
 | _,_,_,.nil,.nil=>rfl
 | _,_,_,.cons r t,.cons r' t'=>by rw[r.inj r',Vals.inj t t']
section
variable {X:Cx}{s:Shared}{xs:List V}
theorem gD.of {K:Frag}(h:H a=some (.lst xs)):gD K H a xs:=.inl (.inl h)
theorem ee.of {K:Frag}(h:H a=some (.tup xs)):ee K H a xs:=.inl (.inl h)
theorem Inv.list (I:Inv X pins σ H s)(h:gD X.K H a xs):∃its:List Value,Vals xs its/\PlainL s.heap a its.toArray/\xs.length<=sizeLine:=by
 rcases h with h | ⟨o,its,n,hk,hc,hd,hs,hz,r⟩
 ·obtain⟨z,its,n,r,e⟩:=h.ok I.hok
  exact⟨its,r,⟨_,n,e,rfl,rfl,rfl⟩,z⟩
 ·refine⟨its.toList,r,⟨o,n,I.A1 a o hk,hc,hd,by simpa using hs⟩,?_⟩
  have e:=r.length
  simp only[KY] at e
  omega
theorem Inv.tuple (I:Inv X pins σ H s)(h:ee X.K H a xs):∃its:List Value,Vals xs its/\IsTup s.heap a its.toArray/\xs.length<=sizeLine:=by
 rcases h with h | ⟨o,its,n,hk,hc,hs,hz,r⟩
 ·obtain⟨z,its,r,p⟩:=h.ok I.hok
  exact⟨its,r,p,z⟩
 ·refine⟨its.toList,r,⟨o,I.A1 a o hk,hc,n,by simpa using hs⟩,?_⟩
  have e:=r.length
  simp only[KY] at e
  omega
theorem Inv.wa (I:Inv X pins σ H s)(h:gD X.K H a xs)(h':gD X.K H a ys):xs=ys:=by
 obtain⟨its,r,⟨o,n,e,_,_,d⟩,_⟩:=I.list h
 obtain⟨its',r',⟨o',n',e',_,_,d'⟩,_⟩:=I.list h'
 rw[e] at e';cases e'
 rw[d] at d'
 injection d' with d1 _
 have:its=its':=by simpa using congrArg Array.toList d1
 subst this
 exact r.inj r'
theorem Inv.n_ (I:Inv X pins σ H s)(h:ee X.K H a xs)(h':ee X.K H a ys):xs=ys:=by
 obtain⟨its,r,⟨o,e,_,n,d⟩,_⟩:=I.tuple h
 obtain⟨its',r',⟨o',e',_,n',d'⟩,_⟩:=I.tuple h'
 rw[e] at e';cases e'
 rw[d] at d'
 injection d' with d1 _
 have:its=its':=by simpa using congrArg Array.toList d1
 subst this
 exact r.inj r'
end
abbrev Cx.wish (X:Cx)(E:Z3):Cx:={X with xe:=E}
abbrev Cx.Cj (X:Cx):Cx:=X.wish λ_ _=>False
theorem Cx.Ok.wish {X:Cx}(ok:X.Ok)(E:Z3):(X.wish E).Ok :=
 ⟨ok.mod,ok.kind,ok.glob,ok.blt,ok.above,ok.inj,ok.has,ok.cab,ok.hd,ok.frames,ok.stk,ok.HW,ok.bs,ok.yr,ok.uw,ok.v8,ok.lV,ok.Cr⟩
theorem Cx.Ok.jn {X:Cx}{E:Z3}(ok:(X.wish E).Ok):X.Ok :=
 ⟨ok.mod,ok.kind,ok.glob,ok.blt,ok.above,ok.inj,ok.has,ok.cab,ok.hd,ok.frames,ok.stk,ok.HW,ok.bs,ok.yr,ok.uw,ok.v8,ok.lV,ok.Cr⟩
section
variable {X:Cx}
theorem Inv.wish (I:Inv X pins σ H s)(E:Z3):Inv (X.wish E) pins σ H s:=⟨I.ok.wish E,I.os,I.bare,I.base,I.loc,I.cell,I.free,I.jx,I.pin,I.hok,I.len⟩
theorem Inv.jn (I:Inv (X.wish E) pins σ H s):Inv X pins σ H s:=⟨I.ok.jn,I.os,I.bare,I.base,I.loc,I.cell,I.free,I.jx,I.pin,I.hok,I.len⟩
theorem SP.jn (h:SP (X.wish E) pins D f s'):SP X pins D f s':=by
 cases f with
 | next=>obtain⟨σ',H',I,q⟩:=h;exact⟨σ',H',I.jn,q⟩
 | brk=>obtain⟨σ',H',I,q⟩:=h;exact⟨σ',H',I.jn,q⟩
 | cont=>obtain⟨σ',H',I,q⟩:=h;exact⟨σ',H',I.jn,q⟩
 | ret u=>obtain⟨v,σ',H',I,r,q⟩:=h;exact⟨v,σ',H',I.jn,r,q⟩
theorem PE.Cj (h:PE X.Cj e t):PE X e t:=λpins s σ H Q I hw=>
 wpAny_mono (h pins s σ H Q (I.wish _) hw) (λ_ _ ⟨v,H',I',r,q⟩=>⟨v,H',I'.jn,r,q⟩) λ_ _ z=>False.elim z
theorem PT.Cj (h:PT X.Cj e t):PT X e t:=λpins s σ H Q I hw=>
 wpAny_mono (h pins s σ H Q (I.wish _) hw) (λ_ _ ⟨H',I',q⟩=>⟨H',I'.jn,q⟩) λ_ _ z=>False.elim z
theorem qf.Cj {st:List Stmt}{t:TS}(h:qf X.Cj st t):qf X st t:=λpins s σ H D I hw=>
 wpAny_mono (h pins s σ H D (I.wish _) hw) (λ_ _ q=>q.jn) λ_ _ z=>False.elim z
end
section
variable {X:Cx}{st:Stmt}{rest:List Stmt}{t u:TS}{e:Expr}{te:TE}{pos:Pos}
def LC:TS:=λD σ H=>D.nx σ H
def Nw (t u:TS):TS:=λD σ H=>t {D with nx:=u D} σ H
theorem uz:qf X [] LC:=λ_ _ σ H _ I h=>wpAny_execs_nil ⟨σ,H,I,h⟩
theorem mO (h1:PS X st t)(h2:qf X rest u):qf X (st :: rest) (Nw t u):=by
 intro pins s σ H D I h
 refine wpAny_execs_cons (dv (h1 pins s σ H {D with nx:=u D} I h) λf s1 q=> ?_)
 cases f with
 | next=>
  obtain⟨σ',H',I',q⟩:=q
  exact h2 pins s1 σ' H' D I' q
 | ret v=>exact q
 | brk=>exact q
 | cont=>exact q
theorem pU (h1:PS X st t):qf X [st] t:=by
 intro pins s σ H D I h
 refine wpAny_execs_cons (dv (h1 pins s σ H D I h) λf s1 q=> ?_)
 cases f with
 | next=>exact wpAny_execs_nil q
 | ret v=>exact q
 | brk=>exact q
 | cont=>exact q
theorem Inv.quiet (I:Inv X pins σ H s):interactive X.env=false:=by simp[interactive,I.ok.kind]
def LD (te:TE):TS:=λD σ H=>te σ H λ_ H1=>D.nx σ H1
theorem lx (he:PE X e te)(hs:swapsWith e none pos.line X.env=pure false:=by rfl):PS X (.Expr e pos) (LD te):=by
 intro pins s σ H D I h
 exact wpAny_Expr_any (dv (he pins s σ H _ I h) λv s1 ⟨x,H1,I1,r1,q1⟩=>⟨σ,H1,I1,q1⟩) I.quiet hs
def Nx (te:TE):TS:=λD σ H=>te σ H D.rt
theorem Cu (he:PE X e te):PS X (.Return (some e) pos) (Nx te):=by
 intro pins s σ H D I h
 exact wpAny_Return_some (dv (he pins s σ H _ I h) λv s1 ⟨x,H1,I1,r1,q1⟩=>⟨x,σ,H1,I1,r1,q1⟩)
def Ny (c:TT)(t u:TS):TS:=λD σ H=>c σ H λb H1=>if b=true then t D σ H1 else u D σ H1
theorem Cv (hc:PT X c tc)(ha:qf X a t)(hb:qf X b u):PS X (.If c a b pos) (Ny tc t u):=by
 intro pins s σ H D I h
 refine wpAny_If (dv (hc pins s σ H _ I h) λd s1 ⟨H1,I1,q1⟩=> ?_)
 cases d with
 | true=>exact ha pins s1 σ H1 D I1 q1
 | false=>exact hb pins s1 σ H1 D I1 q1
def Ii:TS:=λ_ _ _=>False
theorem Cw:PS X st Ii:=λ_ _ _ _ _ _ h=>h.elim
end
abbrev TG:=V->St->Hp->(St->Hp->Prop)->Prop
abbrev Hg:=List V->St->Hp->(St->Hp->Prop)->Prop
def PG (X:Cx)(target:Expr)(t:TG):Prop :=
 ∀(pins:List (Addr×Obj)) (s:Shared) (σ:St) (H:Hp) (v:V) (u:Value) (Q:St->Hp->Prop),Inv X pins σ H s->RelV v u->t v σ H Q->
  wpAny (!7) X.A (assign target X.env u) (λ_ s'=>∃σ' H',Inv X pins σ' H' s'/\Q σ' H') X.xe s
def Lj (X:Cx)(ts:List Expr)(t:Hg):Prop :=
 ∀(pins:List (Addr×Obj)) (s:Shared) (σ:St) (H:Hp) (vs:List V) (us:List Value) (Q:St->Hp->Prop),Inv X pins σ H s->Vals vs us->t vs σ H Q->
  wpAny (!7) X.A (assignInOrder ((assignEach ts X.env).map (·.2)) us) (λ_ s'=>∃σ' H',Inv X pins σ' H' s'/\Q σ' H') X.xe s
abbrev Ij:=V->V->V->Hp->(Hp->Prop)->Prop
def Ik (X:Cx)(t:Ij):Prop :=
 ∀(pins:List (Addr×Obj)) (s:Shared) (σ:St) (H:Hp) (o i v:V) (ov iv u:Value) (Q:Hp->Prop),Inv X pins σ H s->RelV o ov->RelV i iv->RelV v u->t o i v H Q->
  wpAny (!7) X.A (setItem ov iv u) (λ_ s'=>∃H',Inv X pins σ H' s'/\Q H') X.xe s
section
variable {X:Cx}{pos:Pos}
def kL (i:Nat):TG:=λv σ H Q=>Q (σ.set i (some v)) H
theorem bp (hN:X.N.Nodup)(hi:X.N[i]? =some x)(hx:Loc X.env.scope x)(hf:X.fn x=true∨X.env.scope.names.lookup x=some .local:=by first | exact .inl rfl | exact .inr rfl | assumption):PG X (.Name x pos) (kL i):=by
 intro pins s σ H v u Q I r h
 exact wpAny_assign_Name (v_ I hN hi hx r (λs' I'=>⟨_,H,I',h⟩) hf)
def Il:Hg:=λvs σ H Q=>vs=[]/\Q σ H
def wb (t:TG)(u:Hg):Hg:=λvs σ H Q=>∃v r,vs=v :: r/\t v σ H λσ' H'=>u r σ' H' Q
theorem h9:Lj X [] Il:=by
 intro pins s σ H vs us Q I r h
 obtain⟨e,h⟩:=h
 subst e
 cases r
 exact assignInOrder_nil ⟨σ,H,I,h⟩
theorem bo (h1:PG X e t)(h2:Lj X es u)
  (hs:(assignEach (e :: es) X.env).map (·.2)=assign e X.env :: (assignEach es X.env).map (·.2):=by rfl):Lj X (e :: es) (wb t u):=by
 intro pins s σ H vs us Q I r h
 obtain⟨v,vr,e1,h⟩:=h
 subst e1
 cases r with
 | cons r rr=>
  rw[hs]
  refine assignInOrder_cons (dv (h1 pins s σ H _ _ _ I r h) λ_ s1 ⟨σ1,H1,I1,q1⟩=> ?_)
  exact h2 pins s1 σ1 H1 _ _ Q I1 rr q1
def Nz (K:Frag)(n:Nat)(t:Hg):TG:=λv σ H Q=>∃a xs,v= .ref a/\ee K H a xs/\xs.length=n/\t xs σ H Q
theorem yt (hc:X.calm=true)(h:Lj X es t)
  (hn:(assignEach es X.env).length=n:=by rfl) (hst:(assignEach es X.env).findIdx? (·.1)=none:=by rfl):PG X (.Tuple es k pos) (Nz X.K n t):=by
 intro pins s σ H v u Q I r hw
 obtain⟨a,xs,e1,hq,hl,hw⟩:=hw
 subst e1
 cases r
 obtain⟨its,rv,ht,hz⟩:=I.tuple hq
 refine assign_Tuple_tuple (I.ok.hd hc) ht (by simp[hn,←hl,rv.length]) hst λh' hx=> ?_
 have I1:Inv X pins σ H {s with heap:=h'}:=I.kept (t':=s.toks) λb o e=>hx b o (X3 (Kq e)) e
 exact h pins _ σ H xs _ Q I1 (by simpa using rv) hw
def wc (to ti:TE)(t:Ij):TG:=λv σ H Q=>to σ H λo H1=>ti σ H1 λi H2=>t o i v H2 λH3=>Q σ H3
theorem yu (ho:PE X o to)(hi:PE X i ti)(hs:Ik X t)
  (ha:∀v,assign (.Subscript o i pos) X.env v=(do
   let ov←holding [v] (eval o X.env)
   let iv←holding [v,ov] (eval i X.env)
   standAt pos
   holding [v,ov,iv] (setItem ov iv v)
   release [v,ov,iv] []):=by intro _;rfl):PG X (.Subscript o i pos) (wc to ti t):=by
 intro pins s σ H v u Q I r h
 rw[ha]
 refine JZ (Z7 (dv (ho pins s σ H _ I h) λov s1 ⟨x,H1,I1,r1,q1⟩=> ?_))
 refine JZ (Z7 (dv (hi pins s1 σ H1 _ I1 q1) λiv s2 ⟨y,H2,I2,r2,q2⟩=> ?_))
 refine JZ (wpAny_standAt (JZ (Z7 (dv (hs pins s2 σ H2 x y v ov iv u _ I2 r1 r2 r q2) λ_ s3 ⟨H3,I3,q3⟩=> ?_))))
 exact wpAny_release ⟨σ,H3,I3,q3⟩
def Im (te:TE)(g:TG):TS:=λD σ H=>te σ H λx H1=>g x σ H1 D.nx
theorem uA (he:PE X e te)(hg:PG X tg g)(hs:swapsWithSole [tg] e pos.line X.env=pure false:=by rfl)(hw:swappedStores [tg] e X.env=pure none:=by rfl)
  (h1:(assignEach [tg] X.env).map (·.2)=[assign tg X.env]:=by rfl):PS X (.Assign [tg] e pos) (Im te g):=by
 intro pins s σ H D I h
 refine wpAny_Assign_stores (dv (he pins s σ H _ I h) λv s1 ⟨x,H1,I1,r1,q1⟩=> ?_) hs hw
 rw[h1]
 exact dv (hg pins s1 σ H1 x v _ I1 r1 q1) λ_ s2 q=>q
theorem yv (hN:X.N.Nodup)(hi:X.N[i]? =some x)(hx:Loc X.env.scope x)(he:PE X e te)(hs:swapsWith e (some (.Name x pos')) pos.line X.env=pure false:=by rfl)(hf:X.fn x=true∨X.env.scope.names.lookup x=some .local:=by first | exact .inl rfl | exact .inr rfl | assumption) :
  PS X (.Assign [.Name x pos'] e pos) (Im te (kL i)):=by
 intro pins s σ H D I h
 refine wpAny_Assign_Name (dv (he pins s σ H _ I h) λv s1 ⟨y,H1,I1,r1,q1⟩=> ?_) hs
 exact v_ I1 hN hi hx r1 (λs2 I2=>⟨_,H1,I2,q1⟩) hf
end
section
variable {X:Cx}
def Io (c:TT)(tb:TS):TS:=λD σ H=>∃W:Nat->St->Hp->Prop,(∃m,W m σ H)/\∀m σ H,W m σ H->
 c σ H λb H1=>if b=true then∃N:St->Hp->Prop,(∀σ' H',N σ' H'->∃m',m' < m/\W m' σ' H')/\tb {D with nx:=N,ct:=N,bk:=D.nx} σ H1 else D.nx σ H1
theorem Cy (hp:PassesOwn (!7) X.A X.env X.xe)(hc:PT X c tc)(hb:qf X body tb):PS X (.While c body [] pos) (Io tc tb):=by
 intro pins s σ H D I h
 obtain⟨W,⟨m0,w0⟩,turn⟩:=h
 refine wpAny_While (codeAny_whileLoop (λn s'=>∃σ' H',Inv X pins σ' H' s'/\W n σ' H') ?_ m0 ⟨σ,H,I,w0⟩)
 rintro n s1 ⟨σ1,H1,I1,w1⟩
 refine wpAny_passesOwn hp (dv (hc pins s1 σ1 H1 _ I1 (turn n σ1 H1 w1)) λb s2 ⟨H2,I2,q2⟩=> ?_)
 cases b with
 | true=>
  obtain⟨N,hN,q2⟩:=q2
  rw[JQ rfl]
  refine wpAny_passesOwn hp (dv (hb pins s2 σ1 H2 _ I2 q2) λf s3 q3=> ?_)
  cases f with
  | next=>
   obtain⟨σ3,H3,I3,n3⟩:=q3
   obtain⟨m',hm,w3⟩:=hN σ3 H3 n3
   exact⟨m',hm,σ3,H3,I3,w3⟩
  | cont=>
   obtain⟨σ3,H3,I3,n3⟩:=q3
   obtain⟨m',hm,w3⟩:=hN σ3 H3 n3
   exact⟨m',hm,σ3,H3,I3,w3⟩
  | brk=>exact q3
  | ret v=>exact q3
 | false=>
  rw[JV K4]
  exact wpAny_execs_nil ⟨σ1,H2,I2,q2⟩
end
structure It where
 go:Nat->Hp->Prop
 LF:Nat->Hp->V->Hp->Prop
 stop:Nat->Hp->Prop
def oa (X:Cx)(pins:List (Addr×Obj))(H:Hp)(b:Addr):Prop :=
 H b=none/\b≠X.env.locals/\b∉X.fs/\(b∈X.ex∨X.s₀.heap.objs.size<=b)/\(∀x c,X.env.cells.lookup x=some c->c≠b)/\∀p∈X.pn++pins,p.1≠b
theorem Inv.pd (I:Inv X pins σ H s)(hb:s.heap.objs.size<=b)(hn:H' b=none):oa X pins H' b:=by
 refine⟨hn,Uq (X6 I.lt hb),I.Nq hb,.inr (Kz I.sz hb),λx c e z=> ?_,λp hp z=> ?_⟩
 ·obtain⟨v,q⟩:=I.cell x c e
  exact absurd (X6 q.lt (by rw[z];exact hb)) (U2 _)
 ·exact absurd (X6 (Kq (I.pin p hp).1) (by rw[z];exact hb)) (U2 _)
structure Turn (P:Program)(w:World)(K:Frag)(tg:Expr)(J:It)(fp:List Addr)(it:Addr)(tn:Nat->Heap->Prop):Prop where
 mem:it∈fp
 obj:∀i h,tn i h->∀b∈fp,∃o,h.get? b=some o/\∀v,o.data≠ .cell v
 keep:∀i h h',tn i h->(∀b∈fp,∀o,h.get? b=some o->h'.get? b=some o)->tn i h'
 item:∀(X:Cx),X.prog=P->X.w=w->X.K=K->X.calm=true->∀(i:Nat) (pins:List (Addr×Obj)) (s:Shared) (σ:St) (H:Hp) (E:Z3),Inv X pins σ H s->(∀b∈fp,oa X pins H b)->tn i s.heap->J.go i H->
  wpAny (model P w) X.A (pyNext (.ref it)) (λr s1=>∃u,r=some u/\
   wpAny (model P w) X.A (letOwnedTupleGo tg (.ref it) u) (λ_ s2=>∃x H',Inv X pins σ H' s2/\RelV x u/\J.LF i H x H'/\tn (i+1) s2.heap/\∀b∈fp,H' b=none) E s1) E s
 done:∀(X:Cx),X.prog=P->X.w=w->X.K=K->X.calm=true->∀(i:Nat) (pins:List (Addr×Obj)) (s:Shared) (σ:St) (H:Hp) (E:Z3),Inv X pins σ H s->(∀b∈fp,oa X pins H b)->tn i s.heap->J.stop i H->
  wpAny (model P w) X.A (pyNext (.ref it)) (λr s1=>r=none/\Inv X pins σ H s1) E s
 self:∀(A:Around) (i:Nat) (s:Shared) (Q:Z3) (E:Z3),tn i s.heap->Q (.ref it) s->wpAny (model P w) A (pyIter (.ref it)) Q E s
abbrev TI:=St->Hp->(It->Hp->Prop)->Prop
def PIE (X:Cx)(pins:List (Addr×Obj))(σ:St)(tg:Expr)(R:It->Hp->Prop)(itv:Value)(s2:Shared):Prop :=
 ∃(it:Addr) (fp:List Addr) (tn:Nat->Heap->Prop) (J:It) (H':Hp),itv= .ref it/\Inv X pins σ H' s2/\Turn X.prog X.w X.K tg J fp it tn/\tn 0 s2.heap/\(∀b∈fp,oa X pins H' b)/\R J H'
def PI (X:Cx)(tg iter:Expr)(wi:TI):Prop :=
 ∀(pins:List (Addr×Obj)) (s:Shared) (σ:St) (H:Hp) (R:It->Hp->Prop),Inv X pins σ H s->wi σ H R->
  wpAny (!7) X.A (eval iter X.env) (λv s1=>wpAny (!7) X.A (pyIter v) (PIE X pins σ tg R) X.xe s1) X.xe s
theorem zN (ho:s.heap.get? it=some o)(hc:o.cls= .type n)(hd:o.data= .fields vs)
  (hn:["enumerate","zip","dict_itemiterator","dict_reverseitemiterator","odict_iterator","itertools.zip_longest","itertools.pairwise"].contains n=false) (hQ:Q () s):wpAny M A (letOwnedTupleGo tg (.ref it) u) Q E s:=by
 unfold letOwnedTupleGo
 cases tg <;> first
  | exact JW hQ
  | (cases u <;> first
    | exact JW hQ
    | (
      refine JZ (wpAny_load ho ?_)
      rw[hc,hd]
      show wpAny M A (if (["enumerate","zip","dict_itemiterator","dict_reverseitemiterator","odict_iterator","itertools.zip_longest","itertools.pairwise"].contains n && vs[0]? ==some (rawInt _))=true then _ else _) Q E s
      rw[JV (by intro h;rw[hn,J9] at h;cases h)]
      exact JW hQ))
def NA (K:Frag)(a:Addr):It :=
 ⟨λi H=>∃xs x,gD K H a xs/\xs[i]? =some x,λi H x H'=>H'=H/\∀xs,gD K H a xs->xs[i]? =some x,λi H=>∃xs,gD K H a xs/\xs.length<=i⟩
def NB (K:Frag)(a:Addr):It :=
 ⟨λi H=>∃xs x,ee K H a xs/\xs[i]? =some x,λi H x H'=>H'=H/\∀xs,ee K H a xs->xs[i]? =some x,λi H=>∃xs,ee K H a xs/\xs.length<=i⟩
def M1 (lo:Int)(n:Nat):It:=⟨λi _=>i < n,λi H x H'=>H'=H/\x= .int (lo+i),λi _=>n<=i⟩
theorem A2 {P:Program}{w:World}{K:Frag}{tg:Expr}(a it:Addr):Turn P w K tg (NA K a) [it] it (λi h=>h.IsListIter it a i) where
 mem:=by simp
 obj:=λi h st b hb=>by
  have e:b=it:=by simpa using hb
  subst e
  obtain⟨o,e,c,d⟩:=st
  exact⟨o,e,λv z=>by rw[d] at z;cases z⟩
 keep:=λi h h' st k=>st.at λo e=>k it (by simp) o e
 item:=by
  intro X hP hw hK hc i pins s σ H E I hf st hg
  subst hP hw hK
  obtain⟨xs,x,hq,hx⟩:=hg
  obtain⟨its,rv,p,hz⟩:=I.list hq
  obtain⟨u,hu,ru⟩:=rv.get hx
  obtain⟨f0,f1,f2,f3,f4,f5⟩:=hf it (by simp)
  refine wpAny_pyNext_list_item st p.isList (x:=u) (by simpa using hu) λh' st' sb=> ?_
  have I1:Inv X pins σ H {s with heap:=h'}:=I.turned (t':=s.toks) (λb o hb e=>(sb.2 b hb).trans e) f0 f1 f3 f4 f5
  obtain⟨o,e,c,d⟩:=id st'
  exact⟨u,rfl,zN (s:={s with heap:=h'}) e c d (!8) ⟨x,H,I1,ru,⟨rfl,λys hy=>by rw[I.wa hy hq];exact hx⟩,st',λb hb=>(hf b hb).1⟩⟩
 done:=by
  intro X hP hw hK hc i pins s σ H E I hf st hg
  subst hP hw hK
  obtain⟨xs,hq,hx⟩:=hg
  obtain⟨its,rv,p,hz⟩:=I.list hq
  obtain⟨f0,f1,f2,f3,f4,f5⟩:=hf it (by simp)
  have hl:=rv.length
  exact wpAny_pyNext_list_end (I.ok.hd hc) st p.isList (by simp;omega) λh' eb=>⟨rfl,I.turned (t':=s.toks) (λb o hb e=>eb b o hb e) f0 f1 f3 f4 f5⟩
 self:=λ_ _ _ _ _ st h=>wpAny_pyIter_listiter st h
theorem yw {P:Program}{w:World}{K:Frag}{tg:Expr}(a it:Addr):Turn P w K tg (NB K a) [it] it (λi h=>h.IsTupleIter it a i) where
 mem:=by simp
 obj:=λi h st b hb=>by
  have e:b=it:=by simpa using hb
  subst e
  obtain⟨o,e,c,d⟩:=st
  exact⟨o,e,λv z=>by rw[d] at z;cases z⟩
 keep:=λi h h' st k=>st.at λo e=>k it (by simp) o e
 item:=by
  intro X hP hw hK hc i pins s σ H E I hf st hg
  subst hP hw hK
  obtain⟨xs,x,hq,hx⟩:=hg
  obtain⟨its,rv,p,hz⟩:=I.tuple hq
  obtain⟨u,hu,ru⟩:=rv.get hx
  obtain⟨f0,f1,f2,f3,f4,f5⟩:=hf it (by simp)
  refine wpAny_pyNext_tuple_item st (show s.heap.IsTuple a its.toArray from p) (x:=u) (by simpa using hu) λh' st' sb=> ?_
  have I1:Inv X pins σ H {s with heap:=h'}:=I.turned (t':=s.toks) (λb o hb e=>(sb.2 b hb).trans e) f0 f1 f3 f4 f5
  obtain⟨o,e,c,d⟩:=id st'
  exact⟨u,rfl,zN (s:={s with heap:=h'}) e c d (!8) ⟨x,H,I1,ru,⟨rfl,λys hy=>by rw[I.n_ hy hq];exact hx⟩,st',λb hb=>(hf b hb).1⟩⟩
 done:=by
  intro X hP hw hK hc i pins s σ H E I hf st hg
  subst hP hw hK
  obtain⟨xs,hq,hx⟩:=hg
  obtain⟨its,rv,p,hz⟩:=I.tuple hq
  obtain⟨f0,f1,f2,f3,f4,f5⟩:=hf it (by simp)
  have hl:=rv.length
  exact wpAny_pyNext_tuple_end (I.ok.hd hc) st (show s.heap.IsTuple a its.toArray from p) (by simp;omega) λh' eb=>⟨rfl,I.turned (t':=s.toks) (λb o hb e=>eb b o hb e) f0 f1 f3 f4 f5⟩
 self:=λ_ _ _ _ _ st h=>wpAny_pyIter_tupleiter st h
theorem yx {P:Program}{w:World}{K:Frag}{tg:Expr}(it:Addr)(lo:Int)(n:Nat):Turn P w K tg (M1 lo n) [it] it (λi h=>IsRangeIter h it (lo+(i:Nat)*1) ((n:Int) - (i:Nat)) 1) where
 mem:=by simp
 obj:=λi h st b hb=>by
  have e:b=it:=by simpa using hb
  subst e
  exact⟨_,st,λv z=>by
   have z':Data.fields _=Data.cell v:=z
   cases z'⟩
 keep:=λi h h' st k=>k it (by simp) _ st
 item:=by
  intro X hP hw hK hc i pins s σ H E I hf st hg
  subst hP hw hK
  obtain⟨f0,f1,f2,f3,f4,f5⟩:=hf it (by simp)
  have W:=Walks.range (prog:=X.prog) (w:=X.w) (I.ok.hd hc) it lo 1 n
  refine W.item i s _ _ hg st λv h' tk hv st' kk=> ?_
  obtain⟨t,rfl⟩:=hv
  have I1:Inv X pins σ H {s with heap:=h',toks:=tk}:=I.turned (λb o hb e=>kk b o (by simpa using hb) e) f0 f1 f3 f4 f5
  refine⟨_,rfl,zN (s:={s with heap:=h',toks:=tk}) (n:="range_iterator") st' rfl rfl (!8) ⟨.int (lo+i),H,I1,⟨t,?_⟩,⟨rfl,rfl⟩,st',λb hb=>(hf b hb).1⟩⟩
  rw[Int.mul_one]
 done:=by
  intro X hP hw hK hc i pins s σ H E I hf st hg
  subst hP hw hK
  obtain⟨f0,f1,f2,f3,f4,f5⟩:=hf it (by simp)
  exact wpAny_pyNext_range_end (I.ok.hd hc) st (by have:n<=i:=hg;omega) λh' eb=>⟨rfl,I.turned (t':=s.toks) (λb o hb e=>eb b o hb e) f0 f1 f3 f4 f5⟩
 self:=λ_ _ _ _ _ st h=>wpAny_pyIter_rangeiter st h
section
variable {X:Cx}
def LG (K:Frag)(tl:TE):TI:=λσ H R=>tl σ H λx H1=>∃a,x= .ref a/\(∃xs,gD K H1 a xs)/\R (NA K a) H1
def NC (K:Frag)(tl:TE):TI:=λσ H R=>tl σ H λx H1=>∃a,x= .ref a/\(∃xs,ee K H1 a xs)/\R (NB K a) H1
theorem zO (hl:PE X l tl):PI X tg l (LG X.K tl):=by
 intro pins s σ H R I h
 refine dv (hl pins s σ H _ I h) λv s1 ⟨x,H1,I1,r1,q1⟩=> ?_
 obtain⟨a,e,⟨xs,hq⟩,q⟩:=q1
 subst e
 cases r1
 obtain⟨its,rv,p,hz⟩:=I1.list hq
 refine wpAny_pyIter_list p.isList ?_
 refine⟨s1.heap.objs.size,[s1.heap.objs.size],_,_,H1,rfl,I1.kept (t':=s1.toks) λb o e=>K8 _ e,A2 a _,⟨_,Ky _ rfl,rfl,rfl⟩,λb hb=> ?_,q⟩
 have e:b=s1.heap.objs.size:=by simpa using hb
 subst e
 exact I1.pd (K1 _) (I1.hok.fresh (K1 _))
theorem Ip (hl:PE X l tl):PI X tg l (NC X.K tl):=by
 intro pins s σ H R I h
 refine dv (hl pins s σ H _ I h) λv s1 ⟨x,H1,I1,r1,q1⟩=> ?_
 obtain⟨a,e,⟨xs,hq⟩,q⟩:=q1
 subst e
 cases r1
 obtain⟨its,rv,p,hz⟩:=I1.tuple hq
 refine wpAny_pyIter_tuple (show s1.heap.IsTuple a its.toArray from p) ?_
 refine⟨s1.heap.objs.size,[s1.heap.objs.size],_,_,H1,rfl,I1.kept (t':=s1.toks) λb o e=>K8 _ e,yw a _,⟨_,Ky _ rfl,rfl,rfl⟩,λb hb=> ?_,q⟩
 have e:b=s1.heap.objs.size:=by simpa using hb
 subst e
 exact I1.pd (K1 _) (I1.hok.fresh (K1 _))
theorem Cz {pins:List (Addr×Obj)}{σ:St}{H:Hp}{s:Shared}{R:It->Hp->Prop}{E:Z3}{lo hi:Int}{t u v:Tok}{tk:Nat}(I:Inv X pins σ H s)(h1:-(2^62)<=lo)(h2:lo < 2^62)(h3:-(2^62)<=hi)(h4:hi < 2^62)
  (q:R (M1 lo (hi - lo).toNat) H):wpAny (!7) X.A (pyIter (!6)) (PIE X pins σ tg R) E {s with heap:=s.heap.push {cls:=.type "range",data:=.fields #[.int lo t,.int hi u,.int 1 v]},toks:=tk}:=by
 refine wpAny_pyIter_range (IsRange.new ..) (small_one h1 h2 h3 h4) ?_
 have I1:Inv X pins σ H {s with heap:=s.heap.push {cls:=.type "range",data:=.fields #[.int lo t,.int hi u,.int 1 v]},toks:=tk}:=I.kept λb o e=>K8 _ e
 refine⟨(s.heap.push {cls:=.type "range",data:=.fields #[.int lo t,.int hi u,.int 1 v]}).objs.size,[(s.heap.push {cls:=.type "range",data:=.fields #[.int lo t,.int hi u,.int 1 v]}).objs.size],_,_,H,rfl,
  I1.kept (t':=tk) λb o e=>K8 _ e,yx _ lo (hi - lo).toNat,?_,λb hb=> ?_,q⟩
 ·have e1:lo+((0:Nat):Int)*1=lo:=by simp
  have e2:(((hi - lo).toNat:Nat):Int) - ((0:Nat):Int)=Builtin.Range.rangeSize lo hi 1:=by rw[rangeSize_one];split <;> omega
  show IsRangeIter _ _ (lo+((0:Nat):Int)*1) ((((hi - lo).toNat:Nat):Int) - ((0:Nat):Int)) 1
  rw[e1,e2]
  exact Ky _ rfl
 ·have e:b=(s.heap.push {cls:=.type "range",data:=.fields #[.int lo t,.int hi u,.int 1 v]}).objs.size:=by simpa using hb
  subst e
  exact I1.pd (K1 _) (I1.hok.fresh (K1 _))
def LH (ta:TA):TI:=λσ H R=>ta σ H λvs H1=>∃j:Int,vs=[.int j]/\ -(2^62)<=j/\j < 2^62/\R (M1 0 j.toNat) H1
theorem A3 (hg:Gl X "range")(hm:X.mg "range" =none)(ha:PA X [a] ta)(hs:starEach [a] X.env=[(false,eval a X.env)]:=by rfl):PI X tg (.Call (.Name "range" p) [a] [] pos) (LH ta):=by
 intro pins s σ H R I h
 refine Call_ (fw I hg hm boot_range (PyProof.Rows.callWith_type1 (dv (ha pos pins s σ H _ I h) λus s1 ⟨vs,H1,I1,r1,q1⟩=> ?_) hs rfl))
 obtain⟨j,e,q1,q2,q⟩:=q1
 subst e
 cases r1 with
 | cons r rr=>
  cases rr
  obtain⟨t,rfl⟩:=r
  exact call_range_1 (Cz I1 (!1) (!1) q1 q2 (by simpa using q))
def ND (wi:TI)(g:TG)(tb:TS):TS:=λD σ H=>wi σ H λJ H1=>∃W:Nat->Nat->St->Hp->Prop,(∃m,W 0 m σ H1)/\∀i m σ H,W i m σ H->
 (J.stop i H/\D.nx σ H)∨(J.go i H/\∃N:St->Hp->Prop,(∀σ' H',N σ' H'->∃m',m' < m/\W (i+1) m' σ' H')/\∀x H',J.LF i H x H'->g x σ H' λσ2 H2=>tb {D with nx:=N,ct:=N,bk:=D.nx} σ2 H2)
noncomputable def qg (fp:List Addr)(h:Heap):List (Addr×Obj):=fp.filterMap λb=>(h.get? b).map λo=>(b,o)
theorem jW (hb:b∈fp)(e:h.get? b=some o):(b,o)∈qg fp h:=List.mem_filterMap.mpr ⟨b,hb,by rw[e];rfl⟩
theorem A4 (hp:p∈qg fp h):p.1∈fp/\h.get? p.1=some p.2:=by
 obtain⟨b,hb,e⟩:=List.mem_filterMap.mp hp
 cases q:h.get? b with
 | none=>rw[q] at e;cases e
 | some o=>
  rw[q] at e
  have e':(b,o)=p:=Option.some.inj e
  subst e'
  exact⟨hb,q⟩
theorem Inv.pinned (I:Inv X pins σ H s)(hf:∀b∈fp,oa X pins H b)(ho:∀b∈fp,∃o,s.heap.get? b=some o/\∀v,o.data≠ .cell v):Inv X (pins++qg fp s.heap) σ H s :=
 I.zL λp hp=>(Kk.mp hp).elim (λz=>I.pin p (Kx _ z)) λz=>by
  obtain⟨hb,e⟩:=A4 z
  obtain⟨f0,f1,f2,_⟩:=hf p.1 hb
  obtain⟨o,e',d⟩:=ho p.1 hb
  rw[e] at e';cases e'
  exact⟨e,f0,f1,f2,d⟩
theorem Inv.mP (I:Inv X (pins++pl) σ H s):Inv X pins σ H s:=I.zL λp hp=>I.pin p (Kx _ (X9 _ hp))
theorem uB (hp:PassesOwn (!7) X.A X.env X.xe)(hc:X.calm=true)(hi:PI X tg iter wi)(hg:PG X tg g)(hb:qf X body tb)
  (hs:∀x,foldedSetIterable iter X.env x=pure x:=by intro _;rfl):PS X (.For tg iter body [] pos) (ND wi g tb):=by
 intro pins s σ H D I h
 refine wpAny_For (dv (hi pins s σ H _ I h) λv s1 h1=>dv h1 λitv s2 h2=> ?_) hs
 obtain⟨it,fp,tn,J,H2,e,I2,T,st2,f2,W,⟨m0,w0⟩,turn⟩:=h2
 subst e
 have stat:∀{H':Hp},(∀b∈fp,H' b=none)->∀b∈fp,oa X pins H' b:=λhn b hb=>⟨hn b hb,(f2 b hb).2⟩
 refine codeAny_forLoop_any (λn s'=>∃i σ' H',Inv X pins σ' H' s'/\tn i s'.heap/\(∀b∈fp,H' b=none)/\W i n σ' H') ?_ m0 ⟨0,σ,H2,I2,st2,λb hb=>(f2 b hb).1,w0⟩
 rintro n s3 ⟨i,σ3,H3,I3,st3,LI,w3⟩
 rcases turn i n σ3 H3 w3 with⟨stop,qn⟩ | ⟨go,N,hN,step⟩
 ·refine wpAny_passesOwn hp (dv (T.done X rfl rfl rfl hc i pins s3 σ3 H3 X.xe I3 (stat LI) st3 stop) λr s4 ⟨hr,I4⟩=> ?_)
  subst hr
  exact wpAny_execs_nil ⟨σ3,H3,I4,qn⟩
 ·refine wpAny_passesOwn hp (dv (T.item X rfl rfl rfl hc i pins s3 σ3 H3 X.xe I3 (stat LI) st3 go) λr s4 ⟨u,hr,h4⟩=> ?_)
  subst hr
  refine wpAny_passesOwn hp (dv h4 λ_ s5 ⟨x,H5,I5,r5,y5,Iq,NF⟩=> ?_)
  have NG:=I5.pinned (stat NF) (T.obj _ _ Iq)
  refine wpAny_passesOwn hp (dv (hg _ s5 σ3 H5 x u _ NG r5 (step x H5 y5)) λ_ s6 ⟨σ6,H6,I6,q6⟩=> ?_)
  refine wpAny_passesOwn hp (dv (hb _ s6 σ6 H6 _ I6 q6) λf s7 q7=> ?_)
  have again:∀{σ7:St} {H7:Hp},Inv X (pins++qg fp s5.heap) σ7 H7 s7->N σ7 H7->∃m,m < n/\∃i σ' H',Inv X pins σ' H' s7/\tn i s7.heap/\(∀b∈fp,H' b=none)/\W i m σ' H':=λ{σ7 H7} I7 n7=>by
   obtain⟨m',hm,w7⟩:=hN σ7 H7 n7
   refine⟨m',hm,i+1,σ7,H7,I7.mP,T.keep _ _ _ Iq λb hb o e=>(I7.pin (b,o) (Kx _ (Kx _ (jW hb e)))).1,λb hb=> ?_,w7⟩
   obtain⟨o,e,d⟩:=T.obj _ _ Iq b hb
   exact(I7.pin (b,o) (Kx _ (Kx _ (jW hb e)))).2.1
  cases f with
  | next=>obtain⟨σ7,H7,I7,n7⟩:=q7;exact again I7 n7
  | cont=>obtain⟨σ7,H7,I7,n7⟩:=q7;exact again I7 n7
  | brk=>obtain⟨σ7,H7,I7,q7⟩:=q7;exact⟨σ7,H7,I7.mP,q7⟩
  | ret v=>obtain⟨x7,σ7,H7,I7,r7,q7⟩:=q7;exact⟨x7,σ7,H7,I7.mP,r7,q7⟩
end
abbrev R2:=V->V->Hp->VK->Prop
def pV (X:Cx)(f:Value->Value->Sem Value)(r:R2):Prop :=
 ∀(pins:List (Addr×Obj)) (s:Shared) (σ:St) (H:Hp) (x y:V) (v u:Value) (Q:VK),Inv X pins σ H s->RelV x v->RelV y u->r x y H Q->
  wpAny (!7) X.A (f v u) (EP X pins σ Q) X.xe s
def iF (X:Cx)(f:Value)(r:List V->Hp->VK->Prop):Prop :=
 ∀(pins:List (Addr×Obj)) (s:Shared) (σ:St) (H:Hp) (xs:List V) (us:List Value) (Q:VK),Inv X pins σ H s->Vals xs us->r xs H Q->
  wpAny (!7) X.A (call f us) (EP X pins σ Q) X.xe s
def M3 (r:R2)(ta tb:TE):TE:=λσ H Q=>ta σ H λx H1=>tb σ H1 λy H2=>r x y H2 Q
def rI (C:Int->Int->Prop)(g:Int->Int->V):R2:=λx y H Q=>∃i j,x= .int i/\y= .int j/\C i j/\Q (g i j) H
def Hh (g:Int->Int->V):R2:=λx y H Q=>∃i j,x= .int i/\y= .int j/\Q (g i j) H
section
variable {X:Cx}
theorem Ir (ha:PE X a ta)(hb:PE X b tb){σ:St}{R:V->V->Hp->Prop}(I:Inv X pins σ H s)
  (h:ta σ H λx H1=>tb σ H1 λy H2=>R x y H2) {Q:Z3} {f:Value->Value->Sem Value}
  (hf:∀v u s2 x y H2,Inv X pins σ H2 s2->RelV x v->RelV y u->R x y H2->wpAny (!7) X.A (f v u) Q X.xe s2) :
  wpAny (!7) X.A (eval a X.env) (λv s₁=>wpAny (!7) X.A (eval b X.env) (λu s₂=>wpAny (!7) X.A (f v u) Q X.xe s₂) X.xe s₁) X.xe s:=by
 refine dv (ha pins s σ H _ I h) λv s1 ⟨x,H1,I1,r1,q1⟩=> ?_
 refine dv (hb pins s1 σ H1 _ I1 q1) λu s2 ⟨y,H2,I2,r2,q2⟩=> ?_
 exact hf v u s2 x y H2 I2 r1 r2 q2
theorem Hi (ho:pV X (binaryOp op) r)(ha:PE X a ta)(hb:PE X b tb):PE X (.BinOp a op b pos) (M3 r ta tb):=by
 intro pins s σ H Q I h
 exact wpAny_BinOp (Ir ha hb I h λv u s2 x y H2 I2 rx ry q=>ho pins s2 σ H2 x y v u Q I2 rx ry q)
theorem NH {f:Value->Value->Sem Value}{C:Int->Int->Prop}{g:Int->Int->Int}
  (rule:∀(i j:Int) (t u:Tok) (s:Shared) (Q:Z3) (E:Z3),C i j->Q (.int (g i j) s.toks) {s with toks:=s.toks+1}->wpAny (!7) X.A (f (.int i t) (.int j u)) Q E s) :
  pV X f (rI C λi j=> .int (g i j)):=by
 intro pins s σ H x y v u Q I rx ry h
 obtain⟨i,j,rfl,rfl,hc,q⟩:=h
 obtain⟨t,rfl⟩:=rx
 obtain⟨t',rfl⟩:=ry
 exact rule i j t t' s _ _ hc ⟨.int (g i j),H,I.tok _,⟨_,rfl⟩,q⟩
theorem LJ {f:Value->Value->Sem Value}{g:Int->Int->Int}
  (rule:∀(i j:Int) (t u:Tok) (s:Shared) (Q:Z3) (E:Z3),Q (.int (g i j) s.toks) {s with toks:=s.toks+1}->wpAny (!7) X.A (f (.int i t) (.int j u)) Q E s) :
  pV X f (Hh λi j=> .int (g i j)):=by
 intro pins s σ H x y v u Q I rx ry h
 obtain⟨i,j,rfl,rfl,q⟩:=h
 obtain⟨t,rfl⟩:=rx
 obtain⟨t',rfl⟩:=ry
 exact rule i j t t' s _ _ ⟨.int (g i j),H,I.tok _,⟨_,rfl⟩,q⟩
theorem Iu {f:Value->Value->Sem Value}{g:Int->Int->Bool}
  (rule:∀(i j:Int) (t u:Tok) (s:Shared) (Q:Z3) (E:Z3),Q (.bool (g i j)) s->wpAny (!7) X.A (f (.int i t) (.int j u)) Q E s) :
  pV X f (Hh λi j=> .bl (g i j)):=by
 intro pins s σ H x y v u Q I rx ry h
 obtain⟨i,j,rfl,rfl,q⟩:=h
 obtain⟨t,rfl⟩:=rx
 obtain⟨t',rfl⟩:=ry
 exact rule i j t t' s _ _ ⟨.bl (g i j),H,I,rfl,q⟩
def NI (i j:Int):Prop:=0<=j/\j<=1000000/\i.natAbs < 2^64
def Iv (i j:Int):Prop:=(-(2^64) < i/\i < 2^64)∨(-(2^64) < j/\j < 2^64)
theorem Iv.ok (h:Iv i j):IntMulOk i j:=by
 rcases h with⟨h1,h2⟩ | ⟨h1,h2⟩
 ·exact .of_left (intBits_le_64 h1 h2)
 ·exact .of_right (intBits_le_64 h1 h2)
theorem Iw:pV X (binaryOp .Add) (Hh λi j=> .int (i+j)):=LJ λ_ _ _ _ _ _ _ q=>add_int q
theorem Iy:pV X (binaryOp .Sub) (Hh λi j=> .int (i - j)):=LJ λ_ _ _ _ _ _ _ q=>sub_int q
theorem Iz:pV X (binaryOp .Mult) (rI Iv λi j=> .int (i*j)):=NH λ_ _ _ _ _ _ _ hc q=>mul_int q hc.ok
theorem IA:pV X (binaryOp .Mod) (rI (λ_ j=>0 < j) λi j=> .int (i % j)):=NH λi j _ _ _ _ _ hc q=>by
 have h1:(0:Int) < j:=hc
 exact mod_int' (!1) (by rw[Int.fmod_eq_emod_of_nonneg i (!1)];exact q)
theorem IB:pV X (binaryOp .Pow) (rI NI λi j=> .int (i^j.toNat)):=NH λ_ _ _ _ _ _ _ hc q=>pow_int_small hc.1 hc.2.1 hc.2.2 q
end
section
--
theorem IC (I:Inv X pins σ H s)(q:Q (.bl k) H)(e:k=k'):EP X pins σ Q (.bool k') s:=by
 subst e
 exact⟨.bl k,H,I,rfl,q⟩
theorem LK:pV X (compareOp .Lt) (Hh λi j=> .bl (decide (i < j))):=Iu λ_ _ _ _ _ _ _ q=>lt_int q
theorem LL:pV X (compareOp .Gt) (Hh λi j=> .bl (decide (j < i))):=Iu λ_ _ _ _ _ _ _ q=>gt_int q
theorem LM:pV X (compareOp .GtE) (Hh λi j=> .bl (decide (j<=i))):=Iu λ_ _ _ _ _ _ _ q=>ge_int q
theorem E8:pV X (compareOp .IsNot) (λx y H Q=>y= .non/\Q (.bl (!decide (x= .non))) H):=by
 intro pins s σ H x y v u Q I rx ry h
 obtain⟨rfl,q⟩:=h
 cases ry
 refine isnot_none_gen (IC I q ?_)
 cases x <;> first
  | (cases rx;rfl)
  | (obtain⟨t,rfl⟩:=rx;rfl)
theorem pV.or (h:pV X f r)(h':pV X f r'):pV X f (λx y H Q=>r x y H Q∨r' x y H Q):=by
 intro pins s σ H x y v u Q I rx ry q
 rcases q with q | q
 ·exact h pins s σ H x y v u Q I rx ry q
 ·exact h' pins s σ H x y v u Q I rx ry q
theorem cC (b:Expr)(h:op≠ .In:=by decide)(h2:op≠ .NotIn:=by decide):behindInMarks op b=false:=by
 have e1:(op==CmpOp.In)=false:=by cases op <;> first | rfl | exact absurd rfl h
 have e2:(op==CmpOp.NotIn)=false:=by cases op <;> first | rfl | exact absurd rfl h2
 cases b <;> simp[behindInMarks,e1,e2]
theorem E9 (ho:pV X (compareOp op) r)(ha:PE X a ta)(hb:PE X b tb)(hm:behindInMarks op b=false):PE X (.Compare a [op] [b] pos) (M3 r ta tb):=by
 intro pins s σ H Q I h
 exact wpAny_Compare1 (Ir ha hb I h λv u s2 x y H2 I2 rx ry q=>ho pins s2 σ H2 x y v u Q I2 rx ry q) hm
def LN (t:TE):TT:=λσ H Q=>t σ H λx H'=>∃k,x= .bl k/\Q k H'
theorem E_ (ho:pV X (compareOp op) r)(ha:PE X a ta)(hb:PE X b tb)(hm:behindInMarks op b=false):PT X (.Compare a [op] [b] pos) (LN (M3 r ta tb)):=by
 intro pins s σ H Q I h
 refine wpAny_isTrue_Compare1 (dv (ha pins s σ H _ I h) λv s1 ⟨x,H1,I1,r1,q1⟩=>dv (hb pins s1 σ H1 _ I1 q1) λu s2 ⟨y,H2,I2,r2,q2⟩=>
  dv (ho pins s2 σ H2 x y v u _ I2 r1 r2 q2) λc s3 ⟨z,H3,I3,r3,k,e,q3⟩=> ?_) hm
 subst e
 cases r3
 exact wpAny_truthy_bool ⟨H3,I3,q3⟩
theorem kM:(sizeLine:Nat) < 2^63:=by rw[sizeLine_eq];decide
theorem vals1 (r:Vals [x] us):∃u,us=[u]/\RelV x u:=by
 cases r with
 | cons r1 r2=>cases r2;exact⟨_,rfl,r1⟩
end
structure Cls (K:Frag)(C:Addr):Prop where
 pg:PySem.W.plainGet K C Str.empty=true
 hd:PySem.W.hasDictIn K C=true
 po:PySem.W.plainOver K C=true
 sa:PySem.W.findIn K (.ref C) "__setattr__" =some (some (.builtin "object.__setattr__"))
theorem Cls.get {K:Frag}{C:Addr}(c:Cls K C)(f:Str):PySem.W.plainGet K C f=true:=c.pg
section
variable {s:Shared}
theorem Inv.made (I:Inv X pins σ H s):Inv X pins σ (upd (upd H s.heap.objs.size (.own (s.heap.objs.size+1))) (s.heap.objs.size+1) (.ins C s.heap.objs.size []))
  {s with heap:=(s.heap.push PySem.W.emptyDict).push (PySem.W.instObj C s.heap.objs.size)}:=by
 have e1:(s.heap.push PySem.W.emptyDict).get? s.heap.objs.size=some PySem.W.emptyDict:=Ky s.heap rfl
 have e2:((s.heap.push PySem.W.emptyDict).push (PySem.W.instObj C s.heap.objs.size)).get? (s.heap.objs.size+1)=some (PySem.W.instObj C s.heap.objs.size):=by
  have:=Ky (s.heap.push PySem.W.emptyDict) (o:=PySem.W.instObj C s.heap.objs.size) rfl
  rwa [XJ] at this
 have e3:(s.heap.push PySem.W.emptyDict).Ns s.heap.objs.size (λ_=>none):=⟨PySem.W.emptyDict,#[],_,e1,rfl,(λe he=>absurd he (by simp)),λ_=>rfl⟩
 have I1:=I.laid (a:=s.heap.objs.size) (o:=.own (s.heap.objs.size+1)) (h':=s.heap.push PySem.W.emptyDict) (t':=s.toks) (λb u q=>K8 _ q) (K1 _) ⟨_,e1⟩
 refine I1.laid (a:=s.heap.objs.size+1) (o:=.ins C s.heap.objs.size []) (t':=s.toks) (λb u q=>K8 _ q) (Nat.le_of_eq (XJ _ _)) ?_
 have ne:s.heap.objs.size≠s.heap.objs.size+1:=X3 (Uz _)
 refine⟨by rw[aR ne,az],Xw _,ne,e2,λ_=>none,(Heap.Ns1.of_empty e3).at λo q=>K8 _ q,λ_=>True.intro,λy hy=>absurd rfl hy⟩
end
structure eH (k:Nat)(A:Around):Prop where
 hd:A.handled=none
 dp:A.depth+3*k+5 < recursionLimit
 un:A.units+16*k+200 < cLine
theorem eH.mono (r:eH k A)(h:j<=k):eH j A:=⟨r.hd,by have:=r.dp;omega,by have:=r.un;omega⟩
theorem eH.deeper (r:eH (k+1) A)(env:Env):eH k (A.deeper env) :=
 ⟨r.hd,by have:=r.dp;show A.depth+1+3*k+5 < _;omega,by have:=r.un;show A.units+3+16*k+200 < _;omega⟩
theorem eH.in1 (r:eH (k+1) A):eH k A.in1 :=
 ⟨r.hd,by have:=r.dp;show A.depth+3*k+5 < _;omega,by have:=r.un;show A.units+1+16*k+200 < _;omega⟩
theorem yy {A:Around}:(A.under (.builtin "type.__call__" ⟨.ref C :: us,kw⟩)).depth=A.depth+1:=by
 first | rfl | simp[Around.under,Code.weight,Code.isCreation,Code.isGuard,Code.isCaller,Code.frames,Code.isFrame,guardIds]
theorem yz {A:Around}:(A.under (.builtin "type.__call__" ⟨.ref C :: us,kw⟩)).units=A.units+1:=by
 first | rfl | simp[Around.under,Code.cUnits,Code.frames,Code.isFrame]
theorem eH.make (r:eH (k+1) A)(C:Addr)(us:List Value)(kw:List (Str×Value)):eH k (A.under (.builtin "type.__call__" ⟨.ref C :: us,kw⟩)) :=
 ⟨r.hd,by have:=r.dp;rw[yy];omega,by have:=r.un;rw[yz];omega⟩
theorem eH.depth (r:eH k A):A.depth < recursionLimit:=by have:=r.dp;omega
theorem eH.units (r:eH k A):A.units+64 < cLine:=by have:=r.un;omega
def NJ:TA:=λ_ H Q=>Q [] H
def LO (ta:TE)(tr:TA):TA:=λσ H Q=>ta σ H λx H1=>tr σ H1 λxs H2=>Q (x :: xs) H2
section
variable {X:Cx}
theorem cO:PA X [] NJ:=λ_ _ _ _ H Q I h=>Calls.spliced_nil ⟨[],H,I,.nil,h⟩
theorem bv (ha:PE X e te)(hr:PA X es t)(hs:starEach (e :: es) X.env=(false,eval e X.env) :: starEach es X.env:=by rfl):PA X (e :: es) (LO te t):=by
 intro pos pins s σ H Q I h
 rw[hs]
 show wpAny _ _ (spliced ((false,eval e X.env) :: backTo pos (starEach es X.env))) _ _ s
 refine Calls.spliced_cons (dv (ha pins s σ H _ I h) λu s1 ⟨x,H1,I1,r1,q1⟩=> ?_)
 exact dv (hr pos pins s1 σ H1 _ I1 q1) λus s2 ⟨xs,H2,I2,r2,q2⟩=>⟨x :: xs,H2,I2,.cons r1 r2,q2⟩
def NL (t:TA):TE:=λσ H Q=>t σ H λxs H1=>xs.length<=sizeLine/\∀p,H1 p=none->Q (.ref p) (upd H1 p (.tup xs))
def NM (t:TA):TE:=λσ H Q=>t σ H λxs H1=>xs.length<=sizeLine/\∀p,H1 p=none->Q (.ref p) (upd H1 p (.lst xs))
theorem ID {x1}(h:PA X es t):PE X (.Tuple es x1 pos) (NL t):=by
 intro pins s σ H Q I hq
 refine wpAny_Tuple_spliced (dv (h pos pins s σ H _ I hq) λus s1 ⟨xs,H1,I1,r,z,q⟩=>⟨by rw[←r.length];exact z,?_⟩)
 have hf:H1 s1.heap.objs.size=none:=I1.hok.fresh (K1 _)
 refine⟨.ref s1.heap.objs.size,upd H1 s1.heap.objs.size (.tup xs),I1.laid (t':=s1.toks) (λb u e=>K8 _ e) (K1 _) ?_,rfl,q _ hf⟩
 exact⟨z,us,r,⟨_,Ky _ rfl,rfl,_,rfl⟩⟩
theorem CA (h:PA X es t):PE X (.List es pos) (NM t):=by
 intro pins s σ H Q I hq
 refine wpAny_List_spliced (dv (h pos pins s σ H _ I hq) λus s1 ⟨xs,H1,I1,r,z,q⟩=>⟨by rw[←r.length];exact z,?_⟩)
 have hf:H1 s1.heap.objs.size=none:=I1.hok.fresh (K1 _)
 refine⟨.ref s1.heap.objs.size,upd H1 s1.heap.objs.size (.lst xs),I1.laid (t':=s1.toks) (λb u e=>K8 _ e) (K1 _) ?_,rfl,q _ hf⟩
 exact⟨z,us,0,r,Ky _ rfl⟩
end
abbrev Sp:=List V->Hp->VK->XK->Prop
abbrev zP:=List Env->Hp->Shared->XK->Value->Shared->Prop
structure sG (P:Program)(w:World)(K:Frag)(mg:Str->Option Value)(base:Heap)(A:Around)(outer:List Env)(s:Shared)(H:Hp):Prop where
 frames:A.frames=some outer
 mod:Mod K mg base
 bs:∀b o,base.get? b=some o->s.heap.get? b=some o/\H b=none
 yr:base.objs.size<=s.heap.objs.size
 lV:s.heap.FunFrames base outer
 Cr:∀b∈frs outer,H b=none
 hok:pS P w H s.heap
 bare:AllBare s.gens
def CE (outer:List Env)(P:Program)(w:World)(H:Hp)(s:Shared)(Q:VK)(u:Value)(s':Shared):Prop :=
 ∃v H',s'.os=s.os/\AllBare s'.gens/\Un (frs outer) [] H H' s.heap s'.heap/\pS P w H' s'.heap/\RelV v u/\Q v H'
def CR (CX:zP)(outer:List Env)(P:Program)(w:World)(H:Hp)(s:Shared)(Q:VK)(E:XK)(r:Result)(s':Shared):Prop :=
 match r with
 | .ok (.ret u)=>CE outer P w H s Q u s'
 | .ok _=>False
 | .error e=>CX outer H s E e s'
structure jy (P:Program)(w:World)(K:Frag)(mg:Str->Option Value)(base:Heap)(CX:zP)(k:Nat)(f:Addr)(fd:FuncData)(ps:List Str)(sp:Sp):Prop where
 len:∀vs H Q E,sp vs H Q E->vs.length=ps.length
 run:∀(A:Around) (outer:List Env) (s:Shared) (H:Hp) (args:Args) (us:List Value) (vs:List V) (Q:VK) (E:XK),eH k A->sG P w K mg base A outer s H->BindsTo s fd args (ps.zip us)->Vals vs us->sp vs H Q E->
  codeAny (model P w) A (.call (.ref f) args) (CR CX outer P w H s Q E) s
theorem jy.mono {P:Program}{w:World}{K:Frag}{mg:Str->Option Value}{base:Heap}{CX:zP}{j k:Nat}{f:Addr}{fd:FuncData}{ps:List Str}{sp:Sp}(F:jy P w K mg base CX j f fd ps sp)(h:j<=k) :
  jy P w K mg base CX k f fd ps sp:=⟨F.len,λA outer s H args us vs Q E hr=>F.run A outer s H args us vs Q E (hr.mono h)⟩
theorem jy.imp {P:Program}{w:World}{K:Frag}{mg:Str->Option Value}{base:Heap}{CX:zP}{k:Nat}{f:Addr}{fd:FuncData}{ps:List Str}{sp ON:Sp}(F:jy P w K mg base CX k f fd ps sp)
  (h:∀vs H Q E,ON vs H Q E->sp vs H Q E):jy P w K mg base CX k f fd ps ON :=
 ⟨λvs H Q E q=>F.len vs H Q E (h _ _ _ _ q),λA outer s H args us vs Q E hr he hb hv hs=>F.run A outer s H args us vs Q E hr he hb hv (h _ _ _ _ hs)⟩
theorem sG.make {P:Program}{w:World}{K:Frag}{mg:Str->Option Value}{base:Heap}{A:Around}{outer:List Env}{s:Shared}{H:Hp}(e:sG P w K mg base A outer s H)(C:Addr)(us:List Value)(kw:List (Str×Value)) :
  sG P w K mg base (A.under (.builtin "type.__call__" ⟨.ref C :: us,kw⟩)) outer s H:=⟨by first | exact e.frames | (simpa [Around.under,Code.envs,Code.isFrame,pushEnvs] using e.frames),e.mod,e.bs,e.yr,e.lV,e.Cr,e.hok,e.bare⟩
theorem sG.in1 {P:Program}{w:World}{K:Frag}{mg:Str->Option Value}{base:Heap}{A:Around}{outer:List Env}{s:Shared}{H:Hp}(e:sG P w K mg base A outer s H) :
  sG P w K mg base A.in1 outer s H:=⟨e.frames,e.mod,e.bs,e.yr,e.lV,e.Cr,e.hok,e.bare⟩
section
variable {X:Cx}{s:Shared}
theorem Inv.env0 (I:Inv X pins σ H s):sG X.prog X.w X.K X.mg X.base X.A X.stack s H :=
 ⟨I.ok.frames,I.ok.mod,I.bs,Kz I.ok.yr I.sz,I.stack,I.uy,I.hok,I.bare⟩
theorem Inv.after (I:Inv X pins σ H s)(h:CE X.stack X.prog X.w H s Q u s'):EP X pins σ Q u s':=by
 obtain⟨v,H',os,bare,un,hok,r,q⟩:=h
 obtain⟨hh,g,d,t,os'⟩:=s'
 obtain rfl:os'=s.os:=os
 exact⟨v,H',I.call (h':=hh) (g':=g) (d':=d) (t':=t) (ch:=[]) un hok bare (λb z=>absurd z (by simp)),r,q⟩
end
def LP (sp:Sp)(Hj:List V)(E:XK)(t:TA):TE:=λσ H Q=>t σ H λvs H1=>sp (vs++Hj) H1 Q E
def Binds (K:Frag)(fd:FuncData)(ps:List Str)(ds:List Value):Prop :=
 ∀(s:Shared) (us:List Value),K.In s.heap->(us++ds).length=ps.length->BindsTo s fd ⟨us,[]⟩ (ps.zip (us++ds))
theorem Binds.all {K:Frag}{fd:FuncData}{ps:List Str}(h:∀us:List Value,us.length=ps.length->bindArgs fd ⟨us,[]⟩=pure (ps.zip us)):Binds K fd ps []:=λs us _ hl=>by
 rw[Xz] at hl⊢
 exact .of_eq (h us hl)
def Passes (CX:zP)(X:Cx)(E:XK):Prop:=∀(pins:List (Addr×Obj)) (σ:St) (H:Hp) (s:Shared) (e:Value) (s':Shared),Inv X pins σ H s->CX X.stack H s E e s'->X.xe e s'
section
variable {X:Cx}{ps:List Str}
theorem IE (F:jy X.prog X.w X.K X.mg X.base CX k f fd ps sp)(hr:eH k X.A)(hb:Binds X.K fd ps ds)(hd:Vals Hj ds)(hx:Passes CX X E)
  (I:Inv X pins σ H s) (r:Vals vs us) (h:sp (vs++Hj) H Q E):wpAny (!7) X.A (call (.ref f) us) (EP X pins σ Q) X.xe s:=by
 have r2:Vals (vs++Hj) (us++ds):=r.append hd
 have hl:(us++ds).length=ps.length:=by rw[←r2.length];exact F.len _ _ _ _ h
 refine wpAny_call (codeAny_mono (F.run X.A X.stack s H ⟨us,[]⟩ (us++ds) (vs++Hj) Q E hr I.env0 (hb s us I.A1 hl) r2 h) λr s' hq=> ?_)
 cases r with
 | error e=>exact hx pins σ H s e s' I hq
 | ok fl=>
  cases fl with
  | ret u=>exact I.after hq
  | next=>exact False.elim hq
  | brk=>exact False.elim hq
  | cont=>exact False.elim hq
theorem zQ (F:jy X.prog X.w X.K X.mg X.base CX k f fd ps sp)(hr:eH k X.A)(hg:Gl X x)(hm:X.mg x=some (.ref f))(hk:keepIn X.K (.ref f)=true)(hb:Binds X.K fd ps ds)(hd:Vals Hj ds)(hx:Passes CX X E)
  (ha:PA X (e :: es) t) (hdb:(x==("__debug__":Str))=false:=by decide) (he:starEach (e :: es) X.env=(false,eval e X.env) :: starEach es X.env:=by rfl) (hpl:(backTo pos (starEach es X.env)).any (·.1)=false:=by rfl) :
  PE X (.Call (.Name x p) (e :: es) [] pos) (LP sp Hj E t):=by
 intro pins s σ H Q I h
 refine wpAny_Call_Name_kw (zM I hg hm ?_ hdb)
 refine PySem.W.callWith_K (h₀:=X.base) I.ok.mod.MX hk (dv (ha pos pins s σ H _ I h) λus s1 ⟨vs,H1,I1,r,q⟩=>⟨I1.A1,?_⟩) he hpl
 exact IE F hr hb hd hx I1 r q
end
structure aL (N P:List Str)(sc:Scope):Prop where
 kind:sc.kind= .function
 co:sc.isCoroutine=false
 gen:sc.isGenerator=false
 nd:N.Nodup
 pre:N.take P.length=P
 par:∀x∈P,sc.names.lookup x=some .local∨sc.names.lookup x=some .cell
 IG:∀y∈sc.names,y.2≠ .free
theorem sX {kindOf:Str->Option NameKind}:∀{binds:List (Str×Value)} {m:Str->Option Value},(∀v,(x,v)∉binds)->bindL kindOf binds m x=m x
 | [],_,_=>rfl
 | (n,v) :: r,m,h=>by
  unfold bindL
  rw[sX λw hw=>h w (K9 _ hw)]
  split
  ·have:x≠n:=by rintro rfl;exact h v K7
   simp[this]
  ·rfl
theorem sY {kindOf:Str->Option NameKind}:∀{binds:List (Str×Value)} {m:Str->Option Value},(∀v,(x,v)∉binds)->bindC kindOf binds m x=m x
 | [],_,_=>rfl
 | (n,v) :: r,m,h=>by
  unfold bindC
  rw[sY λw hw=>h w (K9 _ hw)]
  split
  ·rfl
  ·have:x≠n:=by rintro rfl;exact h v K7
   simp[this]
theorem sZ {kindOf:Str->Option NameKind}:∀{P:List Str} {vs:List Value} {i:Nat} {m:Str->Option Value},P.Nodup->P[i]? =some x->vs[i]? =some v->kindOf x=some .local->
  bindL kindOf (P.zip vs) m x=some v
 | [],_,_,_,_,h,_,_=>by simp at h
 | _ :: _,[],_,_,_,_,h,_=>by simp at h
 | p :: P,w :: vs,0,m,nd,h1,h2,hk=>by
  simp at h1 h2;subst h1;subst h2
  show bindL kindOf ((p,w) :: P.zip vs) m p=_
  unfold bindL
  rw[sX λv hv=>(KJ.mp nd).1 (List.of_mem_zip hv).1,JQ hk]
  simp
 | p :: P,w :: vs,i+1,m,nd,h1,h2,hk=>by
  show bindL kindOf ((p,w) :: P.zip vs) m x=_
  unfold bindL
  exact sZ (i:=i) (KJ.mp nd).2 (by simpa using h1) (by simpa using h2) hk
theorem s_ {kindOf:Str->Option NameKind}:∀{P:List Str} {vs:List Value} {i:Nat} {m:Str->Option Value},P.Nodup->P[i]? =some x->vs[i]? =some v->kindOf x≠some .local->
  bindC kindOf (P.zip vs) m x=some v
 | [],_,_,_,_,h,_,_=>by simp at h
 | _ :: _,[],_,_,_,_,h,_=>by simp at h
 | p :: P,w :: vs,0,m,nd,h1,h2,hk=>by
  simp at h1 h2;subst h1;subst h2
  show bindC kindOf ((p,w) :: P.zip vs) m p=_
  unfold bindC
  rw[sY λv hv=>(KJ.mp nd).1 (List.of_mem_zip hv).1,JV hk]
  simp
 | p :: P,w :: vs,i+1,m,nd,h1,h2,hk=>by
  show bindC kindOf ((p,w) :: P.zip vs) m x=_
  unfold bindC
  exact s_ (i:=i) (KJ.mp nd).2 (by simpa using h1) (by simpa using h2) hk
noncomputable def start (N:List Str)(vs:List V):St:=vs.map some++List.replicate (N.length - vs.length) none
noncomputable def sH (CX:zP)(P:Program)(w:World)(K:Frag)(mg:Str->Option Value)(base:Heap)(N:List Str)(qual:Str)(scope:Scope)(f:Addr)(cd:Value)(A:Around)(outer:List Env)(s:Shared)(H:Hp)(E:XK):Cx where
 prog:=P
 w:=w
 K:=K
 mg:=mg
 base:=base
 A:=A.deeper (envOfC qual scope s.heap.objs.size f cd)
 N:=N
 s₀:=s
 H₀:=H
 env:=envOfC qual scope s.heap.objs.size f cd
 outer:=outer
 stack:=envOfC qual scope s.heap.objs.size f cd :: outer
 ex:=[]
 calm:=true
 fn:=λ_=>true
 pn:=[]
 xe:=λe s'=>wpAny (model P w) (A.deeper (envOfC qual scope s.heap.objs.size f cd)) (leaving (envOfC qual scope s.heap.objs.size f cd) e) (λ_ s''=>CX outer H s E e s'') (λe' s''=>CX outer H s E e' s'') s'
theorem wd {sc:Scope}(h:sc.names.lookup x=some .cell):∃c,(cellsFrom n sc.names []).lookup x=some c:=by
 have q:=PySem.W.cellsFrom_some sc.names n [] (.inl h)
 exact Option.isSome_iff_exists.mp q
theorem A5 {CX:zP}{P:Program}{w:World}{K:Frag}{mg:Str->Option Value}{base:Heap}{N ps:List Str}{qual:Str}{scope:Scope}{f:Addr}{cd:Value}{A:Around}{outer:List Env}{s s1:Shared}{H:Hp}{E:XK}{us:List Value}{vs:List V}
  (S:aL N ps scope) (hd:A.handled=none) (e0:sG P w K mg base A outer s H) (hl:vs.length=ps.length) (r:Vals vs us)
  (x:InCallC s s.heap.objs.size (bindL (envOfC qual scope s.heap.objs.size f cd).kindOf (ps.zip us) λ_=>none) (cellsFrom (s.heap.objs.size+1) scope.names []) (bindC (envOfC qual scope s.heap.objs.size f cd).kindOf (ps.zip us) λ_=>none) s1) :
  Inv (sH CX P w K mg base N qual scope f cd A outer s H E) [] (start N vs) H s1:=by
 have hpl:ps.length<=N.length:=by have:=congrArg List.length S.pre;rw[Xx] at this;omega
 obtain⟨h1,tk,rfl,hk⟩:=x.done
 have LQ:∀b:Addr,b∉(sH CX P w K mg base N qual scope f cd A outer s H E).ex:=λb z=>absurd (show b∈([]:List Addr) from z) (by simp)
 refine⟨⟨e0.mod,S.kind,rfl,rfl,K1 _,λy z c h1 h2=> ?_,λy hy=> ?_,λy c _ h=> ?_,λ_=>hd,Around.frames_deeper e0.frames,.inr ⟨rfl,rfl⟩,λb z=>absurd z (LQ b),e0.bs,e0.yr,λb _ _=>LQ b,λb z=>absurd z (LQ b),e0.lV,e0.Cr⟩,
  rfl,e0.bare,Un.kept hk,⟨_,x.toInCall.ns,λi y v h1 h2 h3=> ?_⟩,λy c h=>⟨_,x.cell y c h⟩,e0.hok.fresh (K1 _),λy c h=> ?_,λp hp=>absurd (show p∈([]:List (Addr×Obj)) from hp) (by simp),e0.hok.kept hk,?_⟩
 ·exact name_of_addr x.apart (PySem.mem_of_lookup h1) (PySem.mem_of_lookup h2)
 ·have hy:scope.names.lookup y=some .cell∨scope.names.lookup y=some .free:=hy
  rcases hy with hy | hy
  ·exact wd hy
  ·exact absurd rfl (S.IG _ (PySem.mem_of_lookup hy))
 ·exact Y1 (x.above y c (PySem.mem_of_lookup h))
 ·have hi:i < vs.length:=by
   unfold start at h2
   by_cases hi:i < vs.length
   ·exact hi
   ·rw[Xj (by simpa using hi)] at h2
    rw[J1] at h2
    split at h2 <;> cases h2
  have ha:vs[i]? =some v:=by
   unfold start at h2
   rw[Xu (by simpa using hi),KU] at h2
   cases e:vs[i]? with
   | none=>rw[e] at h2;cases h2
   | some a=>rw[e] at h2;cases h2;rfl
  obtain⟨u,hu,rv⟩:=r.get ha
  have hp:ps[i]? =some y:=by
   rw[←S.pre,List.getElem?_take_of_lt (!1)];exact h1
  have OO:ps.Nodup:=by rw[←S.pre];exact S.nd.sublist (J8 _ _)
  refine⟨u,rv,?_⟩
  rcases S.par y (UY hp) with k | k
  ·exact .inl ⟨k,sZ OO hp hu k⟩
  ·obtain⟨c,e⟩:=wd (n:=s.heap.objs.size+1) k
   refine .inr ⟨.inl k,c,e,?_⟩
   have q:=x.cell y c e
   rw[s_ OO hp hu (by show scope.names.lookup y≠_;rw[k];decide)] at q
   exact q
 ·exact e0.hok.fresh (Y1 (x.above y c (PySem.mem_of_lookup h)))
 ·unfold start
  show _=N.length
  rw[K2,K6,Uy]
  omega
theorem LR {CX:zP}{P:Program}{w:World}{K:Frag}{mg:Str->Option Value}{base:Heap}{k:Nat}{f:Addr}{name qual:Str}{params:Arguments}{body:List Stmt}{scope:Scope}{dV kV doc pm cdv ct oc:Value}{an od:Option Addr}
  {osl:Array (Option Value)} {N ps:List Str} {sp:Sp} (lk:K.lookup f=some ⟨oc,od,.func (fnOf name qual params body scope dV kV doc pm an cdv ct),osl⟩) (hcd:codeIn K cdv qual=true) (S:aL N ps scope)
  (len:∀vs H Q E,sp vs H Q E->vs.length=ps.length)
  (hbody:∀(A:Around) (outer:List Env) (s:Shared) (H:Hp) (vs:List V) (Q:VK) (E:XK),eH k (A.deeper (envOfC qual scope s.heap.objs.size f cdv))->sp vs H Q E->
   ∃t,qf (sH CX P w K mg base N qual scope f cdv A outer s H E) body t/\t {nx:=λ_ H'=>Q .non H',rt:=Q} (start N vs) H) :
  jy P w K mg base CX (k+1) f (fnOf name qual params body scope dV kV doc pm an cdv ct) ps sp:=by
 refine⟨len,λA outer s H args us vs Q E hr e0 hb r hsp=> ?_⟩
 have hl:=len _ _ _ _ hsp
 have KX:K.In s.heap:=e0.mod.MX.keeps λb o e=>(e0.bs b o e).1
 have lim:s.heap.NoLimit:=e0.mod.nolimit.keeps λb o e=>(e0.bs b o e).1
 have hkind:∀y∈ps.zip us,scope.names.lookup y.1=some .local∨(scope.names.lookup y.1=some .cell/\((cellsFrom (s.heap.objs.size+1) scope.names []).lookup y.1).isSome=true):=λ⟨n,v⟩ hy=>by
  rcases S.par n (List.of_mem_zip hy).1 with q | q
  ·exact .inl q
  ·exact .inr ⟨q,PySem.W.cellsFrom_some _ _ _ (.inl q)⟩
 refine codeAny_call_function hr.depth (KX _ _ lk) rfl S.co S.gen rfl (PySem.W.codeRec_of KX hcd) (hb _ _ _ _ ?_)
 refine wpAny_newFunctionEnv_cells S.kind hkind λenv he s1 x=> ?_
 subst he
 refine⟨lim.keeps x.toInCall.keep,codeAny_func ?_⟩
 obtain⟨t,ht,hq⟩:=hbody A outer s H vs Q E (hr.deeper _) hsp
 have I:Inv (sH CX P w K mg base N qual scope f cdv A outer s H E) [] (start N vs) H s1:=A5 S hr.hd e0 hl r x
 refine wpAny_mono (ht [] s1 (start N vs) H _ I hq) (λfl s' hs=> ?_) λe s' hs=>hs
 have fin:∀{σ':St} {H':Hp} {v:V} {u:Value},Inv (sH CX P w K mg base N qual scope f cdv A outer s H E) [] σ' H' s'->RelV v u->Q v H'->CE outer P w H s Q u s' :=
  λ{σ' H' v u} J rv q=>⟨v,H',J.os,J.bare,J.base,J.hok,rv,q⟩
 cases fl with
 | ret u=>
  obtain⟨v,σ',H',J,rv,q⟩:=hs
  exact fin J rv q
 | next=>
  obtain⟨σ',H',J,q⟩:=hs
  exact fin (v:=V.non) (u:=Value.none) J rfl q
 | brk=>
  obtain⟨_,_,_,q⟩:=hs
  exact False.elim q
 | cont=>
  obtain⟨_,_,_,q⟩:=hs
  exact False.elim q
section
variable {X:Cx}{x:Str}{p pos:Pos}{e:Expr}{es:List Expr}{t:TA}{id T:String}{r:List V->Hp->VK->Prop}
def NN (r:List V->Hp->VK->Prop)(t:TA):TE:=λσ H Q=>t σ H λvs H1=>r vs H1 Q
theorem wg (hc:iF X (.builtin id) r)(hg:Gl X x)(hm:X.mg x=none)(hv:bootBuiltins x=some (.builtin id))(ha:PA X (e :: es) t)(hn:x≠ "__name__":=by decide)(hdb:(x==("__debug__":Str))=false:=by decide)
  (he:starEach (e :: es) X.env=(false,eval e X.env) :: starEach es X.env:=by rfl) (hpl:(backTo pos (starEach es X.env)).any (·.1)=false:=by rfl):PE X (.Call (.Name x p) (e :: es) [] pos) (NN r t):=by
 intro pins s σ H Q I h
 refine wpAny_Call_Name_kw (fw I hg hm hv ?_ hn hdb)
 exact PyProof.Rows.callWith_builtin1 (dv (ha pos pins s σ H _ I h) λus s1 ⟨vs,H1,I1,r1,q1⟩=>hc pins s1 σ H1 vs us Q I1 r1 q1) he hpl
theorem A6 (hc:iF X (.type T) r)(hg:Gl X x)(hm:X.mg x=none)(hv:bootBuiltins x=some (.type T))(ha:PA X (e :: es) t)(hn:x≠ "__name__":=by decide)(hdb:(x==("__debug__":Str))=false:=by decide)
  (he:starEach (e :: es) X.env=(false,eval e X.env) :: starEach es X.env:=by rfl) (hpl:(backTo pos (starEach es X.env)).any (·.1)=false:=by rfl):PE X (.Call (.Name x p) (e :: es) [] pos) (NN r t):=by
 intro pins s σ H Q I h
 refine wpAny_Call_Name_kw (fw I hg hm hv ?_ hn hdb)
 exact PyProof.Rows.callWith_type1 (dv (ha pos pins s σ H _ I h) λus s1 ⟨vs,H1,I1,r1,q1⟩=>hc pins s1 σ H1 vs us Q I1 r1 q1) he hpl
end
end L2
namespace HT
open PySem PyProof.Rows
section
variable {s:Shared}
theorem Fa (ht:IsTup s.heap t vs.toArray)(hb:IsTup s.heap b ws.toArray)(hv:vs≠[])
  (h1:ws=[]->Q (.ref t) s) (h2:ws≠[]->Q (!6) {s with heap:=s.heap.push {cls:=.type "tuple",data:=.seq (vs++ws).toArray}})
  (hsz:vs.length+ws.length<=sizeLine):wpAny (!3) A (binaryOp .Add (.ref t) (.ref b)) Q E s:=by
 obtain⟨⟨cls,dd,data,sl⟩,ho,hc,n,hd⟩:=id ht
 obtain⟨⟨cls2,dd2,data2,sl2⟩,ho2,hc2,n2,hd2⟩:=id hb
 simp only at hc hd hc2 hd2
 subst hc hd hc2 hd2
 have e:vs.toArray++ws.toArray=(vs++ws).toArray:=by simp
 by_cases hw:ws=[]
 ·exact concat_meets ⟨_,ho,rfl⟩ ⟨_,ho2,rfl⟩ noFill_tuple_add seq_tuple_add PySem.F.slot_tuple_add PySem.F.entry_tuple_add (PySem.F.args_tuple_add_2 _ _)
   (tuple_addW1 t b vs.toArray ws.toArray n n2 dd dd2 sl sl2 (by simpa using hv) (by simp[hw])) ⟨ho,ho2,h1 hw⟩
 ·refine concat_meets ⟨_,ho,rfl⟩ ⟨_,ho2,rfl⟩ noFill_tuple_add seq_tuple_add PySem.F.slot_tuple_add PySem.F.entry_tuple_add (PySem.F.args_tuple_add_2 _ _)
   (tuple_addW2 t b vs.toArray ws.toArray n n2 dd dd2 sl sl2 (by simpa using hv) (by simpa using hw) (by rw[Kw,Kw];exact hsz)) ⟨ho,ho2,?_⟩
  rw[e]
  exact h2 hw
def eD (n d:Nat):Option Int->Nat
 | none=>d
 | some v=>if v < 0 then (v+(n:Int)).toNat else min v.toNat n
theorem IH (n d:Nat)(hd:d<=n)(o:Option Int):eD n d o<=n:=by
 cases o with
 | none=>exact hd
 | some v=>
  show(if v < 0 then (v+(n:Int)).toNat else min v.toNat n)<=n
  by_cases hv:v < 0
  ·rw[JQ hv];omega
  ·rw[JV hv];exact Nat.min_le_right _ _
theorem zR (v:Int)(n d:Nat):(if v < 0 then max (v+(n:Int)) 0 else min v (n:Int))=((eD n d (some v):Nat):Int):=by
 show(if v < 0 then max (v+(n:Int)) 0 else min v (n:Int))=(((if v < 0 then (v+(n:Int)).toNat else min v.toNat n):Nat):Int)
 by_cases hv:v < 0
 ·simp only[JQ hv];omega
 ·simp only[JV hv];omega
theorem yA (lo hi:Option Int)(n:Nat):Builtin.Slice.sliceAdjust lo hi 1 (n:Int)=(((eD n 0 lo:Nat):Int),((eD n n hi:Nat):Int)):=by
 have h1:¬ ((1:Int) < 0):=by omega
 unfold Builtin.Slice.sliceAdjust
 simp only[h1,if_false]
 refine Prod.ext ?_ ?_
 ·cases lo with
  | none=>rfl
  | some v=>exact zR v n 0
 ·cases hi with
  | none=>rfl
  | some v=>exact zR v n n
theorem yB (i j:Nat):Builtin.Slice.slicePlaces (i:Int) (j:Int) 1=j - i:=by
 unfold Builtin.Slice.slicePlaces
 have h1:(1:Int) > 0:=by omega
 simp only[h1,if_true,Int.ediv_one]
 split <;> omega
theorem qh (p:IsPart v o)(h:Q o s):wpAny (!3) A (Builtin.Slice.slicePartIndex v) Q E s:=by
 cases p with
 | none=>exact slicePart_none h
 | int i t=>exact slicePart_int h
theorem jz {sl:Addr}{vl vu:Value}{lo hi:Option Int}{n:Nat}{Q:Int×Int×Nat->Shared->Prop}(hs:s.heap.IsSliceOf sl vl vu .none)(pl:IsPart vl lo)(pu:IsPart vu hi)
  (h:Q (((eD n 0 lo:Nat):Int),1,eD n n hi - eD n 0 lo) s):wpAny (!3) A (Builtin.Slice.sliceApplied (.ref sl) (pure (n:Int))) Q E s:=by
 obtain⟨os,hos,hcs,hds⟩:=id hs
 unfold Builtin.Slice.sliceApplied Builtin.Slice.sliceFields
 refine JZ (JZ (wpAny_field hos hds (x:=vl) rfl (JZ (wpAny_field hos hds (x:=vu) rfl (JZ (wpAny_field hos hds (x:=.none) rfl (JW ?_)))))))
 refine JZ (slicePart_none ?_)
 show wpAny _ _ (if ((1:Int)==0)=true then _ else _) _ _ s
 rw[JV (!8)]
 refine JZ (qh pl (JZ (qh pu (JZ (JW ?_)))))
 show wpAny _ _ (match Builtin.Slice.sliceAdjust lo hi 1 (n:Int) with | (lo,hi)=>pure (lo,(1:Int),Builtin.Slice.slicePlaces lo hi 1)) _ _ s
 rw[yA lo hi n]
 show wpAny _ _ (pure (((eD n 0 lo:Nat):Int),(1:Int),Builtin.Slice.slicePlaces ((eD n 0 lo:Nat):Int) ((eD n n hi:Nat):Int) 1)) _ _ s
 rw[yB]
 exact JW h
theorem CB (xs:Array Value)(i k:Nat):((List.range k).filterMap λ(m:Nat)=>xs[((i:Int)+(m:Int)*1).toNat]?).toArray=((xs.toList.drop i).take k).toArray:=by
 have e:(λ(m:Nat)=>xs[((i:Int)+(m:Int)*1).toNat]?)=λm=>xs[i+m]?:=by
  funext m
  have:((i:Int)+(m:Int)*1).toNat=i+m:=by omega
  rw[this]
 rw[e]
 have:=pick_run xs i k
 rw[List.filterMap_map] at this
 have e2:((λx=>xs[x]?) ∘ λx=>i+x)=λm=>xs[i+m]?:=rfl
 rw[e2] at this
 rw[this]
theorem mQ {t sl:Addr}{items:Array Value}{vl vu:Value}{lo hi:Option Int}{Q:Z3}(ht:IsTup s.heap t items)(hs:s.heap.IsSliceOf sl vl vu .none)(pl:IsPart vl lo)(pu:IsPart vu hi)
  (hw:¬ (eD items.size 0 lo=0/\eD items.size items.size hi=items.size))
  (h:Q (!6) {s with heap:=s.heap.push {cls:=.type "tuple",data:=.seq ((items.toList.drop (eD items.size 0 lo)).take (eD items.size items.size hi - eD items.size 0 lo)).toArray}})
  (hsz:items.size<=sizeLine):wpAny (!3) A (getItem (.ref t) (.ref sl)) Q E s:=by
 have zS:sizeOk (.seq ((items.toList.drop (eD items.size 0 lo)).take (eD items.size items.size hi - eD items.size 0 lo)).toArray):=by
  show((items.toList.drop (eD items.size 0 lo)).take (eD items.size items.size hi - eD items.size 0 lo)).toArray.size<=sizeLine
  rw[Kw,Xx,U8,KY]
  omega
 have hj:eD items.size items.size hi<=items.size:=IH _ _ (K1 _) hi
 obtain⟨os,hos,hcs,hds⟩:=id hs
 have hTs:s.TypeIs (.ref sl) "slice":=⟨os,hos,hcs⟩
 unfold getItem
 try with_reducible refine Z7 ?_
 first | refine JZ (JW ?_) | skip
 refine JZ (wpAny_sequenceKey ht.typeIs (!8) ?_)
 refine JZ (wpAny_callSpecial?_slot (name:=Str.ofString "__getitem__") ht.typeIs PyProof.Rows.slot_tuple_getitem
  (Z6 PyProof.Rows.slot_tuple_getitem ht.typeIs entry_tuple_getitem ?_ (args_tuple_getitem _ _)))
 show wpAny _ _ (Builtin.Tuple.tupleItemsOf (.ref t) >>=_) _ _ s
 refine JZ (tupleItemsOf_ ht ?_)
 refine JZ (wpAny_typeOf hTs ?_)
 rw[JQ (!8)]
 refine JZ (jz hs pl pu ?_)
 have hno:¬ ((((eD items.size 0 lo:Nat):Int)==0 && (1:Int)==1 && (eD items.size items.size hi - eD items.size 0 lo)==items.size)=true):=by
  intro q
  rw[X7,X7] at q
  have q1:((eD items.size 0 lo:Nat):Int)=0:=eq_of_beq q.1.1
  have q2:eD items.size items.size hi - eD items.size 0 lo=items.size:=eq_of_beq q.2
  exact hw ⟨by omega,by omega⟩
 show wpAny _ _ (if (((eD items.size 0 lo:Nat):Int)==0 && (1:Int)==1 && (eD items.size items.size hi - eD items.size 0 lo)==items.size)=true then _ else _) _ _ s
 rw[JV hno,CB]
 first
  | exact JZ (m:=Builtin.Tuple.tupleExact _) (Z5 (JW ⟨_,rfl,JW h⟩) zS)
  | exact JZ (m:=Builtin.Tuple.tupleExact _) (Z5 (JZ (JW (JW ⟨_,rfl,JW h⟩))) zS)
  | exact JZ (JZ (m:=Builtin.Tuple.tupleExact _) (Z5 (JW (JW ⟨_,rfl,JW h⟩)) zS))
  | exact JZ (JZ (m:=Builtin.Tuple.tupleExact _) (Z5 (JW ⟨_,rfl,JW h⟩) zS))
end
end HT
namespace L2
open PySem PySem.Spec PyProof.Rows
abbrev TO:=St->Hp->(Option Int->Hp->Prop)->Prop
def PO (X:Cx)(e:Option Expr)(t:TO):Prop :=
 ∀(pins:List (Addr×Obj)) (s:Shared) (σ:St) (H:Hp) (Q:Option Int->Hp->Prop),Inv X pins σ H s->t σ H Q->
  wpAny (!7) X.A (evalPart e X.env) (λu s'=>∃o H',Inv X pins σ H' s'/\IsPart u o/\Q o H') X.xe s
def Fb:TO:=λ_ H Q=>Q none H
def LS (t:TE):TO:=λσ H Q=>t σ H λx H1=>∃i,x= .int i/\Q (some i) H1
section
variable {X:Cx}{e:Expr}{te:TE}{lo hi:Option Expr}{tl th:TO}{pos p2:Pos}
theorem Fc:PO X none Fb:=by
 intro pins s σ H Q I h
 rw[evalPart_none]
 exact JW ⟨none,H,I,.none,h⟩
theorem Fd (h:PE X e te):PO X (some e) (LS te):=by
 intro pins s σ H Q I hw
 rw[evalPart_some]
 refine dv (h pins s σ H _ I hw) λu s1 ⟨x,H1,I1,r1,q1⟩=> ?_
 obtain⟨i,rfl,q⟩:=q1
 obtain⟨t,rfl⟩:=r1
 exact⟨some i,H1,I1,.int i t,q⟩
def Hk (X:Cx)(r:V->Option Int->Option Int->Hp->VK->Prop):Prop :=
 ∀(pins:List (Addr×Obj)) (s:Shared) (σ:St) (H:Hp) (x:V) (v vl vu:Value) (lo hi:Option Int) (sl:Addr) (Q:VK),Inv X pins σ H s->RelV x v->s.heap.IsSliceOf sl vl vu .none->IsPart vl lo->IsPart vu hi->r x lo hi H Q->
  ∃T id,typeLookup (.type T) "__getitem__" =pure (some (.builtin id))/\s.TypeIs v T/\wpAny (!7) X.A (getItem v (.ref sl)) (EP X pins σ Q) X.xe s
theorem Hk.or (h:Hk X r)(h':Hk X r'):Hk X (λx lo hi H Q=>r x lo hi H Q∨r' x lo hi H Q):=by
 intro pins s σ H x v vl vu lo hi sl Q I rx hs pl pu q
 rcases q with q | q
 ·exact h pins s σ H x v vl vu lo hi sl Q I rx hs pl pu q
 ·exact h' pins s σ H x v vl vu lo hi sl Q I rx hs pl pu q
def Pt (r:V->Option Int->Option Int->Hp->VK->Prop)(te:TE)(tl th:TO):TE:=λσ H Q=>te σ H λx H1=>tl σ H1 λl H2=>th σ H2 λu H3=>r x l u H3 Q
theorem CC (hr:Hk X r)(he:PE X e te)(hl:PO X lo tl)(hu:PO X hi th):PE X (.Subscript e (.Slice lo hi none p2) pos) (Pt r te tl th):=by
 intro pins s σ H Q I h
 refine Subscript_ (dv (he pins s σ H _ I h) λv s1 ⟨x,H1,I1,r1,q1⟩=> ?_)
 refine wpAny_Slice (dv (hl pins s1 σ H1 _ I1 q1) λvl s2 ⟨l,H2,I2,pl,q2⟩=>dv (hu pins s2 σ H2 _ I2 q2) λvu s3 ⟨u,H3,I3,pu,q3⟩=> ?_)
 rw[evalPart_none]
 refine JW ?_
 have I4:Inv X pins σ H3 {s3 with heap:=s3.heap.push {cls:=.type "slice",data:=.fields #[vl,vu,.none]}}:=I3.kept (t':=s3.toks) λb ob q=>K8 _ q
 obtain⟨T,id,hT,ht,hg⟩:=hr pins {s3 with heap:=s3.heap.push {cls:=.type "slice",data:=.fields #[vl,vu,.none]}} σ H3 x v vl vu l u s3.heap.objs.size Q I4 r1 (Heap.IsSliceOf.new ..) pl pu q3
 show wpAny (!7) X.A (subscriptTail e (.Slice lo hi none p2) v (.ref s3.heap.objs.size)) (EP X pins σ Q) X.xe {s3 with heap:=s3.heap.push {cls:=.type "slice",data:=.fields #[vl,vu,.none]}}
 exact tail_any (ops:=[.ref s3.heap.objs.size,v]) ht hT hg (by with_unfolding_all rfl)
noncomputable def wj (xs:List V)(lo hi:Option Int):List V:=(xs.drop (HT.eD xs.length 0 lo)).take (HT.eD xs.length xs.length hi - HT.eD xs.length 0 lo)
theorem oV (xs:List V)(lo hi:Option Int):(wj xs lo hi).length<=xs.length:=by
 unfold wj
 rw[Xx,U8]
 omega
def NO (K:Frag):V->Option Int->Option Int->Hp->VK->Prop:=λx lo hi H Q=>∃a xs,x= .ref a/\ee K H a xs/\
 ¬ (HT.eD xs.length 0 lo=0/\HT.eD xs.length xs.length hi=xs.length)/\∀p,H p=none->Q (.ref p) (upd H p (.tup (wj xs lo hi)))
theorem II:Hk X (NO X.K):=by
 intro pins s σ H x v vl vu lo hi sl Q I rx hs pl pu h
 obtain⟨a,xs,rfl,hx,hw,q⟩:=h
 cases rx
 obtain⟨its,r,ht,hz⟩:=I.tuple hx
 have hlen:its.toArray.size=xs.length:=by rw[Kw];exact r.length.symm
 refine⟨"tuple",_,PyProof.Rows.slot_tuple_getitem.lookup,ht.typeIs,?_⟩
 refine HT.mQ ht hs pl pu (by rw[hlen];exact hw) ?_ (by rw[hlen];exact hz)
 rw[hlen]
 refine⟨.ref s.heap.objs.size,_,I.laid (t':=s.toks) (o:=.tup (wj xs lo hi)) (λb ob q=>K8 _ q) (K1 _) ?_,rfl,q _ (I.hok.fresh (K1 _))⟩
 exact⟨Kz (oV xs lo hi) hz,_,(r.drop (HT.eD xs.length 0 lo)).take (HT.eD xs.length xs.length hi - HT.eD xs.length 0 lo),IsTup.new _ _⟩
def LU (K:Frag):R2:=λx y H Q=>∃a b xs ys,x= .ref a/\y= .ref b/\ee K H a xs/\ee K H b ys/\xs≠[]/\xs.length+ys.length<=sizeLine/\
 (ys=[]->Q (.ref a) H)/\(ys≠[]->∀p,H p=none->Q (.ref p) (upd H p (.tup (xs++ys))))
theorem Vals.pX (r:Vals xs us):us=[]↔xs=[]:=by
 cases r with
 | nil=>simp
 | cons _ _=>simp
theorem Fe:pV X (binaryOp .Add) (LU X.K):=by
 intro pins s σ H x y v u Q I rx ry h
 obtain⟨a,b,xs,ys,rfl,rfl,ha,hb,hx,hz,q1,q2⟩:=h
 cases rx
 cases ry
 obtain⟨its,r1,p1,_⟩:=I.tuple ha
 obtain⟨its2,r2,p2,_⟩:=I.tuple hb
 refine HT.Fa p1 p2 (λz=>hx (r1.pX.mp z)) (λz=>⟨.ref a,H,I,rfl,q1 (r2.pX.mp z)⟩) (λz=> ?_) (by rw[←r1.length,←r2.length];exact hz)
 refine⟨.ref s.heap.objs.size,_,I.laid (t':=s.toks) (o:=.tup (xs++ys)) (λb ob q=>K8 _ q) (K1 _) ?_,rfl,q2 (λw=>z (r2.pX.mpr w)) _ (I.hok.fresh (K1 _))⟩
 exact⟨by rw[K2];exact hz,_,r1.append r2,IsTup.new _ _⟩
end
def oW (n:Nat)(i:Int):Option Nat:=if 0<=i then (if i < n then some i.toNat else none) else if -(n:Int)<=i then some (i+n).toNat else none
noncomputable def IJ {α:Type}(xs:List α)(i:Int):Option α:=(oW xs.length i).bind λj=>xs[j]?
theorem zT (h:oW n i=some j):seqIndex? i n=some j/\j < n/\ -(n:Int)<=i/\i < n:=by
 unfold oW at h
 by_cases h0:0<=i
 ·rw[JQ h0] at h
  by_cases h1:i < n
  ·rw[JQ h1] at h
   have e:i.toNat=j:=Option.some.inj h
   exact⟨by rw[seqIndex_of h0 h1,e],by omega,by omega,h1⟩
  ·rw[JV h1] at h;cases h
 ·rw[JV h0] at h
  by_cases h1:-(n:Int)<=i
  ·rw[JQ h1] at h
   have e:(i+n).toNat=j:=Option.some.inj h
   exact⟨by rw[seqIndex_neg (!1) h1,e],by omega,h1,by omega⟩
  ·rw[JV h1] at h;cases h
theorem uC {α:Type}{xs:List α}{i:Int}{v:α}(h:IJ xs i=some v):∃j,seqIndex? i xs.length=some j/\xs[j]? =some v/\j < xs.length/\ -(xs.length:Int)<=i/\i < xs.length:=by
 unfold IJ at h
 cases e:oW xs.length i with
 | none=>rw[e] at h;cases h
 | some j=>
  rw[e] at h
  obtain⟨h1,h2,h3,h4⟩:=zT e
  exact⟨j,h1,h,h2,h3,h4⟩
def uD (b:Expr):Prop:=∀o i,subscripted b false o i=operate [o,i] (getItem o i)
def CD (X:Cx)(r:R2):Prop :=
 ∀(value slice:Expr) (pins:List (Addr×Obj)) (s:Shared) (σ:St) (H:Hp) (x y:V) (v u:Value) (Q:VK),Inv X pins σ H s->RelV x v->RelV y u->r x y H Q->
  subscripted slice false v u=operate [v,u] (getItem v u)->wpAny (!7) X.A (subscriptTail value slice v u) (EP X pins σ Q) X.xe s
def IL (X:Cx)(id:String)(r:V->List V->Hp->VK->Prop):Prop :=
 ∀(pins:List (Addr×Obj)) (s:Shared) (σ:St) (H:Hp) (x:V) (xs:List V) (v:Value) (us:List Value) (Q:VK),Inv X pins σ H s->RelV x v->Vals xs us->r x xs H Q->
  wpAny (!7) X.A (call (.builtin id) (v :: us)) (EP X pins σ Q) X.xe s
section
variable {X:Cx}{a b:Expr}{ta tb:TE}{pos:Pos}
theorem CD.or (h:CD X r)(h':CD X r'):CD X (λx y H Q=>r x y H Q∨r' x y H Q):=by
 intro value slice pins s σ H x y v u Q I rx ry q hs
 rcases q with q | q
 ·exact h value slice pins s σ H x y v u Q I rx ry q hs
 ·exact h' value slice pins s σ H x y v u Q I rx ry q hs
theorem IL.or {id:String}{r r':V->List V->Hp->VK->Prop}(h:IL X id r)(h':IL X id r'):IL X id (λx xs H Q=>r x xs H Q∨r' x xs H Q):=by
 intro pins s σ H x xs v us Q I rx rs q
 rcases q with q | q
 ·exact h pins s σ H x xs v us Q I rx rs q
 ·exact h' pins s σ H x xs v us Q I rx rs q
theorem Hl (hr:CD X r)(ha:PE X a ta)(hb:PE X b tb)(hs:uD b):PE X (.Subscript a b pos) (M3 r ta tb):=by
 intro pins s σ H Q I h
 exact Subscript_ (Ir ha hb I h λv u s2 x y H2 I2 rx ry q=>hr a b pins s2 σ H2 x y v u Q I2 rx ry q (hs _ _))
def LV (K:Frag):R2:=λx y H Q=>∃p xs i v,x= .ref p/\y= .int i/\gD K H p xs/\IJ xs i=some v/\Q v H
def LW (K:Frag):R2:=λx y H Q=>∃p xs i v,x= .ref p/\y= .int i/\ee K H p xs/\IJ xs i=some v/\Q v H
def LX:R2:=λx y H Q=>∃z i c,x= .str z/\y= .int i/\z.length<=sizeLine/\IJ z.cps.toList i=some c/\Q (.str ⟨#[c]⟩) H
theorem zU:CD X (LV X.K):=by
 intro value slice pins s σ H x y v u Q I rx ry h hs
 obtain⟨p,xs,i,z,rfl,rfl,hq,he,q⟩:=h
 cases rx
 obtain⟨t,rfl⟩:=ry
 obtain⟨its,r,pl,hz⟩:=I.list hq
 obtain⟨j,h1,h2,h3,h4,h5⟩:=uC he
 obtain⟨w,ew,yC⟩:=r.get h2
 have hl:=r.length
 have hn:=kM
 have fin:EP X pins σ Q w s:=⟨z,H,I,yC,q⟩
 by_cases h0:0<=i
 ·have hj:i.toNat=j:=by
   rw[seqIndex_of h0 h5] at h1
   exact Option.some.inj h1
  exact item_listR pl.isList h0 (!1) (by rw[hj];simpa using ew) fin hs
 ·have hj:(i+(its.toArray.size:Int)).toNat=j:=by
   rw[seqIndex_neg (!1) h4] at h1
   rw[Kw,←hl]
   exact Option.some.inj h1
  exact subscriptTail_builtinR (x:=w) pl.isList.typeIs slot_list_getitem.lookup
   (wpAny_getItem_list_neg (Q:=λr s'=>r=w/\EP X pins σ Q r s') pl.isList (!1) (by rw[Kw] <;> omega) (!1) (by rw[hj];simpa using ew) ⟨rfl,fin⟩) hs
theorem IM:CD X (LW X.K):=by
 intro value slice pins s σ H x y v u Q I rx ry h hs
 obtain⟨p,xs,i,z,rfl,rfl,hq,he,q⟩:=h
 cases rx
 obtain⟨t,rfl⟩:=ry
 obtain⟨its,r,pl,hz⟩:=I.tuple hq
 obtain⟨j,h1,h2,h3,h4,h5⟩:=uC he
 obtain⟨w,ew,yC⟩:=r.get h2
 have hl:=r.length
 have hn:=kM
 have fin:EP X pins σ Q w s:=⟨z,H,I,yC,q⟩
 exact subscriptTail_builtinR (x:=w) pl.typeIs slot_tuple_getitem.lookup
  (getItem_tuple (j:=j) (Q:=λr s'=>r=w/\EP X pins σ Q r s') pl (!1) (!1) (by rw[Kw,←hl];exact h1) (by simpa using ew) ⟨rfl,fin⟩) hs
theorem IN:CD X LX:=by
 intro value slice pins s σ H x y v u Q I rx ry h hs
 obtain⟨z,i,c,rfl,rfl,hz,he,q⟩:=h
 obtain⟨t,rfl⟩:=rx
 obtain⟨t',rfl⟩:=ry
 obtain⟨j,h1,h2,h3,h4,h5⟩:=uC he
 have hl:z.cps.toList.length=z.length:=by simp[Str.length]
 rw[hl] at h1 h4 h5
 have hn:=kM
 exact tail_any (typeIs_str s z t) slot_str_getitem.lookup (getItem_str (c:=c) (by
  have e1:decide (i < -(2^63:Int))=false:=Z8 (!1)
  have e2:decide (i≥2^63)=false:=Z8 (!1)
  rw[e1,e2,Bool.or_false]) (by rw[h1];simpa using h2) ⟨.str ⟨#[c]⟩,H,I.tok _,⟨_,rfl⟩,q⟩) hs
def Pu (K:Frag):R2:=λx y H Q=>LV K x y H Q∨LW K x y H Q∨LX x y H Q
theorem IP:CD X (Pu X.K):=zU.or (IM.or IN)
theorem yD (its:List Value)(n j:Nat)(u:Value):Obj.mapSeq (·.setIfInBounds j u) {cls:=.type "list",data:=.seq its.toArray n}={cls:=.type "list",data:=.seq (its.set j u).toArray n}:=by
 simp[Obj.mapSeq]
theorem Inv.lst (I:Inv X pins σ H s)(h:H p=some (.lst xs)) :
  ∃(its:List Value) (n:Nat),Vals xs its/\s.heap.get? p=some {cls:=.type "list",data:=.seq its.toArray n}/\xs.length<=sizeLine:=by
 obtain⟨z,its,n,r,e⟩:=I.hok p _ h
 exact⟨its,n,r,e,z⟩
theorem Inv.IQ {σ:St}{s:Shared}{xs ys:List V}{its its':List Value}{f:Obj->Obj}(I:Inv X pins σ H s)(h:H p=some (.lst xs))
  (ho:s.heap.get? p=some {cls:=.type "list",data:=.seq its.toArray n}) (hf:f {cls:=.type "list",data:=.seq its.toArray n}={cls:=.type "list",data:=.seq its'.toArray n'}) (r:Vals ys its') (hz:ys.length<=sizeLine) (t:Nat) :
  Inv X pins σ (upd H p (.lst ys)) {s with heap:=s.heap.update p f,toks:=t}:=by
 have e:(s.heap.update p f).get? p=some {cls:=.type "list",data:=.seq its'.toArray n'}:=by
  rw[XY f ho (by rw[hf] <;> rfl),hf]
 refine I.write (x:=p) (e:=p) (by rw[h];trivial) (.inl rfl) (λb u hb q=>(Jj _ _ (Ne.symm hb)).trans q) ⟨_,e⟩ ?_
 exact⟨hz,its',n',r,e⟩
def LY:V->V->V->Hp->(Hp->Prop)->Prop:=λo i v H Q=>∃p xs k j,o= .ref p/\i= .int k/\H p=some (.lst xs)/\oW xs.length k=some j/\Q (upd H p (.lst (xs.set j v)))
theorem set_list:Ik X LY:=by
 intro pins s σ H o i v ov iv u Q I ro ri rv h
 obtain⟨p,xs,k,j,rfl,rfl,hp,hj,q⟩:=h
 cases ro
 obtain⟨t,rfl⟩:=ri
 obtain⟨its,n,r,ho,hz⟩:=I.lst hp
 obtain⟨h1,h2,h3,h4⟩:=zT hj
 have hl:=r.length
 have hn:=kM
 have I':Inv X pins σ (upd H p (.lst (xs.set j v))) {s with heap:=s.heap.update p (Obj.mapSeq (·.setIfInBounds j u))} :=
  I.IQ hp ho (yD its n j u) (r.set rv j) (by rw[U9];exact hz) s.toks
 by_cases h0:0<=k
 ·have hk:k.toNat=j:=by
   rw[seqIndex_of h0 h4] at h1
   exact Option.some.inj h1
  exact PySem.W.ki_setAt ho h0 (!1) (by rw[Kw,←hl];exact h4) (by rw[hk];exact⟨_,I',q⟩)
 ·have hk:(k+(its.toArray.size:Int)).toNat=j:=by
   rw[seqIndex_neg (!1) h3] at h1
   rw[Kw,←hl]
   exact Option.some.inj h1
  exact PySem.W.ki_setBack ho (!1) (by rw[Kw,←hl];exact h3) (!1) (by rw[hk];exact⟨_,I',q⟩)
theorem uE (lo hi:Option Int)(n:Nat):(sliceBounds lo hi none n).1=((HT.eD n 0 lo:Nat):Int)/\(sliceBounds lo hi none n).2.1=((HT.eD n n hi:Nat):Int)/\(sliceBounds lo hi none n).2.2=1:=by
 refine⟨?_,?_,rfl⟩
 ·cases lo with
  | none=>simp[sliceBounds,HT.eD]
  | some i=>
   simp only[sliceBounds,HT.eD,Option.getD_none,show(1:Int) > 0 by decide,if_true]
   by_cases h:i < 0
   ·simp only[h,if_true] <;> omega
   ·simp only[h,if_false] <;> omega
 ·cases hi with
  | none=>simp[sliceBounds,HT.eD]
  | some i=>
   simp only[sliceBounds,HT.eD,Option.getD_none,show(1:Int) > 0 by decide,if_true]
   by_cases h:i < 0
   ·simp only[h,if_true] <;> omega
   ·simp only[h,if_false] <;> omega
theorem sI (its:List Value)(lo hi:Option Int):slicePick its.toArray lo hi none=((its.drop (HT.eD its.length 0 lo)).take (HT.eD its.length its.length hi - HT.eD its.length 0 lo)).toArray:=by
 obtain⟨h1,h2,h3⟩:=uE lo hi its.toArray.size
 unfold slicePick
 rw[h1,h2,h3]
 simp only[sliceRange_one,pick_run,Kw] <;> rfl
def NP (K:Frag):V->Option Int->Option Int->Hp->VK->Prop:=λx lo hi H Q=>∃a xs,x= .ref a/\gD K H a xs/\∀p,H p=none->Q (.ref p) (upd H p (.lst (wj xs lo hi)))
theorem Ff:Hk X (NP X.K):=by
 intro pins s σ H x v vl vu lo hi sl Q I rx hs pl pu h
 obtain⟨a,xs,rfl,hx,q⟩:=h
 cases rx
 obtain⟨its,r,ht,hz⟩:=I.list hx
 have hlen:=r.length
 refine⟨"list",_,slot_list_getitem.lookup,ht.isList.typeIs,?_⟩
 refine wpAny_getItem_list_slice ht.isList hs pl pu .none (by simp) ?_ (by rw[Kw] <;> omega)
 rw[sI,←hlen]
 refine⟨.ref s.heap.objs.size,_,I.laid (t':=s.toks) (o:=.lst (wj xs lo hi)) (λb ob q=>K8 _ q) (K1 _) ?_,rfl,q _ (I.hok.fresh (K1 _))⟩
 exact⟨Kz (oV xs lo hi) hz,_,0,(r.drop (HT.eD xs.length 0 lo)).take (HT.eD xs.length xs.length hi - HT.eD xs.length 0 lo),Ky _ rfl⟩
theorem uF:iF X (.builtin "len") (λxs H Q=>∃p ys,xs=[.ref p]/\(gD X.K H p ys∨ee X.K H p ys)/\Q (.int ys.length) H):=by
 intro pins s σ H xs us Q I r h
 obtain⟨p,ys,rfl,hq,q⟩:=h
 obtain⟨u,rfl,rx⟩:=vals1 r
 cases rx
 have hn:=kM
 rcases hq with hq | hq
 ·obtain⟨its,r',pl,hz⟩:=I.list hq
  have hlen:=r'.length
  exact Calls.call_len_list pl.isList (by simp only[Kw] <;> omega) ⟨.int ys.length,H,I.tok _,⟨s.toks+1,by rw[Kw,hlen]⟩,q⟩
 ·obtain⟨its,r',pl,hz⟩:=I.tuple hq
  have hlen:=r'.length
  exact len_tuple pl (by simp only[Kw] <;> omega) ⟨.int ys.length,H,I.tok _,⟨s.toks+1,by rw[Kw,hlen]⟩,q⟩
theorem uG:iF X (.builtin "len") (λxs H Q=>∃z,xs=[.str z]/\z.length<=sizeLine/\Q (.int z.length) H):=by
 intro pins s σ H xs us Q I r h
 obtain⟨z,rfl,hz,q⟩:=h
 obtain⟨u,rfl,t,rfl⟩:=vals1 r
 have hn:=kM
 exact len_str (!1) ⟨.int z.length,H,I.tok _,⟨_,rfl⟩,q⟩
theorem iF.or (h:iF X f r)(h':iF X f r'):iF X f (λxs H Q=>r xs H Q∨r' xs H Q):=by
 intro pins s σ H xs us Q I rs q
 rcases q with q | q
 ·exact h pins s σ H xs us Q I rs q
 ·exact h' pins s σ H xs us Q I rs q
theorem uH:iF X (.type "list") (λxs H Q=>∃p ys,xs=[.ref p]/\(gD X.K H p ys∨ee X.K H p ys)/\∀l,H l=none->Q (.ref l) (upd H l (.lst ys))):=by
 intro pins s σ H xs us Q I r h
 obtain⟨p,ys,rfl,hq,q⟩:=h
 obtain⟨u,rfl,rx⟩:=vals1 r
 cases rx
 have fin:∀(its:List Value),Vals ys its->ys.length<=sizeLine->∀(h':Heap) (c':Nat),(∀b o',s.heap.get? b=some o'->h'.get? b=some o')->
   h'.get? s.heap.objs.size=some {cls:=.type "list",dict:=none,data:=.seq its.toArray c',slots:=#[]}->EP X pins σ Q (!6) {s with heap:=h'}:=λits r' hz h' c' kp e=>
  ⟨.ref s.heap.objs.size,_,I.laid (t':=s.toks) kp (K1 _) (show d_ X.prog X.w _ h' _ (.lst ys) from⟨hz,its,c',r',e⟩),rfl,q _ (I.hok.fresh (K1 _))⟩
 rcases hq with hq | hq
 ·obtain⟨its,r',pl,hz⟩:=I.list hq
  have hlen:=r'.length
  obtain⟨o,ho,hc,n,hd⟩:=pl.isList
  exact call_list_seq p (.inl rfl) ho hc hd (λh' c' kp e=>fin its r' hz h' c' kp e) (by simp only[Kw] <;> omega)
 ·obtain⟨its,r',pl,hz⟩:=I.tuple hq
  have hlen:=r'.length
  obtain⟨o,ho,hc,n,hd⟩:=pl
  exact call_list_seq p (.inr rfl) ho hc hd (λh' c' kp e=>fin its r' hz h' c' kp e) (by simp only[Kw] <;> omega)
theorem sJ:iF X (.type "tuple") (λxs H Q=>∃p ys,xs=[.ref p]/\((gD X.K H p ys/\∀l,H l=none->Q (.ref l) (upd H l (.tup ys)))∨(ee X.K H p ys/\Q (.ref p) H))):=by
 intro pins s σ H xs us Q I r h
 obtain⟨p,ys,rfl,h⟩:=h
 obtain⟨u,rfl,rx⟩:=vals1 r
 cases rx
 rcases h with⟨hq,q⟩ | ⟨hq,q⟩
 ·obtain⟨its,r',pl,hz⟩:=I.list hq
  have hlen:=r'.length
  refine call_tuple_list pl.isList (λh' kp=> ?_) (by simp only[Kw] <;> omega)
  have I1:Inv X pins σ H {s with heap:=h'}:=I.kept (t':=s.toks) kp
  have I2:Inv X pins σ (upd H h'.objs.size (.tup ys)) {s with heap:=h'.push {cls:=.type "tuple",data:=.seq its.toArray}} :=
   I1.laid (t':=s.toks) (λb o e=>K8 _ e) (K1 _) (show d_ X.prog X.w _ _ _ (.tup ys) from⟨hz,its,r',IsTup.new _ _⟩)
  exact⟨.ref h'.objs.size,_,I2,rfl,q _ (I1.hok.fresh (K1 _))⟩
 ·obtain⟨its,r',pl,hz⟩:=I.tuple hq
  exact call_tuple_same pl ⟨.ref p,H,I,rfl,q⟩
def OP (K:Frag)(T:String)(x:V)(H:Hp):Prop:=match x with
 | .str _=>T= "str"
 | .int _=>T= "int"
 | .ref p=>(T= "list" /\∃xs,gD K H p xs)∨(T= "tuple" /\∃o,K.lookup p=some o/\o.cls= .type "tuple" /\o.dict=none)∨
   (T= "dict" /\((∃kvs,H p=some (.dK kvs))∨∃kvs,H p=some (.dT kvs)))∨(T= "set" /\∃S n,H p=some (.set S n))
 | _=>False
theorem IS (I:Inv X pins σ H s)(r:RelV x v)(ty:OP X.K T x H) :
  s.TypeIs v T/\∀a,v= .ref a->∃ob,s.heap.get? a=some ob/\ob.dict=none:=by
 cases x with
 | str z=>
  obtain⟨t,rfl⟩:=r
  cases(show T= "str" from ty)
  exact⟨typeIs_str s z t,λ_ e=>nomatch e⟩
 | int i=>
  obtain⟨t,rfl⟩:=r
  cases(show T= "int" from ty)
  exact⟨typeIs_int s i t,λ_ e=>nomatch e⟩
 | ref p=>
  cases r
  rcases ty with⟨rfl,xs,hq⟩ | ⟨rfl,o,hk,hc,hd⟩ | ⟨rfl,hk⟩ | ⟨rfl,S,n,hk⟩
  ·obtain⟨its,_,pl,_⟩:=I.list hq
   refine⟨pl.isList.typeIs,λa e=> ?_⟩
   cases e
   obtain⟨o,n,e,c,hd,_⟩:=pl
   exact⟨o,e,hd⟩
  ·refine⟨⟨o,I.A1 p o hk,hc⟩,λa e=> ?_⟩
   cases e
   exact⟨o,I.A1 _ o hk,hd⟩
  ·have z:∃o,s.heap.get? p=some o/\o.ExactDict:=by
    rcases hk with⟨kvs,hk⟩ | ⟨kvs,hk⟩
    ·obtain⟨_,_,_,_,o,_,_,e,ex,_⟩:=I.hok p _ hk
     exact⟨o,e,ex⟩
    ·obtain⟨_,_,_,_,o,_,_,e,ex,_⟩:=I.hok p _ hk
     exact⟨o,e,ex⟩
   obtain⟨o,e,ex⟩:=z
   refine⟨⟨o,e,ex.1⟩,λa e2=> ?_⟩
   cases e2
   exact⟨o,e,ex.2.1⟩
  ·obtain⟨o,_,_,_,e,ex,_⟩:=I.hok p _ hk
   refine⟨⟨o,e,ex.1⟩,λa e2=> ?_⟩
   cases e2
   exact⟨o,e,ex.2.1⟩
 | _=>exact False.elim ty
def Pw (K:Frag)(T:String)(r:V->List V->Hp->VK->Prop)(to:TE)(t:TA):TE:=λσ H Q=>to σ H λx H1=>OP K T x H1/\t σ H1 λxs H2=>r x xs H2 Q
variable {o e:Expr}{es:List Expr}{to:TE}{t:TA}{name:Str}{apos cpos:Pos}{T id:String}{r:V->List V->Hp->VK->Prop}
theorem wk (pa:PlainAttrs T)(slot:Slot T name id)(hty:typeOf (.builtin id)=pure (.type "method_descriptor"))(hm:IL X id r)(ho:PE X o to)(ha:PA X (e :: es) t)
  (hbase:attributeBase o name X.env (eval o X.env)=eval o X.env:=by rfl)
  (hfew:((backTo cpos (starEach (e :: es) X.env)).all (λx=> !x.1) && (backToKw cpos (keywordEach [] X.env)).all (λx=>x.1.isSome)
   && decide ((e :: es).length+([]:List Keyword).length+(if ([]:List Keyword).isEmpty then 0 else 1) < 30))=true:=by rfl)
  (hline:(apos.endLine==cpos.line)=true:=by rfl) (hs:starEach (e :: es) X.env=(false,eval e X.env) :: starEach es X.env:=by rfl) (hplain:(backTo cpos (starEach es X.env)).any (·.1)=false:=by rfl) :
  PE X (.Call (.Attribute o name apos) (e :: es) [] cpos) (Pw X.K T r to t):=by
 intro pins s σ H Q I h
 refine wpAny_Call_method_late hbase hfew hline rfl (dv (ho pins s σ H _ I h) λv s1 ⟨x,H1,I1,r1,ty,q1⟩=> ?_)
 obtain⟨h1,h2⟩:=IS I1 r1 ty
 refine⟨T,id,pa,slot,hty,h1,h2,?_⟩
 have hA:=ha cpos pins s1 σ H1 _ I1 q1
 rw[hs] at hA⊢
 refine Calls.callWith_builtin (by show(false || (backTo cpos (starEach es X.env)).any (·.1))=false;rw[hplain] <;> rfl) (Calls.evalArgs_plain ?_)
 exact dv hA λus s2 ⟨vs,H2,I2,r2,q2⟩=>hm pins s2 σ H2 x vs v us Q I2 r1 r2 q2
/- xs.append(e),list.index on a module's tuple .. are IL facts of 06m -/
end
def M4 (X:Cx)(id:String)(r:V->List V->Hp->VK->Prop):Prop :=
 ∀(pins:List (Addr×Obj)) (s:Shared) (σ:St) (H:Hp) (x:V) (xs:List V) (v:Value) (us:List Value) (Q:VK),Inv X pins σ H s->RelV x v->Vals xs us->r x xs H Q->
  wpAny (!7) X.A (call (.builtin id) (v :: us)) (EP X pins σ Q) X.xe s
theorem Vals.zero:∀{us:List Value},Vals [] us->us=[]
 | _,.nil=>rfl
theorem Vals.unc:∀{x:V} {xs:List V} {us:List Value},Vals (x :: xs) us->∃u vs,us=u :: vs/\RelV x u/\Vals xs vs
 | _,_,_,.cons r q=>⟨_,_,rfl,r,q⟩
theorem Vals.one {x:V}{us:List Value}(h:Vals [x] us):∃u,us=[u]/\RelV x u:=by
 obtain⟨u,vs,rfl,r,q⟩:=h.unc
 exact⟨u,by rw[q.zero],r⟩
theorem Vals.two {x y:V}{us:List Value}(h:Vals [x,y] us):∃u v,us=[u,v]/\RelV x u/\RelV y v:=by
 obtain⟨u,vs,rfl,r,q⟩:=h.unc
 obtain⟨v,rfl,z⟩:=q.one
 exact⟨u,v,rfl,r,z⟩
theorem Vals.eraseIdx:∀{xs:List V} {us:List Value} (i:Nat),Vals xs us->Vals (xs.eraseIdx i) (us.eraseIdx i)
 | _,_,_,.nil=> .nil
 | _,_,0,.cons _ t=>t
 | _,_,i+1,.cons r t=> .cons r (Vals.eraseIdx i t)
theorem Vals.reverse (h:Vals xs us):Vals xs.reverse us.reverse:=by
 induction h with
 | nil=>exact .nil
 | cons r t ih=>rw[J6,J6];exact Vals.append ih (.cons r .nil)
theorem Vals.rep (h:Vals xs us):∀k:Nat,Vals (List.replicate k xs).flatten (List.replicate k us).flatten
 | 0=> .nil
 | k+1=>by
  rw[Ux,Ux,Y6,Y6]
  exact Vals.append h (Vals.rep h k)
theorem foldl_rep (its:List Value):∀(k:Nat) (acc:List Value),
  List.foldl (λx1 x2=>x1++x2) acc.toArray (List.replicate k its.toArray)=(acc++(List.replicate k its).flatten).toArray
 | 0,acc=>by simp
 | k+1,acc=>by
  have e:acc.toArray++its.toArray=(acc++its).toArray:=by simp
  have e2:(acc++its)++(List.replicate k its).flatten=acc++(List.replicate (k+1) its).flatten:=by
   rw[Ux,Y6,X5]
  rw[←e2,←foldl_rep its k (acc++its),←e,Ux,Y9]
section
variable {s:Shared}{xs ys:List V}
theorem Inv.LZ {its its':List Value}{f:Array Value->Array Value}(I:Inv X pins σ H s)(hH:H l=some (.lst xs))
  (e:s.heap.get? l=some {cls:=.type "list",data:=.seq its.toArray n}) (hf:f its.toArray=its'.toArray) (hv:Vals ys its') (hz:ys.length<=sizeLine) :
  Inv X pins σ (upd H l (.lst ys)) {s with heap:=s.heap.update l (Obj.mapSeq f),toks:=t'}:=by
 have q:=PySem.IsL.update e f
 rw[hf] at q
 refine I.write (x:=l) (e:=l) (by rw[hH];exact trivial) (.inl rfl) (λb' u hb hu=>(Jj s.heap (Obj.mapSeq f) (Ne.symm hb)).trans hu) ⟨_,q⟩ ?_
 exact⟨hz,its',_,hv,q⟩
theorem Inv.L0 (I:Inv X pins σ H s)(hv:Vals ys its)(hz:ys.length<=sizeLine) :
  Inv X pins σ (upd H s.heap.objs.size (.lst ys)) {s with heap:=s.heap.push {cls:=.type "list",data:=.seq its.toArray},toks:=t'} :=
 I.laid (λ_ _ q=>K8 _ q) (K1 _) ⟨hz,its,0,hv,Ky _ rfl⟩
theorem Inv.fresh (I:Inv X pins σ H s):H s.heap.objs.size=none:=I.hok.fresh (K1 _)
theorem Inv.IT (I:Inv X pins σ H s)(hH:H l=some (.lst xs)):xs.length<=sizeLine/\∃(its:List Value) (n:Nat),Vals xs its/\xs.length=its.length/\s.heap.get? l=some {cls:=.type "list",data:=.seq its.toArray n}:=by
 obtain⟨z,its,n,r,e⟩:=I.hok l _ hH
 exact⟨z,its,n,r,r.length,e⟩
theorem wm (h:n<=sizeLine):Builtin.List.listTooLong n=false:=by
 unfold Builtin.List.listTooLong
 exact Z8 (!1)
end
section
--
def Fg:V->List V->Hp->VK->Prop:=λx vs H Q=>∃l xs y,x= .ref l/\vs=[y]/\H l=some (.lst xs)/\xs.length < sizeLine/\Q .non (upd H l (.lst (xs++[y])))
theorem lB:M4 X "list.append" Fg:=by
 intro pins s σ H x vs v us Q I rx rv h
 obtain⟨l,xs,y,rfl,rfl,hH,hz,q⟩:=h
 cases rx
 obtain⟨u,rfl,ru⟩:=rv.one
 obtain⟨z,its,n,r,hl,e⟩:=I.IT hH
 refine call_meets F.slot_list_append ⟨_,e,rfl⟩ F.entry_list_append (F.args_list_append_2 _ _) (PySem.list_append l its.toArray n u (by rw[Kw];omega)) ⟨e,?_⟩
 refine⟨.non,_,I.LZ (its':=its++[u]) hH e (by simp) (r.append (.cons ru .nil)) ?_,rfl,q⟩
 rw[K2,X4]
 omega
def NQ:R2:=λx y H Q=>∃l k xs,x= .ref l/\y= .int k/\H l=some (.lst xs)/\ -(2^63)<=k/\k < 2^63/\xs.length*k.toNat<=sizeLine/\
 ∀p,H p=none->Q (.ref p) (upd H p (.lst (List.replicate k.toNat xs).flatten))
theorem len_rep {α:Type}(xs:List α)(k:Nat):(List.replicate k xs).flatten.length=k*xs.length:=by
 induction k with
 | zero=>simp
 | succ k ih=>rw[Ux,Y6,K2,ih,Y2,Nat.add_comm]
theorem IU:pV X (binaryOp .Mult) NQ:=by
 intro pins s σ H x y v u Q I rx ry h
 obtain⟨l,k,xs,rfl,rfl,hH,h1,h2,hz,q⟩:=h
 cases rx
 obtain⟨t,rfl⟩:=ry
 obtain⟨z,its,n,r,hl,e⟩:=I.IT hH
 have hlen:its.toArray.size*k.toNat<=sizeLine:=by rw[Kw,←hl];exact hz
 have hcap:¬ its.toArray.size*k.toNat > (2^63 - 1) / 8:=by
  have:(sizeLine:Nat)<=(2^63 - 1) / 8:=by decide
  omega
 have hfit:¬ (!Builtin.List.listFitsIndex k)=true:=by
  rw[fitsIndex_both h1 h2]
  exact K4
 have CF:¬ Builtin.List.listTooLong (its.toArray.size*k.toNat)=true:=by
  rw[wm hlen]
  exact K4
 have hnew:List.foldl (λx1 x2=>x1++x2) #[] (List.replicate (if its.toArray.isEmpty=true then 0 else k.toNat) its.toArray)=(List.replicate k.toNat its).flatten.toArray:=by
  have f0:∀m:Nat,List.foldl (λx1 x2=>x1++x2) #[] (List.replicate m its.toArray)=(List.replicate m its).flatten.toArray:=λm=>by
   have:=foldl_rep its m []
   rw[Yv] at this
   exact this
  rw[f0]
  cases its with
  | nil=>simp
  | cons a r'=>rw[JV (by simp)]
 refine wpAny_binaryOp_repeat_ref (T:="list") (U:="int") (!8) ⟨_,e,rfl⟩ (λs'=>typeIs_int s' k t) noFill_list_mul F.fills_int_mul F.slot_int_rmul repeat_list F.slot_int_index.lookup
  (call_meets F.slot_int_rmul (typeIs_int s k t) F.entry_int_rmul (F.args_int_rmul_2 _ _) (int___rmul___int_list k t l its.toArray n)
   ⟨e,rfl,⟨_,e,rfl⟩,call_meets F.slot_list_mul ⟨_,e,rfl⟩ F.entry_list_mul (F.args_list_mul_2 _ _) (AutoListH.list___mul___list_int_3 l its.toArray n k t hfit hcap CF) ⟨e,?_⟩⟩)
 rw[hnew]
 exact⟨.ref _,_,I.L0 (t':=s.toks) (r.rep k.toNat) (by rw[len_rep,Ju];exact hz),rfl,q _ I.fresh⟩
end
end L2
namespace OQ
open PySem PySem.W PySem.Calls PyProof.Rows
theorem pe :∀(ns:List Int) (vs:List Value),WellAll P h vs (ns.map WData.int)->IntsAre vs ns:=by
 intro ns
 induction ns with
 | nil=>
  intro vs w
  rw[Yx] at w
  cases w
  exact .nil
 | cons n ns ih=>
  intro vs w
  rw[KQ] at w
  cases w with
  | cons a b=>
   cases a
   exact .cons _ _ (ih _ b)
theorem A7 {l:OpenLaw}(hn:l.most=some n){h:Heap}
  (hpre:l.row.toRowW.claim.pre args=true) (hwl:WellAll P h vals args) :
  ∃a vs ns,vals=[Value.ref a]/\args=[WData.list (ns.map WData.int)]/\h.get? a=some {cls:=.type "list",data:=.seq vs.toArray}/\IntsAre vs ns/\ns.length<=n:=by
 have hsh:WShape.hasAll [] args [.list .int]=true:=(pre_splitW hpre).1
 have hc:l.pre.holds [] {args:=args}=true:=(pre_splitW hpre).2
 obtain⟨d,r,rfl,h1,h2⟩:=hasAllW_cons hsh
 obtain rfl:=hasAllW_nil h2
 obtain⟨xs,rfl,h3⟩:=hasW_list h1
 obtain⟨ns,rfl⟩:=items_int h3
 have hlen:ns.length<=n:=by
  unfold OpenLaw.pre at hc
  have h4:(WTm.not (.lt (.lit (.int (n:Int))) (.len (.arg 0)))).holds [] {args:=[.list (ns.map .int)]}=true:=by
   have h4:=(holds_andW hc).1
   rw[hn] at h4
   exact h4
  have h5:=condW_of h4 (w_not (w_lt w_lit (w_len_list (w_arg rfl))))
  rw[K6] at h5
  refine Nat.le_of_not_lt λq=> ?_
  have q':(n:Int) < ((ns.length:Nat):Int):=by omega
  first
   | (rw[Z9 q'] at h5;exact absurd h5 (!8))
   | (simp at h5;omega)
 cases hwl with
 | cons w1 w2=>
  cases w2
  cases w1 with
  | list ho hall=>exact⟨_,_,ns,rfl,rfl,ho,pe ns _ hall,hlen⟩
theorem A8 (l:OpenLaw)(args:List WData):l.row.toRowW.claim.post args (.bool true) args=true :=
 postW_of (r:=l.row.toRowW) (X:=(true==true))
  (show WShape.has [] (.bool true) .bool=true by first | rfl | decide | simp[WShape.has,WShape.arms,WShape.armsAll])
  (show(WTm.eq .res (.lit (.bool true))).value [] {args:=args,res:=some (.bool true),after:=args}=some (.bool (true==true)) from w_eq_bool (w_res rfl) w_lit) rfl
theorem wn {l:OpenLaw}{XP:(Str->Option Value)->Heap->Prop}{YP:World->Heap->Prop}{d:DefRec}
  (hn:l.most=some n) (hdf:d.params.defaults=[])
  (call:∀(w:World) (s₀ s₁:Shared) (mg mb:Str->Option Value) (fa:Addr) (o:Obj) (pm cd doc:Value) (a:Addr) (vs:List Value) (ns:List Int),
   Ground q loose [] XP w s₀ mg mb s₁.heap->YP w s₁.heap->
   s₁.heap.get? fa=some o->o.data= .func (docDef d.name d.params d.body d.scope pm cd doc)->s₁.heap.CodeRec cd d.name->mg d.name=some (.ref fa)->
   s₁.heap.get? a=some {cls:=.type "list",data:=.seq vs.toArray}->IntsAre vs ns->ns.length<=n->s₁.gens= #[]->
   codeAny (model l.prog w) callerA (.call (.ref fa) ⟨[.ref a],[]⟩) (λr s'=>r= .ok (.ret (.bool true))/\OldK s₁.heap s'.heap/\s'.os=s₁.os/\AllBare s'.gens) s₁) :
  WalkO q loose XP YP l.row.toRowW d [] (λf vs=>PySem.call f vs):=by
 intro w s₀ s₁ mg mb G Y fa o pm cd doc dV kV ho hd hcd hD hmg hg args vals as hpre hlay hrd hwl hlo
 obtain rfl:dV= .none:=Dflts.none hD hdf
 obtain rfl:kV= .none:=Dflts.noKw hD
 obtain⟨a,vs,ns,rfl,rfl,hobj,hints,hlen⟩:=A7 hn hpre hwl
 refine enter_call (codeAny_mono (call w s₀ s₁ mg mb fa o pm cd doc a vs ns G Y ho (fd_plain hd) hcd hmg hobj hints hlen hg) λr s' hq=> ?_)
 obtain⟨rfl,h2,h3,h4⟩:=hq
 exact⟨.inl ⟨.bool true,.bool true,[],rfl,λ_=>rfl,.bool true,A8 l _,λ_=>⟨List.Pairwise.nil,λ_ hm=>(nomatch hm)⟩⟩,h2,h3,h4⟩
section
--
def ledger (h:Heap)(L d:Addr):List (Addr×Obj):=(List.range h.objs.size).filterMap λa=>if a=L∨a=d then none else (h.get? a).map λo=>(a,o)
end
end OQ
namespace L2
open PySem PySem.Spec PyProof.Rows
theorem td:∀{vs:List Value} {ns:List Int},IntsAre vs ns->Vals (ns.map V.int) vs
 | _,_,.nil=> .nil
 | _,_,.cons n t h=> .cons ⟨t,rfl⟩ (td h)
def Only (H:Hp):Prop:=∀b,H b=none∨∃o xs,H b=some (.Ci o (.lst xs))
theorem CG {K:Frag}{mg mb:Str->Option Value}{s₁:Shared}{vs:List Value}{ns:List Int}
  (KX:K.In s₁.heap) (hns:s₁.heap.Ns mainGlobals mg) (hb:s₁.heap.Ns builtinsNs mb) (hbb:∀x:Str,x≠ "__name__" ->mb x=bootBuiltins x) (hlim:s₁.heap.NoLimit) (hg:s₁.gens= #[])
  (ha:s₁.heap.get? a=some {cls:=.type "list",data:=.seq vs.toArray}) (hi:IntsAre vs ns) (hl:ns.length<=sizeLine) (hr:eH k callerA)
  (F:∀base:Heap,K.In base->base.Ns mainGlobals mg->jy P w K mg base CX k fa fd [x] sp) (hbind:∀(s:Shared) (u:Value),BindsTo s fd ⟨[u],[]⟩ [(x,u)])
  (hsp:∀H:Hp,Only H->gD K H a (ns.map V.int)->sp [.ref a] H (λv _=>v= .bl true) λ_ _ _=>False)
  (NR:∀H e s',CX [] H s₁ (λ_ _ _=>False) e s'->False) :
  codeAny (model P w) callerA (.call (.ref fa) ⟨[.ref a],[]⟩) (λr s'=>r= .ok (.ret (.bool true))/\OldK s₁.heap s'.heap/\s'.os=s₁.os/\AllBare s'.gens) s₁:=by
 have rv:=td hi
 have lenV:=hi.length
 have core:∀H:Hp,Only H->gD K H a (ns.map V.int)->pS P w H s₁.heap->(∀b,H b≠none->b=a)->(H a≠none->K.lookup a=none)->
   codeAny (model P w) callerA (.call (.ref fa) ⟨[.ref a],[]⟩) (λr s'=>r= .ok (.ret (.bool true))/\OldK s₁.heap s'.heap/\s'.os=s₁.os/\AllBare s'.gens) s₁:=by
  intro H hO hS hok hA hK
  have zV:∀{b:Addr} {o:Obj},s₁.heap.get? b=some o->H b=none->(uv s₁.heap H).get? b=some o:=λe n=>Cq e n
  have LQ:∀{b:Addr} {o:Obj} {es:Array DictEntry} {ep:Nat},s₁.heap.get? b=some o->o.data= .dict es ep->H b=none:=λ{b o es ep} e d=>by
   cases q:H b with
   | none=>rfl
   | some u=>
    have e':b=a:=hA b (by rw[q];simp)
    subst e'
    rw[ha] at e;cases e
    have d':Data.seq vs.toArray _=Data.dict es ep:=d
    cases d'
  have M5:∀{b:Addr} {m:Str->Option Value},s₁.heap.Ns b m->(uv s₁.heap H).Ns b m:=λ{b m} ⟨o,es,ep,e,d,r⟩=>⟨o,es,ep,zV e (LQ e d),d,r⟩
  have OS:K.In (uv s₁.heap H):=λb o e=>zV (KX b o e) (by
   cases q:H b with
   | none=>rfl
   | some u=>
    have e':b=a:=hA b (by rw[q];simp)
    subst e'
    rw[hK (by rw[q];simp)] at e;cases e)
  have hM:Mod K mg (uv s₁.heap H):=⟨OS,M5 hns,⟨mb,M5 hb,hbb⟩,let ⟨mc,h1,h2⟩:=hlim;⟨mc,M5 h1,h2⟩⟩
  have e0:sG P w K mg (uv s₁.heap H) callerA [] s₁ H:=⟨rfl,hM,λb o e=>E4 e,Nat.le_of_eq (A0 _ _),trivial,λb hb=>absurd (show b∈([]:List Addr) from hb) (by simp),hok,.of_eq hg⟩
  refine codeAny_mono ((F _ OS (M5 hns)).run callerA [] s₁ H ⟨[.ref a],[]⟩ [.ref a] [.ref a] _ _ hr e0 (hbind s₁ (.ref a)) (.cons rfl .nil) (hsp H hO hS)) λr s' h=> ?_
  cases r with
  | error e=>exact(NR H e s' h).elim
  | ok fl=>
   cases fl with
   | next=>exact False.elim h
   | brk=>exact False.elim h
   | cont=>exact False.elim h
   | ret u=>
    obtain⟨v,H',os,bare,un,hok',r',q⟩:=h
    have q':v= .bl true:=q
    subst q'
    obtain rfl:u=Value.bool true:=r'
    refine⟨rfl,OldK.of_keep λb o e=> ?_,os,bare⟩
    cases q:H b with
    | none=>exact un.keep b o e q (by intro z;exact absurd (show b∈([]:List Addr) from z) (by simp)) (by simp)
    | some u=>
     rcases hO b with z | ⟨ob,xs,z⟩
     ·rw[q] at z;cases z
     ·have z2:=un.mi b ob _ z
      obtain⟨e1,_⟩:=hok b _ z
      obtain⟨e2,_⟩:=hok' b _ z2
      rw[e] at e1;cases e1
      exact e2
 cases hk:K.lookup a with
 | some o=>
  have e:=KX a o hk
  rw[ha] at e
  cases e
  refine core (λ_=>none) (λ_=> .inl rfl) (.inr ⟨_,vs.toArray,_,hk,rfl,rfl,rfl,by rw[Kw,lenV];exact hl,by simpa using rv⟩) (λb u z=>by have z':(none:Option HO)=some u:=z;cases z') (λb z=>absurd rfl z) λz=>absurd rfl z
 | none=>
  refine core (λb=>if b=a then some (.Ci {cls:=.type "list",data:=.seq vs.toArray} (.lst (ns.map V.int))) else none) (λb=> ?_) (.inl (.inr ⟨{cls:=.type "list",data:=.seq vs.toArray},JQ rfl⟩)) (λb u z=> ?_) (λb z=> ?_) λ_=>hk
  ·by_cases hb:b=a
   ·exact .inr ⟨_,_,JQ hb⟩
   ·exact .inl (JV hb)
  ·by_cases hb:b=a
   ·have z':=(JQ hb).symm.trans z
    cases z'
    subst hb
    exact⟨ha,by rw[K6];exact hl,vs,_,rv,ha⟩
   ·have z':=(JV hb).symm.trans z
    cases z'
  ·by_cases hb:b=a
   ·exact hb
   ·exact absurd (JV hb) z
theorem Fh {l:OpenLaw}{XP:(Str->Option Value)->Heap->Prop}{YP:World->Heap->Prop}{d:DefRec}{K:Params->Frag}{CX:World->zP}{sp:World->Sp}
  (hn:l.most=some n) (hn2:n<=sizeLine) (hdf:d.params.defaults=[]) (hr:eH k callerA)
  (hY:∀(w:World) (h:Heap),YP w h->(K w.params).In h)
  (F:∀(w:World) (mg:Str->Option Value) (fa:Addr) (h:Heap),(K w.params).In h->h.Ns mainGlobals mg->mg d.name=some (.ref fa)->
   ∃fd:FuncData,(∀(s:Shared) (u:Value),BindsTo s fd ⟨[u],[]⟩ [(x,u)])/\
    ∀base:Heap,(K w.params).In base->base.Ns mainGlobals mg->jy l.prog w (K w.params) mg base (CX w) k fa fd [x] (sp w))
  (hsp:∀(w:World) (H:Hp) (a:Addr) (ns:List Int),ns.length<=n->Only H->gD (K w.params) H a (ns.map V.int)->sp w [.ref a] H (λv _=>v= .bl true) λ_ _ _=>False)
  (NR:∀(w:World) (H:Hp) (s:Shared) (e:Value) (s':Shared),CX w [] H s (λ_ _ _=>False) e s'->False) :
  PySem.W.WalkO q loose XP YP l.row.toRowW d [] (λf vs=>PySem.call f vs):=by
 refine OQ.wn hn hdf λw s₀ s₁ mg mb fa o pm cd doc a vs ns G Y ho hd hcd hmg hobj hints hlen hg=> ?_
 have KX:=hY w _ Y
 obtain⟨fd,hb,hF⟩:=F w mg fa _ KX G.T.g hmg
 exact CG KX G.T.g G.T.b G.T.builtins G.T.nolimit hg hobj hints (Kz hlen hn2) hr hF hb (λH hO hS=>hsp w H a ns hlen hO hS) λH e s'=>NR w H s₁ e s'
end L2
/- THE LAST THEOREM (shape;LID,My.*are OT):
  My.QK: a structure of the addresses that your layer names (classes,functions);My.Txt K t: a structure (Prop) of the equations over K;
  My.NS:{K} {implicit addresses ..} (e1:nsIn K mainGlobals "law" =some (some (.ref f))) (e2:K.lookup f=some ⟨oc,od,.func (fnOf "law" "law" params body scope dV kV doc pm an cdv ct),sl⟩) (e3:codeIn K cdv "law" =true) ..:∃t,My.Txt K t
(the tactic k_is has no namespace: write k_is) -/
namespace L2
open PySem PySem.Spec PyProof.Rows
noncomputable def jX (s:Stmt):Arguments:=match s with
 | .FunctionDef _ a _ _ _ _ _ _ _ _=>a
 | _=>{posonlyargs:=[],args:=[],vararg:=none,kwonlyargs:=[],kw_defaults:=[],kwarg:=none,defaults:=[]}
noncomputable def eY (s:Stmt):List Stmt:=match s with
 | .FunctionDef _ _ b _ _ _ _ _ _ _=>b
 | _=> []
noncomputable def aj (s:Stmt):Scope:=match s with
 | .FunctionDef _ _ _ _ _ _ sc _ _ _=>sc
 | _=>{kind:=.function,names:=[],isGenerator:=false,isCoroutine:=false}
abbrev zW:zP:=λ_ _ _ _ _ _=>False
abbrev E0:XK:=λ_ _ _=>False
theorem Hm :Passes zW X E0:=λ_ _ _ _ _ _ _ h=>h.elim
structure EW (K:Frag)(x qual:Str)(st:Stmt)(f:Addr)(fd:FuncData):Prop where
 ex:∃(oc:Value) (od:Option Addr) (kV doc pm:Value) (an:Option Addr) (cdv ct:Value) (osl:Array (Option Value)),
  fd=fnOf x qual (jX st) (eY st) (aj st) .none kV doc pm an cdv ct/\K.lookup f=some ⟨oc,od,.func fd,osl⟩/\codeIn K cdv qual=true
 kp:keepIn K (.ref f)=true
section
variable {K:Frag}{mg:Str->Option Value}
theorem EW.ok {x qual:Str}{st:Stmt}{f:Addr}{fd:FuncData}{N ps:List Str}{k:Nat}{sp:Sp}(F:EW K x qual st f fd)(S:aL N ps (aj st))(len:∀vs H Q E,sp vs H Q E->vs.length=ps.length)
  (hbody:∀(cdv:Value) (A:Around) (outer:List Env) (s:Shared) (H:Hp) (vs:List V) (Q:VK) (E:XK),eH k (A.deeper (envOfC qual (aj st) s.heap.objs.size f cdv))->sp vs H Q E->
   ∃t,qf (sH zW P w K mg base N qual (aj st) f cdv A outer s H E).Cj (eY st) t/\t {nx:=λ_ H'=>Q .non H',rt:=Q} (start N vs) H):jy P w K mg base zW (k+1) f fd ps sp:=by
 obtain⟨oc,od,kV,doc,pm,an,cdv,ct,osl,rfl,lk,hcd⟩:=F.ex
 refine LR lk hcd S len λA outer s H vs Q E hr hsp=> ?_
 obtain⟨t,h,q⟩:=hbody cdv A outer s H vs Q E hr hsp
 exact⟨t,h.Cj,q⟩
theorem EW.binds {x qual:Str}{st:Stmt}{f:Addr}{fd:FuncData}{ps:List Str}(F:EW K x qual st f fd)
  (h:∀(kV doc pm:Value) (an:Option Addr) (cdv ct:Value) (us:List Value),us.length=ps.length->bindArgs (fnOf x qual (jX st) (eY st) (aj st) .none kV doc pm an cdv ct) ⟨us,[]⟩=pure (ps.zip us)):Binds K fd ps []:=by
 obtain⟨oc,od,kV,doc,pm,an,cdv,ct,osl,rfl,lk,hcd⟩:=F.ex
 exact .all (h kV doc pm an cdv ct)
theorem IV {x qual:Str}{st:Stmt}{f:Addr}{oc:Value}{od an:Option Addr}{osl:Array (Option Value)}{kV doc pm cdv ct:Value}(l:K.lookup f=some ⟨oc,od,.func (fnOf x qual (jX st) (eY st) (aj st) .none kV doc pm an cdv ct),osl⟩)
  (c:codeIn K cdv qual=true) (k:keepIn K (.ref f)=true):EW K x qual st f (fnOf x qual (jX st) (eY st) (aj st) .none kV doc pm an cdv ct):=⟨⟨oc,od,kV,doc,pm,an,cdv,ct,osl,rfl,l,c⟩,k⟩
end
section
variable {X:Cx}
theorem pv (i:Nat)(hN:X.N[i]? =some x:=by rfl)(hv:MY X.env.scope x:=by first | exact Or.inl rfl | exact Or.inr (!4) | exact Or.inr (Or.inr rfl))(hd:(x==("__debug__":Str))=false:=by decide)
  (hcd:(x==("__classdict__":Str))=false:=by decide):PE X (.Name x pos) (lX i):=Cs hN hv hd hcd
end
def Same (H H':Hp):Prop:=∀b o,H b=some o->H' b=some o
theorem Same.refl (H:Hp):Same H H:=λ_ _ h=>h
theorem Same.trans (a:Same H H1)(b:Same H1 H2):Same H H2:=λc o h=>b c o (a c o h)
theorem Same.free (e:Same H H')(h:H' l=Option.none):H l=Option.none:=by
 cases q:H l with
 | none=>rfl
 | some o=>
  rw[e l o q] at h
  cases h
theorem Same.seq {K:Frag}{H H':Hp}{a:Addr}{xs:List V}(e:Same H H')(h:gD K H a xs):gD K H' a xs:=by
 rcases h with(h | ⟨o,h⟩) | h
 ·exact .inl (.inl (e _ _ h))
 ·exact .inl (.inr ⟨o,e _ _ h⟩)
 ·exact .inr h
theorem iG (env:Env):∀(names:List (Str×NameKind)) (x:Str),
  (names.map λ(n,k)=>if (k==NameKind.free && env.scope.kind== .function && env.kindOf n==some .cell) then (n,NameKind.cell) else (n,k)).lookup x=
   (names.lookup x).map λk=>if (k==NameKind.free && env.scope.kind== .function && env.kindOf x==some .cell) then NameKind.cell else k
 | [],_=>rfl
 | (n,k) :: r,x=>by
  have ih:=iG env r x
  show List.lookup x ((if (k==NameKind.free && env.scope.kind== .function && env.kindOf n==some .cell)=true then (n,NameKind.cell) else (n,k)) :: _)=_
  cases hx:x==n with
  | true=>
   have e:x=n:=eq_of_beq hx
   subst e
   by_cases hc:(k==NameKind.free && env.scope.kind== .function && env.kindOf x==some .cell)=true
   ·rw[JQ hc];simp only[Yu,beq_self_eq_true,Uk,JQ hc]
   ·rw[JV hc];simp only[Yu,beq_self_eq_true,Uk,JV hc]
  | false=>
   by_cases hc:(k==NameKind.free && env.scope.kind== .function && env.kindOf n==some .cell)=true
   ·rw[JQ hc];simp only[Yu,hx];exact ih
   ·rw[JV hc];simp only[Yu,hx];exact ih
theorem mR (h:scope.names.lookup x=some .free):(relabel scope env).names.lookup x=some .cell∨(relabel scope env).names.lookup x=some .free:=by
 show(List.lookup x (scope.names.map _)=_)∨(List.lookup x (scope.names.map _)=_)
 rw[iG,h]
 simp only[Uk]
 split
 ·exact .inl rfl
 ·exact .inr rfl
theorem qi (h:(relabel scope env).names.lookup x=some .cell∨(relabel scope env).names.lookup x=some .free):scope.names.lookup x=some .cell∨scope.names.lookup x=some .free:=by
 have e:(relabel scope env).names.lookup x=(scope.names.lookup x).map _:=iG env scope.names x
 rw[e] at h
 cases q:scope.names.lookup x with
 | none=>rw[q] at h;rcases h with h | h <;> cases h
 | some k=>
  rw[q] at h
  simp only[Uk] at h
  by_cases hc:(k==NameKind.free && env.scope.kind== .function && env.kindOf x==some .cell)=true
  ·have:k= .free:=by
    cases k <;> first | rfl | (exfalso;revert hc;simp;done) | (exfalso;simp at hc)
   exact .inr (by rw[this])
  ·rw[JV hc] at h
   exact h
theorem qj (h:∀y∈scope.names,y.2= .free->∃c,env.cells.lookup y.1=some c) :
  ∃cl:List (Str×Addr),closureFor scope env=pure cl/\(∀x c,cl.lookup x=some c->env.cells.lookup x=some c)/\∀y∈scope.names,y.2= .free->∃c,cl.lookup y.1=some c:=by
 have aux:∀(names:List (Str×NameKind)) (cs:List (Str×Addr)),(∀y∈names,y.2= .free->∃c,env.cells.lookup y.1=some c)->(∀x c,cs.lookup x=some c->env.cells.lookup x=some c)->
   ∃cl:List (Str×Addr),(forIn names cs (λx r=>(match x with | (name,kind)=>if (kind==NameKind.free)=true then do let a←cellOf env name;pure (ForInStep.yield ((name,a) :: r)) else pure (ForInStep.yield r):Sem (ForInStep (List (Str×Addr))))):Sem (List (Str×Addr)))=pure cl/\
    (∀x c,cl.lookup x=some c->env.cells.lookup x=some c)/\(∀x,(∃c,cs.lookup x=some c)->∃c,cl.lookup x=some c)/\∀y∈names,y.2= .free->∃c,cl.lookup y.1=some c:=by
  intro names
  induction names with
  | nil=>intro cs _ hs;exact⟨cs,rfl,hs,λ_ z=>z,λy hy=>by cases hy⟩
  | cons p r ih=>
   intro cs hn hs
   obtain⟨n,k⟩:=p
   by_cases hk:(k==NameKind.free)=true
   ·have ek:k= .free:=by cases k <;> first | rfl | (exfalso;revert hk;decide)
    obtain⟨c,hc⟩:=hn (n,k) K7 ek
    obtain⟨cl,e,h1,h2,h3⟩:=ih ((n,c) :: cs) (λy hy=>hn y (K9 _ hy)) (λx c' hx=>by
     rw[Yu] at hx
     cases hxn:x==n with
     | true=>
      rw[hxn] at hx
      cases hx
      rw[eq_of_beq hxn]
      exact hc
     | false=>rw[hxn] at hx;exact hs x c' hx)
    have self:∃c',((n,c) :: cs).lookup n=some c':=⟨c,by simp[Yu]⟩
    refine⟨cl,?_,h1,λx ⟨c',hx⟩=>h2 x ?_,λy hy ef=> ?_⟩
    ·rw[Jw]
     simp only[hk,if_true]
     have hco:cellOf env n=pure c:=by unfold cellOf;rw[hc]
     rw[hco]
     simp only[pure_bind]
     exact e
    ·rw[Yu]
     cases hxn:x==n with
     | true=>exact⟨c,rfl⟩
     | false=>exact⟨c',hx⟩
    ·rcases K0.mp hy with rfl | hy
     ·exact h2 _ self
     ·exact h3 y hy ef
   ·obtain⟨cl,e,h1,h2,h3⟩:=ih cs (λy hy=>hn y (K9 _ hy)) hs
    refine⟨cl,?_,h1,h2,λy hy ef=> ?_⟩
    ·rw[Jw]
     simp only[hk,if_false,pure_bind]
     exact e
    ·rcases K0.mp hy with rfl | hy
     ·have ef':k= .free:=ef
      rw[ef'] at hk
      exact absurd rfl hk
     ·exact h3 y hy ef
 obtain⟨cl,e,h1,_,h3⟩:=aux scope.names [] h (λx c hx=>by cases hx)
 refine⟨cl,?_,h1,h3⟩
 unfold closureFor
 first
  | exact(congrArg (· >>=λr=>pure r) e).trans rfl
  | (simp only[bind_pure];exact e)
  | exact e
noncomputable def bb (X:Cx)(scope:Scope)(cl:List (Str×Addr))(N:List Str)(fp:List Addr)(s:Shared)(H:Hp)(C:Addr):Cx :=
 {X with N:=N,s₀:=s,H₀:=H,env:=compEnvC scope cl C X.env,outer:=X.stack,ex:=fp,fn:=λ_=>false,pn:=[],xe:=λ_ _=>False}
noncomputable def lY (σ:St)(ix:List Nat):St:=ix.map λk=>(σ[k]?).join
structure oe (X:Cx)(scope:Scope)(v:Str)(F:List Str)(ix:List Nat):Prop where
 kind:scope.kind= .function
 own:scope.names.lookup v=some .local
 names:∀y∈scope.names,y.2= .local->scope.names.lookup y.1=some .local
 uI:∀y∈scope.names,y.2≠ .cell
 free:∀y∈scope.names,y.2= .free->X.env.scope.names.lookup y.1=some .cell∨X.env.scope.names.lookup y.1=some .free
 cap:∀x∈F,scope.names.lookup x=some .free
 nd:(v :: F).Nodup
 eqs:ix.map (λk=>X.N[k]?)=F.map some
theorem oe.len (O:oe X scope v F ix):ix.length=F.length:=by
 have:=congrArg List.length O.eqs
 simpa using this
theorem oe.imp (O:oe X scope v F ix):∀(i:Nat) (x:Str),F[i]? =some x->∃k,ix[i]? =some k/\X.N[k]? =some x:=λi x e=>by
 have h:=congrArg (·[i]?) O.eqs
 simp only[KU,e,Uk] at h
 cases q:ix[i]? with
 | none=>rw[q] at h;cases h
 | some k=>rw[q] at h;exact⟨k,rfl,Option.some.inj h⟩
def Ck (X:Cx)(ifs:List Expr)(t:TT):Prop :=
 ∀(pins:List (Addr×Obj)) (s:Shared) (σ:St) (H:Hp) (Q:Bool->Hp->Prop),Inv X pins σ H s->t σ H Q->
  wpAny (!7) X.A (forIn ifs true λc r=>if r=true then do let ok←isTrue c X.env (eval c X.env);pure (ForInStep.yield ok) else pure (ForInStep.yield r)) (TP X pins σ Q) X.xe s
def NT:TT:=λ_ H Q=>Q true H
theorem Fi :Ck X [] NT:=λ_ _ _ H _ I h=>wpAny_tests_nil ⟨H,I,h⟩
theorem Fj (h:PT X c t):Ck X [c] t:=λpins s σ H Q I hw=>wpAny_tests_one (h pins s σ H Q I hw)
section
variable {X:Cx}{scope:Scope}{s:Shared}
theorem Inv.IW (I:Inv X pins σ H s)(O:oe X scope v F ix)(hsub:∀x c,cl.lookup x=some c->X.env.cells.lookup x=some c)(hcl:∀y∈scope.names,y.2= .free->∃c,cl.lookup y.1=some c)
  (hfp:∀b∈fp,oa X pins H b) (hfz:∀b∈fp,b < s.heap.objs.size) (hC:s.heap.objs.size<=C):(bb X scope cl (v :: F) fp s H C).Ok where
 mod:=I.ok.mod
 kind:=O.kind
 glob:=I.ok.glob
 blt:=I.ok.blt
 above:=hC
 inj:=λx y c h1 h2=>I.ok.inj x y c (hsub x c h1) (hsub y c h2)
 has:=λx hx=>by
  have hx':scope.names.lookup x=some .cell∨scope.names.lookup x=some .free:=qi (env:=X.env) hx
  rcases hx' with e | e
  ·exact absurd rfl (O.uI _ (PySem.mem_of_lookup e))
  ·exact hcl _ (PySem.mem_of_lookup e) rfl
 cab:=λx c hf _=>by cases hf
 hd:=I.ok.hd
 frames:=I.ok.frames
 stk:=.inl rfl
 HW:=λb hb=>⟨X3 (X6 (hfz b hb) hC),λx c e=>(hfp b hb).2.2.2.2.1 x c (hsub x c e)⟩
 bs:=I.bs
 yr:=Kz I.ok.yr I.sz
 uw:=λb o e hb=>by
  rcases(hfp b hb).2.2.2.1 with z | z
  ·exact I.ok.uw b o e z
  ·exact absurd (X6 (Kq e) (Kz I.ok.yr z)) (U2 _)
 v8:=λb hb hs=>by
  rcases K0.mp (I.ux b hs) with e | e
  ·exact(hfp b hb).2.1 e
  ·exact(hfp b hb).2.2.1 e
 lV:=I.stack
 Cr:=I.uy
theorem Inv.compStart (I:Inv X pins σ H s)(O:oe X scope v F ix)(hsub:∀x c,cl.lookup x=some c->X.env.cells.lookup x=some c)(hcl:∀y∈scope.names,y.2= .free->∃c,cl.lookup y.1=some c)
  (hfp:∀b∈fp,oa X pins H b) (hfz:∀b∈fp,b < s.heap.objs.size) (hC:C=s.heap.objs.size+1) (hk:∀b o,s.heap.get? b=some o->h1.get? b=some o) (hns:h1.Ns C λ_=>none)
  (hD:h1.get? s.heap.objs.size=some {cls:=.type "list",data:=.seq ([]:List Value).toArray n}) :
  Inv (bb X scope cl (v :: F) fp s H C) [] (none :: lY σ ix) (upd H s.heap.objs.size (.lst [])) {s with heap:=h1,toks:=tk}:=by
 have hn:H s.heap.objs.size=none:=I.hok.fresh (K1 _)
 have hlt:s.heap.objs.size < C:=by rw[hC];exact Uz _
 refine⟨I.IW O hsub hcl hfp hfz (Y1 hlt),rfl,I.bare,Un.laid hk (K1 _) hn,⟨_,hns,λi x u e1 e2 e3=> ?_⟩,λx c e=> ?_,?_,λx c e=> ?_,λp hp=>absurd (show p∈([]:List (Addr×Obj)) from hp) (by simp),
  I.hok.laid hk (K1 _) ⟨Xw _,[],n,.nil,hD⟩,?_⟩
 ·cases i with
  | zero=>have e2':(some none:Option (Option V))=some (some u):=e2;cases e2'
  | succ i=>
   have e1':F[i]? =some x:=e1
   have e2':(lY σ ix)[i]? =some (some u):=e2
   obtain⟨k,hk1,hk2⟩:=O.imp i x e1'
   unfold lY at e2'
   rw[KU,hk1] at e2'
   have e4:(σ[k]?).join=some u:=by simpa using e2'
   have e5:σ[k]? =some (some u):=by
    cases q:σ[k]? with
    | none=>rw[q] at e4;cases e4
    | some o=>rw[q] at e4;have:o=some u:=e4;rw[this]
   have hfr:scope.names.lookup x=some .free:=O.cap x (UY e1')
   have L1:=O.free _ (PySem.mem_of_lookup hfr) rfl
   obtain⟨m,hm,hl⟩:=I.loc
   obtain⟨w,yC,lk⟩:=hl k x u hk2 e5 (by rcases L1 with z | z;exact .inr (.inl z);exact .inr (.inr z))
   refine⟨w,yC,.inr ⟨?_,?_⟩⟩
   ·exact mR hfr
   ·obtain⟨c,hc⟩:=hcl _ (PySem.mem_of_lookup hfr) rfl
    refine⟨c,hc,?_⟩
    rcases lk with⟨z,_⟩ | ⟨_,c',hc',cell⟩
    ·have z':X.env.scope.names.lookup x=some .local:=z
     rcases L1 with y | y <;> (rw[z'] at y;cases y)
    ·have:c'=c:=by
      have:=hsub _ _ hc
      rw[hc'] at this
      exact Option.some.inj this
     subst this
     exact cell.keeps hk
 ·obtain⟨w,cell⟩:=I.cell x c (hsub x c e)
  exact⟨w,cell.keeps hk⟩
 ·show upd H s.heap.objs.size (.lst []) C=none
  rw[aR (Uq hlt)]
  exact I.hok.fresh (Y1 hlt)
 ·obtain⟨w,cell⟩:=I.cell x c (hsub x c e)
  rw[aR (X3 cell.lt)]
  exact I.jx x c (hsub x c e)
 ·show(none :: lY σ ix).length=(v :: F).length
  unfold lY
  rw[Kj,Kj,K6,O.len]
end
end L2
namespace Y
open PySem
/- no list or dict within -/
mutual
noncomputable def br:PyData->Bool
 | .list _=>false
 | .dict _=>false
 | .tuple xs=>ar xs
 | _=>true
noncomputable def ar:List PyData->Bool
 | []=>true
 | d :: ds=>br d && ar ds
end
theorem fF:∀(xs ys:List PyData),ar (xs++ys)=(ar xs && ar ys)
 | [],ys=>by simp[ar]
 | x :: xs,ys=>by rw[U5,ar,ar,fF xs ys,Bool.and_assoc]
theorem aT:∀{xs:List PyData},ar xs=true↔∀x∈xs,br x=true
 | []=>by simp[ar]
 | x :: xs=>by rw[ar,X7,aT (xs:=xs)];simp
theorem aO {α:Type}(f:α->PyData)(h:∀i,br (f i)=true)(l:List α):ar (l.map f)=true:=aT.mpr λx hx=>by
 obtain⟨y,_,rfl⟩:=Kv.mp hx;exact h y
theorem wo (h:ar xs=true):∀k:Nat,ar (List.replicate k xs).flatten=true
 | 0=>rfl
 | k+1=>by rw[Ux,Y6,fF,h,wo h k];rfl
/- data that==reads: no dict,not too deep -/
mutual
noncomputable def lay:Nat->PyData->Bool
 | _,.none=>true
 | _,.bool _=>true
 | _,.int _=>true
 | _,.str x=>PyData.strOk x
 | n+1,.list xs=>lays n xs
 | n+1,.tuple xs=>lays n xs
 | _,_=>false
noncomputable def lays:Nat->List PyData->Bool
 | _,[]=>true
 | n,d :: ds=>lay n d && lays n ds
end
theorem gN :∀{xs:List PyData},lays n xs=true↔∀x∈xs,lay n x=true
 | []=>by simp[lays]
 | x :: xs=>by rw[lays,X7,gN (xs:=xs)];simp
theorem jA {α:Type}(f:α->PyData)(h:∀i,lay n (f i)=true)(l:List α):lays n (l.map f)=true:=gN.mpr λx hx=>by
 obtain⟨y,_,rfl⟩:=Kv.mp hx;exact h y
inductive R (α:Type) where
 | ok (a:α)
 | ex (c:Str)
abbrev M (α:Type):=Option (R α)
noncomputable def ah {α:Type}(a:α):M α:=some (.ok a)
noncomputable def aq {α β:Type}(m:M α)(f:α->M β):M β:=match m with
 | none=>none
 | some (.ok a)=>f a
 | some (.ex c)=>some (.ex c)
theorem au {α β:Type}(a:α)(f:α->M β):aq (ah a) f=f a:=rfl
noncomputable def mo {α:Type}(o:Option α):M α:=o.map .ok
theorem bw {α:Type}(a:α):mo (some a)=ah a:=rfl
abbrev aX:=List (Option (Bool×PyData))
inductive Kd where
 | fr (l:List Nat)
 | base
 | any
def cP (k:Kd)(d:PyData):Kd:=if br d then .fr [] else k
abbrev EF:=aX->M (Kd×PyData)
abbrev TF:=aX->M Bool
inductive Out where
 | nx (Γ:aX)
 | bk (Γ:aX)
 | ct (Γ:aX)
 | rt (o:Bool) (d:PyData)
abbrev SF:=aX->M Out
abbrev GF:=Kd->PyData->aX->Option aX
abbrev IF:=aX->M (Kd×List PyData)
abbrev FF:=List PyData->M (Bool×PyData)
def eC (d:PyData):EF:=λ_=>ah (.fr [],d)
def eV (i:Nat):EF:=λΓ=>match Γ[i]? with
 | some (some (o,d))=>ah (cP (if o then .fr [i] else .base) d,d)
 | _=>none
def bR (g:PyData->PyData->Option PyData)(a b:EF):EF:=λΓ=>aq (a Γ) λx=>aq (b Γ) λy=>aq (mo (g x.2 y.2)) λz=>ah (.fr [],z)
def v6 (g:PyData->Option PyData)(a:EF):EF:=λΓ=>aq (a Γ) λx=>aq (mo (g x.2)) λz=>ah (.fr [],z)
def kI (g:PyData->PyData->Option PyData)(a b:EF):EF:=λΓ=>aq (a Γ) λx=>aq (b Γ) λy=>aq (mo (g x.2 y.2)) λz=>ah (cP x.1 z,z)
def L3 (c:TF)(a b:EF):EF:=λΓ=>aq (c Γ) λt=>if t=true then a Γ else b Γ
def IX (g g':PyData->PyData->Option PyData)(a b c:EF):EF:=λΓ=>aq (a Γ) λx=>aq (b Γ) λy=>aq (mo (g x.2 y.2)) λz=>match z with
 | .bool true=>aq (c Γ) λw=>aq (mo (g' y.2 w.2)) λu=>ah (.fr [],u)
 | .bool false=>ah (.fr [],.bool false)
 | _=>none
def IY (a b:EF):EF:=λΓ=>aq (a Γ) λx=>match x.2 with
 | .bool true=>b Γ
 | .bool false=>ah (.fr [],.bool false)
 | _=>none
def CH (a:EF):EF:=λΓ=>aq (a Γ) λx=>match x.2 with
 | .bool t=>ah (.fr [],.bool (!t))
 | _=>none
def tE (a:EF):TF:=λΓ=>aq (a Γ) λx=>match x.2 with
 | .bool t=>ah t
 | _=>none
def tf (a b:TF):TF:=λΓ=>aq (a Γ) λx=>if x=true then b Γ else ah false
def A9 (a b:TF):TF:=λΓ=>aq (a Γ) λx=>if x=true then ah true else b Γ
def kN (a:TF):TF:=λΓ=>aq (a Γ) λx=>ah (!x)
def eArgs:List EF->aX->M (List (Kd×PyData))
 | [],_=>ah []
 | f :: r,Γ=>aq (f Γ) λx=>aq (eArgs r Γ) λxs=>ah (x :: xs)
noncomputable def bV:List (Kd×PyData)->Kd
 | []=> .fr []
 | (.fr [],_) :: r=>bV r
 | _ :: _=> .any
def fM (fs:List EF):EF:=λΓ=>aq (eArgs fs Γ) λxs=>ah (cP (bV xs) (.tuple (xs.map Prod.snd)),.tuple (xs.map Prod.snd))
def dh (fs:List EF):EF:=λΓ=>aq (eArgs fs Γ) λxs=>ah (bV xs,.list (xs.map Prod.snd))
def kJ (g:List PyData->Option PyData)(fs:List EF):EF:=λΓ=>aq (eArgs fs Γ) λxs=>aq (mo (g (xs.map Prod.snd))) λz=>ah (.fr [],z)
def aN (F:FF)(fs:List EF):EF:=λΓ=>aq (eArgs fs Γ) λxs=>aq (F (xs.map Prod.snd)) λr=>ah (cP (if r.1=true then .fr [] else .any) r.2,r.2)
def yE (x y:PyData):Option PyData:=if lay 60 x && lay 60 y then some (.bool (PyData.eqv x y)) else none
def zX (x y:PyData):Option PyData:=if lay 60 x && lay 60 y then some (.bool (!PyData.eqv x y)) else none
noncomputable def cV (ys:List PyData)(x:PyData):Bool:=ys.any λz=>PyData.eqv z x
def Fk (x:PyData):PyData->Option PyData
 | .list ys=>if lay 60 x && lays 60 ys then some (.bool (cV ys x)) else none
 | .tuple ys=>if lay 60 x && lays 60 ys then some (.bool (cV ys x)) else none
 | _=>none
def g7 (x:PyData):PyData->Option PyData
 | .list ys=>if lay 60 x && lays 60 ys then some (.bool (!cV ys x)) else none
 | .tuple ys=>if lay 60 x && lays 60 ys then some (.bool (!cV ys x)) else none
 | _=>none
def i9:PyData->Bool
 | .none=>true
 | _=>false
def Px (x:PyData):PyData->Option PyData
 | .none=>some (.bool (i9 x))
 | _=>none
noncomputable def og (x:PyData):PyData->Option PyData
 | .none=>some (.bool (!i9 x))
 | _=>none
def wc:PyData->PyData->Option PyData
 | .int i,.int j=>some (.int (i - j))
 | _,_=>none
noncomputable def ku:PyData->PyData->Option PyData
 | .int i,.int j=>if 0 < j/\j < 2^64 then some (.int (i / j)) else none
 | _,_=>none
noncomputable def kF:PyData->PyData->Option PyData
 | .int i,.int j=>if 0 < j then some (.int (i % j)) else none
 | _,_=>none
noncomputable def CI:PyData->PyData->Option PyData
 | .int i,.int j=>if 0<=j/\j<=1000000/\i.natAbs < 2^64 then some (.int (i^j.toNat)) else none
 | _,_=>none
noncomputable def Ll:PyData->PyData->Option PyData
 | .int i,.int j=>some (.bool (decide (i < j)))
 | _,_=>none
def Py:PyData->PyData->Option PyData
 | .int i,.int j=>some (.bool (decide (i<=j)))
 | _,_=>none
def Lm:PyData->PyData->Option PyData
 | .int i,.int j=>some (.bool (decide (j < i)))
 | _,_=>none
def NU:PyData->Option PyData
 | .int i=>some (.int (-i))
 | _=>none
def lZ:PyData->PyData->Option PyData
 | .int i,.int j=>some (.int (i+j))
 | .list xs,.list ys=>if ar xs && ar ys && decide (xs.length+ys.length<=sizeLine) then some (.list (xs++ys)) else none
 | .tuple xs,.tuple ys=>if ar xs && ar ys && decide (xs.length+ys.length<=sizeLine) then some (.tuple (xs++ys)) else none
 | .str x,.str y=>if x.length+y.length<=sizeLine then some (.str (x++y)) else none
 | _,_=>none
noncomputable def sK:PyData->PyData->Option PyData
 | .int i,.int j=>if (-(2^64) < i/\i < 2^64)∨(-(2^64) < j/\j < 2^64) then some (.int (i*j)) else none
 | _,_=>none
def A_ (xs:List PyData):PyData->M (Kd×PyData)
 | .int k=>if ar xs=true/\ -(2^63)<=k/\k < 2^63/\xs.length*k.toNat<=sizeLine then ah (.fr [],.list (List.replicate k.toNat xs).flatten) else none
 | _=>none
def isNew:Kd->Bool
 | .fr []=>true
 | _=>false
def Ba (k:Kd)(x y:PyData):M (Kd×PyData):=if isNew k=true then (match x with
 | .list xs=>A_ xs y
 | _=>none) else none
def Fl (a b:EF):EF:=λΓ=>aq (a Γ) λx=>aq (b Γ) λy=>Ba x.1 x.2 y.2
noncomputable def oW (n:Nat)(i:Int):Option Nat:=if 0<=i then (if i < n then some i.toNat else none) else if -(n:Int)<=i then some (i+n).toNat else none
def pY {α:Type}(xs:List α)(i:Int):Option α:=(oW xs.length i).bind λj=>xs[j]?
noncomputable def iH:PyData->PyData->Option PyData
 | .list xs,.int i=>pY xs i
 | .tuple xs,.int i=>pY xs i
 | .str x,.int i=>if x.length<=sizeLine then (pY x.cps.toList i).map λc=> .str ⟨#[c]⟩ else none
 | _,_=>none
noncomputable def kO:List PyData->Option PyData
 | [.list xs]=>some (.int xs.length)
 | [.tuple xs]=>some (.int xs.length)
 | [.str x]=>if x.length<=sizeLine then some (.int x.length) else none
 | _=>none
def oX:List PyData->Option PyData
 | [.list xs]=>if ar xs then some (.list xs) else none
 | [.tuple xs]=>if ar xs then some (.list xs) else none
 | _=>none
def fx:List PyData->Option PyData
 | [.list xs]=>if ar xs then some (.tuple xs) else none
 | [.tuple xs]=>if ar xs then some (.tuple xs) else none
 | _=>none
noncomputable def qk (n:String):PyData->Bool
 | .none=>false
 | .bool _=>n== "bool" || n== "int"
 | .int _=>n== "int"
 | .str _=>n== "str"
 | .list _=>n== "list"
 | .tuple _=>n== "tuple"
 | .dict _=>n== "dict"
def wq (n:String)(a:EF):EF:=λΓ=>aq (a Γ) λx=>ah (.fr [],.bool (qk n x.2))
noncomputable def yF (i:Nat)(Γ:aX):aX:=match Γ[i]? with
 | some (some (_,d))=>Γ.set i (some (false,d))
 | _=>Γ
noncomputable def yG (l:List Nat)(Γ:aX):aX:=l.foldl (λΓ i=>yF i Γ) Γ
noncomputable def uJ (Γ:aX):aX:=Γ.map λs=>s.map λp=>(false,p.2)
noncomputable def jo (Γ:aX)(i:Nat)(k:Kd)(d:PyData):aX:=match k with
 | .fr []=>Γ.set i (some (true,d))
 | .fr (j :: l)=>(yG (j :: l) Γ).set i (some (false,d))
 | .base=>Γ.set i (some (false,d))
 | .any=>(uJ Γ).set i (some (false,d))
noncomputable def bW (i:Nat):GF:=λk d Γ=>some (jo Γ i k d)
def zY:Kd->Kd
 | .fr []=> .fr []
 | .fr (_ :: _)=> .any
 | .base=> .base
 | .any=> .any
def ql (Γ:aX):List Nat->Kd->List PyData->aX
 | i :: is,k,d :: ds=>ql (jo Γ i (cP k d) d) is k ds
 | _,_,_=>Γ
def jY (is:List Nat):GF:=λk d Γ=>match d with
 | .tuple ds=>if ds.length=is.length then some (ql Γ is (zY k) ds) else none
 | _=>none
noncomputable def kG (k:Kd)(Γ:aX):aX:=match k with
 | .fr []=>Γ
 | .fr (j :: l)=>yG (j :: l) Γ
 | .base=>Γ
 | .any=>uJ Γ
noncomputable def itemsOf:PyData->Option (List PyData)
 | .list xs=>some xs
 | .tuple xs=>some xs
 | _=>none
def i6 (e:EF):IF:=λΓ=>aq (e Γ) λx=>aq (mo (itemsOf x.2)) λds=>ah (x.1,ds)
def Bb:PyData->M (Kd×List PyData)
 | .int n=>if -(2^62)<=n/\n < 2^62 then ah (.fr [],(List.range n.toNat).map λi=> .int (i:Nat)) else none
 | _=>none
def eE (e:EF):IF:=λΓ=>aq (e Γ) λx=>Bb x.2
noncomputable def i7 (Γ:aX)(ix:List Nat):aX:=ix.map λk=>(Γ[k]?).join.map λp=>(false,p.2)
noncomputable def cb (ft:TF)(fe:EF)(cap:aX):List PyData->Option (List (Kd×PyData))
 | []=>some []
 | d :: ds=>match ft (some (false,d) :: cap) with
  | some (.ok true)=>match fe (some (false,d) :: cap) with
   | some (.ok x)=>(cb ft fe cap ds).map (x :: ·)
   | _=>none
  | some (.ok false)=>cb ft fe cap ds
  | _=>none
noncomputable def gO:List (Kd×PyData)->Option Kd
 | []=>some (.fr [])
 | (.fr [],_) :: r=>gO r
 | (.base,_) :: r=>(gO r).map λ_=> .any
 | _ :: _=>none
def bT:TF:=λ_=>ah true
def a7 (it:IF)(ix:List Nat)(ft:TF)(fe:EF):EF:=λΓ=>aq (it Γ) λx=>aq (mo (cb ft fe (i7 Γ ix) x.2)) λys=>aq (mo (gO ys)) λk=>if x.2.length<=100000 then ah (k,.list (ys.map Prod.snd)) else none
def aC (f g:SF):SF:=λΓ=>aq (f Γ) λo=>match o with
 | .nx Γ'=>g Γ'
 | o=>ah o
def fH:SF:=λΓ=>ah (.nx Γ)
def NV:SF:=λΓ=>ah (.ct Γ)
def oh:Kd->Bool
 | .fr _=>true
 | _=>false
def cy (e:EF):SF:=λΓ=>aq (e Γ) λx=>ah (.rt (oh x.1) x.2)
def CJ:SF:=λ_=>none
def aH (i:Nat)(e:EF):SF:=λΓ=>aq (e Γ) λx=>ah (.nx (jo Γ i x.1 x.2))
def l4 (t:TF)(a b:SF):SF:=λΓ=>aq (t Γ) λc=>if c=true then a Γ else b Γ
def yH (i j:Nat):SF:=λΓ=>match Γ[j]? with
 | some (some (true,d))=>if br d then ah (.nx (Γ.set i (some (true,d)))) else if i=j then none else ah (.nx ((Γ.set j none).set i (some (true,d))))
 | some (some (false,d))=>ah (.nx (jo Γ i (cP .base d) d))
 | _=>none
def Bc (g:GF)(e:EF):SF:=λΓ=>aq (e Γ) λx=>aq (mo (g x.1 x.2 Γ)) λΓ'=>ah (.nx Γ')
def aZ (g:GF)(b:SF):List PyData->aX->M Out
 | [],Γ=>ah (.nx Γ)
 | d :: ds,Γ=>aq (mo (g (cP .base d) d Γ)) λΓ1=>aq (b Γ1) λo=>match o with
  | .nx Γ'=>aZ g b ds Γ'
  | .ct Γ'=>aZ g b ds Γ'
  | .bk Γ'=>ah (.nx Γ')
  | .rt o d=>ah (.rt o d)
def bA (it:IF)(g:GF)(b:SF):SF:=λΓ=>aq (it Γ) λx=>aZ g b x.2 (kG x.1 Γ)
def fy (n:Nat)(t:TF)(b:SF)(Γ:aX):M Out:=match n with
 | 0=>none
 | n+1=>aq (t Γ) λc=>if c=true then aq (b Γ) λo=>(match o with
   | .nx Γ'=>fy n t b Γ'
   | .ct Γ'=>fy n t b Γ'
   | .bk Γ'=>ah (.nx Γ')
   | .rt o d=>ah (.rt o d)) else ah (.nx Γ)
def wu:Nat:=1000000
def qm (n:Nat)(t:TF)(b:SF):SF:=λΓ=>fy n t b Γ
def iI (i:Nat)(e:EF):SF:=λΓ=>match Γ[i]? with
 | some (some (true,.list xs))=>aq (e Γ) λx=>match x.1 with
  | .fr []=>if xs.length < sizeLine then ah (.nx (Γ.set i (some (true,.list (xs++[x.2]))))) else none
  | .fr [j]=>if xs.length < sizeLine/\i≠j then ah (.nx ((Γ.set j none).set i (some (true,.list (xs++[x.2]))))) else none
  | _=>none
 | _=>none
def Hn:Kd->Bool
 | .fr []=>true
 | .base=>true
 | _=>false
noncomputable def yI (k:Kd):PyData->Option (List PyData)
 | .list ys=>if Hn k=true then some ys else none
 | .tuple ys=>some ys
 | _=>none
def yJ (i:Nat)(e:EF):SF:=λΓ=>match Γ[i]? with
 | some (some (true,.list xs))=>aq (e Γ) λx=>match yI x.1 x.2 with
  | some ys=>if ar ys=true/\xs.length+ys.length<=sizeLine then ah (.nx (Γ.set i (some (true,.list (xs++ys))))) else none
  | none=>none
 | _=>none
def Bd (i:Nat)(j e:EF):SF:=λΓ=>aq (e Γ) λx=>match Γ[i]? with
 | some (some (true,.list xs))=>aq (j Γ) λy=>match y.2 with
  | .int n=>match oW xs.length n with
   | some m=>if br x.2 && ar xs then ah (.nx (Γ.set i (some (true,.list (xs.set m x.2))))) else none
   | none=>none
  | _=>none
 | _=>none
noncomputable def cD (n:Nat)(ds:List PyData):aX:=ds.map (λd=>some (false,d))++List.replicate (n - ds.length) none
def cM (n:Nat)(f:SF):FF:=λds=>aq (f (cD n ds)) λo=>match o with
 | .rt o d=>ah (o,d)
 | .nx _=>ah (true,.none)
 | _=>none
def wv:PyData->Option PyData
 | .list xs=>if ar xs then some (.tuple xs.reverse) else none
 | _=>none
noncomputable def sL (x:PyData):List PyData->Option Nat
 | []=>none
 | y :: ys=>if PyData.eqv y x then some 0 else (sL x ys).map (· +1)
noncomputable def IZ (n d:Nat):Option Int->Nat
 | none=>d
 | some v=>if v < 0 then (v+(n:Int)).toNat else min v.toNat n
noncomputable def cutD (xs:List PyData)(lo hi:Option Int):List PyData:=(xs.drop (IZ xs.length 0 lo)).take (IZ xs.length xs.length hi - IZ xs.length 0 lo)
def oI:PyData->M (Option Int)
 | .int n=>ah (some n)
 | _=>none
def oE:Option EF->aX->M (Option Int)
 | none,_=>ah none
 | some f,Γ=>aq (f Γ) λx=>oI x.2
def M6 (d:PyData)(lo hi:Option Int):Option PyData:=match d with
 | .list xs=>if ar xs=true then some (.list (cutD xs lo hi)) else none
 | .tuple xs=>if ar xs=true then some (.tuple (cutD xs lo hi)) else none
 | _=>none
def M7 (a:EF)(lo hi:Option EF):EF:=λΓ=>aq (a Γ) λx=>aq (oE lo Γ) λl=>aq (oE hi Γ) λh=>aq (mo (M6 x.2 l h)) λz=>ah (.fr [],z)
def Fm (k:Kd):PyData->M (Kd×List PyData)
 | .tuple xs=>ah (k,xs.reverse)
 | _=>none
def CK (e:EF):IF:=λΓ=>aq (e Γ) λx=>Fm x.1 x.2
mutual
noncomputable def nest:Nat->PyData->Bool
 | _,.int _=>true
 | _,.none=>true
 | n+1,.tuple ds=>nests n ds
 | _,_=>false
noncomputable def nests:Nat->List PyData->Bool
 | _,[]=>true
 | n,d :: ds=>nest n d && nests n ds
end
def wx:Int:=4238894112
mutual
def gp:PyData->Int
 | .int i=>hashInt i
 | .tuple xs=>reduceHash (Builtin.Tuple.tupleHashOf (jZ xs))
 | _=>wx
def jZ:List PyData->List Int
 | []=> []
 | d :: ds=>gp d :: jZ ds
end
noncomputable def dy:PyData->Bool
 | .tuple ds=>nests 7 ds
 | _=>false
def yK:PyData->Bool
 | .int _=>true
 | _=>false
abbrev l5:=List (PyData×PyData)
def g8 (kvs:l5):Bool:=kvs.all λp=>dy p.1
noncomputable def allI (kvs:l5):Bool:=kvs.all λp=>yK p.1
def eK (kvs:l5)(x:PyData):Bool:=(dy x && g8 kvs) || (yK x && allI kvs)
noncomputable def mj (kvs:l5)(x:PyData):Bool:=kvs.any λp=>PyData.eqv p.1 x
noncomputable def j0 (kvs:l5)(x:PyData):Option PyData:=(kvs.find? λp=>PyData.eqv p.1 x).map (·.2)
noncomputable def putK (kvs:l5)(k v:PyData):l5:=if mj kvs k=true then kvs.map λp=>if PyData.eqv p.1 k=true then (p.1,v) else p else kvs++[(k,v)]
noncomputable def me (kvs more:l5):l5:=more.foldl (λacc p=>putK acc p.1 p.2) kvs
def eM (kvs:l5):Bool:=ar (kvs.map (·.2))
def wy (x y:PyData):Option PyData:=match y with
 | .dict kvs=>if eK kvs x=true then some (.bool (mj kvs x)) else none
 | y=>Fk x y
def fO (x y:PyData):Option PyData:=match y with
 | .dict kvs=>if eK kvs x=true then some (.bool (!mj kvs x)) else none
 | y=>g7 x y
def Fo (x y:PyData):Option PyData:=match x with
 | .dict kvs=>if eK kvs y=true then j0 kvs y else none
 | x=>iH x y
def mS:EF:=λ_=>ah (.fr [],.dict [])
def wz (a b:EF):EF:=λΓ=>aq (a Γ) λx=>aq (b Γ) λy=>if eK [] x.2=true/\br y.2=true then ah (.fr [],.dict [(x.2,y.2)]) else none
def pZ:List PyData->Option PyData
 | [.dict kvs]=>if kvs.isEmpty=false/\g8 kvs=true/\eM kvs=true/\(kvs.map λp=>gp p.1).Nodup then some (.dict kvs) else none
 | _=>none
noncomputable def Fp (i:Nat):Kd->Bool
 | .fr l=> !l.contains i
 | .base=>true
 | .any=>false
def wA (i:Nat)(k:Kd)(kvs:l5):PyData->Option l5
 | .dict more=>if Fp i k=true/\((kvs.isEmpty=false/\g8 kvs=true/\g8 more=true)∨(allI kvs=true/\allI more=true))/\eM kvs=true/\eM more=true/\kvs.length+more.length<=sizeLine then some (me kvs more) else none
 | _=>none
def tj (i:Nat)(e:EF):SF:=λΓ=>match Γ[i]? with
 | some (some (true,.dict kvs))=>aq (e Γ) λx=>match wA i x.1 kvs x.2 with
  | some kvs'=>ah (.nx (Γ.set i (some (true,.dict kvs'))))
  | none=>none
 | _=>none
def qo (i:Nat)(j e:EF):SF:=λΓ=>aq (e Γ) λx=>match Γ[i]? with
 | some (some (true,.dict kvs))=>aq (j Γ) λy=>if eK kvs y.2=true/\br x.2=true/\eM kvs=true/\kvs.length < sizeLine then ah (.nx (Γ.set i (some (true,.dict (putK kvs y.2 x.2))))) else none
 | _=>none
def tm (i:Nat)(j e:EF):SF:=λΓ=>match Γ[i]? with
 | some (some (true,.dict _))=>qo i j e Γ
 | _=>Bd i j e Γ
def zZ:l5->PyData->PyData->Option l5
 | [],k,n=>some [(k,.list [n])]
 | (k',v) :: r,k,n=>if PyData.eqv k' k=true then (match v with
  | .list xs=>if ar xs=true/\xs.length < sizeLine then some ((k',.list (xs++[n])) :: r) else none
  | _=>none) else (zZ r k n).map ((k',v) :: ·)
noncomputable def eA:Nat->List PyData->List PyData
 | _,[]=> []
 | n,d :: ds=> .tuple [.int (n:Int),d] :: eA (n+1) ds
def Fq (k:Kd):PyData->M (Kd×List PyData)
 | .tuple xs=>ah (k,eA 0 xs)
 | _=>none
def uK (e:EF):IF:=λΓ=>aq (e Γ) λx=>Fq x.1 x.2
end Y
namespace L2
open PySem PySem.Spec PyProof.Rows Y
abbrev Fs:=List (!9)×Nat
def qp (a:Addr)(ks:Fs)(h:Heap):Prop :=
 ks.1.length<=sizeLine/\(a==sysModules)=false/\((∀k∈ks.1,dy k.1=true)∨(∀k∈ks.1,yK k.1=true))/\(ks.1.map (·.1)).Nodup/\∃o es,h.get? a=some o/\o.ExactDict/\o.data= .dict es ks.2/\
  Paired (λ(k:PyData×V×V) (e:DictEntry)=>e.hash=gp k.1/\RelV k.2.1 e.key/\RelV k.2.2 e.val) ks.1 es.toList
def HO.dct (a:Addr)(ks:Fs):HO:=.ext (qp a ks)
mutual
def aM (K:Frag)(H:Hp):PyData->V->Prop
 | .none,v=>v= .non
 | .bool b,v=>v= .bl b
 | .int i,v=>v= .int i
 | .str x,v=>v= .str x
 | .list xs,v=>∃a vs,v= .ref a/\gD K H a vs/\ay K H xs vs
 | .tuple xs,v=>∃a vs,v= .ref a/\ee K H a vs/\ay K H xs vs
 | .dict kvs,v=>∃a ks,v= .ref a/\Rd H a (.dct a ks)/\aV K H kvs ks.1
def ay (K:Frag)(H:Hp):List PyData->List V->Prop
 | [],vs=>vs=[]
 | d :: ds,vs=>∃v r,vs=v :: r/\aM K H d v/\ay K H ds r
def aV (K:Frag)(H:Hp):List (PyData×PyData)->List (!9)->Prop
 | [],ks=>ks=[]
 | (k,d) :: r,ks=>∃kv v q,ks=(k,kv,v) :: q/\aM K H k kv/\aM K H d v/\aV K H r q
end
mutual
def IsT (K:Frag)(H:Hp):PyData->V->List Addr->Prop
 | .none,v,as=>v= .non/\as=[]
 | .bool b,v,as=>v= .bl b/\as=[]
 | .int i,v,as=>v= .int i/\as=[]
 | .str x,v,as=>v= .str x/\as=[]
 | .list xs,v,as=>∃a vs bs,v= .ref a/\H a=some (.lst vs)/\aA K H xs vs bs/\as=a :: bs
 | .tuple xs,v,as=>∃a vs,v= .ref a/\ee K H a vs/\aA K H xs vs as
 | .dict kvs,v,as=>∃a ks bs,v= .ref a/\H a=some (.dct a ks)/\aP K H kvs ks.1 bs/\as=a :: bs
def aA (K:Frag)(H:Hp):List PyData->List V->List Addr->Prop
 | [],vs,as=>vs=[]/\as=[]
 | d :: ds,vs,as=>∃v r a1 a2,vs=v :: r/\as=a1++a2/\IsT K H d v a1/\aA K H ds r a2
def aP (K:Frag)(H:Hp):List (PyData×PyData)->List (!9)->List Addr->Prop
 | [],ks,as=>ks=[]/\as=[]
 | (k,d) :: r,ks,as=>∃kv v q a1 a2,ks=(k,kv,v) :: q/\as=a1++a2/\IsT K H k kv []/\IsT K H d v a1/\aP K H r q a2
end
section
variable {K:Frag}{H H':Hp}
theorem bJ :aM K H (.int i) (.int i):=by simp only[aM]
theorem z8:aM K H .none .non:=by simp only[aM]
theorem di :aM K H (.bool b) (.bl b):=by simp only[aM]
theorem z9 :aM K H (.str x) (.str x):=by simp only[aM]
theorem a8:ay K H [] []:=by simp only[ay]
theorem aW (h:aM K H d v)(t:ay K H ds vs):ay K H (d :: ds) (v :: vs):=by
 simp only[ay];exact⟨v,vs,rfl,h,t⟩
theorem p0 (h:ee K H a vs)(t:ay K H ds vs):aM K H (.tuple ds) (.ref a):=by
 simp only[aM];exact⟨a,vs,rfl,h,t⟩
theorem uL (h:gD K H a vs)(t:ay K H ds vs):aM K H (.list ds) (.ref a):=by
 simp only[aM];exact⟨a,vs,rfl,h,t⟩
theorem aJ (h:aM K H (.tuple ds) v):∃a vs,v= .ref a/\ee K H a vs/\ay K H ds vs:=by
 simpa only[aM] using h
theorem a9 (h:aM K H (.list ds) v):∃a vs,v= .ref a/\gD K H a vs/\ay K H ds vs:=by
 simpa only[aM] using h
theorem cu (h:aM K H (.dict kvs) v):∃a ks,v= .ref a/\Rd H a (.dct a ks)/\aV K H kvs ks.1:=by
 simpa only[aM] using h
theorem aE (h:aM K H (.int i) v):v= .int i:=by simpa only[aM] using h
theorem iJ (h:aM K H (.str i) v):v= .str i:=by simpa only[aM] using h
theorem jB (h:aM K H (.bool i) v):v= .bl i:=by simpa only[aM] using h
theorem ml (h:aM K H .none v):v= .non:=by simpa only[aM] using h
theorem ap:∀{ds:List PyData} {vs:List V},ay K H ds vs->vs.length=ds.length
 | [],vs,h=>by simp only[ay] at h;subst h;rfl
 | d :: ds,vs,h=>by
  simp only[ay] at h
  obtain⟨v,r,rfl,_,t⟩:=h
  rw[Kj,Kj,ap t]
theorem gP:∀{ds:List PyData} {vs:List V} {i:Nat} {d:PyData},ay K H ds vs->ds[i]? =some d->∃v,vs[i]? =some v/\aM K H d v
 | [],_,_,_,_,e=>by simp at e
 | c :: ds,vs,i,d,h,e=>by
  simp only[ay] at h
  obtain⟨v,r,rfl,hv,t⟩:=h
  cases i with
  | zero=>simp at e;subst e;exact⟨v,rfl,hv⟩
  | succ i=>
   obtain⟨w,h1,h2⟩:=gP (i:=i) (d:=d) t (by simpa using e)
   exact⟨w,by simpa using h1,h2⟩
theorem iB:∀{ds:List PyData} {vs:List V} {i:Nat} {v:V},ay K H ds vs->vs[i]? =some v->∃d,ds[i]? =some d/\aM K H d v
 | [],vs,i,v,h,e=>by simp only[ay] at h;subst h;simp at e
 | c :: ds,vs,i,v,h,e=>by
  simp only[ay] at h
  obtain⟨v',r,rfl,hv,t⟩:=h
  cases i with
  | zero=>simp at e;subst e;exact⟨c,rfl,hv⟩
  | succ i=>
   obtain⟨w,h1,h2⟩:=iB (i:=i) (v:=v) t (by simpa using e)
   exact⟨w,by simpa using h1,h2⟩
theorem dz:∀{ds es:List PyData} {vs ws:List V},ay K H ds vs->ay K H es ws->ay K H (ds++es) (vs++ws)
 | [],es,vs,ws,h,t=>by simp only[ay] at h;subst h;exact t
 | d :: ds,es,vs,ws,h,t=>by
  simp only[ay] at h
  obtain⟨v,r,rfl,hv,tl⟩:=h
  exact aW hv (dz tl t)
theorem Be (h:ay K H ds vs)(t:aM K H d v):ay K H (ds++[d]) (vs++[v]):=dz h (aW t a8)
theorem mT:∀{ds:List PyData} {vs:List V},ay K H ds vs->ay K H ds.reverse vs.reverse
 | [],vs,h=>by simp only[ay] at h;subst h;exact a8
 | d :: ds,vs,h=>by
  simp only[ay] at h
  obtain⟨v,r,rfl,hv,tl⟩:=h
  rw[J6,J6]
  exact Be (mT tl) hv
theorem tq:∀{ds:List PyData} {vs:List V} (n:Nat),ay K H ds vs->ay K H (ds.take n) (vs.take n)
 | _,_,0,_=>by simp only[YV];exact a8
 | [],vs,n+1,h=>by simp only[ay] at h;subst h;simp only[List.take_nil];exact a8
 | d :: ds,vs,n+1,h=>by
  simp only[ay] at h
  obtain⟨v,r,rfl,hv,tl⟩:=h
  exact aW hv (tq n tl)
theorem tu:∀{ds:List PyData} {vs:List V} (n:Nat),ay K H ds vs->ay K H (ds.drop n) (vs.drop n)
 | _,_,0,h=>h
 | [],vs,n+1,h=>by simp only[ay] at h;subst h;simp only[List.drop_nil];exact a8
 | d :: ds,vs,n+1,h=>by
  simp only[ay] at h
  obtain⟨v,r,rfl,hv,tl⟩:=h
  exact tu n tl
theorem wB:∀{ds:List PyData} {vs:List V} {d:PyData} {v:V} (n:Nat),ay K H ds vs->aM K H d v->ay K H (ds.set n d) (vs.set n v)
 | [],vs,_,_,n,h,_=>by simp only[ay] at h;subst h;simp only[List.set_nil];exact a8
 | c :: ds,vs,d,v,n,h,q=>by
  simp only[ay] at h
  obtain⟨v',r,rfl,hv,tl⟩:=h
  cases n with
  | zero=>exact aW q tl
  | succ n=>exact aW hv (wB n tl q)
theorem wC:∀{ds:List PyData} {vs:List V} (k:Nat),ay K H ds vs->ay K H (List.replicate k ds).flatten (List.replicate k vs).flatten
 | _,_,0,_=>a8
 | _,_,k+1,h=>by
  rw[Ux,Ux,Y6,Y6]
  exact dz h (wC k h)
theorem lC:∀(ns:List Int),ay K H (ns.map PyData.int) (ns.map V.int)
 | []=>a8
 | n :: ns=>aW bJ (lC ns)
theorem mU:∀{ns:List Int} {vs:List V},ay K H (ns.map PyData.int) vs->vs=ns.map V.int
 | [],vs,h=>by simpa only[ay,Yx] using h
 | n :: ns,vs,h=>by
  simp only[ay,KQ] at h
  obtain⟨v,r,rfl,hv,tl⟩:=h
  rw[aE hv,mU tl,KQ]
theorem Same.l6 (e:Same H H')(h:ee K H a xs):ee K H' a xs:=by
 rcases h with(h | ⟨o,h⟩) | h
 ·exact .inl (.inl (e _ _ h))
 ·exact .inl (.inr ⟨o,e _ _ h⟩)
 ·exact .inr h
theorem Same.rd (e:Same H H')(h:Rd H a u):Rd H' a u:=by
 rcases h with h | ⟨o,h⟩
 ·exact .inl (e _ _ h)
 ·exact .inr ⟨o,e _ _ h⟩
mutual
theorem aM.same (e:Same H H'):∀(d:PyData) (v:V),aM K H d v->aM K H' d v
 | .none,v,h=>by simpa only[aM] using h
 | .bool b,v,h=>by simpa only[aM] using h
 | .int i,v,h=>by simpa only[aM] using h
 | .str x,v,h=>by simpa only[aM] using h
 | .list xs,v,h=>by
  simp only[aM] at h⊢
  obtain⟨a,vs,e1,h1,h2⟩:=h
  exact⟨a,vs,e1,e.seq h1,ay.same e xs vs h2⟩
 | .tuple xs,v,h=>by
  simp only[aM] at h⊢
  obtain⟨a,vs,e1,h1,h2⟩:=h
  exact⟨a,vs,e1,e.l6 h1,ay.same e xs vs h2⟩
 | .dict kvs,v,h=>by
  simp only[aM] at h⊢
  obtain⟨a,ks,e1,h1,h2⟩:=h
  exact⟨a,ks,e1,e.rd h1,aV.same e kvs ks.1 h2⟩
theorem ay.same (e:Same H H'):∀(ds:List PyData) (vs:List V),ay K H ds vs->ay K H' ds vs
 | [],vs,h=>by simpa only[ay] using h
 | d :: ds,vs,h=>by
  simp only[ay] at h⊢
  obtain⟨v,r,e1,h1,h2⟩:=h
  exact⟨v,r,e1,aM.same e d v h1,ay.same e ds r h2⟩
theorem aV.same (e:Same H H'):∀(ds:List (PyData×PyData)) (ks:List (!9)),aV K H ds ks->aV K H' ds ks
 | [],ks,h=>by simpa only[aV] using h
 | (k,d) :: r,ks,h=>by
  simp only[aV] at h⊢
  obtain⟨kv,v,q,e1,h1,h2,h3⟩:=h
  exact⟨kv,v,q,e1,aM.same e k kv h1,aM.same e d v h2,aV.same e r q h3⟩
end
theorem Same.upd (h:H a=none):Same H (upd H a o):=λb u e=>by
 rw[aR (dw e h)];exact e
theorem Same.I0 (s:Same H0 H)(h:H0 a=none):Same H0 (L2.upd H a o):=λb u e=>by
 rw[aR (dw e h)];exact s b u e
mutual
theorem IsT.same (e:Same H H'):∀(d:PyData) (v:V) (as:List Addr),IsT K H d v as->IsT K H' d v as
 | .none,v,as,h=>by simpa only[IsT] using h
 | .bool b,v,as,h=>by simpa only[IsT] using h
 | .int i,v,as,h=>by simpa only[IsT] using h
 | .str x,v,as,h=>by simpa only[IsT] using h
 | .list xs,v,as,h=>by
  simp only[IsT] at h⊢
  obtain⟨a,vs,bs,e1,h1,h2,h3⟩:=h
  exact⟨a,vs,bs,e1,e _ _ h1,aA.same e xs vs bs h2,h3⟩
 | .tuple xs,v,as,h=>by
  simp only[IsT] at h⊢
  obtain⟨a,vs,e1,h1,h2⟩:=h
  exact⟨a,vs,e1,e.l6 h1,aA.same e xs vs as h2⟩
 | .dict kvs,v,as,h=>by
  simp only[IsT] at h⊢
  obtain⟨a,ks,bs,e1,h1,h2,h3⟩:=h
  exact⟨a,ks,bs,e1,e _ _ h1,aP.same e kvs ks.1 bs h2,h3⟩
theorem aA.same (e:Same H H'):∀(ds:List PyData) (vs:List V) (as:List Addr),aA K H ds vs as->aA K H' ds vs as
 | [],vs,as,h=>by simpa only[aA] using h
 | d :: ds,vs,as,h=>by
  simp only[aA] at h⊢
  obtain⟨v,r,a1,a2,e1,e2,h1,h2⟩:=h
  exact⟨v,r,a1,a2,e1,e2,IsT.same e d v a1 h1,aA.same e ds r a2 h2⟩
theorem aP.same (e:Same H H'):∀(ds:List (PyData×PyData)) (ks:List (!9)) (as:List Addr),aP K H ds ks as->aP K H' ds ks as
 | [],ks,as,h=>by simpa only[aP] using h
 | (k,d) :: r,ks,as,h=>by
  simp only[aP] at h⊢
  obtain⟨kv,v,q,a1,a2,e1,e2,h1,h2,h3⟩:=h
  exact⟨kv,v,q,a1,a2,e1,e2,IsT.same e k kv [] h1,IsT.same e d v a1 h2,aP.same e r q a2 h3⟩
end
mutual
theorem IsT.toD:∀(d:PyData) (v:V) (as:List Addr),IsT K H d v as->aM K H d v
 | .none,v,as,h=>by simp only[IsT] at h;simp only[aM];exact h.1
 | .bool b,v,as,h=>by simp only[IsT] at h;simp only[aM];exact h.1
 | .int i,v,as,h=>by simp only[IsT] at h;simp only[aM];exact h.1
 | .str x,v,as,h=>by simp only[IsT] at h;simp only[aM];exact h.1
 | .list xs,v,as,h=>by
  simp only[IsT] at h;simp only[aM]
  obtain⟨a,vs,bs,e1,h1,h2,h3⟩:=h
  exact⟨a,vs,e1,gD.of h1,aA.toD xs vs bs h2⟩
 | .tuple xs,v,as,h=>by
  simp only[IsT] at h;simp only[aM]
  obtain⟨a,vs,e1,h1,h2⟩:=h
  exact⟨a,vs,e1,h1,aA.toD xs vs as h2⟩
 | .dict kvs,v,as,h=>by
  simp only[IsT] at h;simp only[aM]
  obtain⟨a,ks,bs,e1,h1,h2,h3⟩:=h
  exact⟨a,ks,e1,.inl h1,aP.toD kvs ks.1 bs h2⟩
theorem aA.toD:∀(ds:List PyData) (vs:List V) (as:List Addr),aA K H ds vs as->ay K H ds vs
 | [],vs,as,h=>by simp only[aA] at h;simp only[ay];exact h.1
 | d :: ds,vs,as,h=>by
  simp only[aA] at h;simp only[ay]
  obtain⟨v,r,a1,a2,e1,e2,h1,h2⟩:=h
  exact⟨v,r,e1,IsT.toD d v a1 h1,aA.toD ds r a2 h2⟩
theorem aP.toD:∀(ds:List (PyData×PyData)) (ks:List (!9)) (as:List Addr),aP K H ds ks as->aV K H ds ks
 | [],ks,as,h=>by simp only[aP] at h;simp only[aV];exact h.1
 | (k,d) :: r,ks,as,h=>by
  simp only[aP] at h;simp only[aV]
  obtain⟨kv,v,q,a1,a2,e1,e2,h1,h2,h3⟩:=h
  exact⟨kv,v,q,e1,IsT.toD k kv [] h1,IsT.toD d v a1 h2,aP.toD r q a2 h3⟩
end
mutual
theorem aM.toT:∀(d:PyData) (v:V),br d=true->aM K H d v->IsT K H d v []
 | .none,v,_,h=>by simp only[aM] at h;simp only[IsT];exact⟨h,trivial⟩
 | .bool b,v,_,h=>by simp only[aM] at h;simp only[IsT];exact⟨h,trivial⟩
 | .int i,v,_,h=>by simp only[aM] at h;simp only[IsT];exact⟨h,trivial⟩
 | .str x,v,_,h=>by simp only[aM] at h;simp only[IsT];exact⟨h,trivial⟩
 | .list xs,v,n,h=>by simp[br] at n
 | .tuple xs,v,n,h=>by
  simp only[aM] at h;simp only[IsT]
  obtain⟨a,vs,e1,h1,h2⟩:=h
  exact⟨a,vs,e1,h1,ay.toT xs vs (by simpa [br] using n) h2⟩
 | .dict kvs,v,n,h=>by simp[br] at n
theorem ay.toT:∀(ds:List PyData) (vs:List V),ar ds=true->ay K H ds vs->aA K H ds vs []
 | [],vs,_,h=>by simp only[ay] at h;simp only[aA];exact⟨h,trivial⟩
 | d :: ds,vs,n,h=>by
  simp only[ay] at h;simp only[aA]
  obtain⟨v,r,e1,h1,h2⟩:=h
  have n':br d=true/\ar ds=true:=by simpa [ar] using n
  exact⟨v,r,[],[],e1,rfl,aM.toT d v n'.1 h1,ay.toT ds r n'.2 h2⟩
end
mutual
theorem IsT.nil:∀(d:PyData) (v:V) (as:List Addr),br d=true->IsT K H d v as->as=[]
 | .none,v,as,_,h=>by simp only[IsT] at h;exact h.2
 | .bool b,v,as,_,h=>by simp only[IsT] at h;exact h.2
 | .int i,v,as,_,h=>by simp only[IsT] at h;exact h.2
 | .str x,v,as,_,h=>by simp only[IsT] at h;exact h.2
 | .list xs,v,as,n,h=>by simp[br] at n
 | .tuple xs,v,as,n,h=>by
  simp only[IsT] at h
  obtain⟨a,vs,e1,h1,h2⟩:=h
  exact aA.nil xs vs as (by simpa [br] using n) h2
 | .dict kvs,v,as,n,h=>by simp[br] at n
theorem aA.nil:∀(ds:List PyData) (vs:List V) (as:List Addr),ar ds=true->aA K H ds vs as->as=[]
 | [],vs,as,_,h=>by simp only[aA] at h;exact h.2
 | d :: ds,vs,as,n,h=>by
  simp only[aA] at h
  obtain⟨v,r,a1,a2,e1,e2,h1,h2⟩:=h
  have n':br d=true/\ar ds=true:=by simpa [ar] using n
  rw[e2,IsT.nil d v a1 n'.1 h1,aA.nil ds r a2 n'.2 h2];rfl
end
def fJ:HO->Prop
 | .lst _=>True
 | .ext _=>True
 | _=>False
mutual
theorem IsT.live:∀(d:PyData) (v:V) (as:List Addr),IsT K H d v as->∀a∈as,∃o,H a=some o/\fJ o
 | .none,v,as,h=>by simp only[IsT] at h;rw[h.2];intro a ha;cases ha
 | .bool b,v,as,h=>by simp only[IsT] at h;rw[h.2];intro a ha;cases ha
 | .int i,v,as,h=>by simp only[IsT] at h;rw[h.2];intro a ha;cases ha
 | .str x,v,as,h=>by simp only[IsT] at h;rw[h.2];intro a ha;cases ha
 | .list xs,v,as,h=>by
  simp only[IsT] at h
  obtain⟨a,vs,bs,e1,h1,h2,rfl⟩:=h
  intro b hb
  rcases K0.mp hb with rfl | hb
  ·exact⟨_,h1,trivial⟩
  ·exact aA.live xs vs bs h2 b hb
 | .tuple xs,v,as,h=>by
  simp only[IsT] at h
  obtain⟨a,vs,e1,h1,h2⟩:=h
  exact aA.live xs vs as h2
 | .dict kvs,v,as,h=>by
  simp only[IsT] at h
  obtain⟨a,ks,bs,e1,h1,h2,rfl⟩:=h
  intro b hb
  rcases K0.mp hb with rfl | hb
  ·exact⟨_,h1,trivial⟩
  ·exact aP.live kvs ks.1 bs h2 b hb
theorem aA.live:∀(ds:List PyData) (vs:List V) (as:List Addr),aA K H ds vs as->∀a∈as,∃o,H a=some o/\fJ o
 | [],vs,as,h=>by simp only[aA] at h;rw[h.2];intro a ha;cases ha
 | d :: ds,vs,as,h=>by
  simp only[aA] at h
  obtain⟨v,r,a1,a2,e1,rfl,h1,h2⟩:=h
  intro a ha
  rcases Kk.mp ha with ha | ha
  ·exact IsT.live d v a1 h1 a ha
  ·exact aA.live ds r a2 h2 a ha
theorem aP.live:∀(ds:List (PyData×PyData)) (ks:List (!9)) (as:List Addr),aP K H ds ks as->∀a∈as,∃o,H a=some o/\fJ o
 | [],ks,as,h=>by simp only[aP] at h;rw[h.2];intro a ha;cases ha
 | (k,d) :: r,ks,as,h=>by
  simp only[aP] at h
  obtain⟨kv,v,q,a1,a2,e1,rfl,h1,h2,h3⟩:=h
  intro a ha
  rcases Kk.mp ha with ha | ha
  ·exact IsT.live d v a1 h2 a ha
  ·exact aP.live r q a2 h3 a ha
end
theorem ee.upd (hl:H l=some o)(hm:fJ o)(h:ee K H a xs):ee K (upd H l o') a xs:=by
 rcases h with(h | ⟨ob,h⟩) | h
 ·exact .inl (.inl (by rw[aR (He h hl (by intro z;subst z;exact hm))];exact h))
 ·exact .inl (.inr ⟨ob,by rw[aR (He h hl (by intro z;subst z;exact hm))];exact h⟩)
 ·exact .inr h
mutual
theorem IsT.upd (hl:H l=some o)(hm:fJ o):∀(d:PyData) (v:V) (as:List Addr),l∉as->IsT K H d v as->IsT K (upd H l o') d v as
 | .none,v,as,_,h=>by simpa only[IsT] using h
 | .bool b,v,as,_,h=>by simpa only[IsT] using h
 | .int i,v,as,_,h=>by simpa only[IsT] using h
 | .str x,v,as,_,h=>by simpa only[IsT] using h
 | .list xs,v,as,n,h=>by
  simp only[IsT] at h⊢
  obtain⟨a,vs,bs,e1,h1,h2,rfl⟩:=h
  have n1:a≠l:=λe=>n (by rw[e];exact K7)
  exact⟨a,vs,bs,e1,by rw[aR n1];exact h1,aA.upd hl hm xs vs bs (λz=>n (K9 _ z)) h2,rfl⟩
 | .tuple xs,v,as,n,h=>by
  simp only[IsT] at h⊢
  obtain⟨a,vs,e1,h1,h2⟩:=h
  exact⟨a,vs,e1,h1.upd hl hm,aA.upd hl hm xs vs as n h2⟩
 | .dict kvs,v,as,n,h=>by
  simp only[IsT] at h⊢
  obtain⟨a,ks,bs,e1,h1,h2,rfl⟩:=h
  have n1:a≠l:=λe=>n (by rw[e];exact K7)
  exact⟨a,ks,bs,e1,by rw[aR n1];exact h1,aP.upd hl hm kvs ks.1 bs (λz=>n (K9 _ z)) h2,rfl⟩
theorem aA.upd (hl:H l=some o)(hm:fJ o):∀(ds:List PyData) (vs:List V) (as:List Addr),l∉as->aA K H ds vs as->aA K (upd H l o') ds vs as
 | [],vs,as,_,h=>by simpa only[aA] using h
 | d :: ds,vs,as,n,h=>by
  simp only[aA] at h⊢
  obtain⟨v,r,a1,a2,e1,rfl,h1,h2⟩:=h
  exact⟨v,r,a1,a2,e1,rfl,IsT.upd hl hm d v a1 (λz=>n (X9 _ z)) h1,aA.upd hl hm ds r a2 (λz=>n (Kx _ z)) h2⟩
theorem aP.upd (hl:H l=some o)(hm:fJ o):∀(ds:List (PyData×PyData)) (ks:List (!9)) (as:List Addr),l∉as->aP K H ds ks as->aP K (upd H l o') ds ks as
 | [],ks,as,_,h=>by simpa only[aP] using h
 | (k,d) :: r,ks,as,n,h=>by
  simp only[aP] at h⊢
  obtain⟨kv,v,q,a1,a2,e1,rfl,h1,h2,h3⟩:=h
  exact⟨kv,v,q,a1,a2,e1,rfl,IsT.upd hl hm k kv [] (by intro z;cases z) h1,IsT.upd hl hm d v a1 (λz=>n (X9 _ z)) h2,aP.upd hl hm r q a2 (λz=>n (Kx _ z)) h3⟩
end
theorem jC:aA K H [] [] []:=by simp only[aA];exact⟨trivial,trivial⟩
theorem jD (h:IsT K H d v a1)(t:aA K H ds vs a2):aA K H (d :: ds) (v :: vs) (a1++a2):=by
 simp only[aA];exact⟨v,vs,a1,a2,rfl,rfl,h,t⟩
theorem z_ (h:ee K H a vs)(t:aA K H ds vs as):IsT K H (.tuple ds) (.ref a) as:=by
 simp only[IsT];exact⟨a,vs,rfl,h,t⟩
theorem dQ (h:H a=some (.lst vs))(t:aA K H ds vs as):IsT K H (.list ds) (.ref a) (a :: as):=by
 simp only[IsT];exact⟨a,vs,as,rfl,h,t,rfl⟩
theorem h_ (h:H a=some (.dct a ks))(t:aP K H kvs ks.1 as):IsT K H (.dict kvs) (.ref a) (a :: as):=by
 simp only[IsT];exact⟨a,ks,as,rfl,h,t,rfl⟩
theorem bF (h:IsT K H (.list ds) v as):∃a vs bs,v= .ref a/\H a=some (.lst vs)/\aA K H ds vs bs/\as=a :: bs:=by
 simpa only[IsT] using h
theorem j1 (h:IsT K H (.tuple ds) v as):∃a vs,v= .ref a/\ee K H a vs/\aA K H ds vs as:=by
 simpa only[IsT] using h
theorem dC (h:IsT K H (.dict kvs) v as):∃a ks bs,v= .ref a/\H a=some (.dct a ks)/\aP K H kvs ks.1 bs/\as=a :: bs:=by
 simpa only[IsT] using h
theorem bB (h:aA K H ds vs as):vs.length=ds.length:=ap (aA.toD _ _ _ h)
theorem dD:∀{ds es:List PyData} {vs ws:List V} {as bs:List Addr},aA K H ds vs as->aA K H es ws bs->aA K H (ds++es) (vs++ws) (as++bs)
 | [],es,vs,ws,as,bs,h,t=>by simp only[aA] at h;obtain⟨rfl,rfl⟩:=h;exact t
 | d :: ds,es,vs,ws,as,bs,h,t=>by
  simp only[aA] at h
  obtain⟨v,r,a1,a2,rfl,rfl,hv,tl⟩:=h
  rw[X5]
  exact jD hv (dD tl t)
theorem qq:∀{ds:List PyData} {vs:List V} {as:List Addr} {i:Nat} {d:PyData},aA K H ds vs as->ds[i]? =some d->∃v bs,vs[i]? =some v/\IsT K H d v bs/\bs.Sublist as
 | [],_,_,_,_,_,e=>by simp at e
 | c :: ds,vs,as,i,d,h,e=>by
  simp only[aA] at h
  obtain⟨v,r,a1,a2,rfl,rfl,hv,tl⟩:=h
  cases i with
  | zero=>simp at e;subst e;exact⟨v,a1,rfl,hv,List.sublist_append_left _ _⟩
  | succ i=>
   obtain⟨w,bs,h1,h2,h3⟩:=qq (i:=i) (d:=d) tl (by simpa using e)
   exact⟨w,bs,by simpa using h1,h2,h3.trans (List.sublist_append_right _ _)⟩
end
def aU (K:Frag)(H H':Hp)(d:PyData)(v:V):Prop:=∃as,IsT K H' d v as/\as.Nodup/\∀a∈as,H a=none
def VR (K:Frag)(B:Hp)(φ:Nat->List Addr)(H H':Hp):Kd->PyData->V->Prop
 | .fr l,d,v=>∃as,IsT K H' d v as/\as.Nodup/\∀a∈as,(∃i∈l,a∈φ i)∨H a=none
 | .base,d,v=>aM K B d v
 | .any,d,v=>aM K H' d v
structure Rep (K:Frag)(B:Hp)(φ:Nat->List Addr)(Γ:aX)(σ:St)(H:Hp):Prop where
 bs:Same B H
 len:Γ.length=σ.length
 sl:∀i o d,Γ[i]? =some (some (o,d))->∃v,σ[i]? =some (some v)/\if o=true then IsT K H d v (φ i) else aM K B d v
 nd:∀i,(φ i).Nodup
 nb:∀i,∀a∈φ i,B a=none/\∃o,H a=some o/\fJ o
 dj:∀i j,i≠j->∀a∈φ i,a∉φ j
def Runs (K:Frag)(Ew:Str->Hp->Prop)(B:Hp)(φ:Nat->List Addr)(H:Hp)(m:M (Kd×PyData))(Q:VK):Prop :=
 (∃k d,m=some (.ok (k,d))/\∀v H',Same H H'->VR K B φ H H' k d v->Q v H')∨(∃c,m=some (.ex c)/\∀H',Same B H'->Ew c H')
def pj (Ew:Str->Hp->Prop)(B:Hp)(H:Hp)(m:M Bool)(Q:Bool->Hp->Prop):Prop :=
 (∃b,m=some (.ok b)/\∀H',Same H H'->Q b H')∨(∃c,m=some (.ex c)/\∀H',Same B H'->Ew c H')
def RV (K:Frag)(B H':Hp)(o:Bool)(d:PyData)(v:V):Prop :=
 if o=true then∃as,IsT K H' d v as/\as.Nodup/\∀a∈as,B a=none else aM K H' d v
def cE (K:Frag)(Ew:Str->Hp->Prop)(B:Hp)(m:M Out)(D:Ends):Prop :=
 match m with
 | some (.ok (.nx Γ))=>∀B' φ σ H,Same B B'->Rep K B' φ Γ σ H->D.nx σ H
 | some (.ok (.bk Γ))=>∀B' φ σ H,Same B B'->Rep K B' φ Γ σ H->D.bk σ H
 | some (.ok (.ct Γ))=>∀B' φ σ H,Same B B'->Rep K B' φ Γ σ H->D.ct σ H
 | some (.ok (.rt o d))=>∀v H',Same B H'->RV K B H' o d v->D.rt v H'
 | some (.ex c)=>∀H',Same B H'->Ew c H'
 | none=>False
def tD (K:Frag)(Ew:Str->Hp->Prop)(f:EF):TE:=λσ H Q=>∃B φ Γ,Rep K B φ Γ σ H/\Runs K Ew B φ H (f Γ) Q
def EX (K:Frag)(Ew:Str->Hp->Prop)(f:TF):TT:=λσ H Q=>∃B φ Γ,Rep K B φ Γ σ H/\pj Ew B H (f Γ) Q
def L5 (K:Frag)(Ew:Str->Hp->Prop)(f:SF):TS:=λD σ H=>∃B φ Γ,Rep K B φ Γ σ H/\cE K Ew B (f Γ) D
def DE (X:Cx)(K:Frag)(Ew:Str->Hp->Prop)(e:Expr)(f:EF):Prop:=PE X e (tD K Ew f)
def DT (X:Cx)(K:Frag)(Ew:Str->Hp->Prop)(e:Expr)(f:TF):Prop:=PT X e (EX K Ew f)
def DW (X:Cx)(K:Frag)(Ew:Str->Hp->Prop)(e:Expr)(f:TF):Prop:=PW X e (EX K Ew f)
def DS (X:Cx)(K:Frag)(Ew:Str->Hp->Prop)(s:Stmt)(f:SF):Prop:=PS X s (L5 K Ew f)
def Aa (X:Cx)(K:Frag)(Ew:Str->Hp->Prop)(s:List Stmt)(f:SF):Prop:=qf X s (L5 K Ew f)
theorem L6 {K:Frag}{Ew:Str->Hp->Prop}{B:Hp}{D:Ends}{o:Option (Option (Bool×PyData))}{f:List PyData->M Out}(q:cE K Ew B (match o with
  | some (some (true,.list xs))=>f xs
  | _=>none) D):∃xs,o=some (some (true,.list xs))/\cE K Ew B (f xs) D:=by
 split at q
 ·exact⟨_,rfl,q⟩
 ·exact False.elim q
theorem L7 {K:Frag}{Ew:Str->Hp->Prop}{B:Hp}{D:Ends}{o:Option (Option (Bool×PyData))}{f:List (PyData×PyData)->M Out}(q:cE K Ew B (match o with
  | some (some (true,.dict kvs))=>f kvs
  | _=>none) D):∃kvs,o=some (some (true,.dict kvs))/\cE K Ew B (f kvs) D:=by
 split at q
 ·exact⟨_,rfl,q⟩
 ·exact False.elim q
theorem PE.imp (h:PE X e t)(i:∀σ H Q,t' σ H Q->t σ H Q):PE X e t':=λpins s σ H Q I q=>h pins s σ H Q I (i σ H Q q)
theorem PT.imp (h:PT X e t)(i:∀σ H Q,t' σ H Q->t σ H Q):PT X e t':=λpins s σ H Q I q=>h pins s σ H Q I (i σ H Q q)
theorem PW.imp (h:PW X e t)(i:∀σ H Q,t' σ H Q->t σ H Q):PW X e t':=λw pins s σ H Q I q=>h w pins s σ H Q I (i σ H Q q)
theorem PS.imp (h:PS X e t)(i:∀D σ H,t' D σ H->t D σ H):PS X e t':=λpins s σ H D I q=>h pins s σ H D I (i D σ H q)
theorem qf.imp (h:qf X e t)(i:∀D σ H,t' D σ H->t D σ H):qf X e t':=λpins s σ H D I q=>h pins s σ H D I (i D σ H q)
section
variable {K:Frag}{B B' H H' j2:Hp}{φ:Nat->List Addr}{Γ:aX}{σ:St}{k:Kd}{d:PyData}{v:V}{Ew:Str->Hp->Prop}
theorem Rep.same (r:Rep K B φ Γ σ H)(s:Same H H'):Rep K B φ Γ σ H' where
 bs:=r.bs.trans s
 len:=r.len
 sl:=λi o d e=>by
  obtain⟨v,h1,h2⟩:=r.sl i o d e
  refine⟨v,h1,?_⟩
  cases o with
  | true=>rw[JQ rfl] at h2⊢;exact IsT.same s _ _ _ h2
  | false=>rw[JV K4] at h2⊢;exact h2
 nd:=r.nd
 nb:=λi a ha=>⟨(r.nb i a ha).1,let ⟨o,h1,h2⟩:=(r.nb i a ha).2;⟨o,s _ _ h1,h2⟩⟩
 dj:=r.dj
theorem VR.toD (r:Same B H')(h:VR K B φ H H' k d v):aM K H' d v:=by
 cases k with
 | fr l=>obtain⟨as,h1,_⟩:=h;exact IsT.toD _ _ _ h1
 | base=>exact aM.same r _ _ h
 | any=>exact h
theorem VR.same (h:VR K B φ H H' k d v)(s:Same H' j2):VR K B φ H j2 k d v:=by
 cases k with
 | fr l=>obtain⟨as,h1,h2,h3⟩:=h;exact⟨as,IsT.same s _ _ _ h1,h2,h3⟩
 | base=>exact h
 | any=>exact aM.same s _ _ h
theorem VR.from (h:VR K B φ H H' k d v)(s:Same j2 H):VR K B φ j2 H' k d v:=by
 cases k with
 | fr l=>obtain⟨as,h1,h2,h3⟩:=h;exact⟨as,h1,h2,λa ha=>(h3 a ha).imp id λz=>s.free z⟩
 | base=>exact h
 | any=>exact h
theorem VR.mm (hn:br d=true)(h:aM K H' d v)(l:List Nat):VR K B φ H H' (.fr l) d v:=⟨[],aM.toT _ _ hn h,X2,λa ha=>by cases ha⟩
theorem VR.cP (r:Same B H')(h:VR K B φ H H' k d v):VR K B φ H H' (cP k d) d v:=by
 unfold Y.cP
 by_cases hn:br d=true
 ·rw[JQ hn];exact VR.mm hn (h.toD r) []
 ·rw[JV hn];exact h
theorem VR.fresh:VR K B φ H H' (.fr []) d v↔aU K H H' d v:=by
 constructor
 ·rintro⟨as,h1,h2,h3⟩
  exact⟨as,h1,h2,λa ha=>by rcases h3 a ha with⟨i,hi,_⟩ | z;cases hi;exact z⟩
 ·rintro⟨as,h1,h2,h3⟩
  exact⟨as,h1,h2,λa ha=> .inr (h3 a ha)⟩
theorem aU.mm (hn:br d=true)(h:aM K H' d v):aU K H H' d v:=⟨[],aM.toT _ _ hn h,X2,λa ha=>by cases ha⟩
theorem aU.from (h:aU K H H' d v)(s:Same j2 H):aU K j2 H' d v:=by
 obtain⟨as,h1,h2,h3⟩:=h
 exact⟨as,h1,h2,λa ha=>s.free (h3 a ha)⟩
theorem aU.lst (hn:ar ds=true)(h:H' a=some (.lst vs))(t:ay K H' ds vs)(n:H a=none):aU K H H' (.list ds) (.ref a) :=
 ⟨[a],dQ h (ay.toT _ _ hn t),KJ.mpr ⟨by simp,X2⟩,λb hb=>by rw[K5.mp hb];exact n⟩
theorem aU.tup (hn:ar ds=true)(h:ee K H' a vs)(t:ay K H' ds vs):aU K H H' (.tuple ds) (.ref a) :=
 ⟨[],z_ h (ay.toT _ _ hn t),X2,λb hb=>by cases hb⟩
theorem Runs.mono (h:Runs K Ew B φ H m Q)(i:∀v H',Same H H'->Q v H'->Q' v H'):Runs K Ew B φ H m Q':=by
 rcases h with⟨k,d,e,h⟩ | h
 ·exact .inl ⟨k,d,e,λv H' s r=>i v H' s (h v H' s r)⟩
 ·exact .inr h
theorem Runs.bind (r:Rep K B φ Γ σ H)(h:Runs K Ew B φ H (aq m g) Q) :
  Runs K Ew B φ H m (λv H1=>∃k d,m=some (.ok (k,d))/\VR K B φ H H1 k d v/\Rep K B φ Γ σ H1/\Same H H1/\Runs K Ew B φ H (g (k,d)) Q):=by
 match m,h with
 | some (.ok (k,d)),h=>exact .inl ⟨k,d,rfl,λv H1 s hv=>⟨k,d,rfl,hv,r.same s,s,h⟩⟩
 | some (.ex c),h=>
  refine .inr ⟨c,rfl,?_⟩
  rcases h with⟨k,d,e,_⟩ | ⟨c',e,h⟩
  ·cases e
  ·cases e;exact h
 | none,h=>
  exfalso
  rcases h with⟨k,d,e,_⟩ | ⟨c',e,h⟩
  ·cases e
  ·cases e
theorem Runs.later (h:Runs K Ew B φ H m Q)(s:Same H H1):Runs K Ew B φ H1 m Q:=by
 rcases h with⟨k,d,e,h⟩ | h
 ·exact .inl ⟨k,d,e,λv H' s' hv=>h v H' (s.trans s') (hv.from s)⟩
 ·exact .inr h
theorem pj.later (h:pj Ew B H m Q)(s:Same H H1):pj Ew B H1 m Q:=by
 rcases h with⟨b,e,h⟩ | h
 ·exact .inl ⟨b,e,λH' s'=>h H' (s.trans s')⟩
 ·exact .inr h
theorem pj.bind (h:pj Ew B H (aq m g) Q) :
  pj Ew B H m (λb H1=>m=some (.ok b)/\Same H H1/\pj Ew B H1 (g b) Q):=by
 match m,h with
 | some (.ok b),h=>exact .inl ⟨b,rfl,λH1 s=>⟨rfl,s,h.later s⟩⟩
 | some (.ex c),h=>
  refine .inr ⟨c,rfl,?_⟩
  rcases h with⟨k,e,_⟩ | ⟨c',e,h⟩
  ·cases e
  ·cases e;exact h
 | none,h=>
  exfalso
  rcases h with⟨k,e,_⟩ | ⟨c',e,h⟩
  ·cases e
  ·cases e
end
def i8 (X:Cx)(f:Value->Value->Sem Value)(g:PyData->PyData->Option PyData):Prop :=
 ∃r,pV X f r/\∀x y z u v H Q,g x y=some z->aM X.K H x u->aM X.K H y v->(∀w H',Same H H'->aU X.K H H' z w->Q w H')->r u v H Q
def CallD (X:Cx)(f:Value)(g:List PyData->Option PyData):Prop :=
 ∃r,iF X f r/\∀xs z us H Q,g xs=some z->ay X.K H xs us->(∀w H',Same H H'->aU X.K H H' z w->Q w H')->r us H Q
def NW (X:Cx)(g:PyData->PyData->Option PyData):Prop :=
 ∃r,CD X r/\∀B φ H0 k x y z u v H Q,Same B H->g x y=some z->VR X.K B φ H0 H k x u->aM X.K H y v->(∀w,VR X.K B φ H0 H (cP k z) z w->Q w H)->r u v H Q
section
variable {X:Cx}{K:Frag}{Ew:Str->Hp->Prop}{pos:Pos}
theorem Ft (h:PE X e (tC c))(hn:br d=true)(hd:∀H,aM K H d c):DE X K Ew e (eC d):=h.imp λσ H Q q=>by
 obtain⟨B,φ,Γ,r,q⟩:=q
 rcases q with⟨k,d',e,q⟩ | ⟨c',e,q⟩
 ·cases e
  exact q _ H (Same.refl H) (VR.mm hn (hd H) [])
 ·cases e
theorem aF {j pos}:DE X K Ew (.Constant (.int i) j pos) (eC (.int i)):=Ft HY rfl λ_=>bJ
theorem mV {j pos}:DE X K Ew (.Constant (.bool i) j pos) (eC (.bool i)):=Ft Ly rfl λ_=>di
theorem kP {j pos}:DE X K Ew (.Constant .none j pos) (eC .none):=Ft HZ rfl λ_=>z8
theorem ae (i:Nat)(hN:X.N[i]? =some x:=by rfl)(hv:MY X.env.scope x:=by first | exact Or.inl rfl | exact Or.inr (!4) | exact Or.inr (Or.inr rfl))(hd:(x==("__debug__":Str))=false:=by decide)
  (hcd:(x==("__classdict__":Str))=false:=by decide):DE X K Ew (.Name x pos) (eV i):=(Cs hN hv hd hcd).imp λσ H Q q=>by
 obtain⟨B,φ,Γ,r,q⟩:=q
 unfold eV at q
 match hg:Γ[i]?,q with
 | some (some (o,d)),q=>
  obtain⟨v,h1,h2⟩:=r.sl i o d hg
  refine⟨v,h1,?_⟩
  rcases q with⟨k,d',e,q⟩ | ⟨c',e,q⟩
  ·cases e
   refine q v H (Same.refl H) (VR.cP r.bs ?_)
   cases o with
   | true=>
    rw[JQ rfl] at h2
    exact⟨_,h2,r.nd i,λa ha=> .inl ⟨i,by simp,ha⟩⟩
   | false=>
    rw[JV K4] at h2
    exact h2
  ·cases e
 | some none,q=>rcases q with⟨k,d',e,q⟩ | ⟨c',e,q⟩ <;> cases e
 | none,q=>rcases q with⟨k,d',e,q⟩ | ⟨c',e,q⟩ <;> cases e
theorem qr {fa fb:EF}{g:Kd×PyData->Kd×PyData->M (Kd×PyData)}{σ:St}{Q:VK}{OU:V->V->Hp->Prop}(h:tD K Ew (λΓ=>aq (fa Γ) λx=>aq (fb Γ) λy=>g x y) σ H Q)
  (i:∀B φ Γ k x k' y u v H1 H2,Rep K B φ Γ σ H2->Same H H1->Same H1 H2->VR K B φ H H2 k x u->VR K B φ H1 H2 k' y v->Runs K Ew B φ H (g (k,x) (k',y)) Q->OU u v H2) :
  tD K Ew fa σ H λu H1=>tD K Ew fb σ H1 λv H2=>OU u v H2:=by
 obtain⟨B,φ,Γ,r,q⟩:=h
 refine⟨B,φ,Γ,r,(q.bind r).mono λu H1 s1 ⟨k,x,e1,v1,r1,_,q1⟩=> ?_⟩
 refine⟨B,φ,Γ,r1,((q1.later s1).bind r1).mono λv H2 s2 ⟨k',y,e2,v2,r2,_,q2⟩=> ?_⟩
 refine i B φ Γ k x k' y u v H1 H2 r2 s1 s2 (v1.same s2) v2 ?_
 rcases q1 with⟨k0,d0,e0,q0⟩ | ⟨c0,e0,q0⟩
 ·rw[e2] at e0
  exact .inl ⟨k0,d0,e0,q0⟩
 ·rw[e2] at e0
  exact .inr ⟨c0,e0,q0⟩
theorem gE {φ:Nat->List Addr}{kf:PyData->Kd}{Q:VK}(h:Runs K Ew B φ H (aq (mo o) λz=>ah (kf z,z)) Q):∃z,o=some z/\∀v H',Same H H'->VR K B φ H H' (kf z) z v->Q v H':=by
 cases o with
 | none=>rcases h with⟨k,d',e,q⟩ | ⟨c',e,q⟩ <;> cases e
 | some z=>
  rcases h with⟨k,d',e,q⟩ | ⟨c',e,q⟩
  ·cases e;exact⟨z,rfl,q⟩
  ·cases e
theorem bg (ho:i8 X (binaryOp op) g)(ha:DE X K Ew a fa)(hb:DE X K Ew b fb)(hK:X.K=K:=by rfl):DE X K Ew (.BinOp a op b pos) (bR g fa fb):=by
 obtain⟨r,hr,hx⟩:=ho
 refine(Hi hr ha hb).imp λσ H Q q=>qr q λB φ Γ k x k' y u v H1 H2 r2 s1 s2 v1 v2 q=> ?_
 obtain⟨z,e,q⟩:=gE q
 rw[hK] at hx
 exact hx x y z u v H2 Q e (v1.toD r2.bs) (v2.toD r2.bs) λw H' s f=>q w H' ((s1.trans s2).trans s) (VR.fresh.mpr (f.from (s1.trans s2)))
theorem I_ (ho:i8 X (compareOp op) g)(ha:DE X K Ew a fa)(hb:DE X K Ew b fb)(hm:behindInMarks op b=false)(hK:X.K=K:=by rfl) :
  DE X K Ew (.Compare a [op] [b] pos) (bR g fa fb):=by
 obtain⟨r,hr,hx⟩:=ho
 refine(E9 hr ha hb hm).imp λσ H Q q=>qr q λB φ Γ k x k' y u v H1 H2 r2 s1 s2 v1 v2 q=> ?_
 obtain⟨z,e,q⟩:=gE q
 rw[hK] at hx
 exact hx x y z u v H2 Q e (v1.toD r2.bs) (v2.toD r2.bs) λw H' s f=>q w H' ((s1.trans s2).trans s) (VR.fresh.mpr (f.from (s1.trans s2)))
theorem bU (ho:NW X g)(ha:DE X K Ew a fa)(hb:DE X K Ew b fb)(hs:uD b)(hK:X.K=K:=by rfl):DE X K Ew (.Subscript a b pos) (kI g fa fb):=by
 obtain⟨r,hr,hx⟩:=ho
 refine(Hl hr ha hb hs).imp λσ H Q q=>qr q λB φ Γ k x k' y u v H1 H2 r2 s1 s2 v1 v2 q=> ?_
 obtain⟨z,e,q⟩:=gE (kf:=λz=>cP k z) q
 rw[hK] at hx
 exact hx B φ H k x y z u v H2 Q r2.bs e v1 (v2.toD r2.bs) λw hw=>q w H2 (s1.trans s2) hw
end
mutual
theorem ic:∀(d:PyData) (n:Nat),lay n d=true->d.canLay0=true/\d.depth<=n
 | .none,n,_=>by simp[PyData.canLay0,PyData.depth]
 | .bool _,n,_=>by simp[PyData.canLay0,PyData.depth]
 | .int _,n,_=>by simp[PyData.canLay0,PyData.depth]
 | .str x,n,h=>by
  have h':PyData.strOk x=true:=by cases n <;> simpa [lay] using h
  simp[PyData.canLay0,PyData.depth,h']
 | .list xs,0,h=>by simp[lay] at h
 | .list xs,n+1,h=>by
  have:=iK xs n (by simpa [lay] using h)
  simp only[PyData.canLay0,PyData.depth]
  exact⟨this.1,by omega⟩
 | .tuple xs,0,h=>by simp[lay] at h
 | .tuple xs,n+1,h=>by
  have:=iK xs n (by simpa [lay] using h)
  simp only[PyData.canLay0,PyData.depth]
  exact⟨this.1,by omega⟩
 | .dict _,n,h=>by cases n <;> simp[lay] at h
theorem iK:∀(ds:List PyData) (n:Nat),lays n ds=true->PyData.canLayAll0 ds=true/\PyData.depthAll ds<=n
 | [],n,_=>by simp[PyData.canLayAll0,PyData.depthAll]
 | d :: ds,n,h=>by
  have h':lay n d=true/\lays n ds=true:=by simpa [lays] using h
  have h1:=ic d n h'.1
  have h2:=iK ds n h'.2
  simp only[PyData.canLayAll0,PyData.depthAll,h1.1,h2.1,XW,true_and]
  omega
end
section
variable {X:Cx}{s:Shared}
mutual
theorem aM.reads (I:Inv X pins σ H s):∀(d:PyData) (v:V) (u:Value),d.canLay0=true->aM X.K H d v->RelV v u->∃as,Reads s.heap u d as
 | .none,v,u,_,h,r=>by
  simp only[aM] at h;subst h
  cases(show u=Value.none from r);exact⟨_,.none⟩
 | .bool b,v,u,_,h,r=>by
  simp only[aM] at h;subst h
  cases(show u=Value.bool b from r);exact⟨_,.bool b⟩
 | .int i,v,u,_,h,r=>by
  simp only[aM] at h;subst h
  obtain⟨t,rfl⟩:=(show∃t,u=Value.int i t from r);exact⟨_,.int i t⟩
 | .str x,v,u,_,h,r=>by
  simp only[aM] at h;subst h
  obtain⟨t,rfl⟩:=(show∃t,u=Value.str x t from r);exact⟨_,.str x t⟩
 | .list xs,v,u,c,h,r=>by
  simp only[aM] at h
  obtain⟨a,vs,rfl,h1,h2⟩:=h
  cases(show u=Value.ref a from r)
  obtain⟨its,rv,⟨o,n,e,hc,_,hd⟩,_⟩:=I.list h1
  obtain⟨as,ra⟩:=ay.reads I xs vs its (by simpa [PyData.canLay0] using c) h2 rv
  exact⟨_,.list e hc hd (by simpa using ra)⟩
 | .tuple xs,v,u,c,h,r=>by
  simp only[aM] at h
  obtain⟨a,vs,rfl,h1,h2⟩:=h
  cases(show u=Value.ref a from r)
  obtain⟨its,rv,⟨o,e,hc,n,hd⟩,_⟩:=I.tuple h1
  obtain⟨as,ra⟩:=ay.reads I xs vs its (by simpa [PyData.canLay0] using c) h2 rv
  exact⟨_,.tuple e hc hd (by simpa using ra)⟩
 | .dict _,v,u,c,h,r=>by simp[PyData.canLay0] at c
theorem ay.reads (I:Inv X pins σ H s):∀(ds:List PyData) (vs:List V) (us:List Value),PyData.canLayAll0 ds=true->ay X.K H ds vs->Vals vs us->∃as,ReadsAll s.heap us ds as
 | [],vs,us,_,h,r=>by
  simp only[ay] at h;subst h;cases r;exact⟨_,.nil⟩
 | d :: ds,vs,us,c,h,r=>by
  simp only[ay] at h
  obtain⟨v,w,rfl,h1,h2⟩:=h
  have c':d.canLay0=true/\PyData.canLayAll0 ds=true:=by simpa [PyData.canLayAll0] using c
  cases r with
  | cons r1 r2=>
   obtain⟨as,ra⟩:=aM.reads I d v _ c'.1 h1 r1
   obtain⟨bs,rb⟩:=ay.reads I ds w _ c'.2 h2 r2
   exact⟨_,.cons ra rb⟩
end
end
theorem eH.Ab (r:eH k A):A.units+80 < cLine:=by have:=r.un;omega
section
variable {X:Cx}
theorem i8.of 
  (h:∀(pins:List (Addr×Obj)) (s:Shared) (σ:St) (H:Hp) (x y z:PyData) (u v:V) (a b:Value) (Q:VK),Inv X pins σ H s->g x y=some z->aM X.K H x u->aM X.K H y v->RelV u a->RelV v b->
   (∀w H',Same H H'->aU X.K H H' z w->Q w H')->wpAny (!7) X.A (f a b) (EP X pins σ Q) X.xe s):i8 X f g :=
 ⟨λu v H Q=>∃x y z,g x y=some z/\aM X.K H x u/\aM X.K H y v/\∀w H',Same H H'->aU X.K H H' z w->Q w H',
  λpins s σ H u v a b Q I ru rv ⟨x,y,z,e,hx,hy,q⟩=>h pins s σ H x y z u v a b Q I e hx hy ru rv q,
  λx y z u v H Q e hx hy q=>⟨x,y,z,e,hx,hy,q⟩⟩
theorem oj (hu:X.A.units+80 < cLine):i8 X (compareOp .Eq) yE:=i8.of λpins s σ H x y z u v a b Q I e hx hy ru rv q=>by
 unfold yE at e
 split at e
 ·rename_i c
  have c':lay 60 x=true/\lay 60 y=true:=by simpa using c
  have l1:=ic _ _ c'.1
  have l2:=ic _ _ c'.2
  obtain⟨as,ra⟩:=aM.reads I x u a l1.1 hx ru
  obtain⟨bs,rb⟩:=aM.reads I y v b l2.1 hy rv
  cases e
  exact SeqAt.compareEq_reads ra rb l1.1 l2.1 (!1) ⟨.bl _,H,I,rfl,q _ H (Same.refl H) (aU.mm rfl di)⟩
 ·cases e
theorem qt (hu:X.A.units+80 < cLine):i8 X (compareOp .NotEq) zX:=i8.of λpins s σ H x y z u v a b Q I e hx hy ru rv q=>by
 unfold zX at e
 split at e
 ·rename_i c
  have c':lay 60 x=true/\lay 60 y=true:=by simpa using c
  have l1:=ic _ _ c'.1
  have l2:=ic _ _ c'.2
  obtain⟨as,ra⟩:=aM.reads I x u a l1.1 hx ru
  obtain⟨bs,rb⟩:=aM.reads I y v b l2.1 hy rv
  cases e
  exact SeqAt.compareNe_reads ra rb l1.1 l2.1 (!1) ⟨.bl _,H,I,rfl,q _ H (Same.refl H) (aU.mm rfl di)⟩
 ·cases e
theorem uM (hu:X.A.units+80 < cLine):i8 X (compareOp .In) Fk:=i8.of λpins s σ H x y z u v a b Q I e hx hy ru rv q=>by
 cases y <;> simp only[Fk] at e <;> try (cases e;done)
 ·rename_i ys
  split at e
  ·rename_i c
   have c':lay 60 x=true/\lays 60 ys=true:=by simpa using c
   have l1:=ic _ _ c'.1
   have l2:=iK _ _ c'.2
   obtain⟨as,ra⟩:=aM.reads I x u a l1.1 hx ru
   obtain⟨bs,rb⟩:=aM.reads I (.list ys) v b (by simpa [PyData.canLay0] using l2.1) hy rv
   cases e
   exact SeqAt.in_list_reads rb ra l2.1 l1.1 (!1) ⟨.bl _,H,I,rfl,q _ H (Same.refl H) (aU.mm rfl di)⟩
  ·cases e
 ·rename_i ys
  split at e
  ·rename_i c
   have c':lay 60 x=true/\lays 60 ys=true:=by simpa using c
   have l1:=ic _ _ c'.1
   have l2:=iK _ _ c'.2
   obtain⟨as,ra⟩:=aM.reads I x u a l1.1 hx ru
   obtain⟨bs,rb⟩:=aM.reads I (.tuple ys) v b (by simpa [PyData.canLay0] using l2.1) hy rv
   cases e
   exact SeqAt.in_tuple_reads rb ra l2.1 l1.1 (!1) ⟨.bl _,H,I,rfl,q _ H (Same.refl H) (aU.mm rfl di)⟩
  ·cases e
theorem lD (hu:X.A.units+80 < cLine):i8 X (compareOp .NotIn) g7:=i8.of λpins s σ H x y z u v a b Q I e hx hy ru rv q=>by
 cases y <;> simp only[g7] at e <;> try (cases e;done)
 ·rename_i ys
  split at e
  ·rename_i c
   have c':lay 60 x=true/\lays 60 ys=true:=by simpa using c
   have l1:=ic _ _ c'.1
   have l2:=iK _ _ c'.2
   obtain⟨as,ra⟩:=aM.reads I x u a l1.1 hx ru
   obtain⟨bs,rb⟩:=aM.reads I (.list ys) v b (by simpa [PyData.canLay0] using l2.1) hy rv
   cases e
   exact SeqAt.notIn_list_reads rb ra l2.1 l1.1 (!1) ⟨.bl _,H,I,rfl,q _ H (Same.refl H) (aU.mm rfl di)⟩
  ·cases e
 ·rename_i ys
  split at e
  ·rename_i c
   have c':lay 60 x=true/\lays 60 ys=true:=by simpa using c
   have l1:=ic _ _ c'.1
   have l2:=iK _ _ c'.2
   obtain⟨as,ra⟩:=aM.reads I x u a l1.1 hx ru
   obtain⟨bs,rb⟩:=aM.reads I (.tuple ys) v b (by simpa [PyData.canLay0] using l2.1) hy rv
   cases e
   exact SeqAt.notIn_tuple_reads rb ra l2.1 l1.1 (!1) ⟨.bl _,H,I,rfl,q _ H (Same.refl H) (aU.mm rfl di)⟩
  ·cases e
theorem CL {K:Frag}{H:Hp}{x:PyData}{u:V}(h:aM K H x u):decide (u= .non)=i9 x:=by
 cases x <;> simp only[aM] at h
 ·subst h;rfl
 ·subst h;rfl
 ·subst h;rfl
 ·subst h;rfl
 ·obtain⟨a,_,rfl,_⟩:=h;rfl
 ·obtain⟨a,_,rfl,_⟩:=h;rfl
 ·obtain⟨a,_,rfl,_⟩:=h;rfl
theorem om:i8 X (compareOp .IsNot) og:=i8.of λpins s σ H x y z u v a b Q I e hx hy ru rv q=>by
 cases y <;> simp only[og] at e <;> try (cases e;done)
 cases e
 have hv:=ml hy
 subst hv
 exact E8 pins s σ H u .non a b Q I ru rv ⟨rfl,by rw[CL hx];exact q _ H (Same.refl H) (aU.mm rfl di)⟩
theorem i8.ints (h:pV X f (rI C gv))
  (hg:∀x y z,g x y=some z->∃i j,x= .int i/\y= .int j/\C i j/\br z=true/\∀K H,aM K H z (gv i j)):i8 X f g:=i8.of λpins s σ H x y z u v a b Q I e hx hy ru rv q=>by
 obtain⟨i,j,rfl,rfl,c,hn,hz⟩:=hg x y z e
 have h1:=aE hx
 have h2:=aE hy
 subst h1 h2
 exact h pins s σ H _ _ a b Q I ru rv ⟨i,j,rfl,rfl,c,q _ H (Same.refl H) (aU.mm hn (hz _ _))⟩
theorem i8.Ac (h:pV X f (Hh gv))
  (hg:∀x y z,g x y=some z->∃i j,x= .int i/\y= .int j/\br z=true/\∀K H,aM K H z (gv i j)):i8 X f g:=i8.of λpins s σ H x y z u v a b Q I e hx hy ru rv q=>by
 obtain⟨i,j,rfl,rfl,hn,hz⟩:=hg x y z e
 have h1:=aE hx
 have h2:=aE hy
 subst h1 h2
 exact h pins s σ H _ _ a b Q I ru rv ⟨i,j,rfl,rfl,q _ H (Same.refl H) (aU.mm hn (hz _ _))⟩
theorem uN:i8 X (binaryOp .Sub) Y.wc:=i8.Ac Iy λx y z e=>by
 cases x <;> cases y <;> simp only[Y.wc] at e <;> cases e
 exact⟨_,_,rfl,rfl,rfl,λ_ _=>bJ⟩
theorem CM:i8 X (compareOp .Lt) Ll:=i8.Ac LK λx y z e=>by
 cases x <;> cases y <;> simp only[Ll] at e <;> cases e
 exact⟨_,_,rfl,rfl,rfl,λ_ _=>di⟩
theorem yL:i8 X (compareOp .Gt) Lm:=i8.Ac LL λx y z e=>by
 cases x <;> cases y <;> simp only[Lm] at e <;> cases e
 exact⟨_,_,rfl,rfl,rfl,λ_ _=>di⟩
theorem dR:i8 X (binaryOp .Mod) kF:=i8.ints IA λx y z e=>by
 cases x <;> cases y <;> simp only[kF] at e <;> try (cases e;done)
 split at e
 ·rename_i c;cases e;exact⟨_,_,rfl,rfl,c,rfl,λ_ _=>bJ⟩
 ·cases e
theorem Ad:i8 X (binaryOp .Pow) CI:=i8.ints IB λx y z e=>by
 cases x <;> cases y <;> simp only[CI] at e <;> try (cases e;done)
 split at e
 ·rename_i c;cases e;exact⟨_,_,rfl,rfl,c,rfl,λ_ _=>bJ⟩
 ·cases e
theorem gQ:i8 X (binaryOp .FloorDiv) ku:=i8.of λpins s σ H x y z u v a b Q I e hx hy ru rv q=>by
 cases x <;> cases y <;> simp only[ku] at e <;> try (cases e;done)
 rename_i i j
 split at e
 ·rename_i c
  cases e
  have h1:=aE hx
  have h2:=aE hy
  subst h1 h2
  obtain⟨t,rfl⟩:=ru
  obtain⟨t',rfl⟩:=rv
  refine floordiv_int (!1) ?_ (.inl (PyProof.noPylong_of_log2 ?_))
  ·rw[Int.fdiv_eq_ediv_of_nonneg i (!1)]
   exact⟨.int (i / j),H,I.tok _,⟨_,rfl⟩,q _ H (Same.refl H) (aU.mm rfl bJ)⟩
  ·have h3:j.natAbs.log2 < 64:=(Nat.log2_lt (!1)).mpr (!1)
   omega
 ·cases e
theorem ig:i8 X (binaryOp .Add) lZ:=i8.of λpins s σ H x y z u v a b Q I e hx hy ru rv q=>by
 cases x <;> cases y <;> simp only[lZ] at e <;> try (cases e;done)
 ·cases e
  have h1:=aE hx
  have h2:=aE hy
  subst h1 h2
  exact Iw pins s σ H _ _ a b Q I ru rv ⟨_,_,rfl,rfl,q _ H (Same.refl H) (aU.mm rfl bJ)⟩
 ·rename_i x y
  split at e
  ·rename_i c
   cases e
   have h1:=iJ hx
   have h2:=iJ hy
   subst h1 h2
   obtain⟨t,rfl⟩:=ru
   obtain⟨t',rfl⟩:=rv
   exact add_str (λt' tk=>⟨.str (x++y),H,I.tok _,⟨_,rfl⟩,q _ H (Same.refl H) (aU.mm rfl z9)⟩) c
  ·cases e
 ·rename_i xs ys
  split at e
  ·rename_i c
   have c':(ar xs=true/\ar ys=true)/\xs.length+ys.length<=sizeLine:=by simpa using c
   cases e
   obtain⟨p,vs,rfl,h1,h2⟩:=a9 hx
   obtain⟨p',vs',rfl,h3,h4⟩:=a9 hy
   cases ru;cases rv
   obtain⟨its,r1,⟨⟨c1,d1,QL,Pz⟩,n1,ho1,hc1,_,hd1⟩,_⟩:=I.list h1
   obtain⟨its2,r2,⟨⟨c2,d2,OV,sl2⟩,n2,ho2,hc2,_,hd2⟩,_⟩:=I.list h3
   simp only at hc1 hd1 hc2 hd2
   subst hc1 hd1 hc2 hd2
   have hz:vs.length+vs'.length<=sizeLine:=by rw[ap h2,ap h4];exact c'.2
   have hz2:its.length+its2.length<=sizeLine:=by rw[←r1.length,←r2.length];exact hz
   refine concat_meets ⟨_,ho1,rfl⟩ ⟨_,ho2,rfl⟩ noFill_list_add seq_list_add PySem.F.slot_list_add PySem.F.entry_list_add (PySem.F.args_list_add_2 _ _) (list_addW p p' its.toArray its2.toArray n1 n2 d1 d2 Pz sl2 (by simpa using hz2)) ⟨ho1,ho2,?_⟩
   have ea:its.toArray++its2.toArray=(its++its2).toArray:=by simp
   rw[ea]
   have hf:=I.fresh
   refine⟨.ref _,_,I.L0 (t':=s.toks) (r1.append r2) (by rw[K2];exact hz),rfl,q _ _ (Same.upd hf) ?_⟩
   exact aU.lst (by rw[fF,c'.1.1,c'.1.2];rfl) az (ay.same (Same.upd hf) _ _ (dz h2 h4)) hf
  ·cases e
 ·rename_i xs ys
  split at e
  ·rename_i c
   have c':(ar xs=true/\ar ys=true)/\xs.length+ys.length<=sizeLine:=by simpa using c
   cases e
   obtain⟨p,vs,rfl,h1,h2⟩:=aJ hx
   obtain⟨p',vs',rfl,h3,h4⟩:=aJ hy
   have l1:=ap h2
   have l2:=ap h4
   by_cases hn:vs=[]
   ·have hds:xs=[]:=List.eq_nil_of_length_eq_zero (by rw[←l1,hn];rfl)
    cases ru;cases rv
    obtain⟨its,r1,p1,_⟩:=I.tuple h1
    obtain⟨its2,r2,p2,_⟩:=I.tuple h3
    obtain⟨⟨cls,dd,data,sl⟩,ho,hc,n,hda⟩:=id p1
    obtain⟨⟨cls2,dd2,data2,sl2⟩,ho2,hc2,n2,hdb⟩:=id p2
    simp only at hc hda hc2 hdb
    subst hc hda hc2 hdb
    have hv:its=[]:=(r1.pX).mpr hn
    exact concat_meets ⟨_,ho,rfl⟩ ⟨_,ho2,rfl⟩ noFill_tuple_add seq_tuple_add PySem.F.slot_tuple_add PySem.F.entry_tuple_add (PySem.F.args_tuple_add_2 _ _)
     (tuple_addW0 p p' its.toArray its2.toArray n n2 dd dd2 sl sl2 (by simp[hv])) ⟨ho,ho2,⟨.ref p',H,I,rfl,q _ H (Same.refl H) (aU.mm (by rw[br,hds];exact c'.1.2) (by rw[hds];exact hy))⟩⟩
   ·refine Fe pins s σ H _ _ a b Q I ru rv ⟨p,p',vs,vs',rfl,rfl,h1,h3,hn,by omega,λe=> ?_,λe t ht=> ?_⟩
    ·have hes:ys=[]:=List.eq_nil_of_length_eq_zero (by rw[←l2,e];rfl)
     exact q _ H (Same.refl H) (aU.mm (by rw[br,hes,Xz];exact c'.1.1) (by rw[hes,Xz];exact hx))
    ·exact q _ _ (Same.upd ht) (aU.tup (by rw[fF,c'.1.1,c'.1.2];rfl) (ee.of az) (ay.same (Same.upd ht) _ _ (dz h2 h4)))
  ·cases e
end
section
variable {X:Cx}{K:Frag}{Ew:Str->Hp->Prop}{pos:Pos}{a b:Expr}{fa fb:EF}{ta tb:TF}
theorem Ae (r:Rep K B φ Γ σ H)(h:pj Ew B H (tE fa Γ) Q) :
  Runs K Ew B φ H (fa Γ) (λv H1=>∃c,v= .bl c/\Q c H1):=by
 unfold tE at h
 match hm:fa Γ,h with
 | some (.ok (k,d)),h=>
  refine .inl ⟨k,d,rfl,λv H' s hv=> ?_⟩
  cases d <;> try (rcases h with⟨t,e,_⟩ | ⟨c,e,_⟩ <;> cases e;done)
  rename_i t
  rcases h with⟨t',e,h⟩ | ⟨c,e,h⟩
  ·cases e
   have:=jB (hv.toD (r.bs.trans s))
   exact⟨t,this,h H' s⟩
  ·cases e
 | some (.ex c),h=>
  rcases h with⟨t',e,h⟩ | ⟨c',e,h⟩
  ·cases e
  ·cases e;exact .inr ⟨c,rfl,h⟩
 | none,h=>rcases h with⟨t',e,h⟩ | ⟨c',e,h⟩ <;> cases e
theorem uO (ha:DE X K Ew a fa)(he:∀whole,isTrue a X.env whole=(do let v←whole;standAt a.pos;holding [v] (truthy v)):=by intro _;rfl):DT X K Ew a (tE fa) :=
 (H_ ha he).imp λσ H Q q=>by
  obtain⟨B,φ,Γ,r,q⟩:=q
  exact⟨B,φ,Γ,r,Ae r q⟩
theorem bq (ho:i8 X (compareOp op) g)(ha:DE X K Ew a fa)(hb:DE X K Ew b fb)(hm:behindInMarks op b=false)(hK:X.K=K:=by rfl) :
  DT X K Ew (.Compare a [op] [b] pos) (tE (bR g fa fb)):=by
 obtain⟨r,hr,hx⟩:=ho
 refine(E_ hr ha hb hm).imp λσ H Q q=> ?_
 obtain⟨B,φ,Γ,r0,q⟩:=q
 refine qr (g:=λx y=>aq (mo (g x.2 y.2)) λz=>ah (.fr [],z)) (Q:=λv H1=>∃c,v= .bl c/\Q c H1) ⟨B,φ,Γ,r0,Ae r0 q⟩ λB φ Γ k x k' y u v H1 H2 r2 s1 s2 v1 v2 q=> ?_
 obtain⟨z,e,q⟩:=gE (kf:=λ_=> .fr []) q
 rw[hK] at hx
 exact hx x y z u v H2 _ e (v1.toD r2.bs) (v2.toD r2.bs) λw H' s f=>q w H' ((s1.trans s2).trans s) (VR.fresh.mpr (f.from (s1.trans s2)))
theorem uP (ha:DT X K Ew a ta):DW X K Ew (.BoolOp .And [a] pos) ta:=E7 ha
theorem Ja (ha:DT X K Ew a ta):DW X K Ew (.BoolOp .Or [a] pos) ta:=Ia ha
theorem yM {rest:List Expr}(ha:DT X K Ew a ta)(hb:DW X K Ew (.BoolOp .And (b :: rest) pos) tb):DW X K Ew (.BoolOp .And (a :: b :: rest) pos) (tf ta tb) :=
 (Ib ha hb).imp λσ H Q q=>by
  obtain⟨B,φ,Γ,r,q⟩:=q
  refine⟨B,φ,Γ,r,?_⟩
  have q':=pj.bind q
  rcases q' with⟨t,e,q'⟩ | q'
  ·refine .inl ⟨t,e,λH1 s1=> ?_⟩
   obtain⟨_,_,q2⟩:=q' H1 s1
   cases t with
   | true=>rw[JQ rfl] at q2⊢;exact⟨B,φ,Γ,r.same s1,q2⟩
   | false=>
    rw[JV K4] at q2⊢
    rcases q2 with⟨t',e',q2⟩ | ⟨c,e',_⟩
    ·cases e';exact q2 H1 (Same.refl H1)
    ·cases e'
  ·exact .inr q'
theorem Ho {rest:List Expr}(ha:DT X K Ew a ta)(hb:DW X K Ew (.BoolOp .Or (b :: rest) pos) tb):DW X K Ew (.BoolOp .Or (a :: b :: rest) pos) (A9 ta tb) :=
 (Lz ha hb).imp λσ H Q q=>by
  obtain⟨B,φ,Γ,r,q⟩:=q
  refine⟨B,φ,Γ,r,?_⟩
  have q':=pj.bind q
  rcases q' with⟨t,e,q'⟩ | q'
  ·refine .inl ⟨t,e,λH1 s1=> ?_⟩
   obtain⟨_,_,q2⟩:=q' H1 s1
   cases t with
   | false=>rw[JV K4] at q2⊢;exact⟨B,φ,Γ,r.same s1,q2⟩
   | true=>
    rw[JQ rfl] at q2⊢
    rcases q2 with⟨t',e',q2⟩ | ⟨c,e',_⟩
    ·cases e';exact q2 H1 (Same.refl H1)
    ·cases e'
  ·exact .inr q'
theorem DW.dt (h:DW X K Ew a ta):DT X K Ew a ta:=PW.pt h
theorem yN (ha:DT X K Ew a ta):DT X K Ew (.UnaryOp .Not a pos) (kN ta):=(Ic ha).imp λσ H Q q=>by
 obtain⟨B,φ,Γ,r,q⟩:=q
 refine⟨B,φ,Γ,r,?_⟩
 have q':=pj.bind q
 rcases q' with⟨t,e,q'⟩ | q'
 ·refine .inl ⟨t,e,λH1 s1=> ?_⟩
  obtain⟨_,_,q2⟩:=q' H1 s1
  rcases q2 with⟨t',e',q2⟩ | ⟨c,e',_⟩
  ·cases e';exact q2 H1 (Same.refl H1)
  ·cases e'
 ·exact .inr q'
theorem Hq (hc:DT X K Ew c ta)(ha:DE X K Ew a fa)(hb:DE X K Ew b fb):DE X K Ew (.IfExp c a b pos) (L3 ta fa fb):=(Ct hc ha hb).imp λσ H Q q=>by
 obtain⟨B,φ,Γ,r,q⟩:=q
 refine⟨B,φ,Γ,r,?_⟩
 unfold L3 at q
 match hm:ta Γ,q with
 | some (.ok t),q=>
  refine .inl ⟨t,rfl,λH1 s1=> ?_⟩
  cases t with
  | true=>rw[JQ rfl];exact⟨B,φ,Γ,r.same s1,Runs.later q s1⟩
  | false=>rw[JV K4];exact⟨B,φ,Γ,r.same s1,Runs.later q s1⟩
 | some (.ex c),q=>
  rcases q with⟨k,d,e,h⟩ | ⟨c',e,h⟩
  ·cases e
  ·cases e;exact .inr ⟨c,rfl,h⟩
 | none,q=>rcases q with⟨k,d,e,h⟩ | ⟨c',e,h⟩ <;> cases e
theorem Jb {op}(ha:DE X K Ew a fa):DE X K Ew (.BoolOp op [a] pos) fa:=Ie ha
theorem Af {φ:Nat->List Addr}{σ:St}{Q Q':VK}{g:PyData->M (Kd×PyData)}(r:Rep K B φ Γ σ H)(h:Runs K Ew B φ H (aq (fa Γ) λx=>g x.2) Q)
  (hg:∀d,(∀t,d≠ .bool t)->g d=none) (i:∀t H1,Same H H1->Rep K B φ Γ σ H1->Runs K Ew B φ H1 (g (.bool t)) Q->Q' (.bl t) H1):Runs K Ew B φ H (fa Γ) Q':=by
 refine(h.bind r).mono λv H1 s1 ⟨k,d,e,hv,r1,_,q⟩=> ?_
 cases d with
 | bool t=>
  have:=jB (hv.toD r1.bs)
  subst this
  exact i t H1 s1 r1 (q.later s1)
 | _=>
  exfalso
  rw[show g _=none from hg _ (by intro t z;cases z)] at q
  rcases q with⟨k,d,e,h⟩ | ⟨c',e,h⟩ <;> cases e
theorem Jc {rest:List Expr}(ha:DE X K Ew a fa)(hb:DE X K Ew (.BoolOp .And (b :: rest) pos) fb):DE X K Ew (.BoolOp .And (a :: b :: rest) pos) (IY fa fb):=(Ig ha hb).imp λσ H Q q=>by
 obtain⟨B,φ,Γ,r,q⟩:=q
 refine⟨B,φ,Γ,r,Af (g:=λd=>match d with | .bool true=>fb Γ | .bool false=>ah (.fr [],.bool false) | _=>none) r q (λd hd=> ?_) λt H1 s1 r1 q1=>⟨t,rfl,?_⟩⟩
 ·cases d <;> first | rfl | exact absurd rfl (hd _)
 ·cases t with
  | true=>rw[JQ rfl];exact⟨B,φ,Γ,r1,q1⟩
  | false=>
   rw[JV K4]
   rcases q1 with⟨k,d,e,h⟩ | ⟨c',e,h⟩
   ·cases e;exact h _ H1 (Same.refl H1) (VR.mm rfl di [])
   ·cases e
theorem Jd (ha:DE X K Ew a fa):DE X K Ew (.UnaryOp .Not a pos) (CH fa):=(Ih ha).imp λσ H Q q=>by
 obtain⟨B,φ,Γ,r,q⟩:=q
 refine⟨B,φ,Γ,r,Af (g:=λd=>match d with | .bool t=>ah (.fr [],.bool (!t)) | _=>none) r q (λd hd=> ?_) λt H1 s1 r1 q1=>⟨t,rfl,?_⟩⟩
 ·cases d <;> first | rfl | exact absurd rfl (hd _)
 ·rcases q1 with⟨k,d,e,h⟩ | ⟨c',e,h⟩
  ·cases e;exact h _ H1 (Same.refl H1) (VR.mm rfl di [])
  ·cases e
end
open Classical in
noncomputable def gR (φ:Nat->List Addr)(H:Hp):Hp:=λa=>if∃j,a∈φ j then none else H a
theorem cQ (h:∀j,a∉φ j):gR φ H a=H a:=by
 unfold gR;rw[JV];rintro⟨j,z⟩;exact h j z
theorem Ag (h:a∈φ j):gR φ H a=none:=by
 unfold gR;rw[JQ ⟨j,h⟩]
theorem jE (φ:Nat->List Addr)(H:Hp):Same (gR φ H) H:=λa o e=>by
 unfold gR at e
 split at e
 ·cases e
 ·exact e
section
variable {K:Frag}{B B' H H':Hp}{φ:Nat->List Addr}{Γ:aX}{σ:St}{k:Kd}{d:PyData}{v:V}
theorem ee.toB (e:∀a o,H a=some o->¬ fJ o->B' a=some o)(h:ee K H a xs):ee K B' a xs:=by
 rcases h with(h | ⟨o,h⟩) | h
 ·exact .inl (.inl (e _ _ h (λz=>z)))
 ·exact .inl (.inr ⟨o,e _ _ h (λz=>z)⟩)
 ·exact .inr h
mutual
theorem IsT.toB (e:∀a o,H a=some o->¬ fJ o->B' a=some o):∀(d:PyData) (v:V) (as:List Addr),(∀a∈as,∀o,H a=some o->B' a=some o)->IsT K H d v as->aM K B' d v
 | .none,v,as,_,h=>by simp only[IsT] at h;simp only[aM];exact h.1
 | .bool b,v,as,_,h=>by simp only[IsT] at h;simp only[aM];exact h.1
 | .int i,v,as,_,h=>by simp only[IsT] at h;simp only[aM];exact h.1
 | .str x,v,as,_,h=>by simp only[IsT] at h;simp only[aM];exact h.1
 | .list xs,v,as,m,h=>by
  simp only[IsT] at h;simp only[aM]
  obtain⟨a,vs,bs,e1,h1,h2,rfl⟩:=h
  exact⟨a,vs,e1,gD.of (m a K7 _ h1),aA.toB e xs vs bs (λb hb=>m b (K9 _ hb)) h2⟩
 | .tuple xs,v,as,m,h=>by
  simp only[IsT] at h;simp only[aM]
  obtain⟨a,vs,e1,h1,h2⟩:=h
  exact⟨a,vs,e1,h1.toB e,aA.toB e xs vs as m h2⟩
 | .dict kvs,v,as,m,h=>by
  simp only[IsT] at h;simp only[aM]
  obtain⟨a,ks,bs,e1,h1,h2,rfl⟩:=h
  exact⟨a,ks,e1,.inl (m a K7 _ h1),aP.toB e kvs ks.1 bs (λb hb=>m b (K9 _ hb)) h2⟩
theorem aA.toB (e:∀a o,H a=some o->¬ fJ o->B' a=some o):∀(ds:List PyData) (vs:List V) (as:List Addr),(∀a∈as,∀o,H a=some o->B' a=some o)->aA K H ds vs as->ay K B' ds vs
 | [],vs,as,_,h=>by simp only[aA] at h;simp only[ay];exact h.1
 | d :: ds,vs,as,m,h=>by
  simp only[aA] at h;simp only[ay]
  obtain⟨v,r,a1,a2,e1,rfl,h1,h2⟩:=h
  exact⟨v,r,e1,IsT.toB e d v a1 (λb hb=>m b (X9 _ hb)) h1,aA.toB e ds r a2 (λb hb=>m b (Kx _ hb)) h2⟩
theorem aP.toB (e:∀a o,H a=some o->¬ fJ o->B' a=some o):∀(ds:List (PyData×PyData)) (ks:List (!9)) (as:List Addr),(∀a∈as,∀o,H a=some o->B' a=some o)->aP K H ds ks as->aV K B' ds ks
 | [],ks,as,_,h=>by simp only[aP] at h;simp only[aV];exact h.1
 | (k,d) :: r,ks,as,m,h=>by
  simp only[aP] at h;simp only[aV]
  obtain⟨kv,v,q,a1,a2,e1,rfl,h1,h2,h3⟩:=h
  exact⟨kv,v,q,e1,IsT.toB e k kv [] (λb hb=>by cases hb) h1,IsT.toB e d v a1 (λb hb=>m b (X9 _ hb)) h2,aP.toB e r q a2 (λb hb=>m b (Kx _ hb)) h3⟩
end
theorem Rep.mu (r:Rep K B φ Γ σ H):∀a o,H a=some o->¬ fJ o->gR φ H a=some o:=λa o e n=>by
 rw[cQ]
 ·exact e
 ·intro j hj
  obtain⟨o',e',m⟩:=(r.nb j a hj).2
  rw[e] at e';cases e'
  exact n m
theorem Rep.sM (r:Rep K B φ Γ σ H):Same B (gR φ H):=λa o e=>by
 rw[cQ]
 ·exact r.bs a o e
 ·intro j hj
  rw[(r.nb j a hj).1] at e
  cases e
theorem Rep.base (r:Rep K B φ Γ σ H)(s:Same B B')(s':Same B' H)(n:∀j,∀a∈φ j,B' a=none):Rep K B' φ Γ σ H where
 bs:=s'
 len:=r.len
 sl:=λi o d e=>by
  obtain⟨v,h1,h2⟩:=r.sl i o d e
  refine⟨v,h1,?_⟩
  cases o with
  | true=>exact h2
  | false=>rw[JV K4] at h2⊢;exact aM.same s _ _ h2
 nd:=r.nd
 nb:=λi a ha=>⟨n i a ha,(r.nb i a ha).2⟩
 dj:=r.dj
theorem Rep.cut (r:Rep K B φ Γ σ H):Rep K (gR φ H) φ Γ σ H:=r.base r.sM (jE _ _) λj a ha=>Ag ha
noncomputable def Bf (φ:Nat->List Addr)(i:Nat):Nat->List Addr:=λj=>if j=i then [] else φ j
theorem fP (h:a∈Bf φ i j):j≠i/\a∈φ j:=by
 unfold Bf at h
 split at h
 ·cases h
 ·rename_i n;exact⟨n,h⟩
theorem Rep.less (r:Rep K B φ Γ σ H)(hψ:∀j,ψ j=φ j∨ψ j=[])(Γ':aX)(hl:Γ'.length=Γ.length)
  (hs:∀i o d,Γ'[i]? =some (some (o,d))->(Γ[i]? =some (some (o,d))/\(o=true->ψ i=φ i))∨(o=false/\ψ i=[]/\∃o',Γ[i]? =some (some (o',d)))) :
  Same B (gR ψ H)/\Rep K (gR ψ H) ψ Γ' σ H:=by
 have sub:∀j a,a∈ψ j->a∈φ j:=λj a ha=>by
  rcases hψ j with e | e
  ·rw[e] at ha;exact ha
  ·rw[e] at ha;cases ha
 have s1:Same B (gR ψ H):=λa o e=>by
  rw[cQ]
  ·exact r.bs a o e
  ·intro j hj
   rw[(r.nb j a (sub j a hj)).1] at e
   cases e
 have mu:∀a o,H a=some o->¬ fJ o->gR ψ H a=some o:=λa o e n=>by
  rw[cQ]
  ·exact e
  ·intro j hj
   obtain⟨o',e',m⟩:=(r.nb j a (sub j a hj)).2
   rw[e] at e';cases e'
   exact n m
 refine⟨s1,jE _ _,hl.trans r.len,λi o d e=> ?_,λj=> ?_,λj a ha=>⟨Ag ha,(r.nb j a (sub j a ha)).2⟩,λi j n a ha hb=>r.dj i j n a (sub i a ha) (sub j a hb)⟩
 ·rcases hs i o d e with⟨e1,e2⟩ | ⟨rfl,e2,o',e3⟩
  ·obtain⟨v,h1,h2⟩:=r.sl i o d e1
   refine⟨v,h1,?_⟩
   cases o with
   | true=>rw[JQ rfl] at h2⊢;rw[e2 rfl];exact h2
   | false=>rw[JV K4] at h2⊢;exact aM.same s1 _ _ h2
  ·obtain⟨v,h1,h2⟩:=r.sl i o' d e3
   refine⟨v,h1,?_⟩
   rw[JV K4]
   cases o' with
   | false=>rw[JV K4] at h2;exact aM.same s1 _ _ h2
   | true=>
    rw[JQ rfl] at h2
    refine IsT.toB mu _ _ _ (λa ha o e=> ?_) h2
    rw[cQ]
    ·exact e
    ·intro j hj
     by_cases hji:j=i
     ·subst hji;rw[e2] at hj;cases hj
     ·exact r.dj i j (Ne.symm hji) a ha (sub j a hj)
 ·rcases hψ j with e | e
  ·rw[e];exact r.nd j
  ·rw[e];exact X2
theorem CN (i:Nat)(Γ:aX):(yF i Γ).length=Γ.length:=by
 unfold yF
 split <;> simp
theorem Rep.yF (r:Rep K B φ Γ σ H)(i:Nat):Same B (gR (Bf φ i) H)/\Rep K (gR (Bf φ i) H) (Bf φ i) (yF i Γ) σ H:=by
 refine r.less (λj=> ?_) _ (CN i Γ) λj o d e=> ?_
 ·unfold Bf
  by_cases h:j=i
  ·exact .inr (JQ h)
  ·exact .inl (JV h)
 ·unfold Y.yF at e
  split at e
  ·rename_i o' d' hg
   by_cases h:j=i
   ·subst h
    have hj:j < Γ.length:=(X1.mp hg).1
    rw[U6 hj] at e
    cases e
    exact .inr ⟨rfl,JQ rfl,o',hg⟩
   ·rw[Xq (Ne.symm h)] at e
    exact .inl ⟨e,λ_=>JV h⟩
  ·rename_i hg
   by_cases h:j=i
   ·subst h
    exact absurd e (hg o d)
   ·exact .inl ⟨e,λ_=>JV h⟩
theorem Rep.yG:∀(l:List Nat) {B:Hp} {φ:Nat->List Addr} {Γ:aX},Rep K B φ Γ σ H->∃ψ,Same B (gR ψ H)/\Rep K (gR ψ H) ψ (yG l Γ) σ H/\(∀j a,a∈ψ j->a∈φ j)/\∀j∈l,ψ j=[]
 | [],B,φ,Γ,r=>⟨φ,r.sM,r.cut,λ_ _ h=>h,λj hj=>by cases hj⟩
 | i :: l,B,φ,Γ,r=>by
  obtain⟨s1,r1⟩:=r.yF i
  obtain⟨ψ,s2,r2,h3,h4⟩:=Rep.yG l r1
  refine⟨ψ,s1.trans s2,r2,λj a ha=>(fP (h3 j a ha)).2,λj hj=> ?_⟩
  rcases K0.mp hj with rfl | hj
  ·cases e:ψ j with
   | nil=>rfl
   | cons b t=>
    have:=fP (h3 j b (by rw[e];exact K7))
    exact absurd rfl this.1
  ·exact h4 j hj
theorem Rep.uJ (r:Rep K B φ Γ σ H):Same B H/\Rep K H (λ_=> []) (uJ Γ) σ H:=by
 have h:=r.less (ψ:=λ_=> []) (λj=> .inr rfl) (Y.uJ Γ) (by simp[Y.uJ]) λj o d e=>by
  unfold Y.uJ at e
  rw[KU] at e
  cases hg:Γ[j]? with
  | none=>rw[hg] at e;cases e
  | some s=>
   rw[hg] at e
   cases s with
   | none=>cases e
   | some p=>cases e;exact .inr ⟨rfl,rfl,p.1,rfl⟩
 have e:gR (λ_=> []) H=H:=by
  funext a
  exact cQ λj hj=>by cases hj
 rw[e] at h
 exact h
def Av (K:Frag)(B:Hp)(φ:Nat->List Addr)(H:Hp):Kd->PyData->V->Prop
 | .fr l,d,v=>∃as,IsT K H d v as/\as.Nodup/\∀a∈as,(∃i∈l,a∈φ i)∨(B a=none/\∀j,a∉φ j)
 | .base,d,v=>aM K B d v
 | .any,d,v=>aM K H d v
theorem VR.av (r:Rep K B φ Γ σ H0)(h:VR K B φ H0 H k d v):Av K B φ H k d v:=by
 cases k with
 | fr l=>
  obtain⟨as,h1,h2,h3⟩:=h
  refine⟨as,h1,h2,λa ha=>(h3 a ha).imp id λz=>⟨r.bs.free z,λj hj=> ?_⟩⟩
  obtain⟨o,e,_⟩:=(r.nb j a hj).2
  rw[z] at e;cases e
 | base=>exact h
 | any=>exact h
theorem Rep.put (r:Rep K B φ Γ σ H)(i:Nat)(h:IsT K H d v as)(nd:as.Nodup)(hb:∀a∈as,B a=none/\∀j,j≠i->a∉φ j) :
  Rep K B (λj=>if j=i then as else φ j) (Γ.set i (some (true,d))) (σ.set i (some v)) H where
 bs:=r.bs
 len:=by rw[U9,U9];exact r.len
 sl:=λj o d' e=>by
  by_cases hj:j=i
  ·subst hj
   by_cases hlt:j < Γ.length
   ·rw[U6 hlt] at e
    cases e
    refine⟨v,by rw[U6 (by rw[←r.len];exact hlt)],?_⟩
    rw[JQ rfl,JQ rfl];exact h
   ·rw[XU (by rw[U9];omega)] at e
    cases e
  ·rw[Xq (Ne.symm hj)] at e
   obtain⟨w,h1,h2⟩:=r.sl j o d' e
   refine⟨w,by rw[Xq (Ne.symm hj)];exact h1,?_⟩
   simp only[JV hj]
   exact h2
 nd:=λj=>by
  by_cases hj:j=i
  ·simp only[JQ hj];exact nd
  ·simp only[JV hj];exact r.nd j
 nb:=λj a ha=>by
  by_cases hj:j=i
  ·simp only[JQ hj] at ha;exact⟨(hb a ha).1,IsT.live _ _ _ h a ha⟩
  ·simp only[JV hj] at ha;exact r.nb j a ha
 dj:=λj j' n a ha hb'=>by
  by_cases hj:j=i
  ·simp only[JQ hj] at ha
   by_cases hj':j'=i
   ·exact n (hj.trans hj'.symm)
   ·simp only[JV hj'] at hb';exact(hb a ha).2 j' hj' hb'
  ·simp only[JV hj] at ha
   by_cases hj':j'=i
   ·simp only[JQ hj'] at hb';exact(hb a hb').2 j hj ha
   ·simp only[JV hj'] at hb';exact r.dj j j' n a ha hb'
theorem Rep.Fv (r:Rep K B φ Γ σ H)(i:Nat)(h:aM K B d v):Rep K B (Bf φ i) (Γ.set i (some (false,d))) (σ.set i (some v)) H where
 bs:=r.bs
 len:=by rw[U9,U9];exact r.len
 sl:=λj o d' e=>by
  by_cases hj:j=i
  ·subst hj
   by_cases hlt:j < Γ.length
   ·rw[U6 hlt] at e
    cases e
    refine⟨v,by rw[U6 (by rw[←r.len];exact hlt)],?_⟩
    rw[JV K4];exact h
   ·rw[XU (by rw[U9];omega)] at e
    cases e
  ·rw[Xq (Ne.symm hj)] at e
   obtain⟨w,h1,h2⟩:=r.sl j o d' e
   refine⟨w,by rw[Xq (Ne.symm hj)];exact h1,?_⟩
   unfold Bf
   simp only[JV hj]
   exact h2
 nd:=λj=>by
  unfold Bf
  by_cases hj:j=i
  ·simp only[JQ hj];exact X2
  ·simp only[JV hj];exact r.nd j
 nb:=λj a ha=>r.nb j a (fP ha).2
 dj:=λj j' n a ha hb'=>r.dj j j' n a (fP ha).2 (fP hb').2
theorem Rep.kill (r:Rep K B φ Γ σ H)(i:Nat):Rep K B (Bf φ i) (Γ.set i none) σ H where
 bs:=r.bs
 len:=by rw[U9];exact r.len
 sl:=λj o d' e=>by
  by_cases hj:j=i
  ·subst hj
   by_cases hlt:j < Γ.length
   ·rw[U6 hlt] at e;cases e
   ·rw[XU (by rw[U9];omega)] at e;cases e
  ·rw[Xq (Ne.symm hj)] at e
   obtain⟨w,h1,h2⟩:=r.sl j o d' e
   refine⟨w,h1,?_⟩
   unfold Bf
   simp only[JV hj]
   exact h2
 nd:=λj=>by
  unfold Bf
  by_cases hj:j=i
  ·simp only[JQ hj];exact X2
  ·simp only[JV hj];exact r.nd j
 nb:=λj a ha=>r.nb j a (fP ha).2
 dj:=λj j' n a ha hb'=>r.dj j j' n a (fP ha).2 (fP hb').2
theorem j3 (r:Rep K B φ Γ σ H)(i:Nat)(h:Av K B φ H k d v):∃B' φ',Same B B'/\Rep K B' φ' (jo Γ i k d) (σ.set i (some v)) H:=by
 match k,h with
 | .fr [],h=>
  obtain⟨as,h1,h2,h3⟩:=h
  exact⟨B,_,Same.refl B,r.put i h1 h2 λa ha=>by
   rcases h3 a ha with⟨_,z,_⟩ | z
   ·cases z
   ·exact⟨z.1,λj _=>z.2 j⟩⟩
 | .fr (j :: l),h=>
  obtain⟨as,h1,h2,h3⟩:=h
  obtain⟨ψ,s1,r1,sub,hl⟩:=r.yG (j :: l)
  refine⟨_,_,s1,r1.Fv i ?_⟩
  refine IsT.toB (λa o e n=> ?_) _ _ _ (λa ha o e=> ?_) h1
  ·rw[cQ]
   ·exact e
   ·intro j' hj'
    obtain⟨o',e',m⟩:=(r.nb j' a (sub j' a hj')).2
    rw[e] at e';cases e'
    exact n m
  ·rw[cQ]
   ·exact e
   ·intro j' hj'
    rcases h3 a ha with⟨i',hi',z⟩ | z
    ·by_cases hij:i'=j'
     ·subst hij;rw[hl _ hi'] at hj';cases hj'
     ·exact r.dj i' j' hij a z (sub j' a hj')
    ·exact z.2 j' (sub j' a hj')
 | .base,h=>exact⟨B,_,Same.refl B,r.Fv i h⟩
 | .any,h=>
  obtain⟨s1,r1⟩:=r.uJ
  exact⟨H,_,s1,r1.Fv i h⟩
end
section
variable {X:Cx}{K:Frag}{Ew:Str->Hp->Prop}{pos:Pos}{st:Stmt}{rest:List Stmt}{e:Expr}{fe:EF}{f g:SF}{t:TF}
theorem RV.base (s:Same B B')(h:RV K B' H' o d v):RV K B H' o d v:=by
 unfold RV at h⊢
 cases o with
 | true=>
  rw[JQ rfl] at h⊢
  obtain⟨as,h1,h2,h3⟩:=h
  exact⟨as,h1,h2,λa ha=>s.free (h3 a ha)⟩
 | false=>rw[JV K4] at h⊢;exact h
theorem cE.base (s:Same B B')(h:cE K Ew B m D):cE K Ew B' m D:=by
 match m,h with
 | some (.ok (.nx Γ)),h=>exact λB2 φ σ H s2 r=>h B2 φ σ H (s.trans s2) r
 | some (.ok (.bk Γ)),h=>exact λB2 φ σ H s2 r=>h B2 φ σ H (s.trans s2) r
 | some (.ok (.ct Γ)),h=>exact λB2 φ σ H s2 r=>h B2 φ σ H (s.trans s2) r
 | some (.ok (.rt o d)),h=>exact λv H' s' rv=>h v H' (s.trans s') (rv.base s)
 | some (.ex c),h=>exact λH' s'=>h H' (s.trans s')
 | none,h=>exact h
theorem cc:Aa X K Ew [] fH:=uz.imp λD σ H q=>by
 obtain⟨B,φ,Γ,r,q⟩:=q
 exact q B φ σ H (Same.refl B) r
theorem af (h1:DS X K Ew st f)(h2:Aa X K Ew rest g):Aa X K Ew (st :: rest) (aC f g):=(mO h1 h2).imp λD σ H q=>by
 obtain⟨B,φ,Γ,r,q⟩:=q
 refine⟨B,φ,Γ,r,?_⟩
 unfold aC at q
 match hm:f Γ,q with
 | some (.ok (.nx Γ')),q=>exact λB' φ' σ' H' s' r'=>⟨B',φ',Γ',r',cE.base s' q⟩
 | some (.ok (.bk Γ')),q=>exact q
 | some (.ok (.ct Γ')),q=>exact q
 | some (.ok (.rt o d)),q=>exact q
 | some (.ex c),q=>exact q
 | none,q=>cases q
theorem am (h1:DS X K Ew st f):Aa X K Ew [st] f:=pU h1
theorem gS {g:Kd×PyData->aX->M Out}{σ:St}{R:VK}(h:L5 K Ew (λΓ=>aq (fe Γ) λx=>g x Γ) D σ H)
  (i:∀B φ Γ k d v H1,Rep K B φ Γ σ H1->Av K B φ H1 k d v->cE K Ew B (g (k,d) Γ) D->R v H1):tD K Ew fe σ H R:=by
 obtain⟨B,φ,Γ,r,q⟩:=h
 refine⟨B,φ,Γ,r,?_⟩
 have q:cE K Ew B (aq (fe Γ) λx=>g x Γ) D:=q
 match hm:fe Γ,q with
 | some (.ok (k,d)),q=>exact .inl ⟨k,d,rfl,λv H1 s hv=>i B φ Γ k d v H1 (r.same s) (hv.av r) q⟩
 | some (.ex c),q=>exact .inr ⟨c,rfl,q⟩
 | none,q=>cases q
theorem Av.toD (s:Same B H)(h:Av K B φ H k d v):aM K H d v:=by
 cases k with
 | fr l=>obtain⟨as,h1,_⟩:=h;exact IsT.toD _ _ _ h1
 | base=>exact aM.same s _ _ h
 | any=>exact h
theorem aY (he:DE X K Ew e fe):DS X K Ew (.Return (some e) pos) (cy fe):=(Cu he).imp λD σ H q=>
 gS (g:=λx _=>ah (.rt (oh x.1) x.2)) q λB φ Γ k d v H1 r a q=>by
  refine q v H1 r.bs ?_
  unfold RV
  cases k with
  | fr l=>
   simp only[oh,if_true]
   obtain⟨as,h1,h2,h3⟩:=a
   refine⟨as,h1,h2,λa ha=> ?_⟩
   rcases h3 a ha with⟨i,_,z⟩ | z
   ·exact(r.nb i a z).1
   ·exact z.1
  | base=>simp only[oh,XZ,if_false];exact aM.same r.bs _ _ a
  | any=>simp only[oh,XZ,if_false];exact a
theorem aD (hN:X.N.Nodup)(hi:X.N[i]? =some x)(hx:Loc X.env.scope x)(he:DE X K Ew e fe)(hs:swapsWith e (some (.Name x pos')) pos.line X.env=pure false:=by rfl)(hf:X.fn x=true∨X.env.scope.names.lookup x=some .local:=by first | exact .inl rfl | exact .inr rfl | assumption) :
  DS X K Ew (.Assign [.Name x pos'] e pos) (aH i fe):=(yv (i:=i) hN hi hx he hs hf).imp λD σ H q=>
 gS (g:=λx Γ=>ah (.nx (jo Γ i x.1 x.2))) q λB φ Γ k d v H1 r a q=>by
  obtain⟨B',φ',s',r'⟩:=j3 r i a
  exact q B' φ' _ H1 s' r'
theorem uQ (hN:X.N.Nodup)(hi:X.N[i]? =some x)(hx:Loc X.env.scope x)(hj:PE X (.Name y pos2) (lX j))(hs:swapsWith (.Name y pos2) (some (.Name x pos')) pos.line X.env=pure false:=by rfl)(hf:X.fn x=true∨X.env.scope.names.lookup x=some .local:=by first | exact .inl rfl | exact .inr rfl | assumption) :
  DS X K Ew (.Assign [.Name x pos'] (.Name y pos2) pos) (yH i j):=(yv (i:=i) hN hi hx hj hs hf).imp λD σ H q=>by
 obtain⟨B,φ,Γ,r,q⟩:=q
 unfold yH at q
 match hm:Γ[j]?,q with
 | some (some (true,d)),q=>
  obtain⟨v,h1,h2⟩:=r.sl j true d hm
  rw[JQ rfl] at h2
  refine⟨v,h1,?_⟩
  by_cases hn:br d=true
  ·simp only[hn,if_true] at q
   exact q B _ _ H (Same.refl B) (r.put i (aM.toT _ _ hn (IsT.toD _ _ _ h2)) X2 λa ha=>by cases ha)
  ·simp only[hn,if_false] at q
   by_cases hij:i=j
   ·simp only[hij,if_true] at q;exact False.elim q
   ·simp only[hij,if_false] at q
    refine q B _ _ H (Same.refl B) ((r.kill j).put i h2 (r.nd j) λa ha=>⟨(r.nb j a ha).1,λj' _ hj'=> ?_⟩)
    obtain⟨n1,n2⟩:=fP hj'
    exact r.dj j' j n1 a n2 ha
 | some (some (false,d)),q=>
  obtain⟨v,h1,h2⟩:=r.sl j false d hm
  rw[JV K4] at h2
  refine⟨v,h1,?_⟩
  obtain⟨B',φ',s',r'⟩:=j3 (k:=cP .base d) r i (VR.av r (VR.cP r.bs (show VR K B φ H H .base d v from h2)))
  exact q B' φ' _ H s' r'
 | some none,q|none,q=>cases q
theorem gT (hc:DT X K Ew c t)(ha:Aa X K Ew a f)(hb:Aa X K Ew b g):DS X K Ew (.If c a b pos) (l4 t f g):=(Cv hc ha hb).imp λD σ H q=>by
 obtain⟨B,φ,Γ,r,q⟩:=q
 refine⟨B,φ,Γ,r,?_⟩
 unfold l4 at q
 match hm:t Γ,q with
 | some (.ok true),q=>exact .inl ⟨true,rfl,λH1 s=>by show(if true=true then _ else _);rw[JQ rfl];exact⟨B,φ,Γ,r.same s,q⟩⟩
 | some (.ok false),q=>exact .inl ⟨false,rfl,λH1 s=>by show(if false=true then _ else _);rw[JV K4];exact⟨B,φ,Γ,r.same s,q⟩⟩
 | some (.ex c),q=>exact .inr ⟨c,rfl,q⟩
 | none,q=>cases q
end
def OW (K:Frag)(B:Hp)(φ:Nat->List Addr)(H:Hp):Kd->List PyData->List V->Prop
 | .fr l,ds,vs=>∃as,aA K H ds vs as/\as.Nodup/\∀a∈as,(∃i∈l,a∈φ i)∨(B a=none/\∀j,a∉φ j)
 | .base,ds,vs=>ay K B ds vs
 | .any,ds,vs=>ay K H ds vs
def tG (K:Frag)(g:GF):TG:=λv σ H Q=>∃B φ Γ k d Γ',Rep K B φ Γ σ H/\Av K B φ H k d v/\g k d Γ=some Γ'/\∀B' φ' σ',Same B B'->Rep K B' φ' Γ' σ' H->Q σ' H
def DG (X:Cx)(K:Frag)(e:Expr)(g:GF):Prop:=PG X e (tG K g)
theorem PG.imp (h:PG X e t)(i:∀v σ H Q,t' v σ H Q->t v σ H Q):PG X e t':=λpins s σ H v u Q I r q=>h pins s σ H v u Q I r (i v σ H Q q)
def uR:List Nat->Hg
 | []=>Il
 | i :: is=>wb (kL i) (uR is)
noncomputable def qu (σ:St):List Nat->List V->St
 | i :: is,v :: vs=>qu (σ.set i (some v)) is vs
 | _,_=>σ
section
variable {X:Cx}{K:Frag}{Ew:Str->Hp->Prop}{pos:Pos}
theorem cx (hN:X.N.Nodup)(hi:X.N[i]? =some x)(hx:Loc X.env.scope x)(hf:X.fn x=true∨X.env.scope.names.lookup x=some .local:=by first | exact .inl rfl | exact .inr rfl | assumption):DG X K (.Name x pos) (bW i) :=
 (bp (i:=i) hN hi hx hf).imp λv σ H Q q=>by
  obtain⟨B,φ,Γ,k,d,Γ',r,a,e,q⟩:=q
  cases e
  obtain⟨B',φ',s',r'⟩:=j3 r i a
  exact q B' φ' _ s' r'
theorem mn:∀(is:List Nat) (vs:List V) (σ:St) (H:Hp) (Q:St->Hp->Prop),vs.length=is.length->Q (qu σ is vs) H->uR is vs σ H Q
 | [],[],σ,H,Q,_,q=>⟨rfl,q⟩
 | i :: is,v :: vs,σ,H,Q,hl,q=>⟨v,vs,rfl,mn is vs _ H Q (by simpa using hl) q⟩
 | [],_ :: _,_,_,_,hl,_=>by simp at hl
 | _ :: _,[],_,_,_,hl,_=>by simp at hl
def OX:Kd->Prop
 | .fr []=>True
 | .fr (_ :: _)=>False
 | _=>True
theorem jF (hk:OX k):∀(is:List Nat) (ds:List PyData) (vs:List V) {B:Hp} {φ:Nat->List Addr} {Γ:aX} {σ:St},ds.length=is.length->Rep K B φ Γ σ H->OW K B φ H k ds vs->
  ∃B' φ',Same B B'/\Rep K B' φ' (ql Γ is k ds) (qu σ is vs) H
 | [],[],vs,B,φ,Γ,σ,_,r,a=>⟨B,φ,Same.refl B,by unfold qu ql;exact r⟩
 | [],_ :: _,_,_,_,_,_,hl,_,_=>by simp at hl
 | _ :: _,[],_,_,_,_,_,hl,_,_=>by simp at hl
 | i :: is,d :: ds,vs,B,φ,Γ,σ,hl,r,a=>by
  have hl':ds.length=is.length:=by simpa using hl
  match k,hk,a with
  | .fr [],_,a=>
   obtain⟨as,h1,h2,h3⟩:=a
   simp only[aA] at h1
   obtain⟨v,vr,a1,a2,rfl,rfl,hv,tl⟩:=h1
   have h3':∀a∈a1++a2,B a=none/\∀j,a∉φ j:=λa ha=>by
    rcases h3 a ha with⟨_,z,_⟩ | z
    ·cases z
    ·exact z
   have hnd:=XX.mp h2
   by_cases hn:br d=true
   ·have e1:a1=[]:=IsT.nil _ _ _ hn hv
    subst e1
    have r1:=r.put i hv X2 λa ha=>by cases ha
    obtain⟨B',φ',s',r'⟩:=jF (k:=.fr []) trivial is ds vr hl' r1 ⟨a2,tl,hnd.2.1,λa ha=> .inr ⟨(h3' a (Kx _ ha)).1,λj=>by
     by_cases hj:j=i
     ·simp only[JQ hj];intro z;cases z
     ·simp only[JV hj];exact(h3' a (Kx _ ha)).2 j⟩⟩
    refine⟨B',φ',s',?_⟩
    simp only[ql,qu,cP,hn,if_true,jo]
    exact r'
   ·have r1:=r.put i hv hnd.1 λa ha=>⟨(h3' a (X9 _ ha)).1,λj _=>(h3' a (X9 _ ha)).2 j⟩
    obtain⟨B',φ',s',r'⟩:=jF (k:=.fr []) trivial is ds vr hl' r1 ⟨a2,tl,hnd.2.1,λa ha=> .inr ⟨(h3' a (Kx _ ha)).1,λj=>by
     by_cases hj:j=i
     ·simp only[JQ hj];intro z;exact hnd.2.2 a z a ha rfl
     ·simp only[JV hj];exact(h3' a (Kx _ ha)).2 j⟩⟩
    refine⟨B',φ',s',?_⟩
    simp only[ql,qu,cP,hn,if_false,jo]
    exact r'
  | .base,_,a=>
   have a':ay K B (d :: ds) vs:=a
   simp only[ay] at a'
   obtain⟨v,vr,rfl,hv,tl⟩:=a'
   obtain⟨B1,φ1,s1,r1⟩:=j3 (k:=cP .base d) r i (VR.av r (VR.cP r.bs (show VR K B φ H H .base d v from hv)))
   obtain⟨B',φ',s',r'⟩:=jF (k:=.base) trivial is ds vr hl' r1 (ay.same s1 _ _ tl)
   exact⟨B',φ',s1.trans s',r'⟩
  | .any,_,a=>
   have a':ay K H (d :: ds) vs:=a
   simp only[ay] at a'
   obtain⟨v,vr,rfl,hv,tl⟩:=a'
   obtain⟨B1,φ1,s1,r1⟩:=j3 (k:=cP .any d) r i (VR.av r (VR.cP r.bs (show VR K B φ H H .any d v from hv)))
   obtain⟨B',φ',s',r'⟩:=jF (k:=.any) trivial is ds vr hl' r1 tl
   exact⟨B',φ',s1.trans s',r'⟩
theorem Av.tup (s:Same B H)(h:Av K B φ H k (.tuple ds) v):∃a vs,v= .ref a/\ee K H a vs/\OW K B φ H (zY k) ds vs/\vs.length=ds.length:=by
 match k,h with
 | .fr [],h=>
  obtain⟨as,h1,h2,h3⟩:=h
  obtain⟨a,vs,e,q,t⟩:=j1 h1
  exact⟨a,vs,e,q,⟨as,t,h2,h3⟩,bB t⟩
 | .fr (j :: l),h=>
  obtain⟨as,h1,h2,h3⟩:=h
  obtain⟨a,vs,e,q,t⟩:=j1 h1
  exact⟨a,vs,e,q,aA.toD _ _ _ t,bB t⟩
 | .base,h=>
  obtain⟨a,vs,e,q,t⟩:=aJ (show aM K B (.tuple ds) v from h)
  exact⟨a,vs,e,s.l6 q,t,ap t⟩
 | .any,h=>
  obtain⟨a,vs,e,q,t⟩:=aJ (show aM K H (.tuple ds) v from h)
  exact⟨a,vs,e,q,t,ap t⟩
theorem wD (k:Kd):OX (zY k):=by
 match k with
 | .fr []=>trivial
 | .fr (_ :: _)=>trivial
 | .base=>trivial
 | .any=>trivial
theorem qv (hc:X.calm=true)(hg:Lj X es (uR is))(hn:(assignEach es X.env).length=is.length:=by rfl)(hst:(assignEach es X.env).findIdx? (·.1)=none:=by rfl)(hK:X.K=K:=by rfl) :
  DG X K (.Tuple es k pos) (jY is):=(yt (n:=is.length) hc hg hn hst).imp λv σ H Q q=>by
 obtain⟨B,φ,Γ,k,d,Γ',r,a,e,q⟩:=q
 cases d <;> simp only[jY] at e <;> try (cases e;done)
 rename_i ds
 split at e
 ·rename_i hl
  cases e
  obtain⟨a',vs,rfl,hq,av,hlen⟩:=a.tup r.bs
  refine⟨a',vs,rfl,by rw[hK];exact hq,by omega,mn _ _ _ _ _ (!1) ?_⟩
  obtain⟨B',φ',s',r'⟩:=jF (wD k) is ds vs hl r av
  exact q B' φ' _ s' r'
 ·cases e
theorem Je (he:DE X K Ew e fe)(hg:DG X K tg g)(hs:swapsWithSole [tg] e pos.line X.env=pure false:=by rfl)(hw:swappedStores [tg] e X.env=pure none:=by rfl)
  (h1:(assignEach [tg] X.env).map (·.2)=[assign tg X.env]:=by rfl):DS X K Ew (.Assign [tg] e pos) (Bc g fe):=(uA he hg hs hw h1).imp λD σ H q=>
 gS (g:=λx Γ=>aq (mo (g x.1 x.2 Γ)) λΓ'=>ah (.nx Γ')) q λB φ Γ k d v H1 r a q=>by
  cases e:g k d Γ with
  | none=>simp only[e] at q;exact False.elim q
  | some Γ'=>
   simp only[e] at q
   exact⟨B,φ,Γ,k,d,Γ',r,a,e,λB' φ' σ' s' r'=>q B' φ' σ' H1 s' r'⟩
structure uS (K:Frag)(B:Hp)(J:It)(ds:List PyData):Prop where
 go:∀i H,i < ds.length->Same B H->J.go i H
 yl:∀i H x H',i < ds.length->Same B H->J.LF i H x H'->Same H H'/\∃d,ds[i]? =some d/\∀B2,Same B B2->(∀a o,H a=none->H' a=some o->B2 a=some o)->aM K B2 d x
 stop:∀H,Same B H->J.stop ds.length H
def wF (K:Frag)(Ew:Str->Hp->Prop)(B H:Hp)(Γ:aX)(σ:St)(R:It->Hp->Prop)(m:M (Kd×List PyData)):Prop:=match m with
 | some (.ok (k,ds))=>∀J H1 B1 ψ,Same H H1->Same B B1->Rep K B1 ψ (kG k Γ) σ H1->uS K B1 J ds->R J H1
 | some (.ex c)=>∀H',Same B H'->Ew c H'
 | none=>False
def tI (K:Frag)(Ew:Str->Hp->Prop)(it:IF):TI:=λσ H R=>∃B φ Γ,Rep K B φ Γ σ H/\wF K Ew B H Γ σ R (it Γ)
def DI (X:Cx)(K:Frag)(Ew:Str->Hp->Prop)(tg e:Expr)(it:IF):Prop:=PI X tg e (tI K Ew it)
theorem PI.imp (h:PI X tg e t)(i:∀σ H R,t' σ H R->t σ H R):PI X tg e t':=λpins s σ H R I q=>h pins s σ H R I (i σ H R q)
theorem Rep.kG (r:Rep K B φ Γ σ H)(h:Av K B φ H k d v) :
  ∃B1 ψ,Same B B1/\Rep K B1 ψ (kG k Γ) σ H/\aM K B1 d v:=by
 match k,h with
 | .fr [],h=>
  obtain⟨as,h1,h2,h3⟩:=h
  refine⟨gR φ H,φ,r.sM,r.cut,IsT.toB r.mu _ _ _ (λa ha o e=> ?_) h1⟩
  rw[cQ]
  ·exact e
  ·rcases h3 a ha with⟨_,z,_⟩ | z
   ·cases z
   ·exact z.2
 | .fr (j :: l),h=>
  obtain⟨as,h1,h2,h3⟩:=h
  obtain⟨ψ,s1,r1,sub,hl⟩:=r.yG (j :: l)
  refine⟨_,_,s1,r1,IsT.toB (λa o e n=> ?_) _ _ _ (λa ha o e=> ?_) h1⟩
  ·rw[cQ]
   ·exact e
   ·intro j' hj'
    obtain⟨o',e',m⟩:=(r.nb j' a (sub j' a hj')).2
    rw[e] at e';cases e'
    exact n m
  ·rw[cQ]
   ·exact e
   ·intro j' hj'
    rcases h3 a ha with⟨i',hi',z⟩ | z
    ·by_cases hij:i'=j'
     ·subst hij;rw[hl _ hi'] at hj';cases hj'
     ·exact r.dj i' j' hij a z (sub j' a hj')
    ·exact z.2 j' (sub j' a hj')
 | .base,h=>exact⟨B,φ,Same.refl B,r,h⟩
 | .any,h=>
  obtain⟨s1,r1⟩:=r.uJ
  exact⟨H,_,s1,r1,h⟩
theorem tv (h:gD K B a vs)(t:ay K B ds vs):uS K B (NA K a) ds where
 go:=λi H hi s=>by
  have hl:=ap t
  exact⟨vs,vs[i]'(!1),s.seq h,by simp⟩
 yl:=λi H x H' hi s y=>by
  obtain⟨rfl,y⟩:=y
  obtain⟨d,e,hd⟩:=iB t (y vs (s.seq h))
  exact⟨Same.refl _,d,e,λB2 s2 _=>aM.same s2 _ _ hd⟩
 stop:=λH s=>⟨vs,s.seq h,by rw[ap t];exact K1 _⟩
theorem CO (h:ee K B a vs)(t:ay K B ds vs):uS K B (NB K a) ds where
 go:=λi H hi s=>by
  have hl:=ap t
  exact⟨vs,vs[i]'(!1),s.l6 h,by simp⟩
 yl:=λi H x H' hi s y=>by
  obtain⟨rfl,y⟩:=y
  obtain⟨d,e,hd⟩:=iB t (y vs (s.l6 h))
  exact⟨Same.refl _,d,e,λB2 s2 _=>aM.same s2 _ _ hd⟩
 stop:=λH s=>⟨vs,s.l6 h,by rw[ap t];exact K1 _⟩
theorem CP :uS K B (M1 m n) ((List.range n).map λi=> .int (m+(i:Nat))) where
 go:=λi H hi s=>by
  show i < n
  simpa using hi
 yl:=λi H x H' hi s y=>by
  obtain⟨rfl,rfl⟩:=y
  have hi':i < n:=by simpa using hi
  exact⟨Same.refl _,.int (m+(i:Nat)),by simp[hi'],λB2 s2 _=>bJ⟩
 stop:=λH s=>by
  show n<=_
  simp
theorem mW {fe:EF}{g:Kd×PyData->aX->M (Kd×List PyData)}{σ:St}{R:It->Hp->Prop}{R1:VK}(h:tI K Ew (λΓ=>aq (fe Γ) λx=>g x Γ) σ H R)
  (i:∀B φ Γ k d v H1,Rep K B φ Γ σ H1->Same H H1->Av K B φ H1 k d v->wF K Ew B H Γ σ R (g (k,d) Γ)->R1 v H1):tD K Ew fe σ H R1:=by
 obtain⟨B,φ,Γ,r,q⟩:=h
 refine⟨B,φ,Γ,r,?_⟩
 have q:wF K Ew B H Γ σ R (aq (fe Γ) λx=>g x Γ):=q
 match hm:fe Γ,q with
 | some (.ok (k,d)),q=>exact .inl ⟨k,d,rfl,λv H1 s hv=>i B φ Γ k d v H1 (r.same s) s (hv.av r) q⟩
 | some (.ex c),q=>exact .inr ⟨c,rfl,q⟩
 | none,q=>cases q
theorem L8 (h:PI X tg l t)(h':PI X tg l t'):PI X tg l (λσ H R=>t σ H R∨t' σ H R):=λpins s σ H R I q=>by
 rcases q with q | q
 ·exact h pins s σ H R I q
 ·exact h' pins s σ H R I q
theorem iL (hl:DE X K Ew l fe)(hK:X.K=K:=by rfl):DI X K Ew tg l (i6 fe):=(L8 (zO hl) (Ip hl)).imp λσ H R q=>by
 have q0:=q
 obtain⟨B0,φ0,Γ0,r0,q0⟩:=q0
 have PB:(∃k xs,fe Γ0=some (.ok (k,.list xs)))∨(∃k xs,fe Γ0=some (.ok (k,.tuple xs)))∨∃c,fe Γ0=some (.ex c):=by
  unfold i6 at q0
  match hm:fe Γ0,q0 with
  | some (.ok (k,.list xs)),q0=>exact .inl ⟨k,xs,rfl⟩
  | some (.ok (k,.tuple xs)),q0=>exact .inr (.inl ⟨k,xs,rfl⟩)
  | some (.ex c),q0=>exact .inr (.inr ⟨c,rfl⟩)
  | some (.ok (k,.none)),q0=>exact False.elim q0
  | some (.ok (k,.bool _)),q0=>exact False.elim q0
  | some (.ok (k,.int _)),q0=>exact False.elim q0
  | some (.ok (k,.str _)),q0=>exact False.elim q0
  | some (.ok (k,.dict _)),q0=>exact False.elim q0
  | none,q0=>exact False.elim q0
 rcases PB with⟨k,xs,e⟩ | ⟨k,xs,e⟩ | ⟨c,e⟩
 ·left
  refine⟨B0,φ0,Γ0,r0,.inl ⟨k,_,e,λv H1 s hv=> ?_⟩⟩
  simp only[i6,e] at q0
  obtain⟨B1,ψ,s1,r1,hd⟩:=(r0.same s).kG (hv.av r0)
  obtain⟨a,vs,rfl,h1,h2⟩:=a9 hd
  rw[hK]
  exact⟨a,rfl,⟨vs,r1.bs.seq h1⟩,q0 _ H1 B1 ψ s s1 r1 (tv h1 h2)⟩
 ·right
  refine⟨B0,φ0,Γ0,r0,.inl ⟨k,_,e,λv H1 s hv=> ?_⟩⟩
  simp only[i6,e] at q0
  obtain⟨B1,ψ,s1,r1,hd⟩:=(r0.same s).kG (hv.av r0)
  obtain⟨a,vs,rfl,h1,h2⟩:=aJ hd
  rw[hK]
  exact⟨a,rfl,⟨vs,r1.bs.l6 h1⟩,q0 _ H1 B1 ψ s s1 r1 (CO h1 h2)⟩
 ·left
  simp only[i6,e] at q0
  exact⟨B0,φ0,Γ0,r0,.inr ⟨c,e,q0⟩⟩
theorem dE (hg:Gl X "range")(hm:X.mg "range" =none)(ha:DE X K Ew a fa)(hs:starEach [a] X.env=[(false,eval a X.env)]:=by rfl):DI X K Ew tg (.Call (.Name "range" p) [a] [] pos) (eE fa) :=
 (A3 hg hm (bv ha cO hs) hs).imp λσ H R q=>mW (g:=λx _=>Bb x.2) q λB φ Γ k d v H1 r s av q=>by
  replace q:wF K Ew B H Γ σ R (Bb d):=q
  cases d <;> try (exact False.elim q)
  rename_i n
  have hv:=aE (av.toD r.bs)
  subst hv
  by_cases hn:-(2^62)<=n/\n < 2^62
  ·simp only[Bb,JQ hn] at q
   refine⟨n,rfl,hn.1,hn.2,q _ H1 B φ s (Same.refl B) r ?_⟩
   have:=CP (K:=K) (B:=B) (m:=0) (n:=n.toNat)
   simpa only[Int.zero_add] using this
  ·simp only[Bb,JV hn] at q
   exact False.elim q
theorem bd (hp:PassesOwn (!7) X.A X.env X.xe)(hc:X.calm=true)(hi:DI X K Ew tg iter it)(hg:DG X K tg g)(hb:Aa X K Ew body fb)
  (hs:∀x,foldedSetIterable iter X.env x=pure x:=by intro _;rfl):DS X K Ew (.For tg iter body [] pos) (bA it g fb):=(uB hp hc hi hg hb hs).imp λD σ H q=>by
 obtain⟨B,φ,Γ,r,q⟩:=q
 refine⟨B,φ,Γ,r,?_⟩
 unfold bA at q
 match hm:it Γ,q with
 | some (.ok (k,ds)),q=>
  intro J H1 B1 ψ s0 s1 r1 io
  have q:cE K Ew B1 (aZ g fb ds (kG k Γ)) D:=cE.base s1 q
  refine⟨λi m σ H=>m=ds.length - i/\i<=ds.length/\∃B2 φ2 Γ2,Same B1 B2/\Rep K B2 φ2 Γ2 σ H/\cE K Ew B1 (aZ g fb (ds.drop i) Γ2) D,⟨ds.length,by simp,Xw _,B1,ψ,_,Same.refl B1,r1,by simpa using q⟩,?_⟩
  rintro i m σ2 H2 ⟨rfl,hi2,B2,φ2,Γ2,s2,r2,q2⟩
  by_cases hlt:i < ds.length
  ·refine .inr ⟨io.go i H2 hlt (s2.trans r2.bs),λσ' H'=>∃B3 φ3 Γ3,Same B1 B3/\Rep K B3 φ3 Γ3 σ' H'/\cE K Ew B1 (aZ g fb (ds.drop (i+1)) Γ3) D,λσ' H' h'=>⟨ds.length - (i+1),by omega,rfl,hlt,h'⟩,λx H' y=> ?_⟩
   obtain⟨s3,d,e,hd⟩:=io.yl i H2 x H' hlt (s2.trans r2.bs) y
   have r3:=r2.same s3
   have yO:aM K (gR φ2 H') d x:=hd _ (s2.trans r3.sM) λa o e1 e2=>by
    rw[cQ]
    ·exact e2
    ·intro j hj
     obtain⟨o',e',_⟩:=(r2.nb j a hj).2
     rw[e1] at e';cases e'
   have ed:ds.drop i=d :: ds.drop (i+1):=by
    rw[U4 hlt]
    congr 1
    rw[K3 hlt] at e
    exact Option.some.inj e
   rw[ed] at q2
   have q3:=q2
   simp only[aZ] at q3
   cases CQ:g (cP .base d) d Γ2 with
   | none=>simp only[CQ] at q3;exact False.elim q3
   | some Γ3=>
    simp only[CQ,bw,au] at q3
    refine⟨gR φ2 H',φ2,Γ2,cP .base d,d,Γ3,r3.cut,VR.av r3.cut (VR.cP (jE _ _) (show VR K _ φ2 H' H' .base d x from yO)),CQ,λB4 φ4 σ4 s4 r4=> ?_⟩
    have sB:Same B1 B4:=(s2.trans r3.sM).trans s4
    refine⟨B4,φ4,Γ3,r4,?_⟩
    match hbm:fb Γ3,q3 with
    | some (.ok (.nx Γ')),q3=>exact λB' φ' σ' j2 s' r'=>⟨B',φ',Γ',sB.trans s',r',q3⟩
    | some (.ok (.ct Γ')),q3=>exact λB' φ' σ' j2 s' r'=>⟨B',φ',Γ',sB.trans s',r',q3⟩
    | some (.ok (.bk Γ')),q3=>exact λB' φ' σ' j2 s' r'=>q3 B' φ' σ' j2 (sB.trans s') r'
    | some (.ok (.rt o d)),q3=>exact λv j2 s' rv=>q3 v j2 (sB.trans s') (rv.base sB)
    | some (.ex c),q3=>exact λj2 s'=>q3 j2 (sB.trans s')
    | none,q3=>exact False.elim q3
  ·have e:i=ds.length:=by omega
   subst e
   rw[List.drop_length] at q2
   exact .inl ⟨io.stop H2 (s2.trans r2.bs),q2 B2 φ2 σ2 H2 s2 r2⟩
 | some (.ex c),q=>exact q
 | none,q=>cases q
theorem wG (n:Nat)(hp:PassesOwn (!7) X.A X.env X.xe)(hc:DT X K Ew c t)(hb:Aa X K Ew body fb):DS X K Ew (.While c body [] pos) (qm n t fb):=(Cy hp hc hb).imp λD σ H q=>by
 obtain⟨B,φ,Γ,r,q⟩:=q
 refine⟨λm σ H=>∃B2 φ2 Γ2,Same B B2/\Rep K B2 φ2 Γ2 σ H/\cE K Ew B (fy m t fb Γ2) D,⟨n,B,φ,Γ,Same.refl B,r,q⟩,?_⟩
 rintro m σ2 H2 ⟨B2,φ2,Γ2,s2,r2,q2⟩
 cases m with
 | zero=>exact False.elim q2
 | succ m=>
  refine⟨B2,φ2,Γ2,r2,?_⟩
  simp only[fy] at q2
  match hm:t Γ2,q2 with
  | some (.ok true),q2=>
   refine .inl ⟨true,rfl,λH3 s3=> ?_⟩
   show(if true=true then _ else _)
   rw[JQ rfl]
   refine⟨λσ' H'=>∃B3 φ3 Γ3,Same B B3/\Rep K B3 φ3 Γ3 σ' H'/\cE K Ew B (fy m t fb Γ3) D,λσ' H' h=>⟨m,Uz _,h⟩,B2,φ2,Γ2,r2.same s3,?_⟩
   have q3:cE K Ew B (aq (fb Γ2) λo=>(match o with
    | .nx Γ'=>fy m t fb Γ'
    | .ct Γ'=>fy m t fb Γ'
    | .bk Γ'=>ah (.nx Γ')
    | .rt o d=>ah (.rt o d))) D:=q2
   match hbm:fb Γ2,q3 with
   | some (.ok (.nx Γ')),q3=>exact λB' φ' σ' j2 s' r'=>⟨B',φ',Γ',s2.trans s',r',q3⟩
   | some (.ok (.ct Γ')),q3=>exact λB' φ' σ' j2 s' r'=>⟨B',φ',Γ',s2.trans s',r',q3⟩
   | some (.ok (.bk Γ')),q3=>exact λB' φ' σ' j2 s' r'=>q3 B' φ' σ' j2 (s2.trans s') r'
   | some (.ok (.rt o d)),q3=>exact λv j2 s' rv=>q3 v j2 (s2.trans s') (rv.base s2)
   | some (.ex c),q3=>exact λj2 s'=>q3 j2 (s2.trans s')
   | none,q3=>exact False.elim q3
  | some (.ok false),q2=>
   refine .inl ⟨false,rfl,λH3 s3=> ?_⟩
   show(if false=true then _ else _)
   rw[JV K4]
   exact q2 B2 φ2 σ2 H3 s2 (r2.same s3)
  | some (.ex c),q2=>exact .inr ⟨c,rfl,λH' s'=>q2 H' (s2.trans s')⟩
  | none,q2=>exact False.elim q2
end
def uT (K:Frag)(B:Hp)(φ:Nat->List Addr):Hp->Hp->List (Kd×PyData)->List V->Prop
 | _,_,[],vs=>vs=[]
 | H,H',x :: xs,vs=>∃v r H1,vs=v :: r/\Same H H1/\Same H1 H'/\VR K B φ H H1 x.1 x.2 v/\uT K B φ H1 H' xs r
def tA (K:Frag)(Ew:Str->Hp->Prop)(fs:List EF):TA:=λσ H Q=>∃B φ Γ,Rep K B φ Γ σ H/\match eArgs fs Γ with
 | some (.ok xs)=>∀vs H',Same H H'->uT K B φ H H' xs vs->Q vs H'
 | some (.ex c)=>∀H',Same B H'->Ew c H'
 | none=>False
def DA (X:Cx)(K:Frag)(Ew:Str->Hp->Prop)(es:List Expr)(fs:List EF):Prop:=PA X es (tA K Ew fs)
theorem PA.imp (h:PA X es t)(i:∀σ H Q,t' σ H Q->t σ H Q):PA X es t':=λpos pins s σ H Q I q=>h pos pins s σ H Q I (i σ H Q q)
section
variable {X:Cx}{K:Frag}{Ew:Str->Hp->Prop}{pos:Pos}{e:Expr}{es:List Expr}{fe:EF}{fs:List EF}
theorem ao:DA X K Ew [] []:=cO.imp λσ H Q q=>by
 obtain⟨B,φ,Γ,r,q⟩:=q
 exact q [] H (Same.refl H) (by unfold uT;rfl)
theorem ab (h1:DE X K Ew e fe)(h2:DA X K Ew es fs)(hs:starEach (e :: es) X.env=(false,eval e X.env) :: starEach es X.env:=by rfl):DA X K Ew (e :: es) (fe :: fs):=(bv h1 h2 hs).imp λσ H Q q=>by
 obtain⟨B,φ,Γ,r,q⟩:=q
 refine⟨B,φ,Γ,r,?_⟩
 simp only[eArgs] at q
 match hm:fe Γ,q with
 | some (.ok (k,d)),q=>
  refine .inl ⟨k,d,rfl,λv H1 s1 hv=>⟨B,φ,Γ,r.same s1,?_⟩⟩
  match hm2:eArgs fs Γ,q with
  | some (.ok xs),q=>exact λvs H2 s2 hvs=>q (v :: vs) H2 (s1.trans s2) (by unfold uT;exact⟨v,vs,H1,rfl,s1,s2,hv,hvs⟩)
  | some (.ex c),q=>exact q
  | none,q=>cases q
 | some (.ex c),q=>exact .inr ⟨c,rfl,q⟩
 | none,q=>cases q
theorem uT.toD :∀{xs:List (Kd×PyData)} {vs:List V} {H H':Hp},Same B H->Same H H'->uT K B φ H H' xs vs->ay K H' (xs.map Prod.snd) vs
 | [],vs,H,H',_,_,h=>by unfold uT at h;subst h;exact a8
 | x :: xs,vs,H,H',s,s',h=>by
  unfold uT at h
  obtain⟨v,r,H1,rfl,s1,s2,hv,tl⟩:=h
  exact aW (aM.same s2 _ _ (hv.toD (s.trans s1))) (uT.toD (s.trans s1) s2 tl)
theorem uT.fresh :∀{xs:List (Kd×PyData)} {vs:List V} {H H':Hp},bV xs= .fr []->Same H H'->uT K B φ H H' xs vs->∃as,aA K H' (xs.map Prod.snd) vs as/\as.Nodup/\∀a∈as,H a=none
 | [],vs,H,H',_,_,h=>by unfold uT at h;subst h;exact⟨[],jC,X2,λa ha=>by cases ha⟩
 | (k,d) :: xs,vs,H,H',hk,s',h=>by
  match k,hk with
  | .fr [],hk=>
   unfold uT at h
   obtain⟨v,r,H1,rfl,s1,s2,hv,tl⟩:=h
   obtain⟨as,h1,h2,h3⟩:=VR.fresh.mp hv
   obtain⟨bs,g1,g2,g3⟩:=uT.fresh (xs:=xs) (by simpa [bV] using hk) s2 tl
   refine⟨as++bs,jD (IsT.same s2 _ _ _ h1) g1,XX.mpr ⟨h2,g2,λa ha b hb e=> ?_⟩,λa ha=> ?_⟩
   ·subst e
    obtain⟨o,e,_⟩:=IsT.live _ _ _ h1 a ha
    rw[g3 a hb] at e;cases e
   ·rcases Kk.mp ha with ha | ha
    ·exact h3 a ha
    ·exact s1.free (g3 a ha)
  | .fr (_ :: _),hk=>simp[bV] at hk
  | .base,hk=>simp[bV] at hk
  | .any,hk=>simp[bV] at hk
theorem tw (xs:List (Kd×PyData)):bV xs= .fr []∨bV xs= .any:=by
 induction xs with
 | nil=>exact .inl rfl
 | cons x xs ih=>
  obtain⟨k,d⟩:=x
  match k with
  | .fr []=>simpa [bV] using ih
  | .fr (_ :: _)=>exact .inr rfl
  | .base=>exact .inr rfl
  | .any=>exact .inr rfl
theorem lE :∀{fs:List EF} {xs:List (Kd×PyData)},eArgs fs Γ=some (.ok xs)->xs.length=fs.length
 | [],xs,h=>by simp only[eArgs,ah] at h;cases h;rfl
 | f :: fs,xs,h=>by
  simp only[eArgs] at h
  match hf:f Γ,h with
  | some (.ok x),h=>
   match hr:eArgs fs Γ,h with
   | some (.ok ys),h=>cases h;rw[Kj,Kj,lE hr]
   | some (.ex c),h=>cases h
   | none,h=>cases h
  | some (.ex c),h=>cases h
  | none,h=>cases h
theorem uT.len :∀{xs:List (Kd×PyData)} {vs:List V} {H H':Hp},uT K B φ H H' xs vs->vs.length=xs.length
 | [],vs,H,H',h=>by unfold uT at h;subst h;rfl
 | x :: xs,vs,H,H',h=>by
  unfold uT at h
  obtain⟨v,r,H1,rfl,s1,s2,hv,tl⟩:=h
  rw[Kj,Kj,tl.len]
theorem p5 {g:List (Kd×PyData)->M (Kd×PyData)}{σ:St}{Q:VK}{R:List V->Hp->Prop}(h:tD K Ew (λΓ=>aq (eArgs fs Γ) g) σ H Q)
  (i:∀B φ Γ xs vs H1,Rep K B φ Γ σ H->Rep K B φ Γ σ H1->Same H H1->eArgs fs Γ=some (.ok xs)->uT K B φ H H1 xs vs->Runs K Ew B φ H (g xs) Q->R vs H1):tA K Ew fs σ H R:=by
 obtain⟨B,φ,Γ,r,q⟩:=h
 refine⟨B,φ,Γ,r,?_⟩
 replace q:Runs K Ew B φ H (aq (eArgs fs Γ) g) Q:=q
 match hm:eArgs fs Γ,q with
 | some (.ok xs),q=>exact λvs H1 s hv=>i B φ Γ xs vs H1 r (r.same s) s hm hv q
 | some (.ex c),q=>
  rcases q with⟨k,d,e,_⟩ | ⟨c',e,q⟩
  ·cases e
  ·cases e;exact q
 | none,q=>rcases q with⟨k,d,e,_⟩ | ⟨c',e,q⟩ <;> cases e
theorem cv {x1}(h:DA X K Ew es fs)(hl:fs.length<=1000:=by decide):DE X K Ew (.Tuple es x1 pos) (fM fs):=(ID h).imp λσ H Q q=>
 p5 (g:=λ(xs:List (Kd×PyData))=>ah (cP (bV xs) (.tuple (xs.map Prod.snd)),.tuple (xs.map Prod.snd))) q λB φ Γ xs vs H1 r r1 s hx hv q=>by
  have hz:vs.length<=1000:=by rw[hv.len,lE hx];exact hl
  refine⟨Kz hz (!8),λp hp=> ?_⟩
  rcases q with⟨k,d,e,q⟩ | ⟨c,e,q⟩
  ·cases e
   refine q _ _ (s.trans (Same.upd hp)) (VR.cP (r1.bs.trans (Same.upd hp)) ?_)
   rcases tw xs with hk | hk
   ·rw[hk]
    obtain⟨as,h1,h2,h3⟩:=hv.fresh hk s
    exact⟨as,z_ (ee.of az) (aA.same (Same.upd hp) _ _ _ h1),h2,λa ha=> .inr (h3 a ha)⟩
   ·rw[hk]
    exact p0 (ee.of az) (ay.same (Same.upd hp) _ _ (hv.toD r.bs s))
  ·cases e
theorem bN (h:DA X K Ew es fs)(hl:fs.length<=1000:=by decide):DE X K Ew (.List es pos) (dh fs):=(CA h).imp λσ H Q q=>
 p5 (g:=λ(xs:List (Kd×PyData))=>ah (bV xs,.list (xs.map Prod.snd))) q λB φ Γ xs vs H1 r r1 s hx hv q=>by
  have hz:vs.length<=1000:=by rw[hv.len,lE hx];exact hl
  refine⟨Kz hz (!8),λp hp=> ?_⟩
  rcases q with⟨k,d,e,q⟩ | ⟨c,e,q⟩
  ·cases e
   refine q _ _ (s.trans (Same.upd hp)) ?_
   rcases tw xs with hk | hk
   ·rw[hk]
    obtain⟨as,h1,h2,h3⟩:=hv.fresh hk s
    refine⟨p :: as,dQ az (aA.same (Same.upd hp) _ _ _ h1),KJ.mpr ⟨λz=> ?_,h2⟩,λa ha=> .inr ?_⟩
    ·obtain⟨o,e,_⟩:=aA.live _ _ _ h1 p z
     rw[hp] at e;cases e
    ·rcases K0.mp ha with rfl | ha
     ·exact s.free hp
     ·exact h3 a ha
   ·rw[hk]
    exact uL (gD.of az) (ay.same (Same.upd hp) _ _ (hv.toD r.bs s))
  ·cases e
theorem wH {f:Value}
  (hx:∀xs z us H Q,g xs=some z->ay K H xs us->(∀w H',Same H H'->aU K H H' z w->Q w H')->r us H Q) (q:tD K Ew (kJ g fs) σ H Q):NN r (tA K Ew fs) σ H Q :=
 p5 (g:=λ(xs:List (Kd×PyData))=>aq (mo (g (xs.map Prod.snd))) λz=>ah (.fr [],z)) q λB φ Γ xs vs H1 r0 r1 s hx' hv q=>by
  obtain⟨z,e,q⟩:=gE (kf:=λ_=> .fr []) q
  exact hx _ z vs H1 Q e (hv.toD r0.bs s) λw H' s' f=>q w H' (s.trans s') (VR.fresh.mpr (f.from s))
theorem cF {x:Str}{id:String}{p:Pos}{g:List PyData->Option PyData}{Bg:List EF}(hc:CallD X (.builtin id) g)(hg:Gl X x)(hm:X.mg x=none)(hv:bootBuiltins x=some (.builtin id))(ha:DA X K Ew (e :: es) Bg)(hK:X.K=K:=by rfl)(hn:x≠ "__name__":=by decide)(hdb:(x==("__debug__":Str))=false:=by decide)
  (he:starEach (e :: es) X.env=(false,eval e X.env) :: starEach es X.env:=by rfl) (hpl:(backTo pos (starEach es X.env)).any (·.1)=false:=by rfl):DE X K Ew (.Call (.Name x p) (e :: es) [] pos) (kJ g Bg):=by
 obtain⟨r,hr,hx⟩:=hc
 rw[hK] at hx
 exact(wg hr hg hm hv ha hn hdb he hpl).imp λσ H Q q=>wH (f:=.builtin id) hx q
theorem bY (hc:CallD X (.type T) g)(hg:Gl X x)(hm:X.mg x=none)(hv:bootBuiltins x=some (.type T))(ha:DA X K Ew (e :: es) Bg)(hK:X.K=K:=by rfl)(hn:x≠ "__name__":=by decide)(hdb:(x==("__debug__":Str))=false:=by decide)
  (he:starEach (e :: es) X.env=(false,eval e X.env) :: starEach es X.env:=by rfl) (hpl:(backTo pos (starEach es X.env)).any (·.1)=false:=by rfl):DE X K Ew (.Call (.Name x p) (e :: es) [] pos) (kJ g Bg):=by
 obtain⟨r,hr,hx⟩:=hc
 rw[hK] at hx
 exact(A6 hr hg hm hv ha hn hdb he hpl).imp λσ H Q q=>wH (f:=.type T) hx q
def jw (K:Frag)(n:Nat)(F:FF):Sp:=λvs H Q _=>∃ds,ds.length=n/\ay K H ds vs/\match F ds with
 | some (.ok (o,d))=>∀v H',Same H H'->RV K H H' o d v->Q v H'
 | _=>False
theorem Fw (G:jy X.prog X.w X.K X.mg X.base CX k f fd ps (jw K n F))(hr:eH k X.A)(hg:Gl X x)(hm:X.mg x=some (.ref f))(hk:keepIn X.K (.ref f)=true)(hb:Binds X.K fd ps [])(hx:Passes CX X E)
  (ha:DA X K Ew (e :: es) Bg) (hn:Bg.length=n:=by rfl) (hE:∀c H,¬ Ew c H:=by exact λ_ _ h=>h) (hdb:(x==("__debug__":Str))=false:=by decide) (he:starEach (e :: es) X.env=(false,eval e X.env) :: starEach es X.env:=by rfl) (hpl:(backTo pos (starEach es X.env)).any (·.1)=false:=by rfl) :
  DE X K Ew (.Call (.Name x p) (e :: es) [] pos) (aN F Bg):=(zQ G hr hg hm hk hb .nil hx ha hdb he hpl).imp λσ H Q q=>
 p5 (g:=λ(xs:List (Kd×PyData))=>aq (F (xs.map Prod.snd)) λr=>ah (cP (if r.1=true then .fr [] else .any) r.2,r.2)) q λB φ Γ xs vs H1 r r1 s hx' hv q=>by
  rw[Xz]
  refine⟨xs.map Prod.snd,by rw[K6,lE hx'];exact hn,hv.toD r.bs s,?_⟩
  match hF:F (xs.map Prod.snd),q with
  | some (.ok (o,d)),q=>
   intro v H' s' rv
   rcases q with⟨k,d',e,q⟩ | ⟨c,e,q⟩
   ·cases e
    refine q v H' (s.trans s') (VR.cP (r1.bs.trans s') ?_)
    unfold RV at rv
    cases o with
    | true=>
     rw[JQ rfl] at rv⊢
     obtain⟨as,h1,h2,h3⟩:=rv
     exact⟨as,h1,h2,λa ha=> .inr (s.free (h3 a ha))⟩
    | false=>
     rw[JV K4] at rv⊢
     exact rv
   ·cases e
  | some (.ex c),q=>
   rcases q with⟨k,d',e,q⟩ | ⟨c,e,q⟩
   ·cases e
   ·exact hE _ _ (q H1 r1.bs)
  | none,q=>rcases q with⟨k,d',e,q⟩ | ⟨c,e,q⟩ <;> cases e
theorem Bh (N:List Str)(h:ay K H ds vs):Rep K H (λ_=> []) (cD N.length ds) (start N vs) H where
 bs:=Same.refl H
 len:=by
  have:=ap h
  unfold cD start
  simp[this]
 sl:=λi o d e=>by
  have hl:=ap h
  unfold cD at e
  by_cases hi:i < ds.length
  ·rw[Xu (by simpa using hi),KU] at e
   cases hd:ds[i]? with
   | none=>rw[hd] at e;cases e
   | some d'=>
    rw[hd] at e
    cases e
    obtain⟨v,h1,h2⟩:=gP h hd
    refine⟨v,?_,?_⟩
    ·unfold start
     rw[Xu (by simp;omega),KU,h1];rfl
    ·rw[JV K4];exact h2
  ·rw[Xj (by simpa using hi),J1] at e
   split at e <;> cases e
 nd:=λ_=>X2
 nb:=λ_ a ha=>by cases ha
 dj:=λ_ _ _ a ha=>by cases ha
theorem EW.PC {P:Program}{w:World}{mg:Str->Option Value}{base:Heap}{x qual:Str}{st:Stmt}{f:Addr}{fd:FuncData}{N ps:List Str}{k:Nat}{fb:SF}(F:EW K x qual st f fd)(S:aL N ps (aj st))
  (hbody:∀(cdv:Value) (A:Around) (outer:List Env) (s:Shared) (H:Hp) (E:XK),eH k (A.deeper (envOfC qual (aj st) s.heap.objs.size f cdv))->
   Aa (sH zW P w K mg base N qual (aj st) f cdv A outer s H E).Cj K (λ_ _=>False) (eY st) fb):jy P w K mg base zW (k+1) f fd ps (jw K ps.length (cM N.length fb)):=by
 refine F.ok S (λvs H Q E h=> ?_) λcdv A outer s H vs Q E hr h=>⟨_,hbody cdv A outer s H E hr,?_⟩
 ·obtain⟨ds,h1,h2,_⟩:=h
  rw[ap h2];exact h1
 ·obtain⟨ds,h1,h2,h3⟩:=h
  refine⟨H,_,_,Bh N h2,?_⟩
  unfold cM at h3
  match hf:fb (cD N.length ds),h3 with
  | some (.ok (.rt o d)),h3=>exact h3
  | some (.ok (.nx Γ)),h3=>
   exact λB' φ σ H' s' r=>h3 .non H' (s'.trans r.bs) (by unfold RV;rw[JQ rfl];exact⟨[],aM.toT _ _ rfl z8,X2,λa ha=>by cases ha⟩)
  | some (.ok (.bk Γ)),h3=>exact False.elim h3
  | some (.ok (.ct Γ)),h3=>exact False.elim h3
  | some (.ex c),h3=>exact False.elim h3
  | none,h3=>exact False.elim h3
end
section
variable {X:Cx}{K:Frag}{Ew:Str->Hp->Prop}{pos:Pos}
theorem VR.ofList (s:Same B H)(h:VR K B φ H0 H k (.list ds) u) :
  ∃p vs,u= .ref p/\gD K H p vs/\vs.length=ds.length/\∀(j:Nat) (d:PyData),ds[j]? =some d->∃w,vs[j]? =some w/\VR K B φ H0 H k d w:=by
 cases k with
 | fr l=>
  obtain⟨as,h1,h2,h3⟩:=h
  obtain⟨a,vs,bs,rfl,e,t,rfl⟩:=bF h1
  refine⟨a,vs,rfl,gD.of e,bB t,λj d hd=> ?_⟩
  obtain⟨w,cs,hw,hT,sub⟩:=qq t hd
  have sub':cs.Sublist (a :: bs):=sub.trans (List.sublist_cons_self _ _)
  exact⟨w,hw,cs,hT,h2.sublist sub',λx hx=>h3 x (sub'.subset hx)⟩
 | base=>
  obtain⟨a,vs,rfl,e,t⟩:=a9 (show aM K B (.list ds) u from h)
  exact⟨a,vs,rfl,s.seq e,ap t,λj d hd=>gP t hd⟩
 | any=>
  obtain⟨a,vs,rfl,e,t⟩:=a9 (show aM K H (.list ds) u from h)
  exact⟨a,vs,rfl,e,ap t,λj d hd=>gP t hd⟩
theorem VR.L9 (s:Same B H)(h:VR K B φ H0 H k (.tuple ds) u) :
  ∃p vs,u= .ref p/\ee K H p vs/\vs.length=ds.length/\∀(j:Nat) (d:PyData),ds[j]? =some d->∃w,vs[j]? =some w/\VR K B φ H0 H k d w:=by
 cases k with
 | fr l=>
  obtain⟨as,h1,h2,h3⟩:=h
  obtain⟨a,vs,rfl,e,t⟩:=j1 h1
  refine⟨a,vs,rfl,e,bB t,λj d hd=> ?_⟩
  obtain⟨w,cs,hw,hT,sub⟩:=qq t hd
  exact⟨w,hw,cs,hT,h2.sublist sub,λx hx=>h3 x (sub.subset hx)⟩
 | base=>
  obtain⟨a,vs,rfl,e,t⟩:=aJ (show aM K B (.tuple ds) u from h)
  exact⟨a,vs,rfl,s.l6 e,ap t,λj d hd=>gP t hd⟩
 | any=>
  obtain⟨a,vs,rfl,e,t⟩:=aJ (show aM K H (.tuple ds) u from h)
  exact⟨a,vs,rfl,e,ap t,λj d hd=>gP t hd⟩
theorem tx {ds:List PyData}{vs:List V}{i:Int}{z:PyData}(hl:vs.length=ds.length)(h:pY ds i=some z):∃j:Nat,ds[j]? =some z/\∀w,vs[j]? =some w->IJ vs i=some w:=by
 unfold pY at h
 cases e:Y.oW ds.length i with
 | none=>rw[e] at h;cases h
 | some j=>
  rw[e] at h
  refine⟨j,h,λw hw=> ?_⟩
  unfold IJ
  rw[show L2.oW vs.length i=Y.oW ds.length i by rw[hl];rfl,e]
  exact hw
theorem mL:NW X iH:=⟨_,IP,λB φ H0 k x y z u v H Q s e hx hy q=>by
 cases x <;> cases y <;> simp only[iH] at e <;> try (cases e;done)
 ·rename_i x i
  split at e
  ·rename_i hz
   have h1:=iJ (hx.toD s)
   have h2:=aE hy
   subst h1 h2
   cases hc:pY x.cps.toList i with
   | none=>rw[hc] at e;cases e
   | some c=>
    rw[hc] at e
    cases e
    exact .inr (.inr ⟨x,i,c,rfl,rfl,hz,hc,q _ (by rw[show cP k (.str ⟨#[c]⟩)= .fr [] from rfl];exact VR.mm rfl z9 [])⟩)
  ·cases e
 ·rename_i xs i
  have h2:=aE hy
  subst h2
  obtain⟨p,vs,rfl,hq,hl,hg⟩:=VR.ofList s hx
  obtain⟨j,hj,hw⟩:=tx hl e
  obtain⟨w,h3,h4⟩:=hg j z hj
  exact .inl ⟨p,vs,i,w,rfl,rfl,hq,hw w h3,q w (h4.cP s)⟩
 ·rename_i xs i
  have h2:=aE hy
  subst h2
  obtain⟨p,vs,rfl,hq,hl,hg⟩:=VR.L9 s hx
  obtain⟨j,hj,hw⟩:=tx hl e
  obtain⟨w,h3,h4⟩:=hg j z hj
  exact .inr (.inl ⟨p,vs,i,w,rfl,rfl,hq,hw w h3,q w (h4.cP s)⟩)⟩
theorem dF (h:ay K H [d] us):∃u,us=[u]/\aM K H d u:=by
 simp only[ay] at h
 obtain⟨v,r,rfl,hv,rfl⟩:=h
 exact⟨v,rfl,hv⟩
theorem cG:CallD X (.builtin "len") kO:=⟨_,uF.or uG,λxs z us H Q e h q=>by
 match xs,e,h with
 | [.list ds],e,h=>
  cases e
  obtain⟨u,rfl,hu⟩:=dF h
  obtain⟨a,vs,rfl,h1,h2⟩:=a9 hu
  exact .inl ⟨a,vs,rfl,.inl h1,by rw[ap h2];exact q _ H (Same.refl H) (aU.mm rfl bJ)⟩
 | [.tuple ds],e,h=>
  cases e
  obtain⟨u,rfl,hu⟩:=dF h
  obtain⟨a,vs,rfl,h1,h2⟩:=aJ hu
  exact .inl ⟨a,vs,rfl,.inr h1,by rw[ap h2];exact q _ H (Same.refl H) (aU.mm rfl bJ)⟩
 | [.str x],e,h=>
  simp only[kO] at e
  split at e
  ·rename_i hz
   cases e
   obtain⟨u,rfl,hu⟩:=dF h
   have:=iJ hu
   subst this
   exact .inr ⟨x,rfl,hz,q _ H (Same.refl H) (aU.mm rfl bJ)⟩
  ·cases e⟩
theorem qw:CallD X (.type "list") oX:=⟨_,uH,λxs z us H Q e h q=>by
 match xs,e,h with
 | [.list ds],e,h=>
  simp only[oX] at e
  split at e
  ·rename_i hn
   cases e
   obtain⟨u,rfl,hu⟩:=dF h
   obtain⟨a,vs,rfl,h1,h2⟩:=a9 hu
   exact⟨a,vs,rfl,.inl h1,λl hl=>q _ _ (Same.upd hl) (aU.lst hn az (ay.same (Same.upd hl) _ _ h2) hl)⟩
  ·cases e
 | [.tuple ds],e,h=>
  simp only[oX] at e
  split at e
  ·rename_i hn
   cases e
   obtain⟨u,rfl,hu⟩:=dF h
   obtain⟨a,vs,rfl,h1,h2⟩:=aJ hu
   exact⟨a,vs,rfl,.inr h1,λl hl=>q _ _ (Same.upd hl) (aU.lst hn az (ay.same (Same.upd hl) _ _ h2) hl)⟩
  ·cases e⟩
theorem ce:CallD X (.type "tuple") fx:=⟨_,sJ,λxs z us H Q e h q=>by
 match xs,e,h with
 | [.list ds],e,h=>
  simp only[fx] at e
  split at e
  ·rename_i hn
   cases e
   obtain⟨u,rfl,hu⟩:=dF h
   obtain⟨a,vs,rfl,h1,h2⟩:=a9 hu
   exact⟨a,vs,rfl,.inl ⟨h1,λl hl=>q _ _ (Same.upd hl) (aU.tup hn (ee.of az) (ay.same (Same.upd hl) _ _ h2))⟩⟩
  ·cases e
 | [.tuple ds],e,h=>
  simp only[fx] at e
  split at e
  ·rename_i hn
   cases e
   obtain⟨u,rfl,hu⟩:=dF h
   obtain⟨a,vs,rfl,h1,h2⟩:=aJ hu
   exact⟨a,vs,rfl,.inr ⟨h1,q _ H (Same.refl H) (aU.mm (by rw[br];exact hn) hu)⟩⟩
  ·cases e⟩
noncomputable def PD:PyData->String
 | .none=> "NoneType"
 | .bool _=> "bool"
 | .int _=> "int"
 | .str _=> "str"
 | .list _=> "list"
 | .tuple _=> "tuple"
 | .dict _=> "dict"
theorem Fy (K:Frag):∀n∈["int","bool","str","list","tuple","dict"],∀d:PyData,PySem.W.kitOne K (.type (PD d)) (.type n)=some (qk n d):=by
 intro n hn d
 simp only[K0,List.mem_nil_iff,or_false] at hn
 rcases hn with rfl | rfl | rfl | rfl | rfl | rfl <;> cases d <;> first | rfl | (unfold PySem.W.kitOne PySem.W.kitCls;decide+kernel)
theorem Bi:iF X (.builtin "isinstance") (λxs H Q=>∃x d n,xs=[x,.ty n]/\aM X.K H d x/\n∈["int","bool","str","list","tuple","dict"]/\Q (.bl (qk n d)) H):=by
 intro pins s σ H xs us Q I r h
 obtain⟨x,d,n,rfl,hd,hn,q⟩:=h
 obtain⟨u,w,rfl,ru,yC⟩:=r.two
 cases(show w=Value.type n from yC)
 have e:=Fy X.K n hn d
 have fin:∀tk,EP X pins σ Q (.bool (qk n d)) {s with toks:=tk}:=λtk=>⟨.bl _,H,I.tok tk,rfl,q⟩
 cases d with
 | none=>have:=ml hd;subst this;cases(show u=Value.none from ru);exact PySem.W.kia_one PySem.W.kitx_none I.A1 True.intro e (λz=>nomatch z) fin
 | bool y=>have:=jB hd;subst this;cases(show u=Value.bool y from ru);exact PySem.W.kia_one PySem.W.kitx_bool I.A1 True.intro e (λz=>nomatch z) fin
 | int i=>have:=aE hd;subst this;obtain⟨t,q⟩:=(show∃t,u=Value.int i t from ru);cases q;exact PySem.W.kia_one PySem.W.kitx_int I.A1 True.intro e (λz=>nomatch z) fin
 | str y=>have:=iJ hd;subst this;obtain⟨t,q⟩:=(show∃t,u=Value.str y t from ru);cases q;exact PySem.W.kia_one PySem.W.kitx_str I.A1 True.intro e (λz=>nomatch z) fin
 | list ds=>
  obtain⟨a,vs,rfl,h1,_⟩:=a9 hd
  cases(show u=Value.ref a from ru)
  obtain⟨its,rv,⟨o,n,h1,hc,_,hd⟩,_⟩:=I.list h1
  exact PySem.W.kia_one PySem.W.kitx_list I.A1 ⟨_,h1,hc⟩ e (λz=>nomatch z) fin
 | tuple ds=>
  obtain⟨a,vs,rfl,h1,_⟩:=aJ hd
  cases(show u=Value.ref a from ru)
  obtain⟨its,rv,⟨o,h1,hc,n,hd⟩,_⟩:=I.tuple h1
  exact PySem.W.kia_one PySem.W.kitx_tuple I.A1 ⟨o,h1,hc⟩ e (λz=>nomatch z) fin
 | dict kvs=>
  obtain⟨a,ks,rfl,h1,_⟩:=cu hd
  cases(show u=Value.ref a from ru)
  obtain⟨⟨_,_,_,_,o,es,h1,hc,_⟩,_⟩:=h1.ok I.hok
  exact PySem.W.kia_one PySem.W.kitx_dict I.A1 ⟨o,h1,hc.1⟩ e (λz=>nomatch z) fin
theorem uU (hn:n∈["int","bool","str","list","tuple","dict"])(hg:Gl X "isinstance")(hm:X.mg "isinstance" =none)(ha:DE X K Ew a fa)(ht:PE X (.Name x p2) (tC (.ty n)))(hK:X.K=K:=by rfl)
  (he:starEach [a,.Name x p2] X.env=(false,eval a X.env) :: starEach [.Name x p2] X.env:=by rfl) (he2:starEach [.Name x p2] X.env=(false,eval (.Name x p2) X.env) :: starEach [] X.env:=by rfl) (hpl:(backTo pos (starEach [.Name x p2] X.env)).any (·.1)=false:=by rfl) :
  DE X K Ew (.Call (.Name "isinstance" p) [a,.Name x p2] [] pos) (wq n fa):=(wg Bi hg hm PyProof.Rows.boot_isinstance (bv ha (bv ht cO he2) he) (!8) (!8) he hpl).imp λσ H Q q=>by
 obtain⟨B,φ,Γ,r,q⟩:=q
 refine⟨B,φ,Γ,r,(q.bind r).mono λu H1 s1 ⟨k,d,e1,v1,r1,_,q1⟩=> ?_⟩
 refine⟨u,d,n,rfl,by rw[hK];exact v1.toD r1.bs,hn,?_⟩
 rcases q1 with⟨k,d',e,q1⟩ | ⟨c,e,q1⟩
 ·cases e;exact q1 _ H1 s1 (VR.mm rfl di [])
 ·cases e
theorem Rep.own (r:Rep K B φ Γ σ H)(h:Γ[i]? =some (some (true,d))):∃v,σ[i]? =some (some v)/\IsT K H d v (φ i):=by
 obtain⟨v,h1,h2⟩:=r.sl i true d h
 rw[JQ rfl] at h2
 exact⟨v,h1,h2⟩
theorem Rep.chg (r:Rep K B φ Γ σ H)(hi:l∈φ i)(hl:H l=some o)(hm:fJ o)(hv:σ[i]? =some (some v))
  (ht:IsT K (upd H l o') d v as) (hnd:as.Nodup) (hs:∀a∈as,a∈φ i∨(B a=none/\∀j,a∉φ j)) (hm':fJ o'):Rep K B (λj=>if j=i then as else φ j) (Γ.set i (some (true,d))) σ (upd H l o'):=by
 have hB:B l=none:=(r.nb i l hi).1
 have hn:∀j,j≠i->l∉φ j:=λj hj z=>r.dj j i hj l z hi
 have r1:Rep K B φ (Γ.set i none) σ (upd H l o'):={
  bs:=r.bs.I0 hB
  len:=by rw[U9];exact r.len
  sl:=λj o d' e=>by
   by_cases hj:j=i
   ·subst hj
    by_cases hlt:j < Γ.length
    ·rw[U6 hlt] at e;cases e
    ·rw[XU (by rw[U9];omega)] at e;cases e
   ·rw[Xq (Ne.symm hj)] at e
    obtain⟨w,h1,h2⟩:=r.sl j o d' e
    refine⟨w,h1,?_⟩
    cases o with
    | true=>rw[JQ rfl] at h2⊢;exact IsT.upd hl hm _ _ _ (hn j hj) h2
    | false=>rw[JV K4] at h2⊢;exact h2
  nd:=r.nd
  nb:=λj a ha=>by
   refine⟨(r.nb j a ha).1,?_⟩
   by_cases hal:a=l
   ·subst hal;exact⟨o',az,hm'⟩
   ·obtain⟨o2,e2,m2⟩:=(r.nb j a ha).2
    exact⟨o2,by rw[aR hal];exact e2,m2⟩
  dj:=r.dj}
 have r2:=r1.put i ht hnd λa ha=>by
  rcases hs a ha with z | z
  ·exact⟨(r.nb i a z).1,λj hj hz=>r.dj j i hj a hz z⟩
  ·exact⟨z.1,λj _=>z.2 j⟩
 rw[List.set_set] at r2
 have e:σ.set i (some v)=σ:=by
  apply List.ext_getElem?
  intro j
  by_cases hj:j=i
  ·subst hj
   have hlt:j < σ.length:=(X1.mp hv).1
   rw[U6 hlt,hv]
  ·rw[Xq (Ne.symm hj)]
 rw[e] at r2
 exact r2
variable {o e:Expr}{fe:EF}{apos cpos:Pos}
theorem fz (ho:PE X o (lX i))(he:DE X K Ew e fe)(hK:X.K=K:=by rfl)
  (hbase:attributeBase o "append" X.env (eval o X.env)=eval o X.env:=by rfl)
  (hfew:((backTo cpos (starEach [e] X.env)).all (λx=> !x.1) && (backToKw cpos (keywordEach [] X.env)).all (λx=>x.1.isSome)
   && decide (([e]:List Expr).length+([]:List Keyword).length+(if ([]:List Keyword).isEmpty then 0 else 1) < 30))=true:=by rfl)
  (hline:(apos.endLine==cpos.line)=true:=by rfl) (hs:starEach [e] X.env=(false,eval e X.env) :: starEach [] X.env:=by rfl) (hplain:(backTo cpos (starEach [] X.env)).any (·.1)=false:=by rfl)
  (hsw:swapsWith (.Call (.Attribute o "append" apos) [e] [] cpos) none pos.line X.env=pure false:=by rfl) :
  DS X K Ew (.Expr (.Call (.Attribute o "append" apos) [e] [] cpos) pos) (iI i fe) :=
 (lx (wk PySem.F.plainAttrs_list PySem.F.slot_list_append PySem.F.type_list_append lB ho (bv he cO hs) hbase hfew hline hs hplain) hsw).imp λD σ H q=>by
  obtain⟨B,φ,Γ,r,q⟩:=q
  unfold iI at q
  obtain⟨xs,hg,q⟩:=L6 q
  obtain⟨v,hv,hT⟩:=r.own hg
  obtain⟨l,vs,bs,rfl,hl,ht,hφ⟩:=bF hT
  refine⟨.ref l,hv,.inl ⟨rfl,vs,gD.of hl⟩,B,φ,Γ,r,?_⟩
  match hm:fe Γ,q with
  | some (.ok (k,d)),q=>
   refine .inl ⟨k,d,rfl,λy H1 s1 hy=> ?_⟩
   have r1:=r.same s1
   have hl1:=s1 _ _ hl
   have hlen:vs.length=xs.length:=bB ht
   have av:=hy.av r
   have hli:l∈φ i:=by rw[hφ];exact K7
   match k,q,av with
   | .fr [],q,av=>
    by_cases hz:xs.length < sizeLine
    ·replace q:cE K Ew B (ah (.nx (Γ.set i (some (true,.list (xs++[d])))))) D:=by simpa only[aq,JQ hz] using q
     refine⟨l,vs,y,rfl,rfl,hl1,by omega,?_⟩
     obtain⟨as,h1,h2,h3⟩:=av
     have h3':∀a∈as,B a=none/\∀j,a∉φ j:=λa ha=>by
      rcases h3 a ha with⟨_,z,_⟩ | z
      ·cases z
      ·exact z
     have L_:l∉as:=λz=>(h3' l z).2 i hli
     have hnd:=r.nd i
     rw[hφ] at hnd
     have hnb:l∉bs:=(KJ.mp hnd).1
     refine q B _ σ _ (Same.refl B) (r1.chg (d:=.list (xs++[d])) (as:=l :: (bs++as)) hli hl1 trivial hv ?_ ?_ ?_ trivial)
     ·exact dQ az (dD (aA.upd hl1 trivial _ _ _ hnb (aA.same s1 _ _ _ ht)) (by
       have:=jD (IsT.upd (o':=.lst (vs++[y])) hl1 trivial _ _ _ L_ h1) (jC (K:=K))
       rwa [Xz] at this))
     ·refine KJ.mpr ⟨λz=> ?_,XX.mpr ⟨(KJ.mp hnd).2,h2,λa ha b hb e=> ?_⟩⟩
      ·rcases Kk.mp z with z | z
       ·exact hnb z
       ·exact L_ z
      ·subst e
       exact(h3' a hb).2 i (by rw[hφ];exact K9 _ ha)
     ·intro a ha
      rcases K0.mp ha with rfl | ha
      ·exact .inl hli
      ·rcases Kk.mp ha with ha | ha
       ·exact .inl (by rw[hφ];exact K9 _ ha)
       ·exact .inr (h3' a ha)
    ·simp only[aq,JV hz] at q
     exact False.elim q
   | .fr [j],q,av=>
    by_cases hz:xs.length < sizeLine/\i≠j
    ·replace q:cE K Ew B (ah (.nx ((Γ.set j none).set i (some (true,.list (xs++[d])))))) D:=by simpa only[aq,JQ hz] using q
     refine⟨l,vs,y,rfl,rfl,hl1,by omega,?_⟩
     obtain⟨as,h1,h2,h3⟩:=av
     have h3':∀a∈as,a∈φ j∨(B a=none/\∀j',a∉φ j'):=λa ha=>by
      rcases h3 a ha with⟨j',z,z2⟩ | z
      ·rw[K5.mp z] at z2;exact .inl z2
      ·exact .inr z
     have L_:l∉as:=λz=>by
      rcases h3' l z with z | z
      ·exact r.dj i j hz.2 l hli z
      ·exact z.2 i hli
     have hnd:=r.nd i
     rw[hφ] at hnd
     have hnb:l∉bs:=(KJ.mp hnd).1
     have r2:=r1.kill j
     have hdi:Bf φ j i=φ i:=JV hz.2
     refine q B _ σ _ (Same.refl B) (r2.chg (d:=.list (xs++[d])) (as:=l :: (bs++as)) (by rw[hdi];exact hli) hl1 trivial hv ?_ ?_ ?_ trivial)
     ·exact dQ az (dD (aA.upd hl1 trivial _ _ _ hnb (aA.same s1 _ _ _ ht)) (by
       have:=jD (IsT.upd (o':=.lst (vs++[y])) hl1 trivial _ _ _ L_ h1) (jC (K:=K))
       rwa [Xz] at this))
     ·refine KJ.mpr ⟨λz=> ?_,XX.mpr ⟨(KJ.mp hnd).2,h2,λa ha b hb e=> ?_⟩⟩
      ·rcases Kk.mp z with z | z
       ·exact hnb z
       ·exact L_ z
      ·subst e
       have hai:a∈φ i:=by rw[hφ];exact K9 _ ha
       rcases h3' a hb with z | z
       ·exact r.dj i j hz.2 a hai z
       ·exact z.2 i hai
     ·intro a ha
      rw[hdi]
      rcases K0.mp ha with rfl | ha
      ·exact .inl hli
      ·rcases Kk.mp ha with ha | ha
       ·exact .inl (by rw[hφ];exact K9 _ ha)
       ·rcases h3' a ha with z | z
        ·refine .inr ⟨(r.nb j a z).1,λj' hj'=> ?_⟩
         obtain⟨n1,n2⟩:=fP hj'
         exact r.dj j' j n1 a n2 z
        ·exact .inr ⟨z.1,λj' hj'=>z.2 j' (fP hj').2⟩
    ·simp only[aq,JV hz] at q
     exact False.elim q
   | .fr (_ :: _ :: _),q,_=>exact False.elim q
   | .base,q,_=>exact False.elim q
   | .any,q,_=>exact False.elim q
  | some (.ex c),q=>exact .inr ⟨c,rfl,q⟩
  | none,q=>cases q
end
section
variable {K:Frag}{H H':Hp}
theorem ee.mv (e:∀a o,H a=some o->¬ fJ o->H' a=some o)(h:ee K H a xs):ee K H' a xs:=ee.toB e h
mutual
theorem IsT.mv (e:∀a o,H a=some o->¬ fJ o->H' a=some o):∀(d:PyData) (v:V) (as:List Addr),(∀a∈as,∀o,H a=some o->H' a=some o)->IsT K H d v as->IsT K H' d v as
 | .none,v,as,_,h=>by simpa only[IsT] using h
 | .bool b,v,as,_,h=>by simpa only[IsT] using h
 | .int i,v,as,_,h=>by simpa only[IsT] using h
 | .str x,v,as,_,h=>by simpa only[IsT] using h
 | .list xs,v,as,m,h=>by
  simp only[IsT] at h⊢
  obtain⟨a,vs,bs,e1,h1,h2,rfl⟩:=h
  exact⟨a,vs,bs,e1,m a K7 _ h1,aA.mv e xs vs bs (λb hb=>m b (K9 _ hb)) h2,rfl⟩
 | .tuple xs,v,as,m,h=>by
  simp only[IsT] at h⊢
  obtain⟨a,vs,e1,h1,h2⟩:=h
  exact⟨a,vs,e1,h1.mv e,aA.mv e xs vs as m h2⟩
 | .dict kvs,v,as,m,h=>by
  simp only[IsT] at h⊢
  obtain⟨a,ks,bs,e1,h1,h2,rfl⟩:=h
  exact⟨a,ks,bs,e1,m a K7 _ h1,aP.mv e kvs ks.1 bs (λb hb=>m b (K9 _ hb)) h2,rfl⟩
theorem aA.mv (e:∀a o,H a=some o->¬ fJ o->H' a=some o):∀(ds:List PyData) (vs:List V) (as:List Addr),(∀a∈as,∀o,H a=some o->H' a=some o)->aA K H ds vs as->aA K H' ds vs as
 | [],vs,as,_,h=>by simpa only[aA] using h
 | d :: ds,vs,as,m,h=>by
  simp only[aA] at h⊢
  obtain⟨v,r,a1,a2,e1,rfl,h1,h2⟩:=h
  exact⟨v,r,a1,a2,e1,rfl,IsT.mv e d v a1 (λb hb=>m b (X9 _ hb)) h1,aA.mv e ds r a2 (λb hb=>m b (Kx _ hb)) h2⟩
theorem aP.mv (e:∀a o,H a=some o->¬ fJ o->H' a=some o):∀(ds:List (PyData×PyData)) (ks:List (!9)) (as:List Addr),(∀a∈as,∀o,H a=some o->H' a=some o)->aP K H ds ks as->aP K H' ds ks as
 | [],ks,as,_,h=>by simpa only[aP] using h
 | (k,d) :: r,ks,as,m,h=>by
  simp only[aP] at h⊢
  obtain⟨kv,v,q,a1,a2,e1,rfl,h1,h2,h3⟩:=h
  exact⟨kv,v,q,a1,a2,e1,rfl,IsT.mv e k kv [] (λb hb=>by cases hb) h1,IsT.mv e d v a1 (λb hb=>m b (X9 _ hb)) h2,aP.mv e r q a2 (λb hb=>m b (Kx _ hb)) h3⟩
end
end
open Classical in
noncomputable def ii (D:Addr)(H:Hp):Hp:=λa=>if a=D then none else H a
theorem i_ (h:a≠D):ii D H a=H a:=by unfold ii;rw[JV h]
theorem jG :ii D H D=none:=by unfold ii;rw[JQ rfl]
theorem jH :Same (ii D H) H:=λa o e=>by
 by_cases h:a=D
 ·subst h;rw[jG] at e;cases e
 ·rw[i_ h] at e;exact e
theorem lF (s:Same H H'):Same (ii D H) (ii D H'):=λa o e=>by
 by_cases h:a=D
 ·subst h;rw[jG] at e;cases e
 ·rw[i_ h] at e⊢;exact s a o e
theorem tz (h:H0 D=none)(s:Same H0 H):Same H0 (ii D H):=λa o e=>by
 rw[i_ (dw e h)];exact s a o e
theorem wI :ii D (upd H D o)=ii D H:=by
 funext a
 by_cases h:a=D
 ·subst h;rw[jG,jG]
 ·rw[i_ h,i_ h,aR h]
theorem Bj (h:gO (xs++[x])=some (.fr [])):gO xs=some (.fr [])/\x.1= .fr []:=by
 induction xs with
 | nil=>
  obtain⟨k,d⟩:=x
  match k,h with
  | .fr [],h=>exact⟨rfl,rfl⟩
  | .fr (_ :: _),h=>simp[gO] at h
  | .base,h=>simp[gO] at h
  | .any,h=>simp[gO] at h
 | cons y xs ih=>
  obtain⟨k,d⟩:=y
  match k,h with
  | .fr [],h=>
   simp only[U5,gO] at h⊢
   exact ih h
  | .fr (_ :: _),h=>simp[gO] at h
  | .base,h=>
   simp only[U5,gO] at h
   cases e:gO (xs++[x]) with
   | none=>rw[e] at h;cases h
   | some k=>rw[e] at h;cases h
  | .any,h=>simp[gO] at h
theorem CS (h:gO xs=some k):(k= .fr []∨k= .any)/\∀x∈xs,x.1= .fr []∨x.1= .base:=by
 induction xs generalizing k with
 | nil=>cases h;exact⟨.inl rfl,λx hx=>by cases hx⟩
 | cons y xs ih=>
  obtain⟨k',d⟩:=y
  match k',h with
  | .fr [],h=>
   simp only[gO] at h
   obtain⟨h1,h2⟩:=ih h
   exact⟨h1,λx hx=>by rcases K0.mp hx with rfl | hx;exact .inl rfl;exact h2 x hx⟩
  | .fr (_ :: _),h=>simp[gO] at h
  | .base,h=>
   simp only[gO] at h
   cases e:gO xs with
   | none=>rw[e] at h;cases h
   | some k2=>
    rw[e] at h;cases h
    obtain⟨h1,h2⟩:=ih e
    exact⟨.inr rfl,λx hx=>by rcases K0.mp hx with rfl | hx;exact .inr rfl;exact h2 x hx⟩
  | .any,h=>simp[gO] at h
abbrev yP:Str->Hp->Prop:=λ_ _=>False
section
variable {X:Cx}{K:Frag}{Ew:Str->Hp->Prop}{pos px:Pos}{scope:Scope}{v:Str}{F:List Str}{ix:List Nat}{elt iter:Expr}{ifs:List Expr}{it:IF}{ft:TF}{fe:EF}
theorem eZ :Ck Y [] (EX K yP bT):=λpins s σ H Q I q=>by
 obtain⟨B,φ,Γ,r,q⟩:=q
 rcases q with⟨b,e,q⟩ | ⟨c,e,q⟩
 ·cases e;exact Fi pins s σ H Q I (q H (Same.refl H))
 ·cases e
theorem mX (h:DT Y K yP c ft):Ck Y [c] (EX K yP ft):=Fj h
end
theorem CT:typeLookup (.type "list_reverseiterator") "__len__" =pure none:=by(rw[typeLookup_type,builtinLookup_eq_fast]);(kernel_rfl)
theorem Fz:typeLookup (.type "list_reverseiterator") "__length_hint__" =pure (some (.builtin "list_reverseiterator.__length_hint__")):=by(rw[typeLookup_type,builtinLookup_eq_fast]);(kernel_rfl)
section
variable {A:Around}{s:Shared}{G:Array GenState->Array GenState->Prop}{P:Nat->Value->Prop}{St:Nat->Shared->Prop}
theorem yQ (W:WalksS prog w A.in1 I fp wr G n P St)(hT:∀i s,St i s->s.TypeIs (.ref I) "list_reverseiterator")(st0:St 0 s)(hfp:∀b∈fp,b < s.heap.objs.size)(hI:I∈fp)
  (hn:n<=sizeLine) (hQ:∀s' acc,Moved wr G s s'->ItemsOf P acc n->Q acc.toList s'):wpAny (!3) A (collect (.ref I)) Q E s:=by
 have nS:s.heap.objs.size∉fp:=λhm=>U2 _ (hfp _ hm)
 have nI:s.heap.objs.size≠I:=λe=>nS (e ▸ hI)
 unfold collect
 refine JZ (wpAny_runValue (codeAny_builtin F.entry_proto_collect ?_));rw[Around.under_plainId F.plain_proto_collect _]
 show wpAny _ A.in1 (newList [] >>=λl=>again (.builtin "list.__iadd__" ⟨[l,.ref I],[]⟩)) _ _ s
 refine JZ (Z5 ?_);refine JW ⟨plainId_quiet F.plain_list_iadd _,codeAny_builtin F.entry_list_iadd ?_⟩;rw[Around.under_plainId F.plain_list_iadd _]
 have st1:=W.frame 0 s (s.heap.push {cls:=.type "list",data:=.seq ([]:List Value).toArray}) s.toks st0 (K1 _) (λb _ o e=>K8 _ e)
 have new1:(s.heap.push {cls:=.type "list",data:=.seq ([]:List Value).toArray}).get? s.heap.objs.size=some {cls:=.type "list",data:=.seq ([]:List Value).toArray}:=(Ky _ rfl)
 have h1:Builtin.List.listSameRef (!6) (.ref I)=false:=by(simp[Builtin.List.listSameRef,nI])
 show wpAny _ A.in1 (Builtin.List.listExtendWith (!6) (.ref I) (!6)) _ _ _;unfold Builtin.List.listExtendWith
 refine JZ (wpAny_typeOf (hT 0 _ st1) ?_)
 rw[JV (by rw[h1];decide)];refine JZ (W.self 0 _ _ _ st1 ?_);refine JZ (Z7 ?_);unfold Builtin.List.listLengthHint
 refine JZ (Z4 (hT 0 _ st1) CT ?_)
 show wpAny _ A.in1 (specialOf (Value.ref I) (Str.ofString "__length_hint__") >>=_) _ _ _;refine JZ (Z4 (hT 0 _ st1) Fz ?_)
 generalize hid:("list_reverseiterator.__length_hint__":String)=id0
 wp_delta
 rw[show splitId id0=some ("list_reverseiterator","__length_hint__") from by subst hid;decide+kernel]
 subst hid
 refine JZ (wpAny_isInstance (b:=true) (hT 0 _ st1) (by rw[isSubtype_type];kernel_rfl) ?_);refine JW ?_;rw[JV (!8)]
 refine JW ⟨plainId_quiet F.plain_extend_loop _,codeAny_extend_loopS W hn _ nS _ n 0 _ _ _ rfl (Xw _) st1 new1 (ItemsOf.nil P) λs' acc' c' hm hS' hacc=> ?_⟩
 show wpAny _ A (load s.heap.objs.size >>=_) _ _ s';refine JZ (wpAny_load hS' ?_)
 exact JW (hQ s' acc' (Moved.drop_new (o:={cls:=.type "list",data:=.seq ([]:List Value).toArray}) (tk:=s.toks) hm (K1 _)) hacc)
theorem wJ (W:WalksS prog w A.in1.in1 I fp wr G n P St)(hT:∀i s,St i s->s.TypeIs (.ref I) "list_reverseiterator")(st0:St 0 s)(hfp:∀b∈fp,b < s.heap.objs.size)(hI:I∈fp)
  (hn:n<=sizeLine) (h:∀s' acc,Moved wr G s s'->ItemsOf P acc n->Q1 (.ref s'.heap.objs.size) {s' with heap:=s'.heap.push {cls:=.type "tuple",data:=.seq acc}}) :
  codeAny (!3) A (.call (.builtin "tuple.__new__") ⟨[.type "tuple",.ref I],[]⟩) (wants Q1 E) s:=by
 refine codeAny_of_tree ?_
 show wpAny _ A.in1 (do checkBuiltinCall "tuple.__new__" ⟨[.type "tuple",.ref I],[]⟩;again (.builtin "tuple.__new__" ⟨[.type "tuple",.ref I],[]⟩)) _ _ s;refine JZ (wpAny_of_eq (F.newCall_tuple_1 _) (JW ⟨plainId_quiet F.plain_tuple_new _,codeAny_builtin F.entry_tuple_new ?_⟩))
 rw[Around.under_plainId F.plain_tuple_new _];have hsub:=sub_tuple_self;have hinit:=init_tuple_lookup;have hmh:=madeHere_tuple;have hTI:=hT 0 s st0
 wp_walk using wpAny_typeOf hTI,yQ W hT st0 hfp hI hn
 intro s' acc hm hacc
 show wpAny _ _ (Builtin.Tuple.tupleExact acc.toList.toArray >>=λv=>ret v) _ _ _;unfold Builtin.Tuple.tupleExact
 refine JZ (Z5 ?_ (by show acc.toList.toArray.size<=sizeLine;(simp only[Array.toArray_toList]);(rw[hacc.1]);exact hn));refine JW ?_
 have e:acc.toList.toArray=acc:=(by simp)
 rw[e];exact h s' acc hm hacc
theorem uV (W:WalksS prog w A.in1.in1.in1 I fp wr G n P St)(hT:∀i s,St i s->s.TypeIs (.ref I) "list_reverseiterator")(st0:St 0 s)(hfp:∀b∈fp,b < s.heap.objs.size)(hI:I∈fp)
  (hn:n<=sizeLine) (hQ:∀s' acc,Moved wr G s s'->ItemsOf P acc n->Q (.ref s'.heap.objs.size) {s' with heap:=s'.heap.push {cls:=.type "tuple",data:=.seq acc}}):wpAny (!3) A (call (.type "tuple") [.ref I]) Q E s:=by
 refine callType_codes (Q₁:=λobj s1=>s1.TypeIs obj "tuple" /\Q obj s1) F.called_tuple (F.typeCall_tuple_1 _) F.entry_object_init (wJ W hT st0 hfp hI hn λs' acc hm hacc=>⟨⟨_,Ky _ rfl,rfl⟩,hQ s' acc hm hacc⟩) λobj s1 q=> ?_
 exact⟨q.1,F.args_object_init_2 obj _,object_init_meets F.called_tuple.init.lookup F.called_tuple.made (!8) prog w A.in1 _ s1 ⟨q.1,rfl,q.2⟩⟩
end
section
variable {X:Cx}{K:Frag}{Ew:Str->Hp->Prop}{pos:Pos}{apos cpos:Pos}
def FA (K:Frag)(ta:TE):TE:=λσ H Q=>ta σ H λx H1=>∃q ys,x= .ref q/\gD K H1 q ys/\∀t,H1 t=none->Q (.ref t) (upd H1 t (.tup ys.reverse))
theorem Bk {its:List Value}(h:ItemsOf (λi v=>its.toArray[its.toArray.size - 1 - i]? =some v) acc its.toArray.size):acc=its.reverse.toArray:=by
 apply Array.ext'
 apply List.ext_getElem?
 intro i
 have hs:acc.toList.length=its.length:=by simpa using h.1
 by_cases hi:i < its.length
 ·have hi':i < acc.toList.length:=by omega
  have e1:acc.toList[i]? =some (acc.toList[i]'hi'):=K3 hi'
  have e2:=h.2 i (acc.toList[i]'hi') (by rw[←Uj];exact e1)
  rw[e1,List.getElem?_reverse hi,←e2]
  simp
 ·rw[XU (!1),XU (by simp;omega)]
theorem Bl (hc:X.calm=true)(hg:Gl X "tuple")(hm:X.mg "tuple" =none)(hg2:Gl X "reversed")(hm2:X.mg "reversed" =none)(ha:PE X a ta)
  (hs:starEach [a] X.env=(false,eval a X.env) :: starEach [] X.env:=by rfl) (hpl:(backTo pos2 (starEach [] X.env)).any (·.1)=false:=by rfl)
  (hs2:starEach [.Call (.Name "reversed" p2) [a] [] pos2] X.env=(false,eval (.Call (.Name "reversed" p2) [a] [] pos2) X.env) :: starEach [] X.env:=by rfl) (mq:(backTo pos (starEach [] X.env)).any (·.1)=false:=by rfl)
  (hnil:backTo pos (starEach [] X.env)=[]:=by rfl) :
  PE X (.Call (.Name "tuple" p) [.Call (.Name "reversed" p2) [a] [] pos2] [] pos) (FA X.K ta):=by
 intro pins s σ H Q I h
 refine wpAny_Call_Name_kw (fw I hg hm PyProof.Rows.boot_tuple ?_)
 refine PyProof.Rows.callWith_type1 ?_ hs2 mq
 rw[hs2]
 show wpAny _ _ (spliced ((false,eval (.Call (.Name "reversed" p2) [a] [] pos2) X.env) :: backTo pos (starEach [] X.env))) _ _ s
 refine Calls.spliced_cons ?_
 refine wpAny_Call_Name_kw (fw I hg2 hm2 PyProof.Rows.boot_reversed ?_)
 refine PyProof.Rows.callWith_type1 (dv (bv ha cO hs pos2 pins s σ H (λvs H1=>match vs with
  | [x]=>∃q ys,x= .ref q/\gD X.K H1 q ys/\∀t,H1 t=none->Q (.ref t) (upd H1 t (.tup ys.reverse))
  | _=>False) I h) λus s1 ⟨vs,H1,I1,r1,q1⟩=> ?_) hs hpl
 match vs,r1,q1 with
 | [x],r1,q1=>
  obtain⟨q,ys,rfl,hq,fin⟩:=q1
  obtain⟨u,rfl,ru⟩:=r1.one
  cases ru
  obtain⟨its,rv,pl,hz⟩:=I1.list hq
  refine call_reversed_list pl.isList ?_
  rw[hnil]
  refine Calls.spliced_nil ?_
  have hfr:=I1.fresh
  have I2:Inv X pins σ H1 {s1 with heap:=s1.heap.push (revObj q ((its.toArray.size:Int) - 1))}:=I1.kept (t':=s1.toks) λb u e=>K8 _ e
  have hit:(s1.heap.push (revObj q ((its.toArray.size:Int) - 1))).IsRevIter s1.heap.objs.size q ((its.toArray.size:Int) - 1):=⟨_,Ky _ rfl,rfl,rfl⟩
  have PF:(s1.heap.push (revObj q ((its.toArray.size:Int) - 1))).IsList q its.toArray:=pl.isList.at λo e=>K8 _ e
  have hq1:q < s1.heap.objs.size:=let ⟨o,_,e,_⟩:=pl;Kq e
  have hne:q≠s1.heap.objs.size:=X3 hq1
  have hh:X.A.in1.in1.in1.handled=none:=I1.ok.hd hc
  have hl:=rv.length
  refine uV (Walks.toS (Walks.listRev (prog:=X.prog) (w:=X.w) hh s1.heap.objs.size q hne its.toArray)) (λi s st=>st.2.1.typeIs) ⟨Xw _,by simpa using hit,PF⟩ (λb hb=> ?_) (by simp) (by rw[Kw];omega) λs' acc hm hacc=> ?_
  ·have:b=s1.heap.objs.size∨b=q:=by simpa using hb
   show b < (s1.heap.push _).objs.size
   rw[XJ]
   rcases this with z | z
   ·rw[z];exact Uz _
   ·rw[z];exact UJ hq1
  ·rw[Bk hacc]
   obtain⟨h',g',d',t',os'⟩:=s'
   obtain rfl:g'=s1.gens:=hm.gens
   obtain rfl:d'=s1.drawn:=hm.drawn
   obtain rfl:os'=s1.os:=hm.os
   have fo:=I1.pd (H':=H1) (K1 s1.heap.objs.size) hfr
   have I3:Inv X pins σ H1 {s1 with heap:=h',toks:=t'}:=Inv.turned (s:={s1 with heap:=s1.heap.push (revObj q ((its.toArray.size:Int) - 1))}) (h':=h') (t':=t') (it:=s1.heap.objs.size) I2 (λb o hb e=>hm.heap b o (by simpa using hb) e) hfr fo.2.1 fo.2.2.2.1 fo.2.2.2.2.1 fo.2.2.2.2.2
   refine⟨.ref h'.objs.size,_,I3.laid (t':=t') (a:=h'.objs.size) (o:=.tup ys.reverse) (λb u e=>K8 _ e) (K1 _) ⟨by rw[UX];exact hz,its.reverse,rv.reverse,IsTup.new _ _⟩,rfl,fin _ I3.fresh⟩
 | [],r1,q1=>exact False.elim q1
 | _ :: _ :: _,r1,q1=>exact False.elim q1
theorem tF (hc:X.calm=true)(hg:Gl X "tuple")(hm:X.mg "tuple" =none)(hg2:Gl X "reversed")(hm2:X.mg "reversed" =none)(ha:DE X K Ew a fa)(hK:X.K=K:=by rfl)
  (hs:starEach [a] X.env=(false,eval a X.env) :: starEach [] X.env:=by rfl) (hpl:(backTo pos2 (starEach [] X.env)).any (·.1)=false:=by rfl)
  (hs2:starEach [.Call (.Name "reversed" p2) [a] [] pos2] X.env=(false,eval (.Call (.Name "reversed" p2) [a] [] pos2) X.env) :: starEach [] X.env:=by rfl) (mq:(backTo pos (starEach [] X.env)).any (·.1)=false:=by rfl)
  (hnil:backTo pos (starEach [] X.env)=[]:=by rfl) :
  DE X K Ew (.Call (.Name "tuple" p) [.Call (.Name "reversed" p2) [a] [] pos2] [] pos) (v6 wv fa):=(Bl hc hg hm hg2 hm2 ha hs hpl hs2 mq hnil).imp λσ H Q q=>by
 obtain⟨B,φ,Γ,r0,q⟩:=q
 refine⟨B,φ,Γ,r0,(q.bind r0).mono λu H1 s1 ⟨k,x,e1,v1,r1,_,q1⟩=> ?_⟩
 obtain⟨z,e,q⟩:=gE (kf:=λ_=> .fr []) q1
 cases x <;> simp only[wv] at e <;> try (cases e;done)
 split at e
 ·rename_i xs hn
  cases e
  obtain⟨p,vs,rfl,h1,h2⟩:=a9 (v1.toD r1.bs)
  rw[hK]
  refine⟨p,vs,rfl,h1,λt ht=>q _ _ (s1.trans (Same.upd ht)) (VR.fresh.mpr (aU.tup ?_ (ee.of az) (ay.same (Same.upd ht) _ _ (mT h2))))⟩
  exact aT.mpr λx hx=>aT.mp hn x (Uw.mp hx)
 ·cases e
theorem j4:i8 X (binaryOp .Mult) sK:=i8.ints Iz λx y z e=>by
 cases x <;> cases y <;> simp only[sK] at e <;> try (cases e;done)
 split at e
 ·rename_i c;cases e;exact⟨_,_,rfl,rfl,c,rfl,λ_ _=>bJ⟩
 ·cases e
theorem Runs.no (h:Runs K Ew B φ H none Q):False:=by
 rcases h with⟨k,d,e,_⟩ | ⟨c,e,_⟩ <;> cases e
theorem Runs.ret (h:Runs K Ew B φ H (ah (k,d)) Q):∀v H',Same H H'->VR K B φ H H' k d v->Q v H':=by
 rcases h with⟨k',d',e,q⟩ | ⟨c,e,_⟩
 ·cases e;exact q
 ·cases e
theorem CU (h:isNew k=true):k= .fr []:=by
 match k,h with
 | .fr [],_=>rfl
theorem CV (h:Runs K Ew B φ H (Ba k x y) Q):∃xs n,k= .fr []/\x= .list xs/\y= .int n/\
  (ar xs=true/\ -(2^63)<=n/\n < 2^63/\xs.length*n.toNat<=sizeLine)/\∀v H',Same H H'->VR K B φ H H' (.fr []) (.list (List.replicate n.toNat xs).flatten) v->Q v H':=by
 unfold Ba at h
 by_cases hk:isNew k=true
 ·rw[JQ hk] at h
  cases x <;> try (exact(Runs.no h).elim)
  rename_i xs
  replace h:Runs K Ew B φ H (A_ xs y) Q:=h
  cases y <;> try (exact(Runs.no h).elim)
  rename_i n
  by_cases hc:ar xs=true/\ -(2^63)<=n/\n < 2^63/\xs.length*n.toNat<=sizeLine
  ·rw[A_,JQ hc] at h
   exact⟨xs,n,CU hk,rfl,rfl,hc,h.ret⟩
  ·rw[A_,JV hc] at h
   exact(Runs.no h).elim
 ·rw[JV hk] at h
  exact(Runs.no h).elim
theorem CW (ha:DE X K Ew a fa)(hb:DE X K Ew b fb):DE X K Ew (.BinOp a .Mult b pos) (Fl fa fb) :=
 (Hi IU ha hb).imp λσ H Q q=>qr (g:=λx y=>Ba x.1 x.2 y.2) q λB φ Γ k x k' y u v H1 H2 r2 s1 s2 v1 v2 q=>by
  obtain⟨xs,n,rfl,rfl,rfl,⟨hn,c1,c2,c3⟩,q⟩:=CV q
  obtain⟨as,h1,h2,h3⟩:=v1
  obtain⟨l,vs,bs,rfl,hl,ht,rfl⟩:=bF h1
  have hv:=aE (v2.toD r2.bs)
  subst hv
  have hd:=aA.toD _ _ _ ht
  exact⟨l,n,vs,rfl,rfl,hl,c1,c2,by rw[ap hd];exact c3,λp hp=>q _ _ ((s1.trans s2).trans (Same.upd hp)) (VR.fresh.mpr (aU.from (aU.lst (wo hn _) az (ay.same (Same.upd hp) _ _ (wC _ hd)) hp) (s1.trans s2)))⟩
open AutoSeq1 in
theorem FC (T:String)(hT:T= "list" ∨T= "tuple")(l b:Addr)(xs ys:Array Value)(n m:Nat)(dd:Option Addr)(sl:Array (Option Value))(h0:¬ (!xs.isEmpty && Builtin.List.listTooLong (xs.size+ys.size))=true)(h1:xs.size<=sizeLine)(h2:xs.size+ys.size<=sizeLine+1)(hlb:l≠b) :
  Meets (Builtin.«list.extend» ⟨[.ref l,.ref b],[]⟩) (λ_ R s=>s.heap.get? l=some {cls:=.type "list",data:=.seq xs n}/\s.heap.get? b=some ⟨.type T,dd,.seq ys m,sl⟩/\R (.ok (.ret Value.none)) {s with heap:=s.heap.update l (Obj.mapSeq λx=>x++ys)}) :=
 .of_wp λprog w A R s q=>by
  obtain⟨hp,g,d,tk,os⟩:=s
  obtain⟨hl,hb,q⟩:=q
  have f1:=AutoSeq1.idx_int;have f2:=AutoSeq1.sub_tuple_tuple;have f3:=AutoSeq1.sub_list_list;have f4:=AutoSeq1.sub_tuple_list;have f5:=AutoSeq1.sub_list_tuple
  have hz:(xs++ys).size<=sizeLine+1:=by(rw[Array.size_append]);exact h2
  rcases hT with rfl | rfl
  ·(wp_walk using (wpAny_updateSeq hl rfl (hz:=h1) (_hz':=hz)),wpAny_loadPart' hl,wpAny_loadPart' hb);exact⟨_,rfl,q⟩
  ·(wp_walk using (wpAny_updateSeq hl rfl (hz:=h1) (_hz':=hz)),wpAny_loadPart' hl,wpAny_loadPart' hb);exact⟨_,rfl,q⟩
def CY (K:Frag):V->List V->Hp->VK->Prop:=λx vs H Q=>∃l b xs zs,x= .ref l/\vs=[.ref b]/\H l=some (.lst xs)/\(l=b->∃o,K.lookup b=some o)/\(gD K H b zs∨ee K H b zs)/\xs.length+zs.length<=sizeLine/\Q .non (upd H l (.lst (xs++zs)))
theorem Ah:M4 X "list.extend" (CY X.K):=by
 intro pins s σ H x vs v us Q I rx rv h
 obtain⟨l,b,xs,zs,rfl,rfl,hH,hlb,hB,hz,q⟩:=h
 replace hlb:l≠b:=λz=>by
  obtain⟨o,ho⟩:=hlb z
  have:=(I.bs b o (I.ok.mod.MX b o ho)).2
  rw[←z,hH] at this
  cases this
 cases rx
 obtain⟨u,rfl,ru⟩:=rv.one
 cases ru
 obtain⟨z,its,n,r,hl,e⟩:=I.IT hH
 have main:∀(T:String) (hT:T= "list" ∨T= "tuple") (its2:List Value) (dd:Option Addr) (sl:Array (Option Value)) (m:Nat),Vals zs its2->s.heap.get? b=some ⟨.type T,dd,.seq its2.toArray m,sl⟩->wpAny (!7) X.A (call (.builtin "list.extend") [.ref l,.ref b]) (EP X pins σ Q) X.xe s:=λT hT its2 dd sl m r2 e2=>by
  have hl2:=r2.length
  have hsz:its.toArray.size+its2.toArray.size<=sizeLine:=by rw[Kw,Kw];omega
  have CF:¬ (!its.toArray.isEmpty && Builtin.List.listTooLong (its.toArray.size+its2.toArray.size))=true:=λw=>by
   rw[wm hsz,Bool.and_false] at w
   cases w
  refine call_meets F.slot_list_extend ⟨_,e,rfl⟩ F.entry_list_extend (F.args_list_extend_2 _ _) (FC T hT l b its.toArray its2.toArray n m dd sl CF (by rw[Kw];omega) (!1) hlb) ⟨e,e2,?_⟩
  refine⟨.non,_,I.LZ (t':=s.toks) (its':=its++its2) hH e (by simp) (r.append r2) ?_,rfl,q⟩
  (rw[K2]);omega
 rcases hB with hB | hB
 ·obtain⟨its2,r2,⟨⟨c2,d2,OV,sl2⟩,n2,ho2,hc2,_,hd2⟩,hz2⟩:=I.list hB
  simp only at hc2 hd2
  subst hc2 hd2
  exact main "list" (.inl rfl) its2 d2 sl2 n2 r2 ho2
 ·obtain⟨its2,r2,⟨⟨c2,d2,OV,sl2⟩,ho2,hc2,n2,hd2⟩,hz2⟩:=I.tuple hB
  simp only at hc2 hd2
  subst hc2 hd2
  exact main "tuple" (.inr rfl) its2 d2 sl2 n2 r2 ho2
theorem Jf (ho:PE X o (lX i))(he:DE X K Ew e fe)(hK:X.K=K:=by rfl)
  (hbase:attributeBase o "extend" X.env (eval o X.env)=eval o X.env:=by rfl)
  (hfew:((backTo cpos (starEach [e] X.env)).all (λx=> !x.1) && (backToKw cpos (keywordEach [] X.env)).all (λx=>x.1.isSome)
   && decide (([e]:List Expr).length+([]:List Keyword).length+(if ([]:List Keyword).isEmpty then 0 else 1) < 30))=true:=by rfl)
  (hline:(apos.endLine==cpos.line)=true:=by rfl) (hs:starEach [e] X.env=(false,eval e X.env) :: starEach [] X.env:=by rfl) (hplain:(backTo cpos (starEach [] X.env)).any (·.1)=false:=by rfl)
  (hsw:swapsWith (.Call (.Attribute o "extend" apos) [e] [] cpos) none pos.line X.env=pure false:=by rfl) :
  DS X K Ew (.Expr (.Call (.Attribute o "extend" apos) [e] [] cpos) pos) (yJ i fe) :=
 (lx (wk PySem.F.plainAttrs_list PySem.F.slot_list_extend PySem.F.type_list_extend Ah ho (bv he cO hs) hbase hfew hline hs hplain) hsw).imp λD σ H q=>by
  obtain⟨B,φ,Γ,r,q⟩:=q
  unfold yJ at q
  obtain⟨xs,hg,q⟩:=L6 q
  obtain⟨v,hv,hT⟩:=r.own hg
  obtain⟨l,vs,bs,rfl,hl,ht,hφ⟩:=bF hT
  refine⟨.ref l,hv,.inl ⟨rfl,vs,gD.of hl⟩,B,φ,Γ,r,?_⟩
  match hm:fe Γ,q with
  | some (.ok (k,d)),q=>
   refine .inl ⟨k,d,rfl,λy H1 s1 hy=> ?_⟩
   have r1:=r.same s1
   have hl1:=s1 _ _ hl
   have hlen:vs.length=xs.length:=bB ht
   have hli:l∈φ i:=by rw[hφ];exact K7
   replace q:cE K Ew B (match yI k d with
    | some ys=>if ar ys=true/\xs.length+ys.length<=sizeLine then ah (.nx (Γ.set i (some (true,.list (xs++ys))))) else none
    | none=>none) D:=q
   have hd:=hy.toD r1.bs
   have hnd:=r.nd i
   rw[hφ] at hnd
   have hnb:l∉bs:=(KJ.mp hnd).1
   have main:∀(b:Addr) (ws:List V) (ys:List PyData),y= .ref b->yI k d=some ys->(l=b->∃o,K.lookup b=some o)->(gD K H1 b ws∨ee K H1 b ws)->ay K H1 ys ws->CY X.K (.ref l) [y] H1 λ_ H1=>D.nx σ H1:=λb ws ys ey ei NX hb hws=>by
    rw[ei] at q
    by_cases hc:ar ys=true/\xs.length+ys.length<=sizeLine
    ·replace q:cE K Ew B (ah (.nx (Γ.set i (some (true,.list (xs++ys)))))) D:=by simpa only[JQ hc] using q
     subst ey
     refine⟨l,b,vs,ws,rfl,rfl,hl1,by rw[hK];exact NX,by rw[hK];exact hb,by rw[ap hws];omega,?_⟩
     refine q B _ σ _ (Same.refl B) (r1.chg (d:=.list (xs++ys)) (as:=l :: bs) hli hl1 trivial hv ?_ hnd (λa ha=> .inl (by rw[hφ];exact ha)) trivial)
     have h1:=aA.upd (o':=.lst (vs++ws)) hl1 trivial _ _ _ hnb (aA.same s1 _ _ _ ht)
     have h2:=aA.upd (o':=.lst (vs++ws)) hl1 trivial _ _ _ (show l∉[] by simp) (ay.toT _ _ hc.1 hws)
     have h3:=dD h1 h2
     rw[Xz] at h3
     exact dQ az h3
    ·simp only[JV hc] at q
     exact False.elim q
   cases d <;> try (exact False.elim q)
   ·rename_i ys
    match k,hy,q,main with
    | .fr [],hy,q,main=>
     obtain⟨as,h1,h2,h3⟩:=hy
     obtain⟨b,ws,cs,ey,hb,hws,rfl⟩:=bF h1
     refine main b ws ys ey rfl (λz=> ?_) (.inl (gD.of hb)) (aA.toD _ _ _ hws)
     rcases h3 b K7 with⟨_,w,_⟩ | w
     ·cases w
     ·rw[←z,hl] at w;cases w
    | .base,hy,q,main=>
     obtain⟨b,ws,ey,hb,hws⟩:=a9 (show aM K B (.list ys) y from hy)
     refine main b ws ys ey rfl (λz=> ?_) (.inl (r1.bs.seq hb)) (ay.same r1.bs _ _ hws)
     have hB:=(r.nb i l hli).1
     rcases hb with(w | ⟨o,w⟩) | ⟨o,_,_,w,_⟩
     ·rw[←z,hB] at w;cases w
     ·rw[←z,hB] at w;cases w
     ·exact⟨o,w⟩
    | .fr (_ :: _),hy,q,main=>exact False.elim q
    | .any,hy,q,main=>exact False.elim q
   ·rename_i ys
    obtain⟨b,ws,ey,hb,hws⟩:=aJ hd
    refine main b ws ys ey rfl (λz=> ?_) (.inr hb) hws
    rcases hb with(w | ⟨o,w⟩) | ⟨o,_,_,w,_⟩
    ·rw[←z,hl1] at w;cases w
    ·rw[←z,hl1] at w;cases w
    ·exact⟨o,w⟩
  | some (.ex c),q=>exact .inr ⟨c,rfl,q⟩
  | none,q=>cases q
end
section
variable {X:Cx}{K:Frag}{Ew:Str->Hp->Prop}{pos pos2 p p2:Pos}{a e o j:Expr}{ta:TE}{fa fe fj:EF}{apos cpos:Pos}
theorem uW (ho:PE X o (lX i))(hj:DE X K Ew j fj)(he:DE X K Ew e fe)
  (ha:∀v,assign (.Subscript o j p) X.env v=(do
   let ov←holding [v] (eval o X.env)
   let iv←holding [v,ov] (eval j X.env)
   standAt p
   holding [v,ov,iv] (setItem ov iv v)
   release [v,ov,iv] []):=by intro _;rfl)
  (hs:swapsWithSole [.Subscript o j p] e pos.line X.env=pure false:=by rfl) (hw:swappedStores [.Subscript o j p] e X.env=pure none:=by rfl)
  (h1:(assignEach [.Subscript o j p] X.env).map (·.2)=[assign (.Subscript o j p) X.env]:=by rfl):DS X K Ew (.Assign [.Subscript o j p] e pos) (Bd i fj fe) :=
 (uA he (yu ho hj set_list ha) hs hw h1).imp λD σ H q=>
  gS (g:=λx Γ=>match Γ[i]? with
   | some (some (true,.list xs))=>aq (fj Γ) λy=>match y.2 with
    | .int n=>match Y.oW xs.length n with
     | some m=>if br x.2 && ar xs then ah (.nx (Γ.set i (some (true,.list (xs.set m x.2))))) else none
     | none=>none
    | _=>none
   | _=>none) q λB φ Γ k d y H1 r av q=>by
   obtain⟨xs,hg,q⟩:=L6 q
   obtain⟨v,hv,hT⟩:=r.own hg
   obtain⟨l,vs,bs,rfl,hl,ht,hφ⟩:=bF hT
   have hli:l∈φ i:=by rw[hφ];exact K7
   refine⟨.ref l,hv,B,φ,Γ,r,?_⟩
   match hm:fj Γ,q with
   | some (.ok (k',d')),q=>
    refine .inl ⟨k',d',rfl,λw H2 s2 hw=> ?_⟩
    have r2:=r.same s2
    cases d' <;> try (exact False.elim q)
    rename_i n
    have:=aE (hw.toD r2.bs)
    subst this
    replace q:cE K Ew B (match Y.oW xs.length n with
     | some m=>if br d && ar xs then ah (.nx (Γ.set i (some (true,.list (xs.set m d))))) else none
     | none=>none) D:=q
    match hix:Y.oW xs.length n,q with
    | some m,q=>
     replace q:cE K Ew B (if br d && ar xs then ah (.nx (Γ.set i (some (true,.list (xs.set m d))))) else none) D:=q
     by_cases hc:(br d && ar xs)=true
     ·rw[JQ hc] at q
      have hc':br d=true/\ar xs=true:=by simpa using hc
      have hlen:=bB ht
      refine⟨l,vs,n,m,rfl,rfl,s2 _ _ hl,by rw[hlen];exact hix,?_⟩
      have hbs:bs=[]:=aA.nil _ _ _ hc'.2 ht
      subst hbs
      have hds:=ay.same s2 _ _ (aA.toD _ _ _ ht)
      have hdd:=aM.same s2 _ _ (av.toD r.bs)
      have hns:ar (xs.set m d)=true:=aT.mpr λx hx=>by
       rcases List.mem_or_eq_of_mem_set hx with z | z
       ·exact aT.mp hc'.2 x z
       ·rw[z];exact hc'.1
      have hnew:=aA.upd (o':=.lst (vs.set m y)) (s2 _ _ hl) trivial _ _ _ (show l∉[] by simp) (ay.toT _ _ hns (wB m hds hdd))
      exact q B _ σ _ (Same.refl B) (r2.chg (d:=.list (xs.set m d)) (as:=[l]) hli (s2 _ _ hl) trivial hv (dQ az hnew) (KJ.mpr ⟨by simp,X2⟩) (λa ha=> .inl (by rw[K5.mp ha];exact hli)) trivial)
     ·rw[JV hc] at q
      exact False.elim q
    | none,q=>cases q
   | some (.ex c),q=>exact .inr ⟨c,rfl,q⟩
   | none,q=>cases q
end
theorem CZ {X:Cx}{K:Frag}{Ew:Str->Hp->Prop}{st:Stmt}:DS X K Ew st CJ:=Cw.imp λD σ H q=>by
 obtain⟨B,φ,Γ,r,q⟩:=q
 exact False.elim q
theorem NY {P:Program}{w:World}{K:Frag}{mg:Str->Option Value}{base:Heap}{x qual:Str}{st:Stmt}{f:Addr}{fd:FuncData}{N ps:List Str}(k n m:Nat){fb:SF}(hn:N.length=n)(hm:ps.length=m)(F:EW K x qual st f fd)(S:aL N ps (aj st))
  (hbody:∀(cdv:Value) (A:Around) (outer:List Env) (s:Shared) (H:Hp) (E:XK),eH k (A.deeper (envOfC qual (aj st) s.heap.objs.size f cdv))->
   Aa (sH zW P w K mg base N qual (aj st) f cdv A outer s H E).Cj K (λ_ _=>False) (eY st) fb):jy P w K mg base zW (k+1) f fd ps (jw K m (cM n fb)):=by
 subst hn hm
 exact F.PC S hbody
theorem C0 {K:Frag}{H:Hp}{a:Addr}{ns:List Int}{F:FF}(hS:gD K H a (ns.map V.int))(h:∃o,F [.list (ns.map PyData.int)]=some (.ok (o,.bool true))):jw K 1 F [.ref a] H (λv _=>v= .bl true) λ_ _ _=>False:=by
 obtain⟨o,h⟩:=h
 refine⟨[.list (ns.map PyData.int)],rfl,aW (uL hS (lC ns)) a8,?_⟩
 rw[h]
 intro v H' s r
 unfold RV at r
 cases o with
 | true=>rw[JQ rfl] at r;obtain⟨as,h1,_⟩:=r;exact jB (IsT.toD _ _ _ h1)
 | false=>rw[JV K4] at r;exact jB r
section
variable {s:Shared}
theorem l7 {t sl:Addr}{items:Array Value}{vl vu:Value}{lo hi:Option Int}{Q:Z3}(ht:IsTup s.heap t items)(hs:s.heap.IsSliceOf sl vl vu .none)(pl:IsPart vl lo)(pu:IsPart vu hi)
  (hw:HT.eD items.size 0 lo=0/\HT.eD items.size items.size hi=items.size) (h:Q (.ref t) s):wpAny (!3) A (getItem (.ref t) (.ref sl)) Q E s:=by
 obtain⟨os,hos,hcs,hds⟩:=id hs
 have hTs:s.TypeIs (.ref sl) "slice":=⟨os,hos,hcs⟩
 unfold getItem
 try with_reducible refine Z7 ?_
 first | refine JZ (JW ?_) | skip
 refine JZ (wpAny_sequenceKey ht.typeIs (!8) ?_)
 refine JZ (wpAny_callSpecial?_slot (name:=Str.ofString "__getitem__") ht.typeIs PyProof.Rows.slot_tuple_getitem
  (Z6 PyProof.Rows.slot_tuple_getitem ht.typeIs entry_tuple_getitem ?_ (args_tuple_getitem _ _)))
 show wpAny _ _ (Builtin.Tuple.tupleItemsOf (.ref t) >>=_) _ _ s
 refine JZ (tupleItemsOf_ ht ?_)
 refine JZ (wpAny_typeOf hTs ?_)
 rw[JQ (!8)]
 refine JZ (HT.jz hs pl pu ?_)
 have hyes:(((HT.eD items.size 0 lo:Nat):Int)==0 && (1:Int)==1 && (HT.eD items.size items.size hi - HT.eD items.size 0 lo)==items.size)=true:=by
  rw[hw.1,hw.2];simp
 show wpAny _ _ (if (((HT.eD items.size 0 lo:Nat):Int)==0 && (1:Int)==1 && (HT.eD items.size items.size hi - HT.eD items.size 0 lo)==items.size)=true then _ else _) _ _ s
 rw[JQ hyes]
 unfold Builtin.Tuple.tupleIsExact
 refine JZ ?_
 first
  | exact JZ (wpAny_typeOf ht.typeIs (JW (JZ (wpAny_rule (JW ⟨_,rfl,JW h⟩)))))
  | (
    refine JZ (wpAny_typeOf ht.typeIs (JW ?_))
    rw[JQ (!8)]
    exact JZ (wpAny_rule (JW ⟨_,rfl,JW h⟩)))
end
theorem wK {K:Frag}{H:Hp}{ds:List PyData}{vs:List V}(h:ay K H ds vs)(lo hi:Option Int):ay K H (cutD ds lo hi) (wj vs lo hi):=by
 have e:cutD ds lo hi=(ds.drop (HT.eD ds.length 0 lo)).take (HT.eD ds.length ds.length hi - HT.eD ds.length 0 lo):=rfl
 rw[e]
 unfold wj
 rw[ap h]
 exact tq _ (tu _ h)
theorem qx (h:ar ds=true)(lo hi:Option Int):ar (cutD ds lo hi)=true:=aT.mpr λx hx=>aT.mp h x (U0 (U1 hx))
section
variable {X:Cx}{K:Frag}{Ew:Str->Hp->Prop}{pos p2:Pos}{e:Expr}{fe:EF}{lo hi st:Option Expr}{fl fh fs:Option EF}
def NZ (K:Frag):V->Option Int->Option Int->Hp->VK->Prop:=λx lo hi H Q=>∃d z,aM K H d x/\M6 d lo hi=some z/\∀v H',Same H H'->aU K H H' z v->Q v H'
theorem N0:Hk X (NZ X.K):=by
 intro pins s σ H x v vl vu lo hi sl Q I rx hs pl pu h
 obtain⟨d,z,hd,hz,q⟩:=h
 cases d <;> simp only[M6] at hz <;> try (cases hz;done)
 ·rename_i ds
  split at hz
  ·rename_i hn
   cases hz
   obtain⟨a,xs,rfl,hx,hi'⟩:=a9 hd
   exact Ff pins s σ H _ v vl vu lo hi sl Q I rx hs pl pu ⟨a,xs,rfl,hx,λp hp=>q _ _ (Same.upd hp) (aU.lst (qx hn lo hi) az (ay.same (Same.upd hp) _ _ (wK hi' lo hi)) hp)⟩
  ·cases hz
 ·rename_i ds
  split at hz
  ·rename_i hn
   cases hz
   obtain⟨a,xs,rfl,hx,hi'⟩:=aJ hd
   by_cases hw:HT.eD xs.length 0 lo=0/\HT.eD xs.length xs.length hi=xs.length
   ·cases rx
    obtain⟨its,r,ht,hz⟩:=I.tuple hx
    have hlen:its.toArray.size=xs.length:=by rw[Kw];exact r.length.symm
    refine⟨"tuple",_,PyProof.Rows.slot_tuple_getitem.lookup,ht.typeIs,?_⟩
    refine l7 ht hs pl pu (by rw[hlen];exact hw) ⟨.ref a,H,I,rfl,q _ H (Same.refl H) (aU.mm (by rw[br];exact qx hn lo hi) ?_)⟩
    have e:cutD ds lo hi=ds:=by
     have e:cutD ds lo hi=(ds.drop (HT.eD ds.length 0 lo)).take (HT.eD ds.length ds.length hi - HT.eD ds.length 0 lo):=rfl
     rw[e,←ap hi',hw.1,hw.2,Y3,Nat.sub_zero]
     exact U7 (by rw[ap hi'];exact K1 _)
    rw[e]
    exact hd
   ·exact II pins s σ H _ v vl vu lo hi sl Q I rx hs pl pu ⟨a,xs,rfl,hx,hw,λp hp=>q _ _ (Same.upd hp) (aU.tup (qx hn lo hi) (ee.of az) (ay.same (Same.upd hp) _ _ (wK hi' lo hi)))⟩
  ·cases hz
def tO (K:Frag)(Ew:Str->Hp->Prop)(f:Option EF):TO:=λσ H Q=>∃B φ Γ,Rep K B φ Γ σ H/\((∃o,oE f Γ=some (.ok o)/\∀H',Same H H'->Q o H')∨(∃c,oE f Γ=some (.ex c)/\∀H',Same B H'->Ew c H'))
def M8 (X:Cx)(K:Frag)(Ew:Str->Hp->Prop)(e:Option Expr)(f:Option EF):Prop:=PO X e (tO K Ew f)
theorem PO.imp {X:Cx}{e:Option Expr}{t t':TO}(h:PO X e t)(i:∀σ H Q,t' σ H Q->t σ H Q):PO X e t':=λpins s σ H Q I q=>h pins s σ H Q I (i σ H Q q)
theorem C1:M8 X K Ew none none:=Fc.imp λσ H Q q=>by
 obtain⟨B,φ,Γ,r,q⟩:=q
 rcases q with⟨o,e,q⟩ | ⟨c,e,_⟩
 ·cases e;exact q H (Same.refl H)
 ·cases e
theorem C2 (he:DE X K Ew e fe):M8 X K Ew (some e) (some fe):=(Fd he).imp λσ H Q q=>by
 obtain⟨B,φ,Γ,r,q⟩:=q
 refine⟨B,φ,Γ,r,?_⟩
 have e0:oE (some fe) Γ=aq (fe Γ) λx=>oI x.2:=rfl
 rw[e0] at q
 match hm:fe Γ,q with
 | some (.ok (k,d)),q=>
  refine .inl ⟨k,d,rfl,λv H' s hv=> ?_⟩
  cases d <;> try (rcases q with⟨o,e,_⟩ | ⟨c,e,_⟩ <;> cases e;done)
  rename_i n
  have:=aE (hv.toD (r.bs.trans s))
  subst this
  rcases q with⟨o,e,q⟩ | ⟨c,e,_⟩
  ·cases e;exact⟨n,rfl,q H' s⟩
  ·cases e
 | some (.ex c),q=>
  rcases q with⟨o,e,q⟩ | ⟨c',e,q⟩
  ·cases e
  ·cases e;exact .inr ⟨c,rfl,q⟩
 | none,q=>rcases q with⟨o,e,_⟩ | ⟨c,e,_⟩ <;> cases e
theorem Ai {φ:Nat->List Addr}{σ:St}{g:Option Int->M (Kd×PyData)}{Q:VK}{R:Option Int->Hp->Prop}(r:Rep K B φ Γ σ H)(h:Runs K Ew B φ H (aq (oE fo Γ) g) Q)
  (i:∀o H1,Same H H1->Rep K B φ Γ σ H1->Runs K Ew B φ H1 (g o) Q->R o H1):tO K Ew fo σ H R:=by
 refine⟨B,φ,Γ,r,?_⟩
 match hm:oE fo Γ,h with
 | some (.ok o),h=>exact .inl ⟨o,rfl,λH1 s=>i o H1 s (r.same s) (Runs.later h s)⟩
 | some (.ex c),h=>
  rcases h with⟨k,d,e,_⟩ | ⟨c',e,h⟩
  ·cases e
  ·cases e;exact .inr ⟨c,rfl,h⟩
 | none,h=>exact(Runs.no h).elim
theorem Ma (he:DE X K Ew e fe)(hl:M8 X K Ew lo fl)(hu:M8 X K Ew hi fh)(hK:X.K=K:=by rfl):DE X K Ew (.Subscript e (.Slice lo hi none p2) pos) (M7 fe fl fh):=(CC N0 he hl hu).imp λσ H Q q=>by
 obtain⟨B,φ,Γ,r,q⟩:=q
 refine⟨B,φ,Γ,r,(q.bind r).mono λu H1 s1 ⟨k,x,e1,v1,r1,_,q1⟩=> ?_⟩
 refine Ai r1 (q1.later s1) λl H2 s2 r2 q2=>Ai r2 q2 λh H3 s3 r3 q3=> ?_
 obtain⟨z,ez,q⟩:=gE (kf:=λ_=> .fr []) q3
 rw[hK]
 exact⟨x,z,aM.same (s2.trans s3) _ _ (v1.toD r1.bs),ez,λv H' s f=>q v H' s (VR.fresh.mpr f)⟩
end
theorem Aj:Manifest.owners.lookup (String.ofList ['d','e','s','r','e','v','e','r'].reverse)=some Manifest.sig_reversed:=by(kernel_rfl)
theorem eO:Slot "reversed" "__next__" "reversed.__next__" :=
 .of (owner:="reversed") (n:="__next__") (by(rw[typeLookup_type,builtinLookup_eq_fast]);kernel_rfl) (!5) (!5) (!5) (by first | exact .inl (!5) | exact .inr (!5)) (by(rw[isSubtype_type]);kernel_rfl)
theorem mY:entryFor table "reversed.__next__" =some Builtin.«reversed.__next__»:=entryFor_of_tree (by(kernel_rfl))
theorem mZ (a:Value):argsOk "reversed.__next__" ⟨[a],[]⟩:=by
 unfold argsOk;rw[signature?_of (id:="reversed.__next__") (n:=['_','_','t','x','e','n','_','_']) (o:=['d','e','s','r','e','v','e','r']) (by(kernel_rfl)) Aj];(kernel_rfl)
theorem mf:Slot "reversed" "__iter__" "reversed.__iter__" :=
 .of (owner:="reversed") (n:="__iter__") (by(rw[typeLookup_type,builtinLookup_eq_fast]);kernel_rfl) (!5) (!5) (!5) (by first | exact .inl (!5) | exact .inr (!5)) (by(rw[isSubtype_type]);kernel_rfl)
theorem uX (a:Value):argsOk "reversed.__iter__" ⟨[a],[]⟩:=by
 unfold argsOk;rw[signature?_of (id:="reversed.__iter__") (n:=['_','_','r','e','t','i','_','_']) (o:=['d','e','s','r','e','v','e','r']) (by(kernel_rfl)) Aj];(kernel_rfl)
theorem uY:entryFor table "reversed.__iter__" =some Builtin.«dict_keyiterator.__iter__» :=
 entryFor_alias (id':="dict_keyiterator.__iter__") (by(kernel_rfl)) (by first | rfl | decide+kernel | (unfold String.splitOn;simp+decide [String.splitOnAux])) (!5) (by(kernel_rfl))
theorem Bm:typeLookup (.type "tuple") "__reversed__" =pure none:=by(rw[typeLookup_type,builtinLookup_eq_fast]);(kernel_rfl)
theorem uZ:isSubtype (.type "tuple") (.type "dict")=pure false:=by(rw[isSubtype_type]);(kernel_rfl)
noncomputable def oq (t:Addr)(i:Int):Obj:={cls:=.type "reversed",data:=.fields #[.ref t,rawInt i]}
def oY (h:Heap)(a t:Addr)(i:Int):Prop:=h.get? a=some (oq t i)
section
variable {A:Around}{s:Shared}
theorem u0 (ht:IsTup s.heap t items)(hz:items.size<=sizeLine)
  (h:∀tk,Q1 (!6) {s with heap:=s.heap.push (oq t ((items.size:Int) - 1)),toks:=tk}) :
  codeAny (!3) A (.call (.builtin "reversed.__new__") ⟨[.type "reversed",.ref t],[]⟩) (wants Q1 E) s:=by
 refine codeAny_of_tree ?_
 show wpAny _ A.in1 (do checkBuiltinCall "reversed.__new__" ⟨[.type "reversed",.ref t],[]⟩;again (.builtin "reversed.__new__" ⟨[.type "reversed",.ref t],[]⟩)) _ _ s;refine JZ (wpAny_of_eq (F.newCall_reversed_1 _) (JW ⟨plainId_quiet F.plain_reversed_new _,codeAny_builtin F.entry_reversed_new ?_⟩))
 rw[Around.under_plainId F.plain_reversed_new _];unfold Builtin.«reversed.__new__»
 refine JZ (wpAny_of_eq (newClass_reversed _) ?_)
 try dsimp only
 refine JZ (wpAny_of_eq (a:=()) (by first | rfl | kernel_rfl) ?_);refine JZ (wpAny_of_eq (a:=()) (by first | rfl | kernel_rfl) ?_)
 try dsimp only
 refine JZ (Z4 ht.typeIs Bm ?_)
 have hT:=ht.typeIs
 have hd:=uZ
 have hget:=PyProof.Rows.slot_tuple_getitem.lookup
 show wpAny _ _ (_ >>=_) _ _ _
 refine JZ ?_
 wp_delta
 refine JZ (wpAny_isInstance hT hd ?_);rw[JV K4]
 refine JZ (Z4 hT hget ?_)
 try dsimp only
 rw[JQ (!5)]
 refine JW ?_
 rw[JV (!8)]
 have N2:=kM
 refine JZ (len_tuple ht (!1) ?_)
 refine JZ (wpAny_of_eq (a:=some ((items.size:Nat):Int)) (by first | rfl | kernel_rfl) ?_)
 try dsimp only
 refine JZ ?_
 wp_delta
 exact Z5 (JW (h _))
theorem mr:TypeCalled "reversed" "reversed.__new__" "object.__init__" :=
 ⟨by decide+kernel,by decide+kernel,⟨_,_,F.mro_reversed⟩,F.made_reversed,by decide+kernel,by(rw[isSubtype_type]);kernel_rfl,.of (owner:="object") (n:="__init__") (by(rw[typeLookup_type,builtinLookup_eq_fast]);kernel_rfl) (!5) (!5) (!5) (by first | exact .inl (!5) | exact .inr (!5)) (by(rw[isSubtype_type]);kernel_rfl)⟩
theorem C3 (ht:IsTup s.heap t items)(hz:items.size<=sizeLine)
  (h:∀tk,Q (!6) {s with heap:=s.heap.push (oq t ((items.size:Int) - 1)),toks:=tk}):wpAny (!3) A (call (.type "reversed") [.ref t]) Q E s:=by
 refine callType_codes (Q₁:=λobj s1=>s1.TypeIs obj "reversed" /\Q obj s1) mr (F.typeCall_reversed_1 _) F.entry_object_init (u0 ht hz λtk=>⟨⟨_,Ky _ rfl,rfl⟩,h tk⟩) λobj s1 q=> ?_
 exact⟨q.1,F.args_object_init_2 obj _,object_init_meets mr.init.lookup mr.made (!8) prog w A.in1 _ s1 ⟨q.1,rfl,q.2⟩⟩
theorem fB (h:oY s.heap it t i):s.TypeIs (.ref it) "reversed":=⟨_,h,rfl⟩
theorem C4 {it t:Addr}{i:Nat}{items:Array Value}{x:Value}{Q:Option Value->Shared->Prop}(hit:oY s.heap it t (i:Int))(ht:IsTup s.heap t items)(hz:items.size<=sizeLine)(hx:items[i]? =some x)
  (hQ:∀h' tk,oY h' it t ((i:Int) - 1)->Heap.SameBut it s.heap h'->Q (some x) {s with heap:=h',toks:=tk}):wpAny (!3) A (pyNext (.ref it)) Q E s:=by
 unfold pyNext
 refine JZ (wpAny_attempt (wpAny_callSpecial?_slot (name:=Str.ofString "__next__") (fB hit) eO (Z6 eO (fB hit) mY ?_ (mZ _))))
 unfold Builtin.«reversed.__next__»
 refine JZ (wpAny_of_eq (a:=(Value.ref it,[])) rfl ?_)
 try dsimp only
 refine JZ (wpAny_field hit rfl (x:=.ref t) rfl ?_)
 refine JZ (wpAny_field hit rfl (x:=rawInt (i:Int)) rfl ?_)
 show wpAny _ _ (if (i:Int) < 0 then _ else _) _ _ _
 rw[JV (!1)]
 refine JZ (Z4 ht.typeIs PyProof.Rows.slot_tuple_getitem.lookup ?_)
 rw[JV (!8)]
 refine JZ (wpAny_mkInt ?_)
 have hi:i < items.size:=(Array.getElem?_eq_some_iff.mp hx).1
 have N2:=kM
 have hg:wpAny (!3) A.in1 (getItem (.ref t) (.int (i:Int) s.toks)) (λr s'=>r=x/\s'={s with toks:=s.toks+1}) (λ_ _=>False) {s with toks:=s.toks+1} :=
  getItem_tuple (k:=(i:Int)) (j:=i) ht (!1) (!1) (seqIndex_of (!1) (!1)) hx ⟨rfl,rfl⟩
 refine JZ (wpAny_attempt (wpAny_mono hg (λr s' q=> ?_) λ_ _ q=>False.elim q))
 obtain⟨rfl,rfl⟩:=q
 refine JZ (wpAny_field hit rfl (x:=rawInt (i:Int)) rfl ?_)
 show wpAny _ _ (setField (.ref it) 1 (rawInt ((i:Int) - 1)) >>=_) _ _ _
 refine JZ (wpAny_setField hit rfl (by simp) ?_)
 refine JW ⟨_,rfl,JW (hQ _ _ ?_ (Heap.SameBut.update ..))⟩
 exact XY (Obj.mapFields (·.setIfInBounds 1 (rawInt ((i:Int) - 1)))) hit rfl
theorem FD (hh:A.handled=none)(hit:oY s.heap it t (-1))
  (hQ:∀h' tk,Heap.ExtBut it s.heap h'->Q none {s with heap:=h',toks:=tk}):wpAny (!3) A (pyNext (.ref it)) Q E s:=by
 unfold pyNext
 refine JZ (wpAny_attempt (wpAny_callSpecial?_slot (name:=Str.ofString "__next__") (fB hit) eO (Z6 eO (fB hit) mY ?_ (mZ _))))
 unfold Builtin.«reversed.__next__»
 refine JZ (wpAny_of_eq (a:=(Value.ref it,[])) rfl ?_)
 try dsimp only
 refine JZ (wpAny_field hit rfl (x:=.ref t) rfl ?_)
 refine JZ (wpAny_field hit rfl (x:=rawInt (-1)) rfl ?_)
 show wpAny _ _ (if (-1:Int) < 0 then _ else _) _ _ _
 rw[JQ (!8)]
 refine JZ (wpAny_rule ?_)
 refine JZ ?_
 wp_delta
 refine JZ (wpAny_setField hit rfl (by simp) ?_)
 have hit2:=XY (Obj.mapFields (·.setIfInBounds 1 (rawInt (-1)))) hit rfl
 refine wpAny_setField hit2 rfl (by simp) ?_
 refine JZ ?_
 (first | show wpAny _ _ (newExc (.type "StopIteration") [] >>=_) _ _ _ | (wp_delta;show wpAny _ _ (newExc (.type "StopIteration") [] >>=_) _ _ _))
 refine JZ ?_;simp only[newExc,newTuple];refine JZ (Z5 ?_ (by size_fits));refine JZ (m:=firstArgMember _ _) (wpAny_of_eq (a:=Value.none) (by first | rfl | (simp only[firstArgMember];rfl)) ?_);refine Z5 ?_ (by size_fits)
 simp only[raiseNew];refine JZ (wpAny_handled ?_);(first | rw[show A.in1.handled=none from hh] | rw[hh])
 refine JZ (JW (wpAny_throw ?_));refine JZ (wpAny_isInstance (T:="StopIteration") (b:=true) ⟨_,Ky _ rfl,rfl⟩ isSubtype_stop ?_)
 exact JW (hQ _ _ ((((Heap.SameBut.update ..).extBut.trans (Heap.SameBut.update ..).extBut).push _).push _))
theorem wL (hit:oY s.heap it t i)(h:Q (.ref it) s):wpAny (!3) A (pyIter (.ref it)) Q E s:=by
 refine wpAny_pyIter_slot (fB hit) mf (Z6 mf (fB hit) uY ?_ (uX _))
 show wpAny _ _ (ret (.ref it)) _ _ s;exact JW ⟨_,rfl,"reversed",_,fB hit,eO.lookup,h⟩
end
noncomputable def M9 (K:Frag)(a:Addr)(n:Nat):It :=
 ⟨λi H=>i < n/\∃xs,ee K H a xs/\xs.length=n,λi H x H'=>H'=H/\∀xs,ee K H a xs->xs[n - 1 - i]? =some x,λi _=>n<=i⟩
theorem C5 {P:Program}{w:World}{K:Frag}{tg:Expr}(a it:Addr)(n:Nat):Turn P w K tg (M9 K a n) [it] it (λi h=>i<=n/\oY h it a ((n:Int) - 1 - i)) where
 mem:=by simp
 obj:=λi h st b hb=>by
  have z:b=it:=by simpa using hb
  subst z
  exact⟨_,st.2,λv z=>by cases z⟩
 keep:=λi h h' st k=>⟨st.1,k it (by simp) _ st.2⟩
 item:=by
  intro X hP hw hK hc i pins s σ H E I hf st hg;subst hP hw hK
  obtain⟨hi,xs,hq,hl⟩:=hg
  obtain⟨its,rv,p,hz⟩:=I.tuple hq
  have hx:xs[n - 1 - i]? =some (xs[n - 1 - i]'(!1)):=K3 _
  obtain⟨u,hu,ru⟩:=rv.get hx
  obtain⟨f0,f1,f2,f3,f4,f5⟩:=hf it (by simp)
  have hlen:=rv.length
  have hst:=st.2
  rw[show(n:Int) - 1 - (i:Int)=((n - 1 - i:Nat):Int) by omega] at hst
  refine C4 (i:=n - 1 - i) (x:=u) hst p (by rw[Kw];omega) (by simpa using hu) λh' tk st' sb=> ?_
  have I1:Inv X pins σ H {s with heap:=h',toks:=tk}:=I.turned (t':=tk) (λb o hb e=>(sb.2 b hb).trans e) f0 f1 f3 f4 f5
  rw[show((n - 1 - i:Nat):Int) - 1=(n:Int) - 1 - ((i+1:Nat):Int) by omega] at st'
  exact⟨u,rfl,zN (s:={s with heap:=h',toks:=tk}) st' rfl rfl (!8) ⟨_,H,I1,ru,⟨rfl,λys hy=>by rw[I.n_ hy hq];exact hx⟩,⟨by omega,st'⟩,λb hb=>(hf b hb).1⟩⟩
 done:=by
  intro X hP hw hK hc i pins s σ H E I hf st hg;subst hP hw hK
  have hi:n<=i:=hg
  obtain⟨f0,f1,f2,f3,f4,f5⟩:=hf it (by simp)
  have hst:=st.2
  rw[show(n:Int) - 1 - (i:Int)= -1 by have:=st.1;omega] at hst
  exact FD (I.ok.hd hc) hst λh' tk eb=>⟨rfl,I.turned (t':=tk) (λb o hb e=>eb b o hb e) f0 f1 f3 f4 f5⟩
 self:=λA i s Q E st h=>wL st.2 h
section
variable {X:Cx}{K:Frag}{Ew:Str->Hp->Prop}{pos p:Pos}{tg a:Expr}{ta:TE}{fa:EF}
def N3 (K:Frag)(ta:TE):TI:=λσ H R=>ta σ H λx H1=>∃q xs,x= .ref q/\ee K H1 q xs/\R (M9 K q xs.length) H1
theorem Jg (hg:Gl X "reversed")(hm:X.mg "reversed" =none)(ha:PE X a ta)(hs:starEach [a] X.env=[(false,eval a X.env)]:=by rfl):PI X tg (.Call (.Name "reversed" p) [a] [] pos) (N3 X.K ta):=by
 intro pins s σ H R I h
 refine Call_ (fw I hg hm PyProof.Rows.boot_reversed (PyProof.Rows.callWith_type1 (dv (bv ha cO hs pos pins s σ H (λvs H1=>match vs with
  | [x]=>∃q xs,x= .ref q/\ee X.K H1 q xs/\R (M9 X.K q xs.length) H1
  | _=>False) I h) λus s1 ⟨vs,H1,I1,r1,q1⟩=> ?_) hs rfl))
 match vs,r1,q1 with
 | [x],r1,q1=>
  obtain⟨q,xs,rfl,hq,fin⟩:=q1
  obtain⟨u,rfl,ru⟩:=r1.one
  cases ru
  obtain⟨its,rv,pl,hz⟩:=I1.tuple hq
  have hl:=rv.length
  refine C3 pl (by rw[Kw];omega) λtk=> ?_
  have I2:Inv X pins σ H1 {s1 with heap:=s1.heap.push (oq q ((its.toArray.size:Int) - 1)),toks:=tk}:=I1.kept (t':=tk) λb u e=>K8 _ e
  have hit:oY (s1.heap.push (oq q ((its.toArray.size:Int) - 1))) s1.heap.objs.size q ((its.toArray.size:Int) - 1):=Ky _ rfl
  refine wL hit ⟨s1.heap.objs.size,[s1.heap.objs.size],_,_,H1,rfl,I2,C5 q _ xs.length,⟨Xw _,?_⟩,λb hb=> ?_,fin⟩
  ·have e:((its.toArray.size:Int) - 1)=(xs.length:Int) - 1 - ((0:Nat):Int):=by rw[Kw,←hl];simp
   exact(congrArg (λz=>oY (s1.heap.push (oq q ((its.toArray.size:Int) - 1))) s1.heap.objs.size q z) e).mp hit
  ·have e:b=s1.heap.objs.size:=by simpa using hb
   subst e
   exact I1.pd (K1 _) I1.fresh
 | [],r1,q1=>exact False.elim q1
 | _ :: _ :: _,r1,q1=>exact False.elim q1
theorem C6 {B:Hp}{a:Addr}{vs:List V}{ds:List PyData}(h:ee K B a vs)(t:ay K B ds vs):uS K B (M9 K a vs.length) ds.reverse where
 go:=λi H hi s=>by
  have hl:=ap t
  exact⟨by rw[UX] at hi;omega,vs,s.l6 h,rfl⟩
 yl:=λi H x H' hi s y=>by
  obtain⟨rfl,y⟩:=y
  have hl:=ap t
  rw[UX] at hi
  obtain⟨d,e,hd⟩:=iB t (y vs (s.l6 h))
  exact⟨Same.refl _,d,by rw[List.getElem?_reverse hi,←hl];exact e,λB2 s2 _=>aM.same s2 _ _ hd⟩
 stop:=λH s=>by
  show vs.length<=_
  rw[UX,ap t];exact K1 _
theorem Jh (hc:X.calm=true)(hg:Gl X "reversed")(hm:X.mg "reversed" =none)(ha:DE X K Ew a fa)(hK:X.K=K:=by rfl)(hs:starEach [a] X.env=[(false,eval a X.env)]:=by rfl):DI X K Ew tg (.Call (.Name "reversed" p) [a] [] pos) (CK fa) :=
 (Jg hg hm ha hs).imp λσ H R q=>mW (g:=λx _=>Fm x.1 x.2) q λB φ Γ k d v H1 r s av q=>by
  replace q:wF K Ew B H Γ σ R (Fm k d):=q
  cases d <;> try (exact False.elim q)
  rename_i ds
  obtain⟨B1,ψ,s1,r1,hd⟩:=r.kG av
  obtain⟨a,vs,rfl,h1,h2⟩:=aJ hd
  rw[hK]
  exact⟨a,vs,rfl,r1.bs.l6 h1,q _ H1 B1 ψ s s1 r1 (C6 h1 h2)⟩
end
end L2
namespace Y
open PySem
def qy (xs:List PyData):PyData->Option (Nat×List PyData)
 | .int k=>(oW xs.length k).bind λm=>match xs[m]? with
  | some (.list ys)=>if ar ys then some (m,ys) else none
  | _=>none
 | _=>none
theorem yR (h:qy xs d=some p):∃k,d= .int k/\oW xs.length k=some p.1/\xs[p.1]? =some (.list p.2)/\ar p.2=true:=by
 obtain⟨k,rfl⟩:∃k,d= .int k:=by
  cases d <;> first | exact⟨_,rfl⟩ | exact absurd h (by simp[qy])
 simp only[qy] at h
 cases e:oW xs.length k with
 | none=>rw[e] at h;cases h
 | some m=>
  rw[e] at h
  simp only[Option.bind_some] at h
  split at h
  ·rename_i ys hy
   split at h
   ·rename_i hn
    cases h
    exact⟨k,rfl,e,hy,hn⟩
   ·cases h
  ·cases h
def Mb (k:Nat):PyData->Bool
 | .int i=>i==(k:Int)
 | _=>false
noncomputable def in4:PyData->Bool
 | .int i=>decide (0<=i) && decide (i < 4)
 | _=>false
noncomputable def wM (xs:List PyData):List PyData:=(([0,1,2,3]:List Nat).filter λk=>xs.any (Mb k)).map λ(k:Nat)=> .int (k:Int)
noncomputable def kQ:PyData->Option PyData
 | .list xs=>if xs.all in4=true then some (.list (wM xs)) else none
 | _=>none
def M_:PyData->PyData->Option PyData
 | .int i,.int j=>some (.bool (decide (j<=i)))
 | _,_=>none
theorem Ak (i j:Int):M_ (.int i) (.int j)=some (.bool (decide (j<=i))):=rfl
end Y
namespace L2
open PySem PySem.Spec PyProof.Rows Y
section
variable {K:Frag}{B H:Hp}{φ:Nat->List Addr}{Γ:aX}{σ:St}
theorem u6:∀{xs:List PyData} {vs:List V} {bs:List Addr} {m:Nat} {ys:List PyData},aA K H xs vs bs->bs.Nodup->xs[m]? =some (.list ys)->ar ys=true->
  ∃b ws,vs[m]? =some (.ref b)/\H b=some (.lst ws)/\aA K H ys ws []/\b∈bs/\∀ys' ws',aA K (upd H b (.lst ws')) ys' ws' []->aA K (upd H b (.lst ws')) (xs.set m (.list ys')) vs bs
 | [],vs,bs,m,ys,h,_,e,_=>by simp at e
 | x :: xs,vs,bs,0,ys,h,nd,e,hn=>by
  simp only[aA] at h
  obtain⟨v,r,a1,a2,rfl,rfl,h1,h2⟩:=h
  have ex:x= .list ys:=by simpa using e
  subst ex
  obtain⟨b,ws,cs,rfl,hb,ht,rfl⟩:=bF h1
  have hc:=aA.nil _ _ _ hn ht
  subst hc
  refine⟨b,ws,rfl,hb,ht,by simp,λys' ws' h'=> ?_⟩
  simp only[List.set_cons_zero,aA]
  have nb:b∉a2:=by
   have:=KJ.mp (show(b :: a2).Nodup by simpa using nd)
   exact this.1
  exact⟨.ref b,r,[b],a2,rfl,rfl,dQ az h',aA.upd hb trivial _ _ _ nb h2⟩
 | x :: xs,vs,bs,m+1,ys,h,nd,e,hn=>by
  simp only[aA] at h
  obtain⟨v,r,a1,a2,rfl,rfl,h1,h2⟩:=h
  obtain⟨n1,n2,n3⟩:=XX.mp nd
  obtain⟨b,ws,e1,hb,ht,hm,hs⟩:=u6 h2 n2 (by simpa using e) hn
  refine⟨b,ws,by simpa using e1,hb,ht,Kx _ hm,λys' ws' h'=> ?_⟩
  simp only[List.set_cons_succ,aA]
  exact⟨v,r,a1,a2,rfl,rfl,IsT.upd hb trivial _ _ _ (λz=>n3 _ z _ hm rfl) h1,hs ys' ws' h'⟩
end
end L2
namespace L2
open PySem Y
mutual
def wN:PyData->Nat
 | .tuple xs=>u7 xs+1
 | _=>1
def u7:List PyData->Nat
 | []=>0
 | d :: ds=>wN d+u7 ds
end
mutual
def hZ (h:Heap):PyData->Value->Prop
 | .int i,v=>∃t,v= .int i t
 | .none,v=>v= .none
 | .tuple ds,v=>∃a o items n,v= .ref a/\h.get? a=some o/\o.cls= .type "tuple" /\o.data= .seq items n/\ij h ds items.toList
 | _,_=>False
def ij (h:Heap):List PyData->List Value->Prop
 | [],vs=>vs=[]
 | d :: ds,vs=>∃v r,vs=v :: r/\hZ h d v/\ij h ds r
end
mutual
theorem hZ.reads :∀(d:PyData) (v:Value),hZ h d v->Reads h v d []
 | .int i,v,x=>by simp only[hZ] at x;obtain⟨t,rfl⟩:=x;exact .int i t
 | .none,v,x=>by simp only[hZ] at x;subst x;exact .none
 | .tuple ds,v,x=>by
  simp only[hZ] at x
  obtain⟨a,o,items,n,rfl,h1,h2,h3,h4⟩:=x
  exact .tuple h1 h2 h3 (ij.reads ds _ h4)
 | .bool _,v,x=>by simp only[hZ] at x
 | .str _,v,x=>by simp only[hZ] at x
 | .list _,v,x=>by simp only[hZ] at x
 | .dict _,v,x=>by simp only[hZ] at x
theorem ij.reads :∀(ds:List PyData) (vs:List Value),ij h ds vs->ReadsAll h vs ds []
 | [],vs,x=>by simp only[ij] at x;subst x;exact .nil
 | d :: ds,vs,x=>by
  simp only[ij] at x
  obtain⟨v,r,rfl,h1,h2⟩:=x
  exact .cons (hZ.reads d v h1) (ij.reads ds r h2)
end
mutual
theorem jI:∀(n:Nat) (d:PyData),nest n d=true->d.canLay0=true
 | _,.int _,_=>rfl
 | _,.none,_=>rfl
 | n+1,.tuple ds,x=>by rw[nest] at x;simp only[PyData.canLay0];exact tH n ds x
 | 0,.tuple _,x=>by simp[nest] at x
 | 0,.bool _,x=>by simp[nest] at x
 | 0,.str _,x=>by simp[nest] at x
 | 0,.list _,x=>by simp[nest] at x
 | 0,.dict _,x=>by simp[nest] at x
 | _+1,.bool _,x=>by simp[nest] at x
 | _+1,.str _,x=>by simp[nest] at x
 | _+1,.list _,x=>by simp[nest] at x
 | _+1,.dict _,x=>by simp[nest] at x
theorem tH:∀(n:Nat) (ds:List PyData),nests n ds=true->PyData.canLayAll0 ds=true
 | _,[],_=>rfl
 | n,d :: ds,x=>by
  rw[nests,X7] at x
  simp only[PyData.canLayAll0,jI n d x.1,tH n ds x.2,XW]
end
mutual
theorem qz:∀(n:Nat) (d:PyData),nest n d=true->d.depth<=n+1
 | _,.int _,_=>by simp[PyData.depth]
 | _,.none,_=>by simp[PyData.depth]
 | n+1,.tuple ds,x=>by rw[nest] at x;have:=oZ n ds x;simp only[PyData.depth];omega
 | 0,.tuple _,x=>by simp[nest] at x
 | 0,.bool _,x=>by simp[nest] at x
 | 0,.str _,x=>by simp[nest] at x
 | 0,.list _,x=>by simp[nest] at x
 | 0,.dict _,x=>by simp[nest] at x
 | _+1,.bool _,x=>by simp[nest] at x
 | _+1,.str _,x=>by simp[nest] at x
 | _+1,.list _,x=>by simp[nest] at x
 | _+1,.dict _,x=>by simp[nest] at x
theorem oZ:∀(n:Nat) (ds:List PyData),nests n ds=true->PyData.depthAll ds<=n+1
 | _,[],_=>by simp[PyData.depthAll]
 | n,d :: ds,x=>by
  rw[nests,X7] at x
  have h1:=qz n d x.1
  have h2:=oZ n ds x.2
  simp only[PyData.depthAll];omega
end
mutual
theorem qA:∀(n:Nat) (x y:PyData),nest n x=true->nest n y=true->PyData.eqv x y=true->x=y
 | _,.none,.none,_,_,_=>rfl
 | _,.int i,.int j,_,_,h=>by simp[PyData.eqv] at h;rw[h]
 | n+1,.tuple xs,.tuple ys,hx,hy,h=>by
  rw[nest] at hx hy
  simp only[PyData.eqv] at h
  rw[tJ n xs ys hx hy h]
 | 0,.tuple _,_,hx,_,_=>by simp[nest] at hx
 | 0,_,.tuple _,_,hy,_=>by simp[nest] at hy
 | _,.none,.int _,_,_,h=>by simp[PyData.eqv] at h
 | _,.none,.tuple _,_,_,h=>by simp[PyData.eqv] at h
 | _,.int _,.none,_,_,h=>by simp[PyData.eqv] at h
 | _,.int _,.tuple _,_,_,h=>by simp[PyData.eqv] at h
 | _,.tuple _,.none,_,_,h=>by simp[PyData.eqv] at h
 | _,.tuple _,.int _,_,_,h=>by simp[PyData.eqv] at h
 | n,.bool _,_,hx,_,_=>by cases n <;> simp[nest] at hx
 | n,.str _,_,hx,_,_=>by cases n <;> simp[nest] at hx
 | n,.list _,_,hx,_,_=>by cases n <;> simp[nest] at hx
 | n,.dict _,_,hx,_,_=>by cases n <;> simp[nest] at hx
 | n,_,.bool _,_,hy,_=>by cases n <;> simp[nest] at hy
 | n,_,.str _,_,hy,_=>by cases n <;> simp[nest] at hy
 | n,_,.list _,_,hy,_=>by cases n <;> simp[nest] at hy
 | n,_,.dict _,_,hy,_=>by cases n <;> simp[nest] at hy
theorem tJ:∀(n:Nat) (xs ys:List PyData),nests n xs=true->nests n ys=true->PyData.eqvAll xs ys=true->xs=ys
 | _,[],[],_,_,_=>rfl
 | n,x :: xs,y :: ys,hx,hy,h=>by
  rw[nests,X7] at hx hy
  simp only[PyData.eqvAll,X7] at h
  rw[qA n x y hx.1 hy.1 h.1,tJ n xs ys hx.2 hy.2 h.2]
 | _,[],_ :: _,_,_,h=>by simp[PyData.eqvAll] at h
 | _,_ :: _,[],_,_,h=>by simp[PyData.eqvAll] at h
end
section
variable {A:Around}{s:Shared}
theorem Bn (hu:A.units < cLine)(h:Q wx {s with toks:=s.toks+1}):wpAny (!3) A (pyHash .none) Q E s:=by
 have hT:=typeIs_none s
 unfold pyHash;unfold pyHashByItsType
 refine JZ (wpAny_cRoomFor_or (.inr hu) ?_);refine JZ (Z4 hT F.slot_NoneType_hash.lookup ?_)
 rw[JV (!8)]
 refine JZ (Z4 hT F.slot_NoneType_hash.lookup ?_)
 show wpAny _ _ (callSpecialIfBoundUnlessNone? .none "__hash__" _ >>=_) Q E s
 refine JZ (wpAny_callSpecialIfBoundUnlessNone?_slot hT F.slot_NoneType_hash (Z6 F.slot_NoneType_hash hT F.entry_NoneType_hash ?_ (F.args_NoneType_hash_1 _)))
 show wpAny _ _ (retInt 0xFCA86420) _ _ s
 refine wpAny_ret_mkInt ?_
 exact JW h
mutual
theorem Al:∀(n:Nat) (d:PyData) {A:Around} {E:Z3} {s:Shared} {v:Value} {Q:Int->Shared->Prop},nest n d=true->hZ s.heap d v->A.units+n < cLine->Q (gp d) {s with toks:=s.toks+wN d}->wpAny (!3) A (pyHash v) Q E s
 | n,.int i,A,E,s,v,Q,_,x,_,h=>by
  simp only[hZ] at x;obtain⟨t,rfl⟩:=x
  exact(intKind prog w).pyHash (k:=i) (by simp[intKind,Value.isInt]) h
 | n,.none,A,E,s,v,Q,_,x,hu,h=>by
  simp only[hZ] at x;subst x
  exact Bn (!1) h
 | n+1,.tuple ds,A,E,s,v,Q,hn,x,hu,h=>by
  rw[nest] at hn
  simp only[hZ] at x
  obtain⟨a,o,items,m,rfl,ho,hc,hd,hi⟩:=x
  have hT:s.TypeIs (.ref a) "tuple":=⟨o,ho,hc⟩
  unfold pyHash;unfold pyHashByItsType
  refine JZ (wpAny_cRoomFor_or (.inr (!1)) ?_);refine JZ (Z4 hT F.slot_tuple_hash.lookup ?_)
  rw[JV (by rw[beq_builtin_none];decide)]
  refine JZ (Z4 hT F.slot_tuple_hash.lookup ?_)
  show wpAny (!3) A (callSpecialIfBoundUnlessNone? (.ref a) "__hash__" _ >>=_) Q E s
  refine JZ (wpAny_callSpecialIfBoundUnlessNone?_slot hT F.slot_tuple_hash (Z6 F.slot_tuple_hash hT F.entry_tuple_hash ?_ (F.args_tuple_hash_1 _)))
  show wpAny (!3) A.in1 (Builtin.Tuple.tupleItemsOf (.ref a) >>=_) _ _ s
  refine JZ (wpAny_tupleItemsOf ho hd ?_);refine JZ ?_
  rw[←Array.forIn_toList]
  refine tK n ds #[] hn hi (by show A.units+1+n < cLine;omega) λb hb=> ?_
  rw[Yv] at hb
  show wpAny (!3) A.in1 (retInt (Builtin.Tuple.tupleHashOf b.toList)) _ _ _
  rw[hb]
  refine wpAny_ret_mkInt ?_
  simp only[gp,reduceHash,wN] at h
  show wpAny (!3) A (if (decide (-(2:Int)^63<=Builtin.Tuple.tupleHashOf (jZ ds)) && decide (Builtin.Tuple.tupleHashOf (jZ ds) < 2^63))=true then _ else _) Q E _
  by_cases hr:(decide (-(2:Int)^63<=Builtin.Tuple.tupleHashOf (jZ ds)) && decide (Builtin.Tuple.tupleHashOf (jZ ds) < 2^63))=true
  ·rw[JQ hr];rw[JQ hr] at h
   exact JW (by simpa [Nat.add_assoc] using h)
  ·rw[JV hr];rw[JV hr] at h
   exact JZ (wpAny_rule (JW (by simpa [Nat.add_assoc] using h)))
 | 0,.tuple _,_,_,_,_,_,hn,_,_,_=>by simp[nest] at hn
 | n,.bool _,_,_,_,_,_,hn,_,_,_=>by cases n <;> simp[nest] at hn
 | n,.str _,_,_,_,_,_,hn,_,_,_=>by cases n <;> simp[nest] at hn
 | n,.list _,_,_,_,_,_,hn,_,_,_=>by cases n <;> simp[nest] at hn
 | n,.dict _,_,_,_,_,_,hn,_,_,_=>by cases n <;> simp[nest] at hn
theorem tK:∀(n:Nat) (ds:List PyData) {A:Around} {E:Z3} {s:Shared} {vs:List Value} {Q:Array Int->Shared->Prop} (b0:Array Int),nests n ds=true->ij s.heap ds vs->A.units+n < cLine->
  (∀b:Array Int,b.toList=b0.toList++jZ ds->Q b {s with toks:=s.toks+u7 ds})->
  wpAny (!3) A (forIn vs b0 λx r=>do let y←pyHash x;pure (ForInStep.yield (r.push y))) Q E s
 | _,[],A,E,s,vs,Q,b0,_,x,_,h=>by
  simp only[ij] at x;subst x
  rw[List.forIn_nil]
  exact JW (h b0 (by simp[jZ]))
 | n,d :: ds,A,E,s,vs,Q,b0,hn,x,hu,h=>by
  simp only[ij] at x
  obtain⟨v,r,rfl,h1,h2⟩:=x
  rw[nests,X7] at hn
  rw[Jw]
  refine JZ (JZ (Al n d hn.1 h1 hu (JW ?_)))
  refine tK n ds (s:={s with toks:=s.toks+wN d}) (b0.push (gp d)) hn.2 h2 hu λb hb=> ?_
  have:=h b (by rw[hb];simp[jZ])
  simpa [u7,Nat.add_assoc] using this
end
mutual
theorem wO:∀(n:Nat) (d:PyData) {A:Around} {E:Z3} {s:Shared} {v:Value} {Q:Bool->Shared->Prop},nest n d=true->hZ s.heap d v->Q true s->wpAny (!3) A (eqIsQuiet n v) Q E s
 | n,.int i,A,E,s,v,Q,_,x,h=>by
  simp only[hZ] at x;obtain⟨t,rfl⟩:=x
  rw[eqIsQuiet_byValue n rfl];exact JW h
 | n,.none,A,E,s,v,Q,_,x,h=>by
  simp only[hZ] at x;subst x
  rw[eqIsQuiet_byValue n rfl];exact JW h
 | n+1,.tuple ds,A,E,s,v,Q,hn,x,h=>by
  rw[nest] at hn
  simp only[hZ] at x
  obtain⟨a,o,items,m,rfl,ho,hc,hd,hi⟩:=x
  have hT:s.TypeIs (.ref a) "tuple":=⟨o,ho,hc⟩
  unfold eqIsQuiet
  refine JZ (Z4 hT F.slot_tuple_eq.lookup ?_);dsimp only
  refine JZ (wpAny_isInstance hT isSubtype_tuple_tuple ?_)
  simp only[Bool.not_true,XZ,if_false]
  refine JZ (wpAny_seqItems ho hd ?_);refine JZ ?_
  show wpAny (!3) A (forIn items _ _) _ E s
  rw[←Array.forIn_toList]
  exact tM n ds hn hi (JW h)
 | 0,.tuple _,_,_,_,_,_,hn,_,_=>by simp[nest] at hn
 | n,.bool _,_,_,_,_,_,hn,_,_=>by cases n <;> simp[nest] at hn
 | n,.str _,_,_,_,_,_,hn,_,_=>by cases n <;> simp[nest] at hn
 | n,.list _,_,_,_,_,_,hn,_,_=>by cases n <;> simp[nest] at hn
 | n,.dict _,_,_,_,_,_,hn,_,_=>by cases n <;> simp[nest] at hn
theorem tM:∀(n:Nat) (ds:List PyData) {A:Around} {E:Z3} {s:Shared} {vs:List Value} {Q:Option Bool×PUnit->Shared->Prop},nests n ds=true->ij s.heap ds vs->Q (none,PUnit.unit) s->
  wpAny (!3) A (forIn vs ((none,PUnit.unit):Option Bool×PUnit) λx r=>do let y←eqIsQuiet n x;if (!y)=true then pure (ForInStep.done (some false,PUnit.unit)) else pure (ForInStep.yield (none,PUnit.unit))) Q E s
 | _,[],A,E,s,vs,Q,_,x,h=>by
  simp only[ij] at x;subst x
  rw[List.forIn_nil]
  exact JW h
 | n,d :: ds,A,E,s,vs,Q,hn,x,h=>by
  simp only[ij] at x
  obtain⟨v,r,rfl,h1,h2⟩:=x
  rw[nests,X7] at hn
  rw[Jw]
  refine JZ (JZ (wO n d hn.1 h1 ?_))
  simp only[Bool.not_true,XZ,if_false]
  exact JW (tM n ds hn.2 h2 h)
end
end
section
variable {K:Type}[DecidableEq K]{knd:HeapKind prog w K}{s:Shared}
theorem N4 (hu:knd.room A)(hkey:knd.is s.heap k a)(hm:s.heap.DictOfH knd d xs)(hsz:xs.length<=sizeLine)
  (hQ:∀h',h'.DictOfH knd d (storedH xs k a v)->Heap.SameBut d s.heap h'->Q () {s with heap:=h'}):wpAny (!3) A (dictSetHashed d (.ref a) (knd.hash k) v) Q E s:=by
 obtain⟨o,es,ep,ho,hc,hd,he,his,hn⟩:=hm
 have hes:es.size<=sizeLine:=by rw[size_of_entries he];exact hsz
 unfold dictSetHashed
 refine Z7 ?_
 refine JZ (wpAny_dictFind_heap hu hkey ho hd he his hn (λhno=> ?_) λj p hj=> ?_)
 ·have h1:=storedH_new (atKey_none_of_get hno) a v
  refine JZ (wpAny_rule (wpAny_updateDictKeys (hz:=hes) ho hd (hQ _ ⟨_,_,ep+1,XY _ ho (Obj.isFreed_of_dict (Obj.data_mapDictKeys hd _)),hc.mapDictKeys _,Obj.data_mapDictKeys hd _,?_,λx hx=> ?_,?_⟩ (Heap.SameBut.update ..))))
  ·rw[h1];simp[he,entryOfKey]
  ·rw[h1] at hx
   rcases Kk.mp hx with hx | hx
   ·exact knd.keeps (his x hx) ho hd (Heap.SameBut.update ..)
   ·rw[K5.mp hx];exact knd.keeps hkey ho hd (Heap.SameBut.update ..)
  ·rw[h1,X0,XX]
   refine⟨hn,KJ.mpr ⟨by simp,X2⟩,λx hx y hy e=>not_mem_keys_of_get hno ?_⟩
   have hy':y=k:=by simpa using hy
   rw[←hy',←e];exact hx
 ·have h1:=storedH_old (atKey_of_get hn hj) a v
  refine JZ (wpAny_rule (JZ (wpAny_updateDict ho hd (wpAny_point (hQ _ ⟨_,_,ep,XY _ ho (Obj.isFreed_of_dict (Obj.data_mapDict hd _)),hc.mapDict _,Obj.data_mapDict hd _,?_,λx hx=> ?_,?_⟩ (Heap.SameBut.update ..))))))
  ·rw[h1]
   have:=modify_map_putAt (entryOfKey knd) (λe:DictEntry=>{e with val:=v}) k v (λ_ _=>rfl) hn hj
   rw[←he] at this;obtain⟨l⟩:=es;simpa using this
  ·rw[h1] at hx
   obtain⟨y,hy,rfl⟩:=Kv.mp hx
   unfold putAt;split <;> exact knd.keeps (his y hy) ho hd (Heap.SameBut.update ..)
  ·rw[h1,keys_map_putAt];exact hn
noncomputable def fQ (xs more:List (K×Addr×Value)):List (K×Addr×Value):=more.foldl (λacc x=>storedH acc x.1 x.2.1 x.2.2) xs
theorem wQ (xs:List (K×Addr×Value))(k:K)(a:Addr)(v:Value):(storedH xs k a v).length<=xs.length+1:=by
 unfold storedH;split
 ·rw[K6];omega
 ·rw[K2,X4];exact K1 _
theorem o0:∀(more xs:List (K×Addr×Value)),(fQ xs more).length<=xs.length+more.length
 | [],xs=>K1 _
 | x :: more,xs=>by
  have h1:=o0 more (storedH xs x.1 x.2.1 x.2.2)
  have h2:=wQ xs x.1 x.2.1 x.2.2
  show(fQ (storedH xs x.1 x.2.1 x.2.2) more).length<=_
  rw[Kj];omega
theorem u9 {xs more:List (K×Addr×Value)}{x:K×Addr×Value}(h:more[i]? =some x):fQ xs (more.take (i+1))=storedH (fQ xs (more.take i)) x.1 x.2.1 x.2.2:=by
 unfold fQ;rw[J7,h,List.foldl_append];rfl
theorem Ji (hu:knd.room A)(hdo:d≠o)(hoS:(o==sysModules)=false)(hx0:xs≠[])
  (hd:s.heap.DictOfH knd d xs) (ho:s.heap.DictOfH knd o more) (hsz:xs.length+more.length<=sizeLine)
  (hQ:∀h',h'.DictOfH knd d (fQ xs more)->Heap.SameBut d s.heap h'->Q () {s with heap:=h'}):wpAny (!3) A (Builtin.Dict.mergeDict nm d o) Q E s:=by
 obtain⟨od,esd,epd,hod,hcd,hdd,hed,N5,hnd⟩:=id hd
 obtain⟨oo,eso,epo,hoo,hco,hdo',heo,Jl,hno⟩:=id ho
 have hlen:eso.size=more.length:=size_of_entries heo
 unfold Builtin.Dict.mergeDict
 rw[JV (by simpa using hdo)]
 unfold Builtin.Dict.showsAll
 rw[JV (by rw[hoS];exact K4)]
 refine JZ (JW ?_);refine JZ (wpAny_dictEntries hoo hdo' ?_)
 have loop:wpAny (!3) A (do
   let epoch←dictEpoch o;let l←dictEntries o
   forIn [:l.size] PUnit.unit λi (_:PUnit)=>(do
     let l'←dictEntries o
     match l'[i]? with
      | some e=>do
       holding [e.key,e.val] (dictSetHashed d e.key e.hash e.val)
       let ep'←dictEpoch o
       if (
         ep' !=epoch)=true then do
         (unsupported (toString nm++toString ":source-changed-during-callback"):Sem PUnit);pure (ForInStep.yield PUnit.unit)
        else pure (ForInStep.yield PUnit.unit)
      | _=>do
       (unsupported "internal:dict-merge":Sem PUnit);pure (ForInStep.yield PUnit.unit):Sem (ForInStep PUnit))
   pure ()) Q E s:=by
  refine JZ (wpAny_dictEpoch hoo hdo' ?_);refine JZ (wpAny_dictEntries hoo hdo' ?_);refine JZ ?_
  rw[Std.Legacy.Range.forIn_eq_forIn_range'];simp only[Std.Legacy.Range.size,Nat.sub_zero,Nat.add_sub_cancel,Nat.div_one]
  refine wpAny_forIn_list _ (λrest _ s'=>∃h' i,s'={s with heap:=h'}/\rest=List.range' i (eso.size - i)/\i<=eso.size/\h'.DictOfH knd d (fQ xs (more.take i))/\h'.get? o=some oo/\Heap.SameBut d s.heap h')
   _ ?_ ?_ _ _ ⟨s.heap,0,rfl,by simp,Xw _,by simpa [fQ] using hd,hoo,Heap.SameBut.refl _ _⟩
  ·rintro x rest b s' ⟨h',i,rfl,hr,hi,hd',hoo',hs'⟩
   have hlt:i < eso.size:=Nat.lt_of_not_le λh=>by rw[Nat.sub_eq_zero_of_le h] at hr;simp at hr
   obtain⟨rfl,hrest⟩:x=i/\rest=List.range' (i+1) (eso.size - (i+1)):=by
    rw[show eso.size - i=(eso.size - (i+1))+1 by omega,List.range'_succ] at hr;injection hr with h1 h2;exact⟨h1,h2⟩
   refine JZ (wpAny_dictEntries hoo' hdo' ?_)
   have OY:x < more.length:=by omega
   have hkv:more[x]? =some more[x]:=K3 OY
   have hen:eso[x]? =some (entryOfKey knd more[x]):=by rw[entry_at heo x,hkv];rfl
   rw[hen]
   have hmx:(fQ xs (more.take x)).length<=sizeLine:=by
    have e1:=o0 (more.take x) xs
    rw[Xx] at e1;omega
   have hkx:knd.is h' more[x].1 more[x].2.1:=knd.keeps (Jl _ (UU OY)) hod hdd hs'
   refine JZ (Z7 (N4 (s:={s with heap:=h'}) hu hkx hd' hmx λh'' hd'' hs''=> ?_))
   have hoo'':h''.get? o=some oo:=(hs''.2 o (Ne.symm hdo)).trans hoo'
   refine JZ (wpAny_dictEpoch hoo'' hdo' ?_)
   rw[JV (by simp)]
   exact JW ⟨h'',x+1,rfl,hrest,hlt,by rw[u9 hkv];exact hd'',hoo'',hs'.trans hs''⟩
  ·rintro b s' ⟨h',i,rfl,hr,hi,hd',hoo',hs'⟩
   have hin:i=eso.size:=Jz hi (Nat.le_of_not_lt λh=>by
    rw[show eso.size - i=(eso.size - (i+1))+1 by omega,List.range'_succ] at hr;exact nomatch hr)
   refine JW (hQ h' ?_ hs')
   rw[hin,hlen,J3] at hd';exact hd'
 dsimp only
 split
 ·refine JZ (wpAny_dictEntries hod hdd ?_)
  split
  ·rename_i hemp
   have h0:esd= #[]:=Array.isEmpty_iff.mp hemp
   rw[h0] at hed
   exact absurd (by simpa using hed) hx0
  ·exact loop
 ·exact loop
theorem qB {α:Type}(f:α->Int)(c:Int):∀(l:List α),(l.map f).Nodup->(l.filter λx=>f x==c).length<=1
 | [],_=>Xw _
 | x :: l,h=>by
  rw[KQ,KJ] at h
  rw[Y4]
  by_cases hx:(f x==c)=true
  ·rw[JQ hx,Kj]
   have:l.filter (λx=>f x==c)=[]:=List.filter_eq_nil_iff.mpr λy hy hz=>h.1 (by
    rw[eq_of_beq hx,←eq_of_beq hz];exact Yw hy)
   rw[this];exact K1 _
  ·rw[JV hx];exact qB f c l h.2
theorem Mc (hdo:d≠o)(hoS:(o==sysModules)=false)(hm0:more≠[])
  (hT:∀x∈more,s.TypeIs (.ref x.2.1) "tuple") (hh:(more.map λx=>knd.hash x.1).Nodup)
  (hd:s.heap.DictOfH knd d []) (ho:s.heap.DictOfH knd o more) (hsz:more.length<=sizeLine)
  (hQ:∀h',h'.DictOfH knd d more->Heap.SameBut d s.heap h'->Q () {s with heap:=h'}):wpAny (!3) A (Builtin.Dict.mergeDict nm d o) Q E s:=by
 obtain⟨od,esd,epd,hod,hcd,hdd,hed,N5,hnd⟩:=id hd
 obtain⟨oo,eso,epo,hoo,hco,hdo',heo,Jl,hno⟩:=id ho
 have hlen:eso.size=more.length:=size_of_entries heo
 have h0:esd= #[]:=by obtain⟨l⟩:=esd;simpa using hed
 subst h0
 unfold Builtin.Dict.mergeDict
 rw[JV (by simpa using hdo)]
 unfold Builtin.Dict.showsAll
 rw[JV (by rw[hoS];exact K4)]
 refine JZ (JW ?_);refine JZ (wpAny_dictEntries hoo hdo' ?_)
 have few:(eso.all λe=>(keyPart e.key).isSome)=false:=by
  obtain⟨x,r,rfl⟩:=List.exists_cons_of_ne_nil hm0
  obtain⟨l⟩:=eso
  simp only at heo
  subst heo
  simp[entryOfKey,keyPart]
 dsimp only
 rw[few]
 simp only[Bool.and_false,Bool.not_false,if_true]
 refine JZ (wpAny_dictEntries hod hdd ?_)
 rw[JQ (show(#[]:Array DictEntry).isEmpty=true from rfl)]
 refine JZ ?_
 unfold Builtin.Dict.entriesForEmpty
 refine JZ (wpAny_dictEntries hoo hdo' ?_);refine JZ ?_
 rw[←Array.forIn_toList]
 refine wpAny_forIn_list _ (λrest _ s'=>s'=s/\∀e∈rest,e∈eso.toList) _ ?_ ?_ _ _ ⟨rfl,λe he=>he⟩
 ·rintro e rest b s' ⟨rfl,hr⟩
  obtain⟨x,hx,rfl⟩:∃x∈more,entryOfKey knd x=e:=by
   have:=hr e K7
   rw[heo] at this
   obtain⟨x,hx,he⟩:=Kv.mp this
   exact⟨x,hx,he⟩
  have hT1:=hT x hx
  have hone:¬ (eso.filter λy=>y.hash==(entryOfKey knd x).hash).size > 1:=by
   have e1:(eso.toList.map DictEntry.hash).Nodup:=by rw[heo,KZ];exact hh
   have:=qB DictEntry.hash (entryOfKey knd x).hash eso.toList e1
   rw[←KY,Array.toList_filter];omega
  unfold Builtin.Dict.quietEq
  refine JZ ?_
  show wpAny (!3) A (specialOf (.ref x.2.1) "__eq__" >>=_) _ E _
  refine JZ (Z4 hT1 F.slot_tuple_eq.lookup (JW ?_))
  rw[show((some (Value.builtin "tuple.__eq__")==some (Value.builtin "object.__eq__"))=false) by decide]
  simp only[Bool.not_false,if_true]
  rw[JV hone]
  exact JW ⟨rfl,λe he=>hr e (K9 _ he)⟩
 ·rintro b s' ⟨rfl,_⟩
  refine JW ?_
  have hne:eso.isEmpty=false:=by
   cases hz:eso.isEmpty with
   | false=>rfl
   | true=>rw[Array.isEmpty_iff.mp hz] at hlen;exact absurd (YX.mp hlen.symm) hm0
  rw[hne]
  simp only[Bool.not_false,if_true]
  refine JZ (wpAny_updateDictKeysTo hod hdd (JW (hQ _ ⟨_,_,epd+1,XY _ hod (Obj.isFreed_of_dict (Obj.data_mapDictKeys hdd _)),hcd.mapDictKeys _,Obj.data_mapDictKeys hdd _,heo,λx hx=>knd.keeps (Jl x hx) hod hdd (Heap.SameBut.update ..),hno⟩ (Heap.SameBut.update ..))) (!1))
end
mutual
theorem hZ.keep (k:∀b o items n,h.get? b=some o->o.data= .seq items n->h'.get? b=some o):∀(d:PyData) (v:Value),hZ h d v->hZ h' d v
 | .int i,v,x=>by simp only[hZ] at x⊢;exact x
 | .none,v,x=>by simp only[hZ] at x⊢;exact x
 | .tuple ds,v,x=>by
  simp only[hZ] at x⊢
  obtain⟨a,o,items,n,rfl,h1,h2,h3,h4⟩:=x
  exact⟨a,o,items,n,rfl,k a o items n h1 h3,h2,h3,ij.keep k ds _ h4⟩
 | .bool _,v,x=>by simp only[hZ] at x
 | .str _,v,x=>by simp only[hZ] at x
 | .list _,v,x=>by simp only[hZ] at x
 | .dict _,v,x=>by simp only[hZ] at x
theorem ij.keep (k:∀b o items n,h.get? b=some o->o.data= .seq items n->h'.get? b=some o):∀(ds:List PyData) (vs:List Value),ij h ds vs->ij h' ds vs
 | [],vs,x=>by simp only[ij] at x⊢;exact x
 | d :: ds,vs,x=>by
  simp only[ij] at x⊢
  obtain⟨v,r,rfl,h1,h2⟩:=x
  exact⟨v,r,rfl,hZ.keep k d v h1,ij.keep k ds r h2⟩
end
def NK:={ds:List PyData // nests 7 ds=true}
noncomputable instance:DecidableEq NK:=λ_ _=>Classical.propDecidable _
def NK.d (k:NK):PyData:=.tuple k.1
theorem NK.n (k:NK):nest 8 k.d=true:=by rw[NK.d,nest];exact k.2
theorem NK.inj {x y:NK}(h:x.d=y.d):x=y:=Subtype.ext (PyData.tuple.inj h)
noncomputable def bG (prog:Program)(w:World):HeapKind prog w NK where
 is:=λh k a=>hZ h k.d (.ref a)
 hash:=λk=>gp k.d
 draws:=λk=>wN k.d
 room:=λA=>A.units+10 < cLine
 inj:=λ{h a x y} hx hy=>NK.inj (SeqAt.Reads.unique _ _ _ _ _ (jI 8 _ x.n) (hZ.reads _ _ hx) (hZ.reads _ _ hy))
 keeps:=λ{h h' k a d o es ep} x ho hd hs=>hZ.keep (λb ob items n hb hdb=>(hs.2 b λe=>by subst e;rw[ho] at hb;cases hb;rw[hd] at hdb;cases hdb).trans hb) _ _ x
 pyHash:=λ{A E s k a Q} hu x h=>Al 8 k.d k.n x (!1) h
 eqBool:=λ{A E s x y a b Q} hu hx hy h=>by
  have h1:=SeqAt.eqAt_reads x.d y.d A s (.ref a) (.ref b) [] [] (hZ.reads _ _ hx) (hZ.reads _ _ hy) (jI 8 _ x.n) (jI 8 _ y.n) (by
   have:=qz 8 _ x.n
   have:min x.d.depth y.d.depth<=9:=Kz (Nat.min_le_left _ _) this
   omega)
  refine h1 prog w E Q ?_
  have e:PyData.eqv x.d y.d=decide (x=y):=by
   rw[YK,JJ]
   refine⟨λz=>NK.inj (qA 8 _ _ x.n y.n z),λz=> ?_⟩
   rw[z];exact SeqAt.eqv_refl _ (jI 8 _ y.n)
  rw[e];exact h
 quiet:=λ{A E s k a Q} x h=>wO 8 k.d k.n x h
section
variable {K:Type}[DecidableEq K]{knd:HeapKind prog w K}{A:Around}{s:Shared}
theorem u_ {h h':Heap}(hm:h.DictOfH knd d xs)(k:∀b o,h.get? b=some o->h'.get? b=some o)(hi:∀x∈xs,knd.is h' x.1 x.2.1):h'.DictOfH knd d xs:=by
 obtain⟨o,es,ep,ho,hc,hd,he,his,hn⟩:=hm
 exact⟨o,es,ep,k _ _ ho,hc,hd,he,hi,hn⟩
theorem Md (hoS:(o==sysModules)=false)(ho:s.heap.DictOfH knd o more)(hm0:more≠[])(hsz:more.length<=sizeLine)
  (hT:∀x∈more,s.TypeIs (.ref x.2.1) "tuple") (hh:(more.map λx=>knd.hash x.1).Nodup)
  (hi:∀x∈more,knd.is (s.heap.push {cls:=.type "dict",data:=.dict #[]}) x.1 x.2.1)
  (h:∀h',h'.DictOfH knd s.heap.objs.size more->Heap.SameBut s.heap.objs.size (s.heap.push {cls:=.type "dict",data:=.dict #[]}) h'->Q (!6) {s with heap:=h'}) :
  wpAny (!3) A (call (.type "dict") [.ref o]) Q E s:=by
 refine callType_codes (Q₁:=λobj s₁=>obj= .ref s.heap.objs.size/\s₁={s with heap:=s.heap.push {cls:=.type "dict",data:=.dict #[]}}) F.kt_called_dict (F.kt_typeCall_dict_1 _) F.entry_dict_init (kt_code_dict_new _ ⟨rfl,rfl⟩) λobj s₁ hs₁=> ?_
 obtain⟨rfl,rfl⟩:=hs₁
 have hk:∀b u,s.heap.get? b=some u->(s.heap.push {cls:=.type "dict",data:=.dict #[]}).get? b=some u:=λb u e=>K8 _ e
 have hnew:(s.heap.push {cls:=.type "dict",data:=.dict #[]}).DictOfH knd s.heap.objs.size []:=Heap.DictOfH.new s.heap
 have ho':=u_ ho hk hi
 have hdo:s.heap.objs.size≠o:=by
  obtain⟨_,_,_,hg,_⟩:=ho
  exact λe=>absurd (Kq hg) (by rw[e];exact U2 _)
 have hT1:Shared.TypeIs {s with heap:=s.heap.push {cls:=.type "dict",data:=.dict #[]}} (!6) "dict":=hnew.typeIs (s:={s with heap:=s.heap.push {cls:=.type "dict",data:=.dict #[]}})
 have hT2:Shared.TypeIs {s with heap:=s.heap.push {cls:=.type "dict",data:=.dict #[]}} (.ref o) "dict":=ho'.typeIs (s:={s with heap:=s.heap.push {cls:=.type "dict",data:=.dict #[]}})
 refine⟨hT1,F.args_dict_init_2 _ _,?_⟩
 unfold Builtin.«dict.__init__»;refine JZ ?_
 unfold Builtin.Dict.selfAndRest;refine JZ (wpAny_notOrdered_dict hT1 ?_)
 show wpAny (!3) _ (pure (s.heap.objs.size,[Value.ref o])) _ _ _;refine JW ?_
 show wpAny (!3) _ (Builtin.Dict.updateFrom "dict.__init__" s.heap.objs.size (.ref o) [] .none) _ _ _;unfold Builtin.Dict.updateFrom
 refine JZ (wpAny_typeOf hT2 ?_);rw[JV (!8)]
 refine JZ ?_;unfold Builtin.Dict.merge;refine JZ ?_;unfold Builtin.Dict.readDirectly
 refine JZ (wpAny_isInstance hT2 isSubtype_dict_dict ?_);simp only[Bool.not_true,XZ,if_false]
 refine JZ (Z4 hT2 F.slot_dict_iter.lookup (JW ?_));simp only[beq_self_eq_true,if_true];refine JZ (JW ?_)
 refine Mc (s:={s with heap:=s.heap.push {cls:=.type "dict",data:=.dict #[]}}) hdo hoS hm0 (λx hx=>let ⟨ob,e,c⟩:=hT x hx;⟨ob,hk _ _ e,c⟩) hh hnew ho' hsz λh' hd' hs'=> ?_
 show wpAny (!3) _ (Builtin.Dict.addKeywords s.heap.objs.size [] >>=_) _ _ _
 exact JZ (JW (JW ⟨rfl,h h' hd' hs'⟩))
theorem FE (d o:Addr)(hdo:d≠o)(hoS:(o==sysModules)=false) :
  MeetsIn prog w (Builtin.«dict.update» ⟨[.ref d,.ref o],[]⟩) (λA R s=>knd.room A.in1/\∃xs more,xs≠[]/\s.heap.DictOfH knd d xs/\s.heap.DictOfH knd o more/\xs.length+more.length<=sizeLine/\
   ∀h',h'.DictOfH knd d (fQ xs more)->Heap.SameBut d s.heap h'->R (.ok (.ret .none)) {s with heap:=h'}) :=
 .of_wp λA R s ⟨hu,xs,more,hx0,hd,ho,hsz,h⟩=>by
  unfold Builtin.«dict.update»;refine JZ ?_
  unfold Builtin.Dict.selfAndRest;refine JZ (wpAny_notOrdered_dict hd.typeIs ?_)
  show wpAny (!3) _ (pure (d,[Value.ref o])) _ _ s;refine JW ?_
  show wpAny (!3) _ (Builtin.Dict.updateFrom "dict.update" d (.ref o) [] .none) _ _ s;unfold Builtin.Dict.updateFrom
  refine JZ (wpAny_typeOf ho.typeIs ?_);rw[JV (!8)]
  refine JZ ?_;unfold Builtin.Dict.merge;refine JZ ?_;unfold Builtin.Dict.readDirectly
  refine JZ (wpAny_isInstance ho.typeIs isSubtype_dict_dict ?_);simp only[Bool.not_true,XZ,if_false]
  refine JZ (Z4 ho.typeIs F.slot_dict_iter.lookup (JW ?_));simp only[beq_self_eq_true,if_true];refine JZ (JW ?_)
  refine Ji hu hdo hoS hx0 hd ho hsz λh' hd' hs'=> ?_
  show wpAny (!3) _ (Builtin.Dict.addKeywords d [] >>=_) _ _ _
  exact JZ (JW (JW ⟨.none,rfl,h h' hd' hs'⟩))
end
end L2
namespace L2
open PySem PySem.Spec PyProof.Rows Y
section
variable {X:Cx}{s:Shared}
mutual
theorem aM.C7 (I:Inv X pins σ H s):∀(n:Nat) (d:PyData) (v:V) (u:Value),nest n d=true->aM X.K H d v->RelV v u->hZ s.heap d u
 | n,.int i,v,u,_,h,r=>by
  have:=aE h
  subst this
  obtain⟨t,rfl⟩:=r
  simp only[hZ];exact⟨t,rfl⟩
 | n,.none,v,u,_,h,r=>by
  have:=ml h
  subst this
  cases r
  simp only[hZ]
 | n+1,.tuple ds,v,u,hn,h,r=>by
  rw[Y.nest] at hn
  obtain⟨a,vs,rfl,h1,h2⟩:=aJ h
  cases r
  obtain⟨its,rv,⟨o,e,hc,m,hd⟩,_⟩:=I.tuple h1
  simp only[hZ]
  exact⟨a,o,its.toArray,m,rfl,e,hc,hd,by simpa using ay.C7 I n ds vs its hn h2 rv⟩
 | 0,.tuple _,_,_,hn,_,_=>by simp[Y.nest] at hn
 | n,.bool _,_,_,hn,_,_=>by cases n <;> simp[Y.nest] at hn
 | n,.str _,_,_,hn,_,_=>by cases n <;> simp[Y.nest] at hn
 | n,.list _,_,_,hn,_,_=>by cases n <;> simp[Y.nest] at hn
 | n,.dict _,_,_,hn,_,_=>by cases n <;> simp[Y.nest] at hn
theorem ay.C7 (I:Inv X pins σ H s):∀(n:Nat) (ds:List PyData) (vs:List V) (us:List Value),nests n ds=true->ay X.K H ds vs->Vals vs us->ij s.heap ds us
 | n,[],vs,us,_,h,r=>by
  simp only[ay] at h;subst h;cases r;simp only[ij]
 | n,d :: ds,vs,us,hn,h,r=>by
  rw[nests,X7] at hn
  simp only[ay] at h
  obtain⟨v,w,rfl,h1,h2⟩:=h
  cases r with
  | cons r1 r2=>
   simp only[ij]
   exact⟨_,_,rfl,aM.C7 I n d v _ hn.1 h1 r1,ay.C7 I n ds w _ hn.2 h2 r2⟩
end
end
section
variable {K:Frag}{H:Hp}
theorem iC:∀{kvs:List (PyData×PyData)} {ks:List (!9)},aV K H kvs ks->ks.map (·.1)=kvs.map (·.1)
 | [],ks,t=>by simp only[aV] at t;subst t;rfl
 | (k,d) :: r,ks,t=>by
  simp only[aV] at t
  obtain⟨kv,v,q,rfl,_,_,h3⟩:=t
  rw[KQ,KQ,iC h3]
end
theorem m5 (h:dy k=true):∃ds,k= .tuple ds/\nests 7 ds=true:=by
 cases k <;> first | exact⟨_,rfl,h⟩ | exact absurd h (by simp[dy])
mutual
theorem C8:∀(n:Nat) (d:PyData),nest n d=true->br d=true
 | _,.int _,_=>rfl
 | _,.none,_=>rfl
 | n+1,.tuple ds,x=>by rw[Y.nest] at x;rw[br];exact ou n ds x
 | 0,.tuple _,x=>by simp[Y.nest] at x
 | n,.bool _,x=>by cases n <;> simp[Y.nest] at x
 | n,.str _,x=>by cases n <;> simp[Y.nest] at x
 | n,.list _,x=>by cases n <;> simp[Y.nest] at x
 | n,.dict _,x=>by cases n <;> simp[Y.nest] at x
theorem ou:∀(n:Nat) (ds:List PyData),nests n ds=true->ar ds=true
 | _,[],_=>rfl
 | n,d :: ds,x=>by
  rw[nests,X7] at x
  rw[ar,C8 n d x.1,ou n ds x.2];rfl
end
theorem m6 (h:dy k=true):br k=true:=by
 obtain⟨ds,rfl,h⟩:=m5 h
 rw[br];exact ou 7 ds h
theorem yS (x y:NK):PyData.eqv x.d y.d=decide (x=y):=by
 rw[YK,JJ]
 refine⟨λz=>NK.inj (qA 8 _ _ x.n y.n z),λz=> ?_⟩
 rw[z];exact SeqAt.eqv_refl _ (jI 8 _ y.n)
def Rk (q:PyData×V×V)(x:NK×Addr×Value):Prop:=q.1=x.1.d/\q.2.1= .ref x.2.1/\RelV q.2.2 x.2.2
theorem va:∀{ks:List (!9)} {xs:List (NK×Addr×Value)},Paired Rk ks xs->ks.map (·.1)=xs.map (·.1.d)
 | _,_,.nil=>rfl
 | _,_,.cons r t=>by rw[KQ,KQ,r.1,va t]
theorem Paired.len {α β:Type}{F:α->β->Prop}:∀{l:List α} {m:List β},Paired F l m->l.length=m.length
 | _,_,.nil=>rfl
 | _,_,.cons _ t=>by rw[Kj,Kj,Paired.len t]
theorem wR (p:Paired Rk ks xs):(ks.map (·.1)).Nodup↔(xs.map (·.1)).Nodup:=by
 rw[va p]
 have e:xs.map (·.1.d)=(xs.map (·.1)).map NK.d:=by rw[KZ];rfl
 rw[e]
 exact⟨λh=>List.Pairwise.of_map _ (λa b hab e=>hab (by rw[e])) h,λh=>List.Pairwise.map _ (λa b hab e=>hab (NK.inj e)) h⟩
section
variable {X:Cx}{s:Shared}
theorem C9 (I:Inv X pins σ H s):∀{kvs:List (PyData×PyData)} {ks:List (!9)} {es:List DictEntry},aV X.K H kvs ks->(∀k∈ks,dy k.1=true)->
  Paired (λ(k:PyData×V×V) (e:DictEntry)=>e.hash=gp k.1/\RelV k.2.1 e.key/\RelV k.2.2 e.val) ks es->
  ∃xs,Paired Rk ks xs/\es=xs.map (entryOfKey (bG X.prog X.w))/\∀x∈xs,hZ s.heap x.1.d (.ref x.2.1)
 | [],ks,es,t,_,p=>by
  simp only[aV] at t;subst t;cases p
  exact⟨[],.nil,rfl,λx hx=>by cases hx⟩
 | (k,d) :: r,ks,es,t,hk,p=>by
  simp only[aV] at t
  obtain⟨kv,v,q,rfl,h1,h2,h3⟩:=t
  cases p with
  | @cons _ e _ es' hp pt=>
   obtain⟨xs,p1,e1,k1⟩:=C9 I h3 (λx hx=>hk x (K9 _ hx)) pt
   obtain⟨ds,rfl,hn⟩:=m5 (hk _ K7)
   obtain⟨b,vs,rfl,g1,g2⟩:=aJ h1
   obtain⟨eh,ek,ev⟩:=e
   obtain⟨q1,q2,q3⟩:=hp
   cases(show ek=Value.ref b from q2)
   have PH:eh=gp (.tuple ds):=q1
   subst PH
   refine⟨(⟨ds,hn⟩,b,ev) :: xs,.cons ⟨rfl,rfl,q3⟩ p1,by rw[e1];rfl,λx hx=> ?_⟩
   rcases K0.mp hx with rfl | hx
   ·exact aM.C7 I 8 (.tuple ds) (.ref b) (.ref b) (by rw[Y.nest];exact hn) h1 rfl
   ·exact k1 x hx
theorem vb {P:PyData->Bool}(t:aV X.K H kvs ks)(h:(kvs.all λp=>P p.1)=true):∀k∈ks,P k.1=true:=λk hk=>by
 have:k.1∈kvs.map (·.1):=by rw[←iC t];exact Yw hk
 obtain⟨p,hp,e⟩:=Kv.mp this
 rw[←e];exact Uv.mp h p hp
theorem j5 (I:Inv X pins σ H s)(e:Rd H a (.dct a ks))(t:aV X.K H kvs ks.1)(ht:g8 kvs=true) :
  ∃xs,s.heap.DictOfH (bG X.prog X.w) a xs/\Paired Rk ks.1 xs/\(a==sysModules)=false/\ks.1.length<=sizeLine/\∀x∈xs,hZ s.heap x.1.d (.ref x.2.1):=by
 obtain⟨⟨hl,hs,hk,hn,o,es,ho,hc,hd,p⟩,_⟩:=(show d_ X.prog X.w H s.heap a (.dct a ks) from e.ok I.hok)
 obtain⟨xs,p1,e1,k1⟩:=C9 I t (vb t ht) p
 exact⟨xs,⟨o,es,ks.2,ho,hc,hd,e1,k1,(wR p1).mp hn⟩,p1,hs,hl,k1⟩
theorem Inv.big' (I:Inv X pins σ H s):sysModules < s.heap.objs.size:=by
 have h:mainGlobals < s.heap.objs.size:=(I.mod.glob.keeps I.bk).lt
 exact Nat.lt_trans (!8) h
end
theorem j6 :∀{ks:List (!9)} {xs:List (NK×Addr×Value)},ks.length<=sizeLine->(a==sysModules)=false->Paired Rk ks xs->h'.DictOfH (bG P w) a xs->∃ep,qp a (ks,ep) h':=by
 intro ks xs hl hs p dd
 obtain⟨o,es,ep,ho,hc,hd,he,his,hn⟩:=dd
 have key:∀{ks:List (!9)} {xs:List (NK×Addr×Value)},Paired Rk ks xs->(∀k∈ks,dy k.1=true)/\Paired (λ(k:PyData×V×V) (e:DictEntry)=>e.hash=gp k.1/\RelV k.2.1 e.key/\RelV k.2.2 e.val) ks (xs.map (entryOfKey (bG P w))):=by
  intro ks xs p
  induction p with
  | nil=>exact⟨(λk hk=>by cases hk),.nil⟩
  | @cons q x qs xs r t ih=>
   refine⟨λk hk=> ?_,?_⟩
   ·rcases K0.mp hk with rfl | hk
    ·rw[r.1];exact x.1.2
    ·exact ih.1 k hk
   ·exact .cons ⟨by rw[r.1];rfl,by rw[r.2.1];rfl,r.2.2⟩ ih.2
 obtain⟨k1,k2⟩:=key p
 exact⟨ep,hl,hs,.inl k1,(wR p).mpr hn,o,es,ho,hc,hd,by rw[he];exact k2⟩
theorem j7 (h:qp a ks h'):d_ P w H h' a (.dct a ks):=by
 refine⟨h,?_,λh1 h2 q k=> ?_⟩
 ·obtain⟨_,_,_,_,o,_,ho,_⟩:=h;exact⟨o,ho⟩
 ·obtain⟨a1,a2,a3,a4,o,es,ho,r⟩:=q
  exact⟨a1,a2,a3,a4,o,es,k o ho,r⟩
def sF (q:PyData×V×V)(x:Int×Value):Prop:=q.1= .int x.1/\q.2.1= .int x.1/\RelV q.2.2 x.2
theorem wU:∀{ks:List (!9)} {xs:List (Int×Value)},Paired sF ks xs->ks.map (·.1)=xs.map λx=>PyData.int x.1
 | _,_,.nil=>rfl
 | _,_,.cons r t=>by rw[KQ,KQ,r.1,wU t]
theorem tP (p:Paired sF ks xs):(ks.map (·.1)).Nodup↔(xs.map (·.1)).Nodup:=by
 rw[wU p]
 have e:(xs.map λx=>PyData.int x.1)=(xs.map (·.1)).map PyData.int:=by rw[KZ];rfl
 rw[e]
 exact⟨λh=>List.Pairwise.of_map _ (λa b hab e=>hab (by rw[e])) h,λh=>List.Pairwise.map _ (λa b hab e=>hab (PyData.int.inj e)) h⟩
theorem qC (h:yK k=true):∃i,k= .int i:=by
 cases k <;> first | exact⟨_,rfl⟩ | exact absurd h (by simp[yK])
section
variable {X:Cx}{s:Shared}
theorem Am:∀{kvs:List (PyData×PyData)} {ks:List (!9)} {es:List DictEntry},aV X.K H kvs ks->(∀k∈ks,yK k.1=true)->
  Paired (λ(k:PyData×V×V) (e:DictEntry)=>e.hash=gp k.1/\RelV k.2.1 e.key/\RelV k.2.2 e.val) ks es->
  ∃xs,Paired sF ks xs/\Pairs (intKind X.prog X.w) es xs/\∀e∈es,∃k,(intKind X.prog X.w).is k e.key=true/\e.hash=(intKind X.prog X.w).hash k
 | [],ks,es,t,_,p=>by
  simp only[aV] at t;subst t;cases p
  exact⟨[],.nil,.nil,λe he=>by cases he⟩
 | (k,d) :: r,ks,es,t,hk,p=>by
  simp only[aV] at t
  obtain⟨kv,v,q,rfl,h1,h2,h3⟩:=t
  cases p with
  | @cons _ e _ es' hp pt=>
   obtain⟨xs,p1,e1,k1⟩:=Am h3 (λx hx=>hk x (K9 _ hx)) pt
   obtain⟨i,rfl⟩:=qC (hk _ K7)
   have:=aE h1
   subst this
   obtain⟨q1,⟨tk,q2⟩,q3⟩:=hp
   have hi:(intKind X.prog X.w).is i e.key=true:=by rw[q2];simp[intKind,Value.isInt]
   refine⟨(i,e.val) :: xs,.cons ⟨rfl,rfl,q3⟩ p1,.cons hi rfl e1,λx hx=> ?_⟩
   rcases K0.mp hx with z | z
   ·subst z;exact⟨i,hi,q1⟩
   ·exact k1 x z
theorem ja (I:Inv X pins σ H s)(e:Rd H a (.dct a ks))(t:aV X.K H kvs ks.1)(ht:allI kvs=true) :
  ∃xs,s.heap.DictOf (intKind X.prog X.w) a xs/\Paired sF ks.1 xs/\(a==sysModules)=false/\ks.1.length<=sizeLine:=by
 obtain⟨⟨hl,hs,hk,hn,o,es,ho,hc,hd,p⟩,_⟩:=(show d_ X.prog X.w H s.heap a (.dct a ks) from e.ok I.hok)
 obtain⟨xs,p1,e1,k1⟩:=Am t (vb t ht) p
 exact⟨xs,⟨o,es,ks.2,ho,hc,hd,λe he=>k1 e (by simpa using he),e1,(tP p1).mp hn⟩,p1,hs,hl⟩
end
theorem qD (hl:ks.length<=sizeLine)(hs:(a==sysModules)=false)(p:Paired sF ks xs)(dd:h'.DictOf (intKind P w) a xs):∃ep,qp a (ks,ep) h':=by
 obtain⟨o,es,ep,ho,hc,hd,hk,hp,hn⟩:=dd
 have key:∀{ks:List (!9)} {xs:List (Int×Value)} {es:List DictEntry},Paired sF ks xs->Pairs (intKind P w) es xs->(∀e∈es,∃k,(intKind P w).is k e.key=true/\e.hash=(intKind P w).hash k)->
   (∀k∈ks,yK k.1=true)/\Paired (λ(k:PyData×V×V) (e:DictEntry)=>e.hash=gp k.1/\RelV k.2.1 e.key/\RelV k.2.2 e.val) ks es:=by
  intro ks xs es p
  induction p generalizing es with
  | nil=>intro q _;cases q;exact⟨(λk hk=>by cases hk),.nil⟩
  | @cons q x qs xs r t ih=>
   intro pq hk
   cases pq with
   | @cons e _ es' _ h1 h2 h3=>
    obtain⟨i1,i2⟩:=ih h3 λe he=>hk e (K9 _ he)
    obtain⟨k,k1,k2⟩:=hk e K7
    have:k=x.1:=(intKind P w).inj _ _ _ k1 h1
    subst this
    obtain⟨tk,et⟩:=Value.isInt_shape h1
    refine⟨λz hz=> ?_,.cons ⟨by rw[r.1];exact k2,by rw[r.2.1];exact⟨tk,et⟩,by rw[h2];exact r.2.2⟩ i2⟩
    rcases K0.mp hz with rfl | hz
    ·rw[r.1];rfl
    ·exact i1 z hz
 obtain⟨k1,k2⟩:=key p hp λe he=>hk e (by simpa using he)
 exact⟨ep,hl,hs,.inr k1,(tP p).mpr hn,o,es,ho,hc,hd,k2⟩
noncomputable def m7 (ks:List (!9))(k:PyData)(kv v:V):List (!9):=if (ks.any λp=>PyData.eqv p.1 k)=true then ks.map λp=>if PyData.eqv p.1 k=true then (p.1,p.2.1,v) else p else ks++[(k,kv,v)]
noncomputable def qE (ks ms:List (!9)):List (!9):=ms.foldl (λacc p=>m7 acc p.1 p.2.1 p.2.2) ks
theorem lG (k:NK):∀{ks:List (!9)} {xs:List (NK×Addr×Value)},Paired Rk ks xs->(atKey xs k).isSome=ks.any λq=>PyData.eqv q.1 k.d
 | _,_,.nil=>rfl
 | _,_,.cons (a:=q) (b:=x) r t=>by
  have ih:=lG k t
  rw[YW,r.1,yS,←ih]
  unfold atKey
  rw[U3]
  cases hd:decide (x.1=k) <;> simp
theorem qF (h:∀q x,Rk q x->Rk (f q) (g x)):∀{ks:List (!9)} {xs:List (NK×Addr×Value)},Paired Rk ks xs->Paired Rk (ks.map f) (xs.map g)
 | _,_,.nil=> .nil
 | _,_,.cons r t=> .cons (h _ _ r) (qF h t)
theorem kR (h:Rk q x):∀{ks:List (!9)} {xs:List (NK×Addr×Value)},Paired Rk ks xs->Paired Rk (ks++[q]) (xs++[x])
 | _,_,.nil=> .cons h .nil
 | _,_,.cons r t=> .cons r (kR h t)
theorem qG (p:Paired Rk ks xs)(k:NK)(a:Addr)(rv:RelV v u):Paired Rk (m7 ks k.d (.ref a) v) (storedH xs k a u):=by
 unfold m7 storedH
 rw[lG k p]
 split
 ·refine qF (λq x r=> ?_) p
  unfold putAt
  rw[r.1,yS]
  by_cases hx:x.1=k
  ·rw[JQ (Z9 hx),JQ hx];exact⟨rfl,r.2.1,rv⟩
  ·rw[JV (by rw[Z8 hx];exact K4),JV hx];exact r
 ·exact kR ⟨rfl,rfl,rv⟩ p
theorem o3:∀{ms:List (!9)} {ys:List (NK×Addr×Value)},Paired Rk ms ys->∀{ks:List (!9)} {xs:List (NK×Addr×Value)},Paired Rk ks xs->Paired Rk (qE ks ms) (fQ xs ys)
 | _,_,.nil,_,_,p=>p
 | _,_,.cons (a:=q) (b:=y) r t,ks,xs,p=>by
  have h1:=qG p y.1 y.2.1 r.2.2
  rw[←r.1,←r.2.1] at h1
  exact o3 t h1
theorem Jm (i j:Int):PyData.eqv (.int i) (.int j)=decide (i=j):=by
 have:PyData.eqv (.int i) (.int j)=(i==j):=by simp[PyData.eqv]
 rw[this,YK];simp
theorem m8 (k:Int):∀{ks:List (!9)} {xs:List (Int×Value)},Paired sF ks xs->(valueAt xs k).isSome=(ks.any λq=>PyData.eqv q.1 (.int k))/\(xs.any λkv=>decide (kv.1=k))=(ks.any λq=>PyData.eqv q.1 (.int k))
 | _,_,.nil=>⟨rfl,rfl⟩
 | _,_,.cons (a:=q) (b:=x) r t=>by
  obtain⟨h1,h2⟩:=m8 k t
  rw[YW,YW,r.1,Jm,←h2]
  refine⟨?_,rfl⟩
  rw[h2,←h1]
  unfold valueAt
  rw[U3]
  cases hd:decide (x.1=k) <;> simp[hd]
theorem o4 (h:∀q x,sF q x->sF (f q) (g x)):∀{ks:List (!9)} {xs:List (Int×Value)},Paired sF ks xs->Paired sF (ks.map f) (xs.map g)
 | _,_,.nil=> .nil
 | _,_,.cons r t=> .cons (h _ _ r) (o4 h t)
theorem m9 (h:sF q x):∀{ks:List (!9)} {xs:List (Int×Value)},Paired sF ks xs->Paired sF (ks++[q]) (xs++[x])
 | _,_,.nil=> .cons h .nil
 | _,_,.cons r t=> .cons r (m9 h t)
theorem o5 (p:Paired sF ks xs)(k:Int)(rv:RelV v u):Paired sF (m7 ks (.int k) (.int k) v) (stored xs k u):=by
 unfold m7 stored
 rw[(m8 k p).2]
 split
 ·refine o4 (λq x r=> ?_) p
  rw[r.1,Jm]
  by_cases hx:x.1=k
  ·rw[JQ (Z9 hx),JQ hx];exact⟨rfl,r.2.1,rv⟩
  ·rw[JV (by rw[Z8 hx];exact K4),JV hx];exact r
 ·exact m9 ⟨rfl,rfl,rv⟩ p
theorem m_:∀{ms:List (!9)} {ys:List (Int×Value)},Paired sF ms ys->∀{ks:List (!9)} {xs:List (Int×Value)},Paired sF ks xs->Paired sF (qE ks ms) (merged xs ys)
 | _,_,.nil,_,_,p=>p
 | _,_,.cons (a:=q) (b:=y) r t,ks,xs,p=>by
  have h1:=o5 p y.1 r.2.2
  rw[←r.1,←r.2.1] at h1
  exact m_ t h1
theorem qH (ks:List (!9))(k:PyData)(kv v:V):(m7 ks k kv v).length<=ks.length+1:=by
 unfold m7;split
 ·rw[K6];omega
 ·rw[K2,X4];exact K1 _
theorem tR:∀(ms ks:List (!9)),(qE ks ms).length<=ks.length+ms.length
 | [],ks=>K1 _
 | m :: ms,ks=>by
  have h1:=tR ms (m7 ks m.1 m.2.1 m.2.2)
  have h2:=qH ks m.1 m.2.1 m.2.2
  show(qE (m7 ks m.1 m.2.1 m.2.2) ms).length<=_
  rw[Kj];omega
section
variable {K:Frag}{H:Hp}
theorem gU (t:aV K H kvs ks):ks.length=kvs.length:=by
 have:=congrArg List.length (iC t);simpa using this
theorem kS (t:aV K H kvs ks)(k:PyData):(ks.any λq=>PyData.eqv q.1 k)=mj kvs k:=by
 have h1:∀{α:Type} (l:List (PyData×α)),(l.any λq=>PyData.eqv q.1 k)=(l.map (·.1)).any λx=>PyData.eqv x k:=λl=>by rw[List.any_map];rfl
 unfold mj
 rw[h1,h1,iC t]
theorem qJ (hv:aM K H d v):∀{kvs:List (PyData×PyData)} {ks:List (!9)},aV K H kvs ks->
  aV K H (kvs.map λp=>if PyData.eqv p.1 k=true then (p.1,d) else p) (ks.map λp=>if PyData.eqv p.1 k=true then (p.1,p.2.1,v) else p)
 | [],ks,t=>by simp only[aV] at t;subst t;simp only[Yx,aV]
 | (k',d') :: r,ks,t=>by
  simp only[aV] at t
  obtain⟨kv,v',q,rfl,h1,h2,h3⟩:=t
  rw[KQ,KQ]
  by_cases he:PyData.eqv k' k=true
  ·simp only[JQ he,aV];exact⟨kv,v,_,rfl,h1,hv,qJ hv h3⟩
  ·simp only[JV he,aV];exact⟨kv,v',_,rfl,h1,h2,qJ hv h3⟩
theorem tS (hk:aM K H k kv)(hv:aM K H d v):∀{kvs:List (PyData×PyData)} {ks:List (!9)},aV K H kvs ks->aV K H (kvs++[(k,d)]) (ks++[(k,kv,v)])
 | [],ks,t=>by simp only[aV] at t;subst t;simp only[Yv,aV];exact⟨kv,v,[],rfl,hk,hv,rfl⟩
 | (k',d') :: r,ks,t=>by
  simp only[aV] at t
  obtain⟨kv',v',q,rfl,h1,h2,h3⟩:=t
  rw[U5,U5]
  simp only[aV]
  exact⟨kv',v',_,rfl,h1,h2,tS hk hv h3⟩
theorem qK (t:aV K H kvs ks)(hk:aM K H k kv)(hv:aM K H d v):aV K H (putK kvs k d) (m7 ks k kv v):=by
 unfold putK m7
 rw[kS t]
 split
 ·exact qJ hv t
 ·exact tS hk hv t
theorem tU:∀{more:List (PyData×PyData)} {ms:List (!9)},aV K H more ms->∀{kvs:List (PyData×PyData)} {ks:List (!9)},aV K H kvs ks->aV K H (me kvs more) (qE ks ms)
 | [],ms,t,kvs,ks,h=>by simp only[aV] at t;subst t;exact h
 | (k,d) :: r,ms,t,kvs,ks,h=>by
  simp only[aV] at t
  obtain⟨kv,v,q,rfl,h1,h2,h3⟩:=t
  exact tU h3 (qK h h1 h2)
theorem lH:∀{kvs:List (PyData×PyData)} {ks:List (!9)},aV K H kvs ks->(∀p∈kvs,br p.1=true)->eM kvs=true->aP K H kvs ks []
 | [],ks,t,_,_=>by simp only[aV] at t;subst t;simp only[aP];exact⟨trivial,trivial⟩
 | (k,d) :: r,ks,t,hk,hn=>by
  simp only[aV] at t
  obtain⟨kv,v,q,rfl,h1,h2,h3⟩:=t
  have hn':br d=true/\eM r=true:=by
   unfold eM at hn;rw[KQ,ar,X7] at hn;exact hn
  simp only[aP]
  exact⟨kv,v,q,[],[],rfl,rfl,aM.toT _ _ (hk _ K7) h1,aM.toT _ _ hn'.1 h2,lH h3 (λp hp=>hk p (K9 _ hp)) hn'.2⟩
theorem nc:∀{kvs:List (PyData×PyData)} {ks:List (!9)} {as:List Addr},aP K H kvs ks as->eM kvs=true->as=[]
 | [],ks,as,t,_=>by simp only[aP] at t;exact t.2
 | (k,d) :: r,ks,as,t,hn=>by
  simp only[aP] at t
  obtain⟨kv,v,q,a1,a2,rfl,rfl,h1,h2,h3⟩:=t
  have hn':br d=true/\eM r=true:=by
   unfold eM at hn;rw[KQ,ar,X7] at hn;exact hn
  rw[IsT.nil _ _ _ hn'.1 h2,nc h3 hn'.2];rfl
end
section
variable {K:Frag}{H:Hp}
mutual
theorem IsT.qL:∀(d:PyData) (v:V) (as:List Addr),IsT K H d v as->as=[]->br d=true
 | .none,_,_,_,_=>rfl
 | .bool _,_,_,_,_=>rfl
 | .int _,_,_,_,_=>rfl
 | .str _,_,_,_,_=>rfl
 | .list xs,v,as,h,e=>by obtain⟨a,vs,bs,_,_,_,z⟩:=bF h;rw[e] at z;cases z
 | .dict xs,v,as,h,e=>by obtain⟨a,vs,bs,_,_,_,z⟩:=dC h;rw[e] at z;cases z
 | .tuple xs,v,as,h,e=>by
  obtain⟨a,vs,_,_,h2⟩:=j1 h
  rw[br];exact aA.qL xs vs as h2 e
theorem aA.qL:∀(ds:List PyData) (vs:List V) (as:List Addr),aA K H ds vs as->as=[]->ar ds=true
 | [],_,_,_,_=>rfl
 | d :: ds,vs,as,h,e=>by
  simp only[aA] at h
  obtain⟨v,r,a1,a2,rfl,rfl,h1,h2⟩:=h
  have:=List.append_eq_nil_iff.mp e
  rw[ar,IsT.qL d v a1 h1 this.1,aA.qL ds r a2 h2 this.2];rfl
end
theorem p6:∀{kvs:List (PyData×PyData)} {ks:List (!9)} {as:List Addr},aP K H kvs ks as->∀p∈kvs,br p.1=true
 | [],ks,as,t,p,hp=>by cases hp
 | (k,d) :: r,ks,as,t,p,hp=>by
  simp only[aP] at t
  obtain⟨kv,v,q,a1,a2,rfl,rfl,h1,h2,h3⟩:=t
  rcases K0.mp hp with rfl | hp
  ·exact IsT.qL _ _ _ h1 rfl
  ·exact p6 h3 p hp
end
theorem qM (h:eM kvs=true)(hd:br d=true):eM (putK kvs k d)=true:=by
 unfold eM at h⊢
 rw[aT] at h⊢
 intro x hx
 unfold putK at hx
 split at hx
 ·rw[KZ] at hx
  obtain⟨p,hp,rfl⟩:=Kv.mp hx
  simp only[Function.comp]
  split
  ·exact hd
  ·exact h _ (Yw hp)
 ·rw[X0] at hx
  rcases Kk.mp hx with hx | hx
  ·exact h x hx
  ·have:x=d:=by simpa using hx
   rw[this];exact hd
theorem tV:∀{more kvs:List (PyData×PyData)},eM more=true->eM kvs=true->eM (me kvs more)=true
 | [],kvs,_,h=>h
 | (k,d) :: r,kvs,hm,h=>by
  have hn':br d=true/\eM r=true:=by
   unfold eM at hm;rw[KQ,ar,X7] at hm;exact hm
  exact tV (kvs:=putK kvs k d) hn'.2 (qM h hn'.1)
end L2
namespace L2
open PySem PySem.Spec PyProof.Rows Y
section
variable {X:Cx}{K:Frag}{Ew:Str->Hp->Prop}
theorem iD (h:eK kvs x=true):(∃ds,x= .tuple ds/\nests 7 ds=true/\g8 kvs=true)∨(∃i,x= .int i/\allI kvs=true):=by
 unfold eK at h
 rw[Bool.or_eq_true,X7,X7] at h
 rcases h with⟨a,b⟩ | ⟨a,b⟩
 ·obtain⟨ds,e,n⟩:=m5 a;exact .inl ⟨ds,e,n,b⟩
 ·obtain⟨i,e⟩:=qC a;exact .inr ⟨i,e,b⟩
theorem Jn (hu:X.A.units+80 < cLine)(I:Inv X pins σ H s)(hk:eK kvs x=true)(hx:aM X.K H x u)(hy:aM X.K H (.dict kvs) v)(ru:RelV u a)(rv:RelV v b)
  (q:∀w H',Same H H'->aU X.K H H' (.bool (mj kvs x)) w->Q w H'):wpAny (!7) X.A (compareOp .In a b) (EP X pins σ Q) X.xe s:=by
 obtain⟨ad,ks,rfl,hr,t⟩:=cu hy
 cases(show b=Value.ref ad from rv)
 rcases iD hk with⟨ds,rfl,hn,ht⟩ | ⟨i,rfl,ht⟩
 ·obtain⟨xs,dd,p,hs,hl,_⟩:=j5 I hr t ht
  obtain⟨bk,vs,rfl,g1,g2⟩:=aJ hx
  cases(show a=Value.ref bk from ru)
  obtain⟨kk,hkk⟩:∃kk:NK,kk.d= .tuple ds:=⟨⟨ds,hn⟩,rfl⟩
  have vc:hZ s.heap kk.d (.ref bk):=by rw[hkk];exact aM.C7 I 8 (.tuple ds) (.ref bk) (.ref bk) (by rw[Y.nest];exact hn) hx rfl
  refine wpAny_in_heap (knd:=bG X.prog X.w) (k:=kk) (show X.A.units+1+10 < cLine by omega) vc hs dd ?_
  rw[lG _ p,kS t,hkk]
  exact⟨.bl _,H,I.tok _,rfl,q _ H (Same.refl H) (aU.mm rfl di)⟩
 ·obtain⟨xs,dd,p,hs,hl⟩:=ja I hr t ht
  have:=aE hx
  subst this
  obtain⟨tk,rfl⟩:=ru
  refine wpAny_in_of (knd:=intKind X.prog X.w) (k:=i) (by simp[intKind,Value.isInt]) hs dd.mapOf ?_
  rw[(m8 i p).1,kS t]
  exact⟨.bl _,H,I.tok _,rfl,q _ H (Same.refl H) (aU.mm rfl di)⟩
theorem Bo (hu:X.A.units+80 < cLine)(I:Inv X pins σ H s)(hk:eK kvs x=true)(hx:aM X.K H x u)(hy:aM X.K H (.dict kvs) v)(ru:RelV u a)(rv:RelV v b)
  (q:∀w H',Same H H'->aU X.K H H' (.bool (!mj kvs x)) w->Q w H'):wpAny (!7) X.A (compareOp .NotIn a b) (EP X pins σ Q) X.xe s:=by
 obtain⟨ad,ks,rfl,hr,t⟩:=cu hy
 cases(show b=Value.ref ad from rv)
 rcases iD hk with⟨ds,rfl,hn,ht⟩ | ⟨i,rfl,ht⟩
 ·obtain⟨xs,dd,p,hs,hl,_⟩:=j5 I hr t ht
  obtain⟨bk,vs,rfl,g1,g2⟩:=aJ hx
  cases(show a=Value.ref bk from ru)
  obtain⟨kk,hkk⟩:∃kk:NK,kk.d= .tuple ds:=⟨⟨ds,hn⟩,rfl⟩
  have vc:hZ s.heap kk.d (.ref bk):=by rw[hkk];exact aM.C7 I 8 (.tuple ds) (.ref bk) (.ref bk) (by rw[Y.nest];exact hn) hx rfl
  refine wpAny_notIn_heap (knd:=bG X.prog X.w) (k:=kk) (show X.A.units+1+10 < cLine by omega) vc hs dd ?_
  rw[lG _ p,kS t,hkk]
  exact⟨.bl _,H,I.tok _,rfl,q _ H (Same.refl H) (aU.mm rfl di)⟩
 ·obtain⟨xs,dd,p,hs,hl⟩:=ja I hr t ht
  have:=aE hx
  subst this
  obtain⟨tk,rfl⟩:=ru
  refine wpAny_notIn_of (knd:=intKind X.prog X.w) (k:=i) (by simp[intKind,Value.isInt]) hs dd.mapOf ?_
  rw[(m8 i p).1,kS t]
  exact⟨.bl _,H,I.tok _,rfl,q _ H (Same.refl H) (aU.mm rfl di)⟩
theorem An (hu:X.A.units+80 < cLine):i8 X (compareOp .In) wy:=i8.of λpins s σ H x y z u v a b Q I e hx hy ru rv q=>by
 cases y with
 | dict kvs=>
  simp only[wy] at e
  split at e
  ·rename_i hk
   cases e
   exact Jn hu I hk hx hy ru rv q
  ·cases e
 | _=>
  obtain⟨r,op,lift⟩:=uM (X:=X) hu
  refine op pins s σ H u v a b Q I ru rv (lift x _ z u v H Q ?_ hx hy q)
  exact e
theorem mw (hu:X.A.units+80 < cLine):i8 X (compareOp .NotIn) fO:=i8.of λpins s σ H x y z u v a b Q I e hx hy ru rv q=>by
 cases y with
 | dict kvs=>
  simp only[fO] at e
  split at e
  ·rename_i hk
   cases e
   exact Bo hu I hk hx hy ru rv q
  ·cases e
 | _=>
  obtain⟨r,op,lift⟩:=lD (X:=X) hu
  refine op pins s σ H u v a b Q I ru rv (lift x _ z u v H Q ?_ hx hy q)
  exact e
theorem wV:iF X (.type "dict") (λus H Q=>∃a kvs ks,us=[.ref a]/\Rd H a (.dct a ks)/\aV X.K H kvs ks.1/\g8 kvs=true/\kvs.isEmpty=false/\(kvs.map λp=>gp p.1).Nodup/\∀l ep,H l=none->Q (.ref l) (upd H l (.dct l (ks.1,ep)))):=by
 intro pins s σ H us vs Q I r h
 obtain⟨a,kvs,ks,rfl,hr,t,hat,h0,hh,q⟩:=h
 obtain⟨u,rfl,rx⟩:=vals1 r
 cases(show u=Value.ref a from rx)
 obtain⟨xs,dd,p,hs,hl,hk⟩:=j5 I hr t hat
 have hpl:=Paired.len p
 have hkl:=gU t
 have hx0:xs≠[]:=λz=>by
  rw[z] at hpl
  have:kvs.length=0:=by rw[←hkl,hpl];rfl
  rw[YX.mp this] at h0;cases h0
 refine Md (knd:=bG X.prog X.w) hs dd hx0 (!1) (λx hx=> ?_) ?_ (λx hx=> ?_) λh' tW sb=> ?_
 ·have:=hk x hx
  simp only[NK.d,hZ] at this
  obtain⟨b,o,items,n,e,h1,h2,_⟩:=this
  cases e
  exact⟨o,h1,h2⟩
 ·have e1:(xs.map λx=>(bG X.prog X.w).hash x.1)=(ks.1.map (·.1)).map gp:=by rw[va p,KZ];rfl
  rw[e1,iC t,KZ];exact hh
 ·exact hZ.keep (λb o items n hb _=>K8 _ hb) _ _ (hk x hx)
 ·obtain⟨ep,ph⟩:=j6 hl (beq_eq_false_iff_ne.mpr (Ne.symm (X3 I.big'))) p tW
  refine⟨.ref s.heap.objs.size,_,I.laid (a:=s.heap.objs.size) (o:=.dct s.heap.objs.size (ks.1,ep)) (t':=s.toks) (λb u hb=> ?_) (K1 _) (j7 ph),rfl,q _ ep I.fresh⟩
  exact(sb.2 b (X3 (Kq hb))).trans (K8 _ hb)
theorem FG (t:aV K H kvs ks)(hk:∀k∈ks,dy k.1=true):∀p∈kvs,br p.1=true:=λp hp=>by
 have:p.1∈ks.map (·.1):=by rw[iC t];exact Yw hp
 obtain⟨k,hk1,e⟩:=Kv.mp this
 rw[←e];exact m6 (hk k hk1)
theorem yT:CallD X (.type "dict") pZ:=⟨_,wV,
 λxs z us H Q e h q=>by
  match xs,e,h with
  | [.dict kvs],e,h=>
   simp only[pZ] at e
   split at e
   ·rename_i hc
    cases e
    obtain⟨u,rfl,hu⟩:=dF h
    obtain⟨a,ks,rfl,hr,t⟩:=cu hu
    have hk:=vb (X:=X) t hc.2.1
    exact⟨a,kvs,ks,rfl,hr,t,hc.2.1,hc.1,hc.2.2.2,λl ep hl=>q _ _ (Same.upd hl) ⟨[l],h_ az (lH (aV.same (Same.upd hl) _ _ t) (FG t hk) hc.2.2.1),KJ.mpr ⟨by simp,X2⟩,λb hb=>by rw[K5.mp hb];exact hl⟩⟩
   ·cases e⟩
end
section
variable {X:Cx}{K:Frag}{Ew:Str->Hp->Prop}{pos pos2 p p2:Pos}{a e o j:Expr}{ta:TE}{fa fe fj:EF}{apos cpos:Pos}
def Me (K:Frag):V->V->V->Hp->(Hp->Prop)->Prop:=λo i v H Q=>∃a ks kvs k,o= .ref a/\H a=some (.dct a ks)/\aV K H kvs ks.1/\aM K H k i/\eK kvs k=true/\ks.1.length < sizeLine/\∀ep,Q (upd H a (.dct a (m7 ks.1 k i v,ep)))
theorem Ao (hu:X.A.units+80 < cLine):Ik X (Me X.K):=by
 intro pins s σ H o i v ov iv u Q I ro ri rv h
 obtain⟨a,ks,kvs,k,rfl,hH,t,hk,hkt,hl,q⟩:=h
 cases(show ov=Value.ref a from ro)
 rcases iD hkt with⟨ds,rfl,hn,ht⟩ | ⟨n,rfl,ht⟩
 ·obtain⟨b,vs,rfl,_,_⟩:=aJ hk
  cases(show iv=Value.ref b from ri)
  obtain⟨xs,dd,p,hs,hl0,_⟩:=j5 I (.inl hH) t ht
  have hpl:=Paired.len p
  obtain⟨kk,hkk⟩:∃kk:NK,kk.d= .tuple ds:=⟨⟨ds,hn⟩,rfl⟩
  have vc:hZ s.heap kk.d (.ref b):=by rw[hkk];exact aM.C7 I 8 (.tuple ds) (.ref b) (.ref b) (by rw[Y.nest];exact hn) hk rfl
  refine wpAny_setItem_heap (knd:=bG X.prog X.w) (k:=kk) (hsz:=by omega) (show X.A.units+1+10 < cLine by omega) vc dd λh' tW sb=> ?_
  have hp:=qG p kk b rv
  rw[hkk] at hp
  have hlen:=qH ks.1 (.tuple ds) (.ref b) v
  obtain⟨ep,ph⟩:=j6 (!1) hs hp tW
  refine⟨_,I.write (x:=a) (e:=a) (by rw[hH];trivial) (.inl rfl) (λc w hc hw=>(sb.2 c hc).trans hw) ?_ (j7 ph),q ep⟩
  obtain⟨ob,_,_,ho,_⟩:=tW
  exact⟨ob,ho⟩
 ·have:=aE hk
  subst this
  obtain⟨tk,rfl⟩:=ri
  obtain⟨xs,dd,p,hs,hl0⟩:=ja I (.inl hH) t ht
  have hpl:=Paired.len p
  refine wpAny_setItem_pairs (knd:=intKind X.prog X.w) (k:=n) (hsz:=by omega) (by simp[intKind,Value.isInt]) dd λh' tW sb=> ?_
  have hp:=o5 p n rv
  have hlen:=qH ks.1 (.int n) (.int n) v
  obtain⟨ep,ph⟩:=qD (!1) hs hp tW
  refine⟨_,I.write (x:=a) (e:=a) (by rw[hH];trivial) (.inl rfl) (λc w hc hw=>(sb.2 c hc).trans hw) ?_ (j7 ph),q ep⟩
  obtain⟨ob,_,_,ho,_⟩:=tW
  exact⟨ob,ho⟩
theorem vd (h:eK kvs x=true):br x=true:=by
 rcases iD h with⟨ds,rfl,hn,_⟩ | ⟨i,rfl,_⟩
 ·exact m6 hn
 ·rfl
theorem FH (hu:X.A.units+80 < cLine)(ho:PE X o (lX i))(hj:DE X K Ew j fj)(he:DE X K Ew e fe)(hK:X.K=K:=by rfl)
  (ha:∀v,assign (.Subscript o j p) X.env v=(do
   let ov←holding [v] (eval o X.env)
   let iv←holding [v,ov] (eval j X.env)
   standAt p
   holding [v,ov,iv] (setItem ov iv v)
   release [v,ov,iv] []):=by intro _;rfl)
  (hs:swapsWithSole [.Subscript o j p] e pos.line X.env=pure false:=by rfl) (hw:swappedStores [.Subscript o j p] e X.env=pure none:=by rfl)
  (h1:(assignEach [.Subscript o j p] X.env).map (·.2)=[assign (.Subscript o j p) X.env]:=by rfl):DS X K Ew (.Assign [.Subscript o j p] e pos) (qo i fj fe) :=
 (uA he (yu ho hj (Ao hu) ha) hs hw h1).imp λD σ H q=>
  gS (g:=λx Γ=>match Γ[i]? with
   | some (some (true,.dict kvs))=>aq (fj Γ) λy=>if eK kvs y.2=true/\br x.2=true/\eM kvs=true/\kvs.length < sizeLine then ah (.nx (Γ.set i (some (true,.dict (putK kvs y.2 x.2))))) else none
   | _=>none) q λB φ Γ k d y H1 r av q=>by
   subst hK
   obtain⟨kvs,hg,q⟩:=L7 q
   obtain⟨v,hv,hT⟩:=r.own hg
   obtain⟨l,ks,bs,rfl,hl,ht,hφ⟩:=dC hT
   have hli:l∈φ i:=by rw[hφ];exact K7
   refine⟨.ref l,hv,B,φ,Γ,r,?_⟩
   match hm:fj Γ,q with
   | some (.ok (k',d')),q=>
    refine .inl ⟨k',d',rfl,λw H2 s2 hw=> ?_⟩
    have r2:=r.same s2
    replace q:cE X.K Ew B (if eK kvs d'=true/\br d=true/\eM kvs=true/\kvs.length < sizeLine then ah (.nx (Γ.set i (some (true,.dict (putK kvs d' d))))) else none) D:=q
    by_cases hc:eK kvs d'=true/\br d=true/\eM kvs=true/\kvs.length < sizeLine
    ·rw[JQ hc] at q
     obtain⟨c1,c2,c3,c4⟩:=hc
     have hbs:bs=[]:=nc ht c3
     subst hbs
     have hdk:=aV.same s2 _ _ (aP.toD _ _ _ ht)
     have hkd:=hw.toD r2.bs
     have hdd:=aM.same s2 _ _ (av.toD r.bs)
     refine⟨l,ks,kvs,d',rfl,s2 _ _ hl,hdk,hkd,c1,by rw[gU hdk];exact c4,λep=> ?_⟩
     have hkn:∀p∈kvs,br p.1=true:=λp hp=>by
      have:=ht
      exact p6 ht p hp
     have Jo:=qK hdk hkd hdd
     have hn2:∀p∈putK kvs d' d,br p.1=true:=λp hp=>by
      unfold putK at hp
      split at hp
      ·obtain⟨q',hq',rfl⟩:=Kv.mp hp
       split
       ·exact hkn q' hq'
       ·exact hkn q' hq'
      ·rcases Kk.mp hp with hp | hp
       ·exact hkn p hp
       ·rw[K5.mp hp];exact vd c1
     have hnew:=aP.upd (o':=.dct l (m7 ks.1 d' w y,ep)) (s2 _ _ hl) trivial _ _ _ (show l∉[] by simp) (lH Jo hn2 (qM c3 c2))
     exact q B _ σ _ (Same.refl B) (r2.chg (d:=.dict (putK kvs d' d)) (as:=[l]) hli (s2 _ _ hl) trivial hv (h_ az hnew) (KJ.mpr ⟨by simp,X2⟩) (λa ha=> .inl (by rw[K5.mp ha];exact hli)) trivial)
    ·rw[JV hc] at q
     exact False.elim q
   | some (.ex c),q=>exact .inr ⟨c,rfl,q⟩
   | none,q=>cases q
end
section
variable {X:Cx}{K:Frag}{Ew:Str->Hp->Prop}{pos pos2 p p2:Pos}{a e o j:Expr}{ta:TE}{fa fe fj:EF}{apos cpos:Pos}
theorem DS.or {st:Stmt}{f f1 f2:SF}(h1:DS X K Ew st f1)(h2:DS X K Ew st f2)(hf:∀Γ,f Γ=f1 Γ∨f Γ=f2 Γ):DS X K Ew st f:=λpins s σ H D I q=>by
 obtain⟨B,φ,Γ,r,q⟩:=q
 rcases hf Γ with z | z
 ·exact h1 pins s σ H D I ⟨B,φ,Γ,r,by rw[←z];exact q⟩
 ·exact h2 pins s σ H D I ⟨B,φ,Γ,r,by rw[←z];exact q⟩
theorem Ap (hu:X.A.units+80 < cLine)(ho:PE X o (lX i))(hj:DE X K Ew j fj)(he:DE X K Ew e fe)(hK:X.K=K:=by rfl)
  (ha:∀v,assign (.Subscript o j p) X.env v=(do
   let ov←holding [v] (eval o X.env)
   let iv←holding [v,ov] (eval j X.env)
   standAt p
   holding [v,ov,iv] (setItem ov iv v)
   release [v,ov,iv] []):=by intro _;rfl)
  (hs:swapsWithSole [.Subscript o j p] e pos.line X.env=pure false:=by rfl) (hw:swappedStores [.Subscript o j p] e X.env=pure none:=by rfl)
  (h1:(assignEach [.Subscript o j p] X.env).map (·.2)=[assign (.Subscript o j p) X.env]:=by rfl):DS X K Ew (.Assign [.Subscript o j p] e pos) (tm i fj fe):=by
 refine DS.or (FH hu ho hj he hK ha hs hw h1) (uW ho hj he ha hs hw h1) λΓ=> ?_
 unfold tm
 match hg:Γ[i]? with
 | some (some (true,.dict kvs))=>exact .inl rfl
 | some (some (true,.none))=>exact .inr rfl
 | some (some (true,.bool _))=>exact .inr rfl
 | some (some (true,.int _))=>exact .inr rfl
 | some (some (true,.str _))=>exact .inr rfl
 | some (some (true,.tuple _))=>exact .inr rfl
 | some (some (true,.list _))=>exact .inr rfl
 | some (some (false,_))=>exact .inr rfl
 | some none=>exact .inr rfl
 | none=>exact .inr rfl
theorem FJ (h:∀p∈kvs,br p.1=true)(hk:br k=true):∀p∈putK kvs k d,br p.1=true:=λp hp=>by
 unfold putK at hp
 split at hp
 ·obtain⟨q',hq',rfl⟩:=Kv.mp hp
  split
  ·exact h q' hq'
  ·exact h q' hq'
 ·rcases Kk.mp hp with hp | hp
  ·exact h p hp
  ·rw[K5.mp hp];exact hk
theorem wW:∀{more kvs:List (PyData×PyData)},(∀p∈more,br p.1=true)->(∀p∈kvs,br p.1=true)->∀p∈me kvs more,br p.1=true
 | [],kvs,_,h=>h
 | (k,d) :: r,kvs,hm,h=>wW (kvs:=putK kvs k d) (λp hp=>hm p (K9 _ hp)) (FJ h (hm _ K7))
def OZ (H:Hp)(x:V):Prop:=∃a ks,x= .ref a/\Rd H a (.dct a ks)
theorem C_ (I:Inv X pins σ H s)(r:RelV x v)(t:OZ H x):s.TypeIs v "dict" /\∀b,v= .ref b->∃ob,s.heap.get? b=some ob/\ob.dict=none:=by
 obtain⟨a,ks,rfl,hr⟩:=t
 cases(show v=Value.ref a from r)
 obtain⟨⟨_,_,_,_,o,es,ho,hc,_⟩,_⟩:=(show d_ X.prog X.w H s.heap a (.dct a ks) from hr.ok I.hok)
 refine⟨⟨o,ho,hc.1⟩,λb e=> ?_⟩
 cases e
 exact⟨o,ho,hc.2.1⟩
def PJ (r:V->List V->Hp->VK->Prop)(to:TE)(t:TA):TE:=λσ H Q=>to σ H λx H1=>OZ H1 x/\t σ H1 λxs H2=>r x xs H2 Q
theorem Hr {es:List Expr}{to:TE}{t:TA}{name:Str}{id:String}{r:V->List V->Hp->VK->Prop}(slot:Slot "dict" name id)(hty:typeOf (.builtin id)=pure (.type "method_descriptor"))(hm:IL X id r)(ho:PE X o to)(ha:PA X (e :: es) t)
  (hbase:attributeBase o name X.env (eval o X.env)=eval o X.env)
  (hfew:((backTo cpos (starEach (e :: es) X.env)).all (λx=> !x.1) && (backToKw cpos (keywordEach [] X.env)).all (λx=>x.1.isSome)
   && decide ((e :: es).length+([]:List Keyword).length+(if ([]:List Keyword).isEmpty then 0 else 1) < 30))=true)
  (hline:(apos.endLine==cpos.line)=true) (hs:starEach (e :: es) X.env=(false,eval e X.env) :: starEach es X.env) (hplain:(backTo cpos (starEach es X.env)).any (·.1)=false) :
  PE X (.Call (.Attribute o name apos) (e :: es) [] cpos) (PJ r to t):=by
 intro pins s σ H Q I h
 refine wpAny_Call_method_late hbase hfew hline rfl (dv (ho pins s σ H _ I h) λv s1 ⟨x,H1,I1,r1,ty,q1⟩=> ?_)
 obtain⟨h1,h2⟩:=C_ I1 r1 ty
 refine⟨"dict",id,PySem.F.plainAttrs_dict,slot,hty,h1,h2,?_⟩
 have hA:=ha cpos pins s1 σ H1 _ I1 q1
 rw[hs] at hA⊢
 refine Calls.callWith_builtin (by show(false || (backTo cpos (starEach es X.env)).any (·.1))=false;rw[hplain] <;> rfl) (Calls.evalArgs_plain ?_)
 exact dv hA λus s2 ⟨vs,H2,I2,r2,q2⟩=>hm pins s2 σ H2 x vs v us Q I2 r1 r2 q2
def Mf (kvs more:l5):Prop:=(kvs.isEmpty=false/\g8 kvs=true/\g8 more=true)∨(allI kvs=true/\allI more=true)
def N6 (K:Frag):V->List V->Hp->VK->Prop:=λx vs H Q=>∃a b kvs ks more ms,x= .ref a/\vs=[.ref b]/\a≠b/\H a=some (.dct a ks)/\aV K H kvs ks.1/\Rd H b (.dct b ms)/\aV K H more ms.1/\Mf kvs more/\kvs.length+more.length<=sizeLine/\∀ep,Q .non (upd H a (.dct a (qE ks.1 ms.1,ep)))
theorem Jp (hu:X.A.units+80 < cLine):M4 X "dict.update" (N6 X.K):=by
 intro pins s σ H x vs v us Q I rx rv h
 obtain⟨a,b,kvs,ks,more,ms,rfl,rfl,hab,hH,t,hr,t2,hok,hz,q⟩:=h
 cases(show v=Value.ref a from rx)
 obtain⟨u,rfl,ru⟩:=rv.one
 cases(show u=Value.ref b from ru)
 have e3:=gU t
 have e4:=gU t2
 have hlen:=tR ms.1 ks.1
 rcases hok with⟨h0,at1,at2⟩ | ⟨PK,PL⟩
 ·obtain⟨xs,dd,p,hs,hl,_⟩:=j5 I (.inl hH) t at1
  obtain⟨ys,dd2,p2,hs2,hl2,_⟩:=j5 I hr t2 at2
  have e1:=Paired.len p
  have e2:=Paired.len p2
  have hx0:xs≠[]:=λz=>by
   rw[z] at e1
   have:kvs.length=0:=by rw[←e3,e1];rfl
   rw[YX.mp this] at h0;cases h0
  refine call_meetsIn PySem.F.slot_dict_update dd.typeIs PySem.F.entry_dict_update (PySem.F.args_dict_update_2 _ _) (FE (knd:=bG X.prog X.w) a b hab hs2) ⟨show X.A.units+1+10 < cLine by omega,xs,ys,hx0,dd,dd2,by omega,λh' tW sb=> ?_⟩
  obtain⟨ep,ph⟩:=j6 (!1) hs (o3 p2 p) tW
  refine⟨.non,_,I.write (x:=a) (e:=a) (t':=s.toks) (by rw[hH];trivial) (.inl rfl) (λc w hc hw=>(sb.2 c hc).trans hw) ?_ (j7 ph),rfl,q ep⟩
  obtain⟨ob,_,_,ho,_⟩:=tW
  exact⟨ob,ho⟩
 ·obtain⟨xs,dd,p,hs,hl⟩:=ja I (.inl hH) t PK
  obtain⟨ys,dd2,p2,hs2,hl2⟩:=ja I hr t2 PL
  have e1:=Paired.len p
  have e2:=Paired.len p2
  refine call_meetsIn PySem.F.slot_dict_update dd.typeIs PySem.F.entry_dict_update (PySem.F.args_dict_update_2 _ _) (meets_dict_update (intKind X.prog X.w) a b hab hs2) ⟨xs,ys,dd,dd2,by omega,λh' tW _ sb=> ?_⟩
  obtain⟨ep,ph⟩:=qD (!1) hs (m_ p2 p) tW
  refine⟨.non,_,I.write (x:=a) (e:=a) (t':=s.toks) (by rw[hH];trivial) (.inl rfl) (λc w hc hw=>(sb.2 c hc).trans hw) ?_ (j7 ph),rfl,q ep⟩
  obtain⟨ob,_,_,ho,_⟩:=tW
  exact⟨ob,ho⟩
theorem Dc (hu:X.A.units+80 < cLine)(ho:PE X o (lX i))(he:DE X K Ew e fe)(hK:X.K=K:=by rfl)
  (hbase:attributeBase o "update" X.env (eval o X.env)=eval o X.env:=by rfl)
  (hfew:((backTo cpos (starEach [e] X.env)).all (λx=> !x.1) && (backToKw cpos (keywordEach [] X.env)).all (λx=>x.1.isSome)
   && decide (([e]:List Expr).length+([]:List Keyword).length+(if ([]:List Keyword).isEmpty then 0 else 1) < 30))=true:=by rfl)
  (hline:(apos.endLine==cpos.line)=true:=by rfl) (hs:starEach [e] X.env=(false,eval e X.env) :: starEach [] X.env:=by rfl) (hplain:(backTo cpos (starEach [] X.env)).any (·.1)=false:=by rfl)
  (hsw:swapsWith (.Call (.Attribute o "update" apos) [e] [] cpos) none pos.line X.env=pure false:=by rfl) :
  DS X K Ew (.Expr (.Call (.Attribute o "update" apos) [e] [] cpos) pos) (tj i fe) :=
 (lx (Hr PySem.F.slot_dict_update PySem.F.type_dict_update (Jp hu) ho (bv he cO hs) hbase hfew hline hs hplain) hsw).imp λD σ H q=>by
  subst hK
  obtain⟨B,φ,Γ,r,q⟩:=q
  unfold tj at q
  obtain⟨kvs,hg,q⟩:=L7 q
  obtain⟨v,hv,hT⟩:=r.own hg
  obtain⟨l,ks,bs,rfl,hl,ht,hφ⟩:=dC hT
  have hli:l∈φ i:=by rw[hφ];exact K7
  refine⟨.ref l,hv,⟨l,ks,rfl,.inl hl⟩,B,φ,Γ,r,?_⟩
  match hm:fe Γ,q with
  | some (.ok (k,d)),q=>
   refine .inl ⟨k,d,rfl,λy H1 s1 hy=> ?_⟩
   have r1:=r.same s1
   have hl1:=s1 _ _ hl
   replace q:cE X.K Ew B (match wA i k kvs d with
    | some kvs'=>ah (.nx (Γ.set i (some (true,.dict kvs'))))
    | none=>none) D:=q
   cases d <;> try (exact False.elim q)
   rename_i more
   by_cases hc:Fp i k=true/\((kvs.isEmpty=false/\g8 kvs=true/\g8 more=true)∨(allI kvs=true/\allI more=true))/\eM kvs=true/\eM more=true/\kvs.length+more.length<=sizeLine
   ·simp only[wA,JQ hc] at q
    obtain⟨c1,c2,c3,c4,c5⟩:=hc
    have hd:=hy.toD r1.bs
    obtain⟨b,ms,rfl,hr,t2⟩:=cu hd
    have hbs:bs=[]:=nc ht c3
    subst hbs
    have hdk:=aV.same s1 _ _ (aP.toD _ _ _ ht)
    have hlb:l≠b:=λz=>by
     subst z
     cases k with
     | fr js=>
      obtain⟨as,h1,h2,h3⟩:=hy
      obtain⟨a',ks',bs',e1,e2,e3,e4⟩:=dC h1
      cases e1
      rcases h3 l (by rw[e4];exact K7) with⟨jj,hj1,hj2⟩ | z
      ·by_cases hji:jj=i
       ·subst hji
        simp only[Fp,Bool.not_eq_true',List.contains_eq_mem,decide_eq_false_iff_not] at c1
        exact c1 hj1
       ·exact r.dj jj i hji l hj2 hli
      ·rw[hl] at z;cases z
     | base=>
      have hb:aM X.K B (.dict more) (.ref l):=hy
      obtain⟨a',ks',e1,e2,_⟩:=cu hb
      cases e1
      have hn:=(r.nb i l hli).1
      rcases e2 with e2 | ⟨_,e2⟩ <;> (rw[hn] at e2;cases e2)
     | any=>simp[Fp] at c1
    have hkn:=p6 ht
    have htn:∀p∈me kvs more,br p.1=true:=wW (λp hp=>by
     rcases c2 with⟨_,_,z⟩ | ⟨_,z⟩
     ·exact m6 (Uv.mp z p hp)
     ·obtain⟨i,e⟩:=qC (Uv.mp z p hp);rw[e];rfl) hkn
    refine⟨l,b,kvs,ks,more,ms,rfl,rfl,hlb,hl1,hdk,hr,t2,c2,c5,λep=> ?_⟩
    have hnew:=aP.upd (o':=.dct l (qE ks.1 ms.1,ep)) hl1 trivial _ _ _ (show l∉[] by simp) (lH (tU t2 hdk) htn (tV c4 c3))
    exact q B _ σ _ (Same.refl B) (r1.chg (d:=.dict (me kvs more)) (as:=[l]) hli hl1 trivial hv (h_ az hnew) (KJ.mpr ⟨by simp,X2⟩) (λa ha=> .inl (by rw[K5.mp ha];exact hli)) trivial)
   ·simp only[wA,JV hc] at q
    exact False.elim q
  | some (.ex c),q=>exact .inr ⟨c,rfl,q⟩
  | none,q=>cases q
end
section
variable {X:Cx}{K:Frag}{Ew:Str->Hp->Prop}{pos:Pos}{ke ve:Expr}{fk fv:EF}
theorem Dd 
  (h:wpAny (!3) A (eval ke env) (λkv s₁=>wpAny (!3) A (eval ve env) (λvv s₂=>wpAny (!3) A (dictSet s.heap.objs.size kv vv) (λ_ s₃=>Q (!6) s₃) E s₂) E s₁) E
   {s with heap:=s.heap.push {cls:=.type "dict",data:=.dict #[]}}):wpAny (!3) A (eval (.Dict [some ke] [ve] pos) env) Q E s:=by
 rw[arm_eval_Dict]
 have hsh:(evalEachOpt [some ke] env).zip ((evalEach [ve] env).map λv=>do let x←v;standAt pos;pure x)=[(eval ke env,do let x←eval ve env;standAt pos;pure x)].map λp=>(some p.1,p.2):=rfl
 rw[hsh,dictDisplay_pairs _ (by simp) (by simp)]
 refine JZ (wpAny_standAt ?_);refine JZ ?_
 unfold subDict
 refine JZ (wpAny_alloc ?_);refine JZ (Z7 ?_)
 rw[JQ (by simp)]
 refine JZ (evalPairs_cons (wpAny_mono h (λkv s₁ h₁=>JZ (wpAny_mono h₁ (λvv s₂ h₂=> ?_) λ_ _ e=>e)) λ_ _ e=>e))
 refine JZ (wpAny_standAt (JW (evalPairs_nil (Z7 ?_))))
 rw[Jw]
 refine JZ (JZ (JZ (wpAny_mono h₂ (λ_ s₃ h₃=>JW ?_) λ_ _ e=>e)))
 dsimp only;rw[List.forIn_nil]
 exact JW (JW (JW (JW h₃)))
theorem p7 (hK:X.K=K:=by rfl):DE X K Ew (.Dict [] [] pos) mS:=by
 subst hK
 intro pins s σ H Q I q
 obtain⟨B,φ,Γ,r,q⟩:=q
 have hp:H s.heap.objs.size=none:=I.fresh
 have hd0:(s.heap.push {cls:=.type "dict",data:=.dict #[]}).DictOfH (bG X.prog X.w) s.heap.objs.size []:=Heap.DictOfH.new s.heap
 have hs0:(s.heap.objs.size==sysModules)=false:=beq_eq_false_iff_ne.mpr (Ne.symm (X3 I.big'))
 obtain⟨Hs,N7⟩:=j6 (ks:=[]) (Xw _) hs0 .nil hd0
 have I1:Inv X pins σ (upd H s.heap.objs.size (.dct s.heap.objs.size ([],Hs))) {s with heap:=s.heap.push {cls:=.type "dict",data:=.dict #[]},toks:=s.toks} :=
  I.laid (λ_ _ e=>K8 _ e) (K1 _) (j7 N7)
 rcases q with⟨_,_,e,q⟩ | ⟨_,e,_⟩
 ·cases e
  refine wpAny_Dict_empty ⟨.ref s.heap.objs.size,_,I1,rfl,q _ _ (Same.upd hp) (VR.fresh.mpr ⟨[s.heap.objs.size],h_ az (by simp only[aP];exact⟨trivial,trivial⟩),KJ.mpr ⟨by simp,X2⟩,λa ha=>by rw[K5.mp ha];exact hp⟩)⟩
 ·cases e
theorem Aq (hu:X.A.units+80 < cLine)(hk:DE X K Ew ke fk)(hv:DE X K Ew ve fv)(hK:X.K=K:=by rfl):DE X K Ew (.Dict [some ke] [ve] pos) (wz fk fv):=by
 subst hK
 intro pins s σ H Q I q
 obtain⟨B,φ,Γ,r,q⟩:=q
 have hp:H s.heap.objs.size=none:=I.fresh
 have hd0:(s.heap.push {cls:=.type "dict",data:=.dict #[]}).DictOfH (bG X.prog X.w) s.heap.objs.size []:=Heap.DictOfH.new s.heap
 have hs0:(s.heap.objs.size==sysModules)=false:=beq_eq_false_iff_ne.mpr (Ne.symm (X3 I.big'))
 obtain⟨Hs,N7⟩:=j6 (ks:=[]) (Xw _) hs0 .nil hd0
 have I1:Inv X pins σ (upd H s.heap.objs.size (.dct s.heap.objs.size ([],Hs))) {s with heap:=s.heap.push {cls:=.type "dict",data:=.dict #[]},toks:=s.toks} :=
  I.laid (λ_ _ e=>K8 _ e) (K1 _) (j7 N7)
 generalize hP:s.heap.objs.size=P at*
 have s1:Same H (upd H P (.dct P ([],Hs))):=Same.upd hp
 have r1:=r.same s1
 have q:Runs X.K Ew B φ H (aq (fk Γ) λx=>aq (fv Γ) λy=>if eK [] x.2=true/\br y.2=true then ah (.fr [],.dict [(x.2,y.2)]) else none) Q:=q
 have hroom:(bG X.prog X.w).room X.A:=show X.A.units+10 < cLine by omega
 match hm:fk Γ,q with
 | some (.ok (k,d)),q=>
  replace q:Runs X.K Ew B φ H (aq (fv Γ) λy=>if eK [] d=true/\br y.2=true then ah (.fr [],.dict [(d,y.2)]) else none) Q:=q
  match hm2:fv Γ,q with
  | some (.ok (k2,d2)),q=>
   replace q:Runs X.K Ew B φ H (if eK [] d=true/\br d2=true then ah (.fr [],.dict [(d,d2)]) else none) Q:=q
   by_cases hc:eK [] d=true/\br d2=true
   ·rw[JQ hc] at q
    obtain⟨c1,c2⟩:=hc
    rcases q with⟨_,_,e,q⟩ | ⟨c,e,_⟩
    ·cases e
     subst hP
     refine Dd (dv (hk pins _ σ _ (λv H2=>Same (upd H s.heap.objs.size (.dct s.heap.objs.size ([],Hs))) H2/\VR X.K B φ (upd H s.heap.objs.size (.dct s.heap.objs.size ([],Hs))) H2 k d v) I1 ⟨B,φ,Γ,r1,.inl ⟨k,d,hm,λv H2 s2 hv2=>⟨s2,hv2⟩⟩⟩) λu st1 ⟨x,H2,I2,rx,s12,vx⟩=> ?_)
     have r2:=r1.same s12
     refine dv (hv pins _ σ _ (λv H3=>Same H2 H3/\VR X.K B φ H2 H3 k2 d2 v) I2 ⟨B,φ,Γ,r2,.inl ⟨k2,d2,hm2,λv H3 s3 Ht=>⟨s3,Ht⟩⟩⟩) λu2 st2 ⟨y,H3,I3,ry,Na,vy⟩=> ?_
     have r3:=r2.same Na
     have hkd:=aM.same Na _ _ (vx.toD r2.bs)
     have PM:=vy.toD r3.bs
     have hp3:H3 s.heap.objs.size=some (.dct s.heap.objs.size ([],Hs)):=Na _ _ (s12 _ _ az)
     have fin:∀(h':Heap) (t':Nat),Heap.SameBut s.heap.objs.size st2.heap h'->(∃ep,qp s.heap.objs.size ([(d,x,y)],ep) h')->EP X pins σ Q (!6) {st2 with heap:=h',toks:=t'}:=λh' t' sb ⟨ep,ph⟩=>by
      refine⟨.ref s.heap.objs.size,_,I3.write (x:=s.heap.objs.size) (e:=s.heap.objs.size) (t':=t') (by rw[hp3];trivial) (.inl rfl) (λc w hc hw=>(sb.2 c hc).trans hw) ?_ (j7 ph),rfl,?_⟩
      ·obtain⟨_,_,_,_,ob,_,ho,_⟩:=ph;exact⟨ob,ho⟩
      ·have sA:Same H H3:=s1.trans (s12.trans Na)
       refine q _ _ (sA.I0 hp) (VR.fresh.mpr ⟨[s.heap.objs.size],h_ az ?_,KJ.mpr ⟨by simp,X2⟩,λa ha=>by rw[K5.mp ha];exact hp⟩)
       have hdk:aV X.K H3 [(d,d2)] [(d,x,y)]:=by simp only[aV];exact⟨_,_,_,rfl,hkd,PM,rfl⟩
       have htk:=lH hdk (λp hp=>by rw[K5.mp hp];exact vd c1) (show eM [(d,d2)]=true by unfold eM;rw[KQ,Yx,ar,ar,c2];rfl)
       exact aP.upd hp3 trivial _ _ _ (show s.heap.objs.size∉[] by simp) htk
     rcases iD c1 with⟨ds,rfl,hn,_⟩ | ⟨n,rfl,_⟩
     ·obtain⟨b,vs,rfl,_,_⟩:=aJ hkd
      cases(show u=Value.ref b from rx)
      obtain⟨xs,dd,p,hs,hl,_⟩:=j5 I3 (.inl hp3) (show aV X.K H3 [] [] by simp only[aV]) rfl
      cases p
      obtain⟨kk,hkk⟩:∃kk:NK,kk.d= .tuple ds:=⟨⟨ds,hn⟩,rfl⟩
      refine wpAny_dictSet_heap (knd:=bG X.prog X.w) (k:=kk) (hsz:=Xw _) hroom (by show hZ _ kk.d _;rw[hkk];exact aM.C7 I3 8 (.tuple ds) (.ref b) (.ref b) (by rw[Y.nest];exact hn) hkd rfl) dd λh' tW sb=>fin h' _ sb ?_
      have hpr:Paired Rk [(PyData.tuple ds,V.ref b,y)] [(kk,b,u2)]:=.cons ⟨hkk.symm,rfl,ry⟩ .nil
      exact j6 (ks:=[(PyData.tuple ds,V.ref b,y)]) (show 1<=sizeLine by decide) hs0 hpr tW
     ·have:=aE hkd
      subst this
      obtain⟨tk,rfl⟩:=rx
      obtain⟨xs,dd,p,hs,hl⟩:=ja I3 (.inl hp3) (show aV X.K H3 [] [] by simp only[aV]) rfl
      cases p
      refine wpAny_dictSet_pairs (knd:=intKind X.prog X.w) (k:=n) (hsz:=Xw _) (by simp[intKind,Value.isInt]) dd λh' tW sb=>fin h' _ sb ?_
      have hpr:Paired sF [(PyData.int n,V.int n,y)] [(n,u2)]:=.cons ⟨rfl,rfl,ry⟩ .nil
      exact qD (ks:=[(PyData.int n,V.int n,y)]) (show 1<=sizeLine by decide) hs0 hpr tW
    ·cases e
   ·rw[JV hc] at q
    rcases q with⟨_,_,e,_⟩ | ⟨_,e,_⟩ <;> cases e
  | some (.ex c),q=>
   rcases q with⟨_,_,e,_⟩ | ⟨c',e,q⟩
   ·cases e
   ·cases e
    subst hP
    refine Dd (dv (hk pins _ σ _ (λv H2=>Same (upd H s.heap.objs.size (.dct s.heap.objs.size ([],Hs))) H2) I1 ⟨B,φ,Γ,r1,.inl ⟨k,d,hm,λv H2 s2 hv2=>s2⟩⟩) λu st1 ⟨x,H2,I2,rx,s12⟩=> ?_)
    exact dv (hv pins _ σ _ (λv H3=>False) I2 ⟨B,φ,Γ,r1.same s12,.inr ⟨c,hm2,q⟩⟩) λu2 st2 ⟨_,_,_,_,z⟩=>False.elim z
  | none,q=>rcases q with⟨_,_,e,_⟩ | ⟨_,e,_⟩ <;> cases e
 | some (.ex c),q=>
  rcases q with⟨_,_,e,_⟩ | ⟨c',e,q⟩
  ·cases e
  ·cases e
   subst hP
   exact Dd (dv (hk pins _ σ _ (λv H2=>False) I1 ⟨B,φ,Γ,r1,.inr ⟨c,hm,q⟩⟩) λu st1 ⟨_,_,_,_,z⟩=>False.elim z)
 | none,q=>rcases q with⟨_,_,e,_⟩ | ⟨_,e,_⟩ <;> cases e
end
end L2
namespace Y
open PySem
def Bp (i:Nat)(fk:EF)(j:Nat):SF:=λΓ=>match Γ[i]? with
 | some (some (true,.dict kvs))=>aq (fk Γ) λx=>match Γ[j]? with
  | some (some (_,.int n))=>if dy x.2=true/\g8 kvs=true/\kvs.length < sizeLine then (match zZ kvs x.2 (.int n) with
   | some kvs'=>ah (.nx (Γ.set i (some (true,.dict kvs'))))
   | none=>none) else none
  | _=>none
 | _=>none
def Bq (k:Kd):PyData->M (Kd×List PyData)
 | .dict kvs=>if g8 kvs=true then ah (k,kvs.map λp=> .tuple [p.1,p.2]) else none
 | _=>none
def vf (e:EF):IF:=λΓ=>aq (e Γ) λx=>Bq x.1 x.2
noncomputable def g9:PyData->Option PyData
 | .int n=>if 0<=n/\n<=100000 then some (.list ((List.range n.toNat).map λi=> .int (i:Nat))) else none
 | _=>none
def intOf:PyData->Option Int
 | .int i=>some i
 | _=>none
noncomputable def vg:List Int->Int
 | []=>0
 | i :: l=>l.foldl (λa b=>if b < a then b else a) i
noncomputable def tX:List PyData->Option PyData
 | [.list xs]=>(xs.mapM intOf).bind λl=>if l.isEmpty=false then some (.int (vg l)) else none
 | _=>none
noncomputable def insI (x:Int):List Int->List Int
 | []=> [x]
 | y :: l=>if x<=y then x :: y :: l else y :: insI x l
noncomputable def wX (l:List Int):List Int:=l.foldr insI []
end Y
namespace L2
open PySem PySem.Spec PyProof.Rows Y
noncomputable def jp (ks:List (!9))(k:PyData):Option V:=(ks.find? λp=>PyData.eqv p.1 k).map (·.2.2)
theorem vh (k:NK):∀{ks:List (!9)} {xs:List (NK×Addr×Value)},Paired Rk ks xs->(∀w,jp ks k.d=some w->∃p,atKey xs k=some p/\RelV w p.2)/\(jp ks k.d=none->atKey xs k=none)
 | _,_,.nil=>⟨λw h=>by simp[jp] at h,λ_=>rfl⟩
 | _,_,.cons (a:=q) (b:=x) r t=>by
  obtain⟨h1,h2⟩:=vh k t
  unfold jp atKey at*
  rw[U3,U3,r.1,yS]
  cases hd:decide (x.1=k) with
  | true=>
   refine⟨λw h=> ?_,λh=>by simp at h⟩
   simp only[Uk,Option.some.injEq] at h⊢
   subst h
   exact⟨_,rfl,r.2.2⟩
  | false=>exact⟨h1,h2⟩
theorem wY (k:Int):∀{ks:List (!9)} {xs:List (Int×Value)},Paired sF ks xs->∀w,jp ks (.int k)=some w->∃u,valueAt xs k=some u/\RelV w u
 | _,_,.nil=>λw h=>by simp[jp] at h
 | _,_,.cons (a:=q) (b:=x) r t=>by
  have h1:=wY k t
  unfold jp valueAt at*
  rw[U3,U3,r.1,Jm]
  cases hd:decide (x.1=k) with
  | true=>
   intro w h
   simp only[Uk,Option.some.injEq] at h⊢
   subst h
   exact⟨_,rfl,r.2.2⟩
  | false=>exact h1
theorem lI {K:Frag}{H:Hp}{k:PyData}:∀{kvs:l5} {ks:List (!9)},aV K H kvs ks->∀z,j0 kvs k=some z->∃w,jp ks k=some w/\aM K H z w
 | [],ks,t,z,h=>by simp[j0] at h
 | (k',d') :: r,ks,t,z,h=>by
  simp only[aV] at t
  obtain⟨kv,v',q,rfl,h1,h2,h3⟩:=t
  unfold j0 jp at*
  rw[U3] at h⊢
  simp only at h⊢
  cases he:PyData.eqv k' k with
  | true=>
   rw[he] at h
   simp only[Uk,Option.some.injEq] at h⊢
   subst h
   exact⟨_,rfl,h2⟩
  | false=>
   rw[he] at h
   exact lI h3 z h
theorem tY {K:Frag}{H:Hp}{k:PyData}:∀{kvs:l5} {ks:List (!9)} {as:List Addr},aP K H kvs ks as->∀z,j0 kvs k=some z->∃w bs,jp ks k=some w/\IsT K H z w bs/\bs.Sublist as
 | [],ks,as,t,z,h=>by simp[j0] at h
 | (k',d') :: r,ks,as,t,z,h=>by
  simp only[aP] at t
  obtain⟨kv,v',q,a1,a2,rfl,rfl,h1,h2,h3⟩:=t
  unfold j0 jp at*
  rw[U3] at h⊢
  simp only at h⊢
  cases he:PyData.eqv k' k with
  | true=>
   rw[he] at h
   simp only[Uk,Option.some.injEq] at h⊢
   subst h
   exact⟨_,a1,rfl,h2,List.sublist_append_left _ _⟩
  | false=>
   rw[he] at h
   obtain⟨w,bs,g1,g2,g3⟩:=tY h3 z h
   exact⟨w,bs,g1,g2,g3.trans (List.sublist_append_right _ _)⟩
section
variable {X:Cx}{Ew:Str->Hp->Prop}
def Mh (K:Frag):R2:=λx y H Q=>∃a ks kvs k w,x= .ref a/\Rd H a (.dct a ks)/\aV K H kvs ks.1/\aM K H k y/\eK kvs k=true/\jp ks.1 k=some w/\Q w H
theorem Jr (hu:X.A.units+80 < cLine):CD X (Mh X.K):=by
 intro value slice pins s σ H x y v u Q I rx ry h hs
 obtain⟨a,ks,kvs,k,w,rfl,hr,t,hk,hom,hg,q⟩:=h
 cases(show v=Value.ref a from rx)
 rcases iD hom with⟨ds,rfl,hn,ht⟩ | ⟨i,rfl,ht⟩
 ·obtain⟨xs,dd,p,N8,hl,_⟩:=j5 I hr t ht
  obtain⟨bk,vs,rfl,g1,g2⟩:=aJ hk
  cases(show u=Value.ref bk from ry)
  obtain⟨kk,hkk⟩:∃kk:NK,kk.d= .tuple ds:=⟨⟨ds,hn⟩,rfl⟩
  have vc:hZ s.heap kk.d (.ref bk):=by rw[hkk];exact aM.C7 I 8 (.tuple ds) (.ref bk) (.ref bk) (by rw[Y.nest];exact hn) hk rfl
  rw[←hkk] at hg
  obtain⟨pp,hpp,yC⟩:=(vh kk p).1 w hg
  exact subscriptTail_builtinR (x:=pp.2) dd.typeIs PySem.F.slot_dict_getitem.lookup (wpAny_getItem_heap (knd:=bG X.prog X.w) (k:=kk) (show X.A.units+1+10 < cLine by omega) vc dd hpp ⟨rfl,w,H,I.tok _,yC,q⟩) hs
 ·obtain⟨xs,dd,p,N8,hl⟩:=ja I hr t ht
  have:=aE hk
  subst this
  obtain⟨tk,rfl⟩:=ry
  obtain⟨uu,PN,yC⟩:=wY i p w hg
  exact subscriptTail_builtinR (x:=uu) dd.typeIs PySem.F.slot_dict_getitem.lookup (wpAny_getItem_of (knd:=intKind X.prog X.w) (k:=i) (by simp[intKind,Value.isInt]) dd.mapOf PN ⟨rfl,w,H,I.tok _,yC,q⟩) hs
theorem N9 (hu:X.A.units+80 < cLine):NW X Fo:=by
 obtain⟨r,hr,lift⟩:=mL (X:=X)
 refine⟨_,(Jr hu).or hr,λB φ H0 k x y z u v H Q s e hx hy q=> ?_⟩
 cases x with
 | dict kvs=>
  simp only[Fo] at e
  split at e
  ·rename_i hom
   refine .inl ?_
   cases k with
   | fr l=>
    obtain⟨as,h1,h2,h3⟩:=hx
    obtain⟨a,ks,bs,rfl,e1,e2,rfl⟩:=dC h1
    obtain⟨w,cs,g1,g2,g3⟩:=tY e2 z e
    refine⟨a,ks,kvs,y,w,rfl,.inl e1,aP.toD _ _ _ e2,hy,hom,g1,q w ?_⟩
    have hsub:cs.Sublist (a :: bs):=g3.trans (List.sublist_cons_self _ _)
    have hv:VR X.K B φ H0 H (.fr l) z w:=⟨cs,g2,h2.sublist hsub,λb hb=>h3 b (hsub.subset hb)⟩
    exact hv.cP s
   | base=>
    have hb:aM X.K B (.dict kvs) u:=hx
    obtain⟨a,ks,rfl,e1,e2⟩:=cu hb
    obtain⟨w,g1,g2⟩:=lI e2 z e
    have hv:VR X.K B φ H0 H .base z w:=g2
    exact⟨a,ks,kvs,y,w,rfl,s.rd e1,aV.same s _ _ e2,hy,hom,g1,q w (hv.cP s)⟩
   | any=>
    have hb:aM X.K H (.dict kvs) u:=hx
    obtain⟨a,ks,rfl,e1,e2⟩:=cu hb
    obtain⟨w,g1,g2⟩:=lI e2 z e
    have hv:VR X.K B φ H0 H .any z w:=g2
    exact⟨a,ks,kvs,y,w,rfl,e1,e2,hy,hom,g1,q w (hv.cP s)⟩
  ·cases e
 | _=>
  refine .inr (lift B φ H0 k _ y z u v H Q s ?_ hx hy q)
  exact e
end
section
variable {K:Type}[DecidableEq K]{knd:HeapKind prog w K}{A:Around}{s:Shared}
theorem N_ (hu:knd.room A)(hkey:knd.is s.heap k a)(hm:s.heap.DictOfH knd d xs)(hsz:xs.length<=sizeLine)
  (h1:∀p,atKey xs k=some p->Q p.2 {s with toks:=s.toks+knd.draws k})
  (h2:atKey xs k=none->∀h',h'.DictOfH knd d (xs++[(k,a,v)])->Heap.SameBut d s.heap h'->Q v {s with heap:=h',toks:=s.toks+knd.draws k}):wpAny (!3) A (dictSetDefault d (.ref a) v) Q E s:=by
 obtain⟨o,es,ep,ho,hc,hd,he,his,hn⟩:=hm
 have hes:es.size<=sizeLine:=by rw[size_of_entries he];exact hsz
 unfold dictSetDefault
 refine Z7 ?_
 refine JZ (knd.pyHash hu hkey ?_)
 refine JZ (wpAny_dictFind_heap (s:={s with toks:=s.toks+knd.draws k}) hu hkey ho hd he his hn (λhno=> ?_) λj p hj=> ?_)
 ·refine JZ (wpAny_rule ?_)
  refine JZ (wpAny_updateDictKeys (hz:=hes) (s:={s with toks:=s.toks+knd.draws k}) ho hd (JW (h2 (atKey_none_of_get hno) _ ⟨_,_,ep+1,XY _ ho (Obj.isFreed_of_dict (Obj.data_mapDictKeys hd _)),hc.mapDictKeys _,Obj.data_mapDictKeys hd _,?_,λx hx=> ?_,?_⟩ (Heap.SameBut.update ..))))
  ·simp[he,entryOfKey]
  ·rcases Kk.mp hx with hx | hx
   ·exact knd.keeps (his x hx) ho hd (Heap.SameBut.update ..)
   ·rw[K5.mp hx];exact knd.keeps hkey ho hd (Heap.SameBut.update ..)
  ·rw[X0,XX]
   refine⟨hn,KJ.mpr ⟨by simp,X2⟩,λx hx y hy e=>not_mem_keys_of_get hno ?_⟩
   have hy':y=k:=by simpa using hy
   rw[←hy',←e];exact hx
 ·refine JZ (wpAny_dictEntries (s:={s with toks:=s.toks+knd.draws k}) ho hd ?_)
  rw[entry_at he j,hj]
  exact JZ (wpAny_rule (JW (h1 p (atKey_of_get hn hj))))
theorem De (d a:Addr)(v:Value)(hd:(d==sysModules)=false) :
  MeetsIn prog w (Builtin.«dict.setdefault» ⟨[.ref d,.ref a,v],[]⟩) (λA R s=>knd.room A.in1/\∃k xs,knd.is s.heap k a/\s.heap.DictOfH knd d xs/\xs.length<=sizeLine/\
   (∀p,atKey xs k=some p->R (.ok (.ret p.2)) {s with toks:=s.toks+knd.draws k})/\
   (atKey xs k=none->∀h',h'.DictOfH knd d (xs++[(k,a,v)])->Heap.SameBut d s.heap h'->R (.ok (.ret v)) {s with heap:=h',toks:=s.toks+knd.draws k})) :=
 .of_wp λA R s ⟨hu,k,xs,hk,hm,hsz,h1,h2⟩=>by
  unfold Builtin.«dict.setdefault»;refine JZ ?_
  unfold Builtin.Dict.keyAndDefault;refine JZ (wpAny_notOrdered_dict hm.typeIs ?_)
  show wpAny (!3) _ (pure (d,Value.ref a,some v)) _ _ s;refine JW ?_
  show wpAny (!3) _ (if (d==sysModules)=true then _ else (dictSetDefault d (.ref a) v >>=_)) _ _ s
  rw[JV (by rw[hd];exact K4)]
  exact JZ (N_ hu hk hm hsz (λp hp=>JW ⟨p.2,rfl,h1 p hp⟩) λhn h' hm' hs'=>JW ⟨v,rfl,h2 hn h' hm' hs'⟩)
end
section
variable {X:Cx}
def PQ (K:Frag):V->List V->Hp->VK->Prop:=λx vs H Q=>∃a kvs ks k kv lv,x= .ref a/\vs=[kv,lv]/\H a=some (.dct a ks)/\aV K H kvs ks.1/\aM K H k kv/\dy k=true/\g8 kvs=true/\ks.1.length < sizeLine/\
 (∀w,jp ks.1 k=some w->Q w H)/\(jp ks.1 k=none->∀ep,Q lv (upd H a (.dct a (ks.1++[(k,kv,lv)],ep))))
theorem Mi (hu:X.A.units+80 < cLine):M4 X "dict.setdefault" (PQ X.K):=by
 intro pins s σ H x vs v us Q I rx rv h
 obtain⟨a,kvs,ks,k,kv,lv,rfl,rfl,hH,t,hk,hkt,hat,hz,q1,q2⟩:=h
 cases(show v=Value.ref a from rx)
 cases rv with
 | cons r1 r2=>
  obtain⟨u2,rfl,r3⟩:=(show Vals [lv] _ from r2).one
  obtain⟨ds,rfl,hn⟩:=m5 hkt
  obtain⟨bk,zs,rfl,g1,g2⟩:=aJ hk
  rename_i u1
  cases(show u1=Value.ref bk from r1)
  obtain⟨xs,dd,p,hs,hl,_⟩:=j5 I (.inl hH) t hat
  have e1:=Paired.len p
  obtain⟨kk,hkk⟩:∃kk:NK,kk.d= .tuple ds:=⟨⟨ds,hn⟩,rfl⟩
  have vc:hZ s.heap kk.d (.ref bk):=by rw[hkk];exact aM.C7 I 8 (.tuple ds) (.ref bk) (.ref bk) (by rw[Y.nest];exact hn) hk rfl
  rw[←hkk] at q1 q2
  obtain⟨ga,gb⟩:=vh kk p
  refine call_meetsIn PySem.F.slot_dict_setdefault dd.typeIs PySem.F.entry_dict_setdefault (PySem.F.args_dict_setdefault_3 _ _ _) (De (knd:=bG X.prog X.w) a bk u2 hs) ⟨show X.A.units+1+10 < cLine by omega,kk,xs,vc,dd,by omega,λpp hpp=> ?_,λhno h' tW sb=> ?_⟩
  ·cases hg:jp ks.1 kk.d with
   | none=>rw[gb hg] at hpp;cases hpp
   | some w=>
    obtain⟨p',hp',yC⟩:=ga w hg
    rw[hpp] at hp'
    cases hp'
    exact⟨w,H,I.tok _,yC,q1 w hg⟩
  ·have hg:jp ks.1 kk.d=none:=by
    cases hg:jp ks.1 kk.d with
    | none=>rfl
    | some w=>obtain⟨p',hp',_⟩:=ga w hg;rw[hno] at hp';cases hp'
   have hpr:Paired Rk (ks.1++[(kk.d,V.ref bk,lv)]) (xs++[(kk,bk,u2)]):=kR ⟨rfl,rfl,r3⟩ p
   obtain⟨ep,ph⟩:=j6 (by rw[K2,X4];omega) hs hpr tW
   refine⟨lv,_,I.write (x:=a) (e:=a) (by rw[hH];trivial) (.inl rfl) (λc w hc hw=>(sb.2 c hc).trans hw) ?_ (j7 ph),r3,q2 hg ep⟩
   obtain⟨ob,_,_,ho,_⟩:=tW
   exact⟨ob,ho⟩
end
def Oa (n:PyData):PyData->Option PyData
 | .list xs=>if ar xs=true/\xs.length < sizeLine then some (.list (xs++[n])) else none
 | _=>none
theorem wZ (k' v:PyData)(r:l5)(k n:PyData):zZ ((k',v) :: r) k n=if PyData.eqv k' k=true then (Oa n v).map λz=>(k',z) :: r else (zZ r k n).map ((k',v) :: ·):=by
 cases v <;> simp only[zZ,Oa] <;> split <;> try rfl
 split <;> rfl
theorem w6 :∀{kvs:l5},j0 kvs k=none->zZ kvs k n=some (kvs++[(k,.list [n])])
 | [],_=>rfl
 | (k',v) :: r,h=>by
  unfold j0 at h
  rw[U3] at h
  simp only at h
  cases he:PyData.eqv k' k with
  | true=>rw[he] at h;cases h
  | false=>
   rw[he] at h
   rw[wZ,JV (by rw[he];exact K4),w6 (kvs:=r) h];rfl
section
variable {K:Frag}{H:Hp}
theorem w9 :∀{kvs kvs':l5} {ks:List (!9)} {bs:List Addr} {z:PyData},aP K H kvs ks bs->bs.Nodup->j0 kvs k=some z->zZ kvs k (.int n)=some kvs'->
  ∃l vs,jp ks k=some (.ref l)/\H l=some (.lst vs)/\l∈bs/\vs.length < sizeLine/\aP K (upd H l (.lst (vs++[.int n]))) kvs' ks bs
 | [],kvs',ks,bs,z,t,_,g,_=>by simp[j0] at g
 | (k',d') :: r,kvs',ks,bs,z,t,hnd,g,e=>by
  simp only[aP] at t
  obtain⟨kv,v',q,a1,a2,rfl,rfl,h1,h2,h3⟩:=t
  rw[XX] at hnd
  obtain⟨n1,n2,n3⟩:=hnd
  unfold j0 at g
  rw[U3] at g
  simp only at g
  rw[wZ] at e
  unfold jp
  rw[U3]
  simp only
  cases he:PyData.eqv k' k with
  | true=>
   rw[he] at g
   rw[JQ he] at e
   cases d' <;> simp only[Oa] at e <;> try (cases e;done)
   rename_i xs
   by_cases hc:ar xs=true/\xs.length < sizeLine
   ·rw[JQ hc] at e
    cases e
    obtain⟨l,vs,cs,rfl,hl,ht,rfl⟩:=bF h2
    have hcs:cs=[]:=aA.nil _ _ _ hc.1 ht
    subst hcs
    have hlen:=bB ht
    refine⟨l,vs,rfl,hl,by simp,by omega,?_⟩
    simp only[aP]
    refine⟨kv,.ref l,q,[l],a2,rfl,rfl,IsT.upd hl trivial _ _ _ (by simp) h1,?_,?_⟩
    ·have h4:=aA.upd (o':=.lst (vs++[.int n])) hl trivial _ _ _ (show l∉[] by simp) ht
     have h5:aA K (upd H l (.lst (vs++[.int n]))) [PyData.int n] [V.int n] []:=ay.toT _ _ rfl (aW bJ a8)
     exact dQ az (dD h4 h5)
    ·exact aP.upd hl trivial _ _ _ (λz=>n3 l (by simp) l z rfl) h3
   ·rw[JV hc] at e;cases e
  | false=>
   rw[he] at g
   rw[JV (by rw[he];exact K4)] at e
   cases hs:zZ r k (.int n) with
   | none=>rw[hs] at e;cases e
   | some r'=>
    rw[hs] at e
    cases e
    obtain⟨l,vs,i1,i2,i3,i4,i5⟩:=w9 h3 n2 g hs
    refine⟨l,vs,i1,i2,Kx _ i3,i4,?_⟩
    simp only[aP]
    exact⟨kv,v',q,a1,a2,rfl,rfl,IsT.upd i2 trivial _ _ _ (by simp) h1,IsT.upd i2 trivial _ _ _ (λz=>n3 l z l i3 rfl) h2,i5⟩
theorem ow (hk:IsT K H k kv [])(hv:IsT K H d v cs):∀{kvs:l5} {ks:List (!9)} {bs:List Addr},aP K H kvs ks bs->aP K H (kvs++[(k,d)]) (ks++[(k,kv,v)]) (bs++cs)
 | [],ks,bs,t=>by
  simp only[aP] at t
  obtain⟨rfl,rfl⟩:=t
  simp only[Yv,aP]
  exact⟨kv,v,[],cs,[],rfl,by simp,hk,hv,rfl,rfl⟩
 | (k',d') :: r,ks,bs,t=>by
  simp only[aP] at t
  obtain⟨kv',v',q,a1,a2,rfl,rfl,h1,h2,h3⟩:=t
  rw[U5,U5]
  simp only[aP]
  exact⟨kv',v',_,a1,a2++cs,rfl,by rw[X5],h1,h2,ow hk hv h3⟩
theorem t0 :∀{kvs:l5} {ks:List (!9)},aV K H kvs ks->j0 kvs k=none->jp ks k=none
 | [],ks,t,h=>by simp only[aV] at t;subst t;rfl
 | (k',d') :: r,ks,t,h=>by
  simp only[aV] at t
  obtain⟨kv,v',q,rfl,h1,h2,h3⟩:=t
  unfold j0 jp at*
  rw[U3] at h⊢
  simp only at h⊢
  cases he:PyData.eqv k' k with
  | true=>rw[he] at h;cases h
  | false=>rw[he] at h;exact t0 h3 h
end
section
variable {X:Cx}{K:Frag}{Ew:Str->Hp->Prop}{pos lp p1:Pos}{ke o ne:Expr}{fk:EF}{Ln FK Ob Lo:Pos}
theorem Hu (hu:X.A.units+80 < cLine)(ho:PE X o (lX i))(hk:DE X K Ew ke fk)(hn:PE X ne (lX j))(hK:X.K=K:=by rfl)
  (hb1:attributeBase o "setdefault" X.env (eval o X.env)=eval o X.env:=by rfl)
  (hf1:((backTo FK (starEach [ke,.List [] lp] X.env)).all (λx=> !x.1) && (backToKw FK (keywordEach [] X.env)).all (λx=>x.1.isSome)
   && decide (([ke,.List [] lp]:List Expr).length+([]:List Keyword).length+(if ([]:List Keyword).isEmpty then 0 else 1) < 30))=true:=by rfl)
  (hl1:(Ln.endLine==FK.line)=true:=by rfl) (hs1:starEach [ke,.List [] lp] X.env=(false,eval ke X.env) :: starEach [.List [] lp] X.env:=by rfl) (hp1:(backTo FK (starEach [.List [] lp] X.env)).any (·.1)=false:=by rfl)
  (hs0:starEach [.List [] lp] X.env=(false,eval (.List [] lp) X.env) :: starEach [] X.env:=by rfl)
  (hb2:attributeBase (.Call (.Attribute o "setdefault" Ln) [ke,.List [] lp] [] FK) "append" X.env (eval (.Call (.Attribute o "setdefault" Ln) [ke,.List [] lp] [] FK) X.env)=eval (.Call (.Attribute o "setdefault" Ln) [ke,.List [] lp] [] FK) X.env:=by rfl)
  (hf2:((backTo Lo (starEach [ne] X.env)).all (λx=> !x.1) && (backToKw Lo (keywordEach [] X.env)).all (λx=>x.1.isSome)
   && decide (([ne]:List Expr).length+([]:List Keyword).length+(if ([]:List Keyword).isEmpty then 0 else 1) < 30))=true:=by rfl)
  (hl2:(Ob.endLine==Lo.line)=true:=by rfl) (hs2:starEach [ne] X.env=(false,eval ne X.env) :: starEach [] X.env:=by rfl) (hp2:(backTo Lo (starEach [] X.env)).any (·.1)=false:=by rfl)
  (hsw:swapsWith (.Call (.Attribute (.Call (.Attribute o "setdefault" Ln) [ke,.List [] lp] [] FK) "append" Ob) [ne] [] Lo) none pos.line X.env=pure false:=by rfl) :
  DS X K Ew (.Expr (.Call (.Attribute (.Call (.Attribute o "setdefault" Ln) [ke,.List [] lp] [] FK) "append" Ob) [ne] [] Lo) pos) (Bp i fk j) :=
 (lx (wk PySem.F.plainAttrs_list PySem.F.slot_list_append PySem.F.type_list_append lB
  (Hr PySem.F.slot_dict_setdefault PySem.F.type_dict_setdefault (Mi hu) ho (bv hk (bv (CA cO) cO hs0) hs1) hb1 hf1 hl1 hs1 hp1) (bv hn cO hs2) hb2 hf2 hl2 hs2 hp2) hsw).imp λD σ H q=>by
  subst hK
  obtain⟨B,φ,Γ,r,q⟩:=q
  unfold Bp at q
  obtain⟨kvs,hg,q⟩:=L7 q
  obtain⟨v,hv,hT⟩:=r.own hg
  obtain⟨l,ks,bs,rfl,hl,ht,hφ⟩:=dC hT
  have hli:l∈φ i:=by rw[hφ];exact K7
  have hnd:=r.nd i
  rw[hφ,KJ] at hnd
  refine⟨.ref l,hv,⟨l,ks,rfl,.inl hl⟩,B,φ,Γ,r,?_⟩
  match hm:fk Γ,q with
  | some (.ok (k,d)),q=>
   refine .inl ⟨k,d,rfl,λy H1 s1 hy=> ?_⟩
   have r1:=r.same s1
   have hl1:=s1 _ _ hl
   have ht1:=aP.same s1 _ _ _ ht
   have hkd:=hy.toD r1.bs
   replace q:cE X.K Ew B (match Γ[j]? with
    | some (some (_,.int n))=>if dy d=true/\g8 kvs=true/\kvs.length < sizeLine then (match zZ kvs d (.int n) with
     | some kvs'=>ah (.nx (Γ.set i (some (true,.dict kvs'))))
     | none=>none) else none
    | _=>none) D:=q
   match hj:Γ[j]?,q with
   | some (some (ob,.int n)),q=>
    obtain⟨vj,hvj,Nb⟩:=r1.sl j ob (.int n) hj
    have hvn:vj= .int n:=by
     cases ob with
     | true=>rw[JQ rfl] at Nb;exact aE (IsT.toD _ _ _ Nb)
     | false=>rw[JV K4] at Nb;exact aE Nb
    subst hvn
    replace q:cE X.K Ew B (if dy d=true/\g8 kvs=true/\kvs.length < sizeLine then (match zZ kvs d (.int n) with
     | some kvs'=>ah (.nx (Γ.set i (some (true,.dict kvs'))))
     | none=>none) else none) D:=q
    by_cases hc:dy d=true/\g8 kvs=true/\kvs.length < sizeLine
    ·rw[JQ hc] at q
     obtain⟨c1,c2,c3⟩:=hc
     refine⟨Xw _,λp hp=> ?_⟩
     have s2:Same H1 (upd H1 p (.lst [])):=Same.upd hp
     have r2:=r1.same s2
     have Br:=aP.same s2 _ _ _ ht1
     have FL:=aP.toD _ _ _ Br
     have hpl:p≠l:=λz=>by rw[z,hl1] at hp;cases hp
     have hl2:upd H1 p (.lst []) l=some (.dct l ks):=by rw[aR (Ne.symm hpl)];exact hl1
     have Mj:=aM.same s2 _ _ hkd
     refine⟨l,kvs,ks,d,y,.ref p,rfl,rfl,hl2,FL,Mj,c1,c2,by rw[gU FL];exact c3,λw hw=> ?_,λhw ep=> ?_⟩
     ·cases Lp:j0 kvs d with
      | none=>rw[t0 FL Lp] at hw;cases hw
      | some z=>
       cases hsd:zZ kvs d (.int n) with
       | none=>rw[hsd] at q;exact False.elim q
       | some kvs'=>
        rw[hsd] at q
        obtain⟨m,vs,i1,i2,i3,i4,i5⟩:=w9 Br hnd.2 Lp hsd
        rw[hw] at i1
        cases i1
        have hmi:m∈φ i:=by rw[hφ];exact K9 _ i3
        have hml:m≠l:=λz=>hnd.1 (z ▸ i3)
        refine⟨.inl ⟨rfl,vs,gD.of i2⟩,.int n,hvj,m,vs,.int n,rfl,rfl,i2,i4,?_⟩
        refine q B _ σ _ (Same.refl B) (r2.chg (d:=.dict kvs') (as:=l :: bs) hmi i2 trivial hv (h_ (by rw[aR (Ne.symm hml)];exact hl2) i5) (KJ.mpr hnd) (λa ha=> .inl (by rw[hφ];exact ha)) trivial)
     ·have Lp:j0 kvs d=none:=by
       cases Lp:j0 kvs d with
       | none=>rfl
       | some z=>obtain⟨w,g1,_⟩:=lI FL z Lp;rw[hw] at g1;cases g1
      rw[w6 Lp] at q
      have hp3:upd (upd H1 p (.lst [])) l (.dct l (ks.1++[(d,y,.ref p)],ep)) p=some (.lst []):=by rw[aR hpl,az]
      refine⟨.inl ⟨rfl,[],gD.of hp3⟩,.int n,hvj,p,[],.int n,rfl,rfl,hp3,by decide,?_⟩
      have O0:IsT X.K (upd H1 p (.lst [])) d y []:=aM.toT _ _ (m6 c1) Mj
      have PR:B p=none:=r1.bs.free hp
      have hpφ:∀j,p∉φ j:=λj z=>by obtain⟨_,o,ho,_⟩:=r1.nb j p z;rw[hp] at ho;cases ho
      have hpb:p∉bs:=λz=>hpφ i (by rw[hφ];exact K9 _ z)
      have FN:(l :: (bs++[p])).Nodup:=by
       rw[KJ,XX]
       refine⟨λz=> ?_,hnd.2,KJ.mpr ⟨by simp,X2⟩,λa ha b hb e=>hpb ?_⟩
       ·rcases Kk.mp z with z | z
        ·exact hnd.1 z
        ·exact hpl (K5.mp z).symm
       ·rw[←K5.mp hb,←e];exact ha
      have mid:aP X.K (upd H1 p (.lst [])) (kvs++[(d,.list [])]) (ks.1++[(d,y,.ref p)]) (bs++[p]):=ow O0 (dQ az jC) Br
      have r3:=r2.chg (o':=.dct l (ks.1++[(d,y,.ref p)],ep)) (d:=.dict (kvs++[(d,.list [])])) (as:=l :: (bs++[p])) hli hl2 trivial hv (h_ az (aP.upd hl2 trivial _ _ _ (λz=>by rw[KJ] at FN;exact FN.1 z) mid)) FN (λa ha=>by
       rcases K0.mp ha with z | z
       ·rw[z];exact .inl hli
       ·rcases Kk.mp z with z | z
        ·exact .inl (by rw[hφ];exact K9 _ z)
        ·rw[K5.mp z];exact .inr ⟨PR,hpφ⟩) trivial
      have hpi:p∈(λj'=>if j'=i then l :: (bs++[p]) else φ j') i:=by simp
      have Oc:aP X.K (upd (upd H1 p (.lst [])) l (.dct l (ks.1++[(d,y,.ref p)],ep))) kvs ks.1 bs:=aP.upd hl2 trivial _ _ _ hnd.1 Br
      have Od:=aP.upd (o':=.lst ([]++[.int n])) hp3 trivial _ _ _ hpb Oc
      have Oe:IsT X.K (upd (upd (upd H1 p (.lst [])) l (.dct l (ks.1++[(d,y,.ref p)],ep))) p (.lst ([]++[.int n]))) d y []:=IsT.upd hp3 trivial _ _ _ (by simp) (IsT.upd hl2 trivial _ _ _ (by simp) O0)
      have h5:aA X.K (upd (upd (upd H1 p (.lst [])) l (.dct l (ks.1++[(d,y,.ref p)],ep))) p (.lst ([]++[.int n]))) [PyData.int n] [V.int n] []:=ay.toT _ _ rfl (aW bJ a8)
      have fin2:=ow Oe (dQ (a:=p) (vs:=[V.int n]) az h5) Od
      have r4:=r3.chg (o':=.lst ([]++[.int n])) (d:=.dict (kvs++[(d,.list [.int n])])) (as:=l :: (bs++[p])) hpi hp3 trivial hv (h_ (by rw[aR (Ne.symm hpl),az]) fin2) FN (λa ha=> .inl (by simpa using ha)) trivial
      rw[List.set_set] at r4
      exact q B _ σ _ (Same.refl B) r4
    ·rw[JV hc] at q
     exact False.elim q
   | some (some (_,.none)),q|some (some (_,.bool _)),q|some (some (_,.str _)),q|some (some (_,.list _)),q|some (some (_,.tuple _)),q|some (some (_,.dict _)),q|some none,q|none,q=>cases q
  | some (.ex c),q=>exact .inr ⟨c,rfl,q⟩
  | none,q=>cases q
end
end L2
namespace Y
open PySem
noncomputable def kT (n:Nat)(ds:List PyData)(w:PyData):aX:=ds.map (λd=>some (false,d))++some (true,w) :: List.replicate (n - (ds.length+1)) none
def runIO (n ir:Nat)(f:SF):List PyData->PyData->M (PyData×PyData):=λds w=>aq (f (kT n ds w)) λo=>match o with
 | .nx Γ=>(match Γ[ir]?,Γ[ds.length]? with
  | some (some (true,.list xs)),some (some (true,.dict kvs))=>ah (.list xs,.dict kvs)
  | _,_=>none)
 | _=>none
def mx:Kd->Bool
 | .base=>true
 | _=>false
def Ar (iw:Nat)(F:List PyData->PyData->M (PyData×PyData))(f1 f2:EF)(g:GF)(b:SF):SF:=λΓ=>match Γ[iw]? with
 | some (some (true,.dict kvs))=>aq (f1 Γ) λx=>aq (f2 Γ) λy=>if mx x.1=true/\mx y.1=true then (match F [x.2,y.2] (.dict kvs) with
  | some (.ok (.list ds,.dict kvs'))=>aZ g b ds (Γ.set iw (some (true,.dict kvs')))
  | _=>none) else none
 | _=>none
end Y
namespace L2
open PySem PySem.Spec PyProof.Rows Y
section
variable {K:Frag}{H H':Hp}
theorem ee.via (e:∀a o,H a=some o->¬ fJ o->H' a=some o)(h:ee K H a xs):ee K H' a xs:=by
 rcases h with(h | ⟨o,h⟩) | h
 ·exact .inl (.inl (e _ _ h (λz=>z)))
 ·exact .inl (.inr ⟨o,e _ _ h (λz=>z)⟩)
 ·exact .inr h
mutual
theorem IsT.via (e:∀a o,H a=some o->¬ fJ o->H' a=some o):∀(d:PyData) (v:V) (as:List Addr),(∀a∈as,∀o,H a=some o->H' a=some o)->IsT K H d v as->IsT K H' d v as
 | .none,v,as,_,h=>by simpa only[IsT] using h
 | .bool b,v,as,_,h=>by simpa only[IsT] using h
 | .int i,v,as,_,h=>by simpa only[IsT] using h
 | .str x,v,as,_,h=>by simpa only[IsT] using h
 | .list xs,v,as,n,h=>by
  simp only[IsT] at h⊢
  obtain⟨a,vs,bs,e1,h1,h2,rfl⟩:=h
  exact⟨a,vs,bs,e1,n a K7 _ h1,aA.via e xs vs bs (λb hb=>n b (K9 _ hb)) h2,rfl⟩
 | .tuple xs,v,as,n,h=>by
  simp only[IsT] at h⊢
  obtain⟨a,vs,e1,h1,h2⟩:=h
  exact⟨a,vs,e1,h1.via e,aA.via e xs vs as n h2⟩
 | .dict kvs,v,as,n,h=>by
  simp only[IsT] at h⊢
  obtain⟨a,ks,bs,e1,h1,h2,rfl⟩:=h
  exact⟨a,ks,bs,e1,n a K7 _ h1,aP.via e kvs ks.1 bs (λb hb=>n b (K9 _ hb)) h2,rfl⟩
theorem aA.via (e:∀a o,H a=some o->¬ fJ o->H' a=some o):∀(ds:List PyData) (vs:List V) (as:List Addr),(∀a∈as,∀o,H a=some o->H' a=some o)->aA K H ds vs as->aA K H' ds vs as
 | [],vs,as,_,h=>by simpa only[aA] using h
 | d :: ds,vs,as,n,h=>by
  simp only[aA] at h⊢
  obtain⟨v,r,a1,a2,e1,rfl,h1,h2⟩:=h
  exact⟨v,r,a1,a2,e1,rfl,IsT.via e d v a1 (λb hb=>n b (X9 _ hb)) h1,aA.via e ds r a2 (λb hb=>n b (Kx _ hb)) h2⟩
theorem aP.via (e:∀a o,H a=some o->¬ fJ o->H' a=some o):∀(ds:List (PyData×PyData)) (ks:List (!9)) (as:List Addr),(∀a∈as,∀o,H a=some o->H' a=some o)->aP K H ds ks as->aP K H' ds ks as
 | [],ks,as,_,h=>by simpa only[aP] using h
 | (k,d) :: r,ks,as,n,h=>by
  simp only[aP] at h⊢
  obtain⟨kv,v,q,a1,a2,e1,rfl,h1,h2,h3⟩:=h
  exact⟨kv,v,q,a1,a2,e1,rfl,IsT.via e k kv [] (λb hb=>by cases hb) h1,IsT.via e d v a1 (λb hb=>n b (X9 _ hb)) h2,aP.via e r q a2 (λb hb=>n b (Kx _ hb)) h3⟩
end
end
section
variable {X:Cx}{K:Frag}{Ew:Str->Hp->Prop}{iw:Nat}{a:Addr}{pos p:Pos}{st:Stmt}{rest ss:List Stmt}{f g:SF}{t:TF}{o j e:Expr}{fe fj:EF}{apos cpos:Pos}
def Hold (iw:Nat)(a:Addr)(σ:St):Prop:=σ[iw]? =some (some (.ref a))
theorem Hold.set (h:Hold iw a σ)(hi:i≠iw):Hold iw a (σ.set i v):=by
 unfold Hold
 rw[Xq hi];exact h
theorem Hold.sets:∀{is:List Nat} {vs:List V} {σ:St},(∀i∈is,i≠iw)->Hold iw a σ->Hold iw a (qu σ is vs)
 | [],vs,σ,_,h=>by cases vs <;> exact h
 | i :: is,[],σ,_,h=>h
 | i :: is,v :: vs,σ,n,h=>Hold.sets (is:=is) (vs:=vs) (λj hj=>n j (K9 _ hj)) (h.set (n i K7))
noncomputable def Js (iw:Nat)(a:Addr)(D:Ends):Ends:={nx:=λσ H=>Hold iw a σ->D.nx σ H,rt:=D.rt,bk:=λσ H=>Hold iw a σ->D.bk σ H,ct:=λσ H=>Hold iw a σ->D.ct σ H}
def tZ (K:Frag)(Ew:Str->Hp->Prop)(iw:Nat)(a:Addr)(f:SF):TS:=λD σ H=>Hold iw a σ/\L5 K Ew f (Js iw a D) σ H
def ZS (X:Cx)(K:Frag)(Ew:Str->Hp->Prop)(iw:Nat)(a:Addr)(s:Stmt)(f:SF):Prop:=PS X s (tZ K Ew iw a f)
def Jt (X:Cx)(K:Frag)(Ew:Str->Hp->Prop)(iw:Nat)(a:Addr)(s:List Stmt)(f:SF):Prop:=qf X s (tZ K Ew iw a f)
theorem FO:Jt X K Ew iw a [] fH:=uz.imp λD σ H q=>by
 obtain⟨z,B,φ,Γ,r,q⟩:=q
 exact q B φ σ H (Same.refl B) r z
theorem As (h:ZS X K Ew iw a st f):Jt X K Ew iw a [st] f:=pU h
theorem Df (h1:ZS X K Ew iw a st f)(h2:Jt X K Ew iw a rest g):Jt X K Ew iw a (st :: rest) (aC f g):=(mO h1 h2).imp λD σ H q=>by
 obtain⟨z,B,φ,Γ,r,q⟩:=q
 refine⟨z,B,φ,Γ,r,?_⟩
 unfold aC at q
 match hm:f Γ,q with
 | some (.ok (.nx Γ')),q=>exact λB' φ' σ' H' s' r' z'=>⟨z',B',φ',Γ',r',cE.base s' q⟩
 | some (.ok (.bk Γ')),q=>exact q
 | some (.ok (.ct Γ')),q=>exact q
 | some (.ok (.rt o d)),q=>exact q
 | some (.ex c),q=>exact q
 | none,q=>cases q
theorem Mk (hc:DT X K Ew c t)(hx:Jt X K Ew iw a x f)(hy:Jt X K Ew iw a y g):ZS X K Ew iw a (.If c x y pos) (l4 t f g):=(Cv hc hx hy).imp λD σ H q=>by
 obtain⟨z,B,φ,Γ,r,q⟩:=q
 refine⟨B,φ,Γ,r,?_⟩
 unfold l4 at q
 match hm:t Γ,q with
 | some (.ok true),q=>exact .inl ⟨true,rfl,λH1 s=>by show(if true=true then _ else _);rw[JQ rfl];exact⟨z,B,φ,Γ,r.same s,q⟩⟩
 | some (.ok false),q=>exact .inl ⟨false,rfl,λH1 s=>by show(if false=true then _ else _);rw[JV K4];exact⟨z,B,φ,Γ,r.same s,q⟩⟩
 | some (.ex c),q=>exact .inr ⟨c,rfl,q⟩
 | none,q=>cases q
theorem JA (hN:X.N.Nodup)(hi:X.N[i]? =some x)(hx:Loc X.env.scope x)(he:DE X K Ew e fe)(hw:i≠iw:=by decide)(hs:swapsWith e (some (.Name x pos')) pos.line X.env=pure false:=by rfl)(hf:X.fn x=true∨X.env.scope.names.lookup x=some .local:=by first | exact .inl rfl | exact .inr rfl | assumption) :
  ZS X K Ew iw a (.Assign [.Name x pos'] e pos) (aH i fe):=(yv (i:=i) hN hi hx he hs hf).imp λD σ H q=>
 gS (g:=λx Γ=>ah (.nx (jo Γ i x.1 x.2))) q.2 λB φ Γ k d v H1 r a q'=>by
  obtain⟨B',φ',s',r'⟩:=j3 r i a
  exact q' B' φ' _ H1 s' r' (q.1.set hw)
def O1 (K:Frag)(iw:Nat)(a:Addr)(g:GF):TG:=λv σ H Q=>Hold iw a σ/\tG K g v σ H (λσ' H'=>Hold iw a σ'->Q σ' H')
theorem Ml (hc:X.calm=true)(hg:Lj X es (uR is))(hw:∀i∈is,i≠iw:=by decide)(hn:(assignEach es X.env).length=is.length:=by rfl)(hst:(assignEach es X.env).findIdx? (·.1)=none:=by rfl)(hK:X.K=K:=by rfl) :
  PG X (.Tuple es k pos) (O1 K iw a (jY is)):=(yt (n:=is.length) hc hg hn hst).imp λv σ H Q q=>by
 obtain⟨z,B,φ,Γ,k,d,Γ',r,av,e,q⟩:=q
 cases d <;> simp only[jY] at e <;> try (cases e;done)
 rename_i ds
 split at e
 ·rename_i hl
  cases e
  obtain⟨a',vs,rfl,hq,av,hlen⟩:=av.tup r.bs
  refine⟨a',vs,rfl,by rw[hK];exact hq,by omega,mn _ _ _ _ _ (!1) ?_⟩
  obtain⟨B',φ',s',r'⟩:=jF (wD k) is ds vs hl r av
  exact q B' φ' _ s' r' (z.sets hw)
 ·cases e
theorem JB {it:IF}{g:GF}{fb:SF}(hp:PassesOwn (!7) X.A X.env X.xe)(hc:X.calm=true)(hi:DI X K Ew tg iter it)(hg:PG X tg (O1 K iw a g))(hb:Jt X K Ew iw a body fb)
  (hs:∀x,foldedSetIterable iter X.env x=pure x:=by intro _;rfl):ZS X K Ew iw a (.For tg iter body [] pos) (bA it g fb):=(uB hp hc hi hg hb hs).imp λD σ H q=>by
 obtain⟨z,B,φ,Γ,r,q⟩:=q
 refine⟨B,φ,Γ,r,?_⟩
 unfold bA at q
 match hm:it Γ,q with
 | some (.ok (k,ds)),q=>
  intro J H1 B1 ψ s0 s1 r1 io
  have q:cE K Ew B1 (aZ g fb ds (kG k Γ)) (Js iw a D):=cE.base s1 q
  refine⟨λi m σ H=>m=ds.length - i/\i<=ds.length/\Hold iw a σ/\∃B2 φ2 Γ2,Same B1 B2/\Rep K B2 φ2 Γ2 σ H/\cE K Ew B1 (aZ g fb (ds.drop i) Γ2) (Js iw a D),⟨ds.length,by simp,Xw _,z,B1,ψ,_,Same.refl B1,r1,by simpa using q⟩,?_⟩
  rintro i m σ2 H2 ⟨rfl,hi2,z2,B2,φ2,Γ2,s2,r2,q2⟩
  by_cases hlt:i < ds.length
  ·refine .inr ⟨io.go i H2 hlt (s2.trans r2.bs),λσ' H'=>Hold iw a σ'/\∃B3 φ3 Γ3,Same B1 B3/\Rep K B3 φ3 Γ3 σ' H'/\cE K Ew B1 (aZ g fb (ds.drop (i+1)) Γ3) (Js iw a D),λσ' H' h'=>⟨ds.length - (i+1),by omega,rfl,hlt,h'⟩,λx H' y=> ?_⟩
   obtain⟨s3,d,e,hd⟩:=io.yl i H2 x H' hlt (s2.trans r2.bs) y
   have r3:=r2.same s3
   have yO:aM K (gR φ2 H') d x:=hd _ (s2.trans r3.sM) λb o e1 e2=>by
    rw[cQ]
    ·exact e2
    ·intro j hj
     obtain⟨o',e',_⟩:=(r2.nb j b hj).2
     rw[e1] at e';cases e'
   have ed:ds.drop i=d :: ds.drop (i+1):=by
    rw[U4 hlt]
    congr 1
    rw[K3 hlt] at e
    exact Option.some.inj e
   rw[ed] at q2
   have q3:=q2
   simp only[aZ] at q3
   cases CQ:g (cP .base d) d Γ2 with
   | none=>simp only[CQ] at q3;exact False.elim q3
   | some Γ3=>
    simp only[CQ,bw,au] at q3
    refine⟨z2,gR φ2 H',φ2,Γ2,cP .base d,d,Γ3,r3.cut,VR.av r3.cut (VR.cP (jE _ _) (show VR K _ φ2 H' H' .base d x from yO)),CQ,λB4 φ4 σ4 s4 r4 z4=> ?_⟩
    have sB:Same B1 B4:=(s2.trans r3.sM).trans s4
    refine⟨z4,B4,φ4,Γ3,r4,?_⟩
    match hbm:fb Γ3,q3 with
    | some (.ok (.nx Γ')),q3=>exact λB' φ' σ' j2 s' r' z'=>⟨z',B',φ',Γ',sB.trans s',r',q3⟩
    | some (.ok (.ct Γ')),q3=>exact λB' φ' σ' j2 s' r' z'=>⟨z',B',φ',Γ',sB.trans s',r',q3⟩
    | some (.ok (.bk Γ')),q3=>exact λB' φ' σ' j2 s' r' z'=>q3 B' φ' σ' j2 (sB.trans s') r' z'
    | some (.ok (.rt o d)),q3=>exact λv j2 s' rv=>q3 v j2 (sB.trans s') (rv.base sB)
    | some (.ex c),q3=>exact λj2 s'=>q3 j2 (sB.trans s')
    | none,q3=>exact False.elim q3
  ·have e:i=ds.length:=by omega
   subst e
   rw[List.drop_length] at q2
   exact .inl ⟨io.stop H2 (s2.trans r2.bs),q2 B2 φ2 σ2 H2 s2 r2 z2⟩
 | some (.ex c),q=>exact q
 | none,q=>cases q
end
end L2
namespace L2
open PySem PySem.Spec PyProof.Rows Y
section
variable {X:Cx}{K:Frag}{Ew:Str->Hp->Prop}{iw:Nat}{a:Addr}{pos p pos':Pos}{st:Stmt}{rest ss:List Stmt}{f g:SF}{o j e:Expr}{fe fj:EF}{apos cpos:Pos}
theorem FP (hu:X.A.units+80 < cLine)(ho:PE X o (lX i))(hj:DE X K Ew j fj)(he:DE X K Ew e fe)(hK:X.K=K:=by rfl)
  (ha:∀v,assign (.Subscript o j p) X.env v=(do
   let ov←holding [v] (eval o X.env)
   let iv←holding [v,ov] (eval j X.env)
   standAt p
   holding [v,ov,iv] (setItem ov iv v)
   release [v,ov,iv] []):=by intro _;rfl)
  (hs:swapsWithSole [.Subscript o j p] e pos.line X.env=pure false:=by rfl) (hw:swappedStores [.Subscript o j p] e X.env=pure none:=by rfl)
  (h1:(assignEach [.Subscript o j p] X.env).map (·.2)=[assign (.Subscript o j p) X.env]:=by rfl):ZS X K Ew iw a (.Assign [.Subscript o j p] e pos) (qo i fj fe) :=
 (uA he (yu ho hj (Ao hu) ha) hs hw h1).imp λD σ H q=>
  gS (g:=λx Γ=>match Γ[i]? with
   | some (some (true,.dict kvs))=>aq (fj Γ) λy=>if eK kvs y.2=true/\br x.2=true/\eM kvs=true/\kvs.length < sizeLine then ah (.nx (Γ.set i (some (true,.dict (putK kvs y.2 x.2))))) else none
   | _=>none) q.2 λB φ Γ k d y H1 r av q'=>by
   have z:=q.1
   replace q:=q'
   clear q'
   subst hK
   obtain⟨kvs,hg,q⟩:=L7 q
   obtain⟨v,hv,hT⟩:=r.own hg
   obtain⟨l,ks,bs,rfl,hl,ht,hφ⟩:=dC hT
   have hli:l∈φ i:=by rw[hφ];exact K7
   refine⟨.ref l,hv,B,φ,Γ,r,?_⟩
   match hm:fj Γ,q with
   | some (.ok (k',d')),q=>
    refine .inl ⟨k',d',rfl,λw H2 s2 hw=> ?_⟩
    have r2:=r.same s2
    replace q:cE X.K Ew B (if eK kvs d'=true/\br d=true/\eM kvs=true/\kvs.length < sizeLine then ah (.nx (Γ.set i (some (true,.dict (putK kvs d' d))))) else none) (Js iw a D):=q
    by_cases hc:eK kvs d'=true/\br d=true/\eM kvs=true/\kvs.length < sizeLine
    ·rw[JQ hc] at q
     obtain⟨c1,c2,c3,c4⟩:=hc
     have hbs:bs=[]:=nc ht c3
     subst hbs
     have hdk:=aV.same s2 _ _ (aP.toD _ _ _ ht)
     have hkd:=hw.toD r2.bs
     have hdd:=aM.same s2 _ _ (av.toD r.bs)
     refine⟨l,ks,kvs,d',rfl,s2 _ _ hl,hdk,hkd,c1,by rw[gU hdk];exact c4,λep=> ?_⟩
     have hkn:∀p∈kvs,br p.1=true:=λp hp=>by
      have:=ht
      exact p6 ht p hp
     have Jo:=qK hdk hkd hdd
     have hn2:∀p∈putK kvs d' d,br p.1=true:=λp hp=>by
      unfold putK at hp
      split at hp
      ·obtain⟨q',hq',rfl⟩:=Kv.mp hp
       split
       ·exact hkn q' hq'
       ·exact hkn q' hq'
      ·rcases Kk.mp hp with hp | hp
       ·exact hkn p hp
       ·rw[K5.mp hp];exact vd c1
     have hnew:=aP.upd (o':=.dct l (m7 ks.1 d' w y,ep)) (s2 _ _ hl) trivial _ _ _ (show l∉[] by simp) (lH Jo hn2 (qM c3 c2))
     exact q B _ σ _ (Same.refl B) (r2.chg (d:=.dict (putK kvs d' d)) (as:=[l]) hli (s2 _ _ hl) trivial hv (h_ az hnew) (KJ.mpr ⟨by simp,X2⟩) (λb ha=> .inl (by rw[K5.mp ha];exact hli)) trivial) z
    ·rw[JV hc] at q
     exact False.elim q
   | some (.ex c),q=>exact .inr ⟨c,rfl,q⟩
   | none,q=>cases q
theorem JC (ho:PE X o (lX i))(he:DE X K Ew e fe)(hK:X.K=K:=by rfl)
  (hbase:attributeBase o "extend" X.env (eval o X.env)=eval o X.env:=by rfl)
  (hfew:((backTo cpos (starEach [e] X.env)).all (λx=> !x.1) && (backToKw cpos (keywordEach [] X.env)).all (λx=>x.1.isSome)
   && decide (([e]:List Expr).length+([]:List Keyword).length+(if ([]:List Keyword).isEmpty then 0 else 1) < 30))=true:=by rfl)
  (hline:(apos.endLine==cpos.line)=true:=by rfl) (hs:starEach [e] X.env=(false,eval e X.env) :: starEach [] X.env:=by rfl) (hplain:(backTo cpos (starEach [] X.env)).any (·.1)=false:=by rfl)
  (hsw:swapsWith (.Call (.Attribute o "extend" apos) [e] [] cpos) none pos.line X.env=pure false:=by rfl) :
  ZS X K Ew iw a (.Expr (.Call (.Attribute o "extend" apos) [e] [] cpos) pos) (yJ i fe) :=
 (lx (wk PySem.F.plainAttrs_list PySem.F.slot_list_extend PySem.F.type_list_extend Ah ho (bv he cO hs) hbase hfew hline hs hplain) hsw).imp λD σ H q=>by
  obtain⟨z,B,φ,Γ,r,q⟩:=q
  unfold yJ at q
  obtain⟨xs,hg,q⟩:=L6 q
  obtain⟨v,hv,hT⟩:=r.own hg
  obtain⟨l,vs,bs,rfl,hl,ht,hφ⟩:=bF hT
  refine⟨.ref l,hv,.inl ⟨rfl,vs,gD.of hl⟩,B,φ,Γ,r,?_⟩
  match hm:fe Γ,q with
  | some (.ok (k,d)),q=>
   refine .inl ⟨k,d,rfl,λy H1 s1 hy=> ?_⟩
   have r1:=r.same s1
   have hl1:=s1 _ _ hl
   have hlen:vs.length=xs.length:=bB ht
   have hli:l∈φ i:=by rw[hφ];exact K7
   replace q:cE K Ew B (match yI k d with
    | some ys=>if ar ys=true/\xs.length+ys.length<=sizeLine then ah (.nx (Γ.set i (some (true,.list (xs++ys))))) else none
    | none=>none) (Js iw a D):=q
   have hd:=hy.toD r1.bs
   have hnd:=r.nd i
   rw[hφ] at hnd
   have hnb:l∉bs:=(KJ.mp hnd).1
   have main:∀(b:Addr) (ws:List V) (ys:List PyData),y= .ref b->yI k d=some ys->(l=b->∃o,K.lookup b=some o)->(gD K H1 b ws∨ee K H1 b ws)->ay K H1 ys ws->CY X.K (.ref l) [y] H1 λ_ H1=>D.nx σ H1:=λb ws ys ey ei NX hb hws=>by
    rw[ei] at q
    by_cases hc:ar ys=true/\xs.length+ys.length<=sizeLine
    ·replace q:cE K Ew B (ah (.nx (Γ.set i (some (true,.list (xs++ys)))))) (Js iw a D):=by simpa only[JQ hc] using q
     subst ey
     refine⟨l,b,vs,ws,rfl,rfl,hl1,by rw[hK];exact NX,by rw[hK];exact hb,by rw[ap hws];omega,?_⟩
     refine q B _ σ _ (Same.refl B) (r1.chg (d:=.list (xs++ys)) (as:=l :: bs) hli hl1 trivial hv ?_ hnd (λa ha=> .inl (by rw[hφ];exact ha)) trivial) z
     have h1:=aA.upd (o':=.lst (vs++ws)) hl1 trivial _ _ _ hnb (aA.same s1 _ _ _ ht)
     have h2:=aA.upd (o':=.lst (vs++ws)) hl1 trivial _ _ _ (show l∉[] by simp) (ay.toT _ _ hc.1 hws)
     have h3:=dD h1 h2
     rw[Xz] at h3
     exact dQ az h3
    ·simp only[JV hc] at q
     exact False.elim q
   cases d <;> try (exact False.elim q)
   ·rename_i ys
    match k,hy,q,main with
    | .fr [],hy,q,main=>
     obtain⟨as,h1,h2,h3⟩:=hy
     obtain⟨b,ws,cs,ey,hb,hws,rfl⟩:=bF h1
     refine main b ws ys ey rfl (λz=> ?_) (.inl (gD.of hb)) (aA.toD _ _ _ hws)
     rcases h3 b K7 with⟨_,w,_⟩ | w
     ·cases w
     ·rw[←z,hl] at w;cases w
    | .base,hy,q,main=>
     obtain⟨b,ws,ey,hb,hws⟩:=a9 (show aM K B (.list ys) y from hy)
     refine main b ws ys ey rfl (λz=> ?_) (.inl (r1.bs.seq hb)) (ay.same r1.bs _ _ hws)
     have hB:=(r.nb i l hli).1
     rcases hb with(w | ⟨o,w⟩) | ⟨o,_,_,w,_⟩
     ·rw[←z,hB] at w;cases w
     ·rw[←z,hB] at w;cases w
     ·exact⟨o,w⟩
    | .fr (_ :: _),hy,q,main=>exact False.elim q
    | .any,hy,q,main=>exact False.elim q
   ·rename_i ys
    obtain⟨b,ws,ey,hb,hws⟩:=aJ hd
    refine main b ws ys ey rfl (λz=> ?_) (.inr hb) hws
    rcases hb with(w | ⟨o,w⟩) | ⟨o,_,_,w,_⟩
    ·rw[←z,hl1] at w;cases w
    ·rw[←z,hl1] at w;cases w
    ·exact⟨o,w⟩
  | some (.ex c),q=>exact .inr ⟨c,rfl,q⟩
  | none,q=>cases q
def Nc (K:Frag)(Ew:Str->Hp->Prop)(iw:Nat)(a:Addr)(ir:Nat)(f:SF):TS:=λD σ H=>Hold iw a σ/\∃B φ Γ,Rep K B φ Γ σ H/\match f Γ with
 | some (.ok (.nx Γ'))=>(∃o d,Γ'[ir]? =some (some (o,d)))/\∀B' φ' σ' H' v,Same B B'->Rep K B' φ' Γ' σ' H'->Hold iw a σ'->σ'[ir]? =some (some v)->D.rt v H'
 | _=>False
theorem Dg (he:PE X e (lX ir)):qf X [.Return (some e) pos] (Nc K Ew iw a ir fH):=(pU (Cu he)).imp λD σ H q=>by
 obtain⟨z,B,φ,Γ,r,⟨o,d,e⟩,q⟩:=q
 obtain⟨v,hv,_⟩:=r.sl ir o d e
 exact⟨v,hv,q B φ σ H v (Same.refl B) r z hv⟩
theorem w_ (h1:ZS X K Ew iw a st f)(h2:qf X rest (Nc K Ew iw a ir g))(hE:∀c H,¬ Ew c H:=by exact λ_ _ h=>h):qf X (st :: rest) (Nc K Ew iw a ir (aC f g)):=(mO h1 h2).imp λD σ H q=>by
 obtain⟨z,B,φ,Γ,r,q⟩:=q
 refine⟨z,B,φ,Γ,r,?_⟩
 unfold aC at q
 match hm:f Γ,q with
 | some (.ok (.nx Γ')),q=>
  refine λB' φ' σ' H' s' r' z'=>⟨z',B',φ',Γ',r',?_⟩
  have q:match g Γ' with
   | some (.ok (.nx Γ'))=>(∃o d,Γ'[ir]? =some (some (o,d)))/\∀B' φ' σ' H' v,Same B B'->Rep K B' φ' Γ' σ' H'->Hold iw a σ'->σ'[ir]? =some (some v)->D.rt v H'
   | _=>False:=q
  match hm2:g Γ',q with
  | some (.ok (.nx Γ2)),q=>exact⟨q.1,λB2 φ2 σ2 H2 v s2=>q.2 B2 φ2 σ2 H2 v (s'.trans s2)⟩
  | some (.ok (.bk Γ2)),q|some (.ok (.ct Γ2)),q|some (.ok (.rt o d)),q|some (.ex c),q|none,q=>cases q
 | some (.ok (.bk Γ')),q|some (.ok (.ct Γ')),q|some (.ok (.rt o d)),q|some (.ex c),q|none,q=>cases q
end
def JD (K:Frag)(n:Nat)(F:List PyData->PyData->M (PyData×PyData)):Sp:=λvs H Q _=>∃(B:Hp) (ds:List PyData) (kvs:l5) (ws:List V) (a:Addr) (as:List Addr),ds.length=n/\vs=ws++[.ref a]/\Same B H/\ay K B ds ws/\IsT K H (.dict kvs) (.ref a) as/\as.Nodup/\(∀x∈as,B x=none/\∃o,H x=some o/\fJ o)/\match F ds (.dict kvs) with
 | some (.ok (.list xs,.dict kvs'))=>∀v H' a1 a2,Same B H'->IsT K H' (.list xs) v a1->IsT K H' (.dict kvs') (.ref a) a2->a1.Nodup->a2.Nodup->(∀x∈a1,x∉a2)->(∀x,x∈a1∨x∈a2->B x=none/\∃o,H' x=some o/\fJ o)->Q v H'
 | _=>False
theorem yU (h:(kT n ds w)[i]? =some (some (o,d))):(i < ds.length/\ds[i]? =some d/\o=false)∨(i=ds.length/\d=w/\o=true):=by
 unfold kT at h
 by_cases hi:i < ds.length
 ·rw[Xu (by simpa using hi),KU] at h
  cases hd:ds[i]? with
  | none=>rw[hd] at h;cases h
  | some d'=>rw[hd] at h;cases h;exact .inl ⟨hi,rfl,rfl⟩
 ·rw[Xj (by simpa using hi),K6] at h
  by_cases h0:i=ds.length
  ·subst h0
   rw[Nat.sub_self] at h
   cases h
   exact .inr ⟨rfl,rfl,rfl⟩
  ·obtain⟨m,hm⟩:∃m,i - ds.length=m+1:=⟨i - ds.length - 1,by omega⟩
   rw[hm,J0,J1] at h
   split at h <;> cases h
theorem yV {K:Frag}{B H:Hp}{ds:List PyData}{w:PyData}{ws:List V}{v:V}{as:List Addr}(N:List Str)(hN:ds.length+1<=N.length)(s:Same B H)(h:ay K B ds ws)(ht:IsT K H w v as)(hnd:as.Nodup)(hb:∀x∈as,B x=none/\∃o,H x=some o/\fJ o) :
  Rep K B (λi=>if i=ds.length then as else []) (kT N.length ds w) (start N (ws++[v])) H:=by
 have hl:=ap h
 exact {
  bs:=s
  len:=by
   unfold kT start
   simp only[K2,K6,Kj,Uy,UQ,hl]
   omega
  sl:=λi o d e=>by
   rcases yU e with⟨h1,h2,rfl⟩ | ⟨rfl,rfl,rfl⟩
   ·obtain⟨u,h3,h4⟩:=gP h h2
    refine⟨u,?_,by rw[JV K4];exact h4⟩
    unfold start
    rw[Xu (by rw[K6,K2,hl];omega),KU,Xu (!1),h3];rfl
   ·refine⟨v,?_,by rw[JQ rfl,JQ rfl];exact ht⟩
    unfold start
    rw[Xu (by rw[K6,K2,hl,X4];omega),KU,Xj (!1),hl,Nat.sub_self];rfl
  nd:=λi=>by
   show(if i=ds.length then as else []).Nodup
   split
   ·exact hnd
   ·exact X2
  nb:=λi x hx=>by
   replace hx:x∈(if i=ds.length then as else []):=hx
   split at hx
   ·exact hb x hx
   ·cases hx
  dj:=λi k hik x hx hx'=>by
   replace hx:x∈(if i=ds.length then as else []):=hx
   replace hx':x∈(if k=ds.length then as else []):=hx'
   split at hx
   ·split at hx'
    ·omega
    ·cases hx'
   ·cases hx}
theorem Of {P:Program}{w:World}{K:Frag}{mg:Str->Option Value}{base:Heap}{x qual:Str}{st:Stmt}{f:Addr}{fd:FuncData}{N ps:List Str}(k n m ir:Nat){fb:SF}(hn:N.length=n)(hm:ps.length=m+1)(F:EW K x qual st f fd)(S:aL N ps (aj st))(PU:ir≠m)(hmn:m+1<=n)
  (hbody:∀(cdv:Value) (A:Around) (outer:List Env) (s:Shared) (H:Hp) (E:XK) (a:Addr),eH k (A.deeper (envOfC qual (aj st) s.heap.objs.size f cdv))->
   qf (sH zW P w K mg base N qual (aj st) f cdv A outer s H E).Cj (eY st) (Nc K (λ_ _=>False) m a ir fb)):jy P w K mg base zW (k+1) f fd ps (JD K m (runIO n ir fb)):=by
 subst hn
 refine F.ok S (λvs H Q E h=> ?_) λcdv A outer s H vs Q E hr h=> ?_
 ·obtain⟨B,ds,kvs,ws,a,as,h1,rfl,_,h2,_⟩:=h
  rw[K2,ap h2,h1,hm];rfl
 ·obtain⟨B,ds,kvs,ws,a,as,h1,rfl,h3,h4,h5,h6,h7,h8⟩:=h
  subst h1
  refine⟨_,hbody cdv A outer s H E a hr,?_,B,_,_,yV N hmn h3 h4 h5 h6 h7,?_⟩
  ·unfold Hold start
   have hl:=ap h4
   rw[Xu (by rw[K6,K2,hl,X4];omega),KU,Xj (!1),hl,Nat.sub_self];rfl
  ·unfold runIO at h8
   match hf:fb (kT N.length ds (.dict kvs)),h8 with
   | some (.ok (.nx Γ)),h8=>
    simp only[aq] at h8
    match e1:Γ[ir]?,e2:Γ[ds.length]?,h8 with
    | some (some (true,.list xs)),some (some (true,.dict kvs')),h8=>
     refine⟨⟨true,.list xs,e1⟩,λB' φ' σ' H' v s' r' z' hv=> ?_⟩
     obtain⟨v1,g1,g2⟩:=r'.own e1
     obtain⟨v2,g3,g4⟩:=r'.own e2
     rw[hv] at g1
     cases g1
     rw[show σ'[ds.length]? =some (some (V.ref a)) from z'] at g3
     cases g3
     refine h8 v H' _ _ (s'.trans r'.bs) g2 g4 (r'.nd ir) (r'.nd _) (λy hy=>r'.dj ir _ PU y hy) λy hy=> ?_
     have nb:B' y=none/\∃o,H' y=some o/\fJ o:=by
      rcases hy with hy | hy
      ·exact r'.nb ir y hy
      ·exact r'.nb _ y hy
     exact⟨s'.free nb.1,nb.2⟩
   | some (.ok (.bk Γ)),h8=>exact False.elim h8
   | some (.ok (.ct Γ)),h8=>exact False.elim h8
   | some (.ok (.rt o d)),h8=>exact False.elim h8
   | some (.ex c),h8=>exact False.elim h8
   | none,h8=>exact False.elim h8
section
variable {X:Cx}{K:Frag}{Ew:Str->Hp->Prop}{pos pos' p:Pos}
theorem Bs (r1:Rep K B1 ψ Γ1 σ H1)(io:uS K B1 J ds)(q:cE K Ew B1 (aZ g fb ds Γ1) D) :
  ∃W:Nat->Nat->St->Hp->Prop,(∃m,W 0 m σ H1)/\∀i m σ H,W i m σ H->(J.stop i H/\D.nx σ H)∨(J.go i H/\∃N:St->Hp->Prop,(∀σ' H',N σ' H'->∃m',m' < m/\W (i+1) m' σ' H')/\∀x H',J.LF i H x H'->tG K g x σ H' λσ2 H2=>L5 K Ew fb {D with nx:=N,ct:=N,bk:=D.nx} σ2 H2):=by
 refine⟨λi m σ H=>m=ds.length - i/\i<=ds.length/\∃B2 φ2 Γ2,Same B1 B2/\Rep K B2 φ2 Γ2 σ H/\cE K Ew B1 (aZ g fb (ds.drop i) Γ2) D,⟨ds.length,by simp,Xw _,B1,ψ,_,Same.refl B1,r1,by simpa using q⟩,?_⟩
 rintro i m σ2 H2 ⟨rfl,hi2,B2,φ2,Γ2,s2,r2,q2⟩
 by_cases hlt:i < ds.length
 ·refine .inr ⟨io.go i H2 hlt (s2.trans r2.bs),λσ' H'=>∃B3 φ3 Γ3,Same B1 B3/\Rep K B3 φ3 Γ3 σ' H'/\cE K Ew B1 (aZ g fb (ds.drop (i+1)) Γ3) D,λσ' H' h'=>⟨ds.length - (i+1),by omega,rfl,hlt,h'⟩,λx H' y=> ?_⟩
  obtain⟨s3,d,e,hd⟩:=io.yl i H2 x H' hlt (s2.trans r2.bs) y
  have r3:=r2.same s3
  have yO:aM K (gR φ2 H') d x:=hd _ (s2.trans r3.sM) λa o e1 e2=>by
   rw[cQ]
   ·exact e2
   ·intro j hj
    obtain⟨o',e',_⟩:=(r2.nb j a hj).2
    rw[e1] at e';cases e'
  have ed:ds.drop i=d :: ds.drop (i+1):=by
   rw[U4 hlt]
   congr 1
   rw[K3 hlt] at e
   exact Option.some.inj e
  rw[ed] at q2
  have q3:=q2
  simp only[aZ] at q3
  cases CQ:g (cP .base d) d Γ2 with
  | none=>simp only[CQ] at q3;exact False.elim q3
  | some Γ3=>
   simp only[CQ,bw,au] at q3
   refine⟨gR φ2 H',φ2,Γ2,cP .base d,d,Γ3,r3.cut,VR.av r3.cut (VR.cP (jE _ _) (show VR K _ φ2 H' H' .base d x from yO)),CQ,λB4 φ4 σ4 s4 r4=> ?_⟩
   have sB:Same B1 B4:=(s2.trans r3.sM).trans s4
   refine⟨B4,φ4,Γ3,r4,?_⟩
   match hbm:fb Γ3,q3 with
   | some (.ok (.nx Γ')),q3=>exact λB' φ' σ' j2 s' r'=>⟨B',φ',Γ',sB.trans s',r',q3⟩
   | some (.ok (.ct Γ')),q3=>exact λB' φ' σ' j2 s' r'=>⟨B',φ',Γ',sB.trans s',r',q3⟩
   | some (.ok (.bk Γ')),q3=>exact λB' φ' σ' j2 s' r'=>q3 B' φ' σ' j2 (sB.trans s') r'
   | some (.ok (.rt o d)),q3=>exact λv j2 s' rv=>q3 v j2 (sB.trans s') (rv.base sB)
   | some (.ex c),q3=>exact λj2 s'=>q3 j2 (sB.trans s')
   | none,q3=>exact False.elim q3
 ·have e:i=ds.length:=by omega
  subst e
  rw[List.drop_length] at q2
  exact .inl ⟨io.stop H2 (s2.trans r2.bs),q2 B2 φ2 σ2 H2 s2 r2⟩
noncomputable def hide (as:List Addr)(H:Hp):Hp:=λb=>if b∈as then none else H b
theorem Au (h:b∈as):hide as H b=none:=JQ h
theorem iM (h:b∉as):hide as H b=H b:=JV h
theorem Bt (as:List Addr)(H:Hp):Same (hide as H) H:=λb o e=>by
 by_cases h:b∈as
 ·rw[Au h] at e;cases e
 ·rwa [iM h] at e
theorem Rep.swap (r:Rep K B φ Γ σ H)(hv:σ[iw]? =some (some (.ref a)))(s:Same (hide (φ iw) H) H')(ht:IsT K H' d (.ref a) as)(hn:as.Nodup)(hb:∀x∈as,hide (φ iw) H x=none/\∃o,H' x=some o/\fJ o) :
  Rep K B (λj=>if j=iw then as else φ j) (Γ.set iw (some (true,d))) σ H':=by
 have sB:Same B (hide (φ iw) H):=λb o e=>by
  by_cases h:b∈φ iw
  ·rw[(r.nb iw b h).1] at e;cases e
  ·rw[iM h];exact r.bs b o e
 have mu:∀b o,H b=some o->¬ fJ o->H' b=some o:=λb o e n=>s b o (by
  rw[iM]
  ·exact e
  ·intro h
   obtain⟨o',e',m⟩:=(r.nb iw b h).2
   rw[e] at e';cases e'
   exact n m)
 have ot:∀j,j≠iw->∀b∈φ j,∀o,H b=some o->H' b=some o:=λj hj b hb o e=>s b o (by
  rw[iM (r.dj j iw hj b hb)];exact e)
 exact {
  bs:=sB.trans s
  len:=by rw[U9];exact r.len
  sl:=λj o d' e=>by
   by_cases hj:j=iw
   ·subst hj
    by_cases hlt:j < Γ.length
    ·rw[U6 hlt] at e
     cases e
     exact⟨.ref a,hv,by rw[JQ rfl,JQ rfl];exact ht⟩
    ·rw[XU (by rw[U9];omega)] at e;cases e
   ·rw[Xq (Ne.symm hj)] at e
    obtain⟨v,h1,h2⟩:=r.sl j o d' e
    refine⟨v,h1,?_⟩
    cases o with
    | true=>
     rw[JQ rfl] at h2⊢
     rw[JV hj]
     exact IsT.via mu _ _ _ (ot j hj) h2
    | false=>rwa [JV K4] at h2⊢
  nd:=λj=>by
   show(if j=iw then as else φ j).Nodup
   split
   ·exact hn
   ·exact r.nd j
  nb:=λj x hx=>by
   replace hx:x∈(if j=iw then as else φ j):=hx
   split at hx
   ·exact⟨sB.free (hb x hx).1,(hb x hx).2⟩
   ·rename_i hj
    obtain⟨h1,o,h2,h3⟩:=r.nb j x hx
    exact⟨h1,o,ot j hj x hx o h2,h3⟩
  dj:=λi j hij x hx hx'=>by
   replace hx:x∈(if i=iw then as else φ i):=hx
   replace hx':x∈(if j=iw then as else φ j):=hx'
   have key:∀m,m≠iw->x∈φ m->x∈as->False:=λm hm h1 h2=>by
    obtain⟨_,o,e,_⟩:=r.nb m x h1
    have:=(hb x h2).1
    rw[iM (r.dj m iw hm x h1),e] at this
    cases this
   split at hx
   ·split at hx'
    ·omega
    ·rename_i hj;exact key j hj hx' hx
   ·split at hx'
    ·rename_i hi _;exact key i hi hx hx'
    ·exact r.dj i j hij x hx hx'}
theorem FQ 
  (hp:PassesOwn (!7) X.A X.env X.xe) (hc:X.calm=true) (G:jy X.prog X.w X.K X.mg X.base CX k f fd ps (JD K 2 F)) (hr:eH k X.A) (PV:Gl X x) (hm:X.mg x=some (.ref f)) (hk:keepIn X.K (.ref f)=true) (hb:Binds X.K fd ps []) (hx:Passes CX X E)
  (h1:DE X K Ew e1 f1) (h2:DE X K Ew e2 f2) (hw:PE X ew (lX iw)) (hg:DG X K tg g) (hbd:Aa X K Ew body fb) (hK:X.K=K:=by rfl) (hdb:(x==("__debug__":Str))=false:=by decide)
  (s1:starEach [e1,e2,ew] X.env=(false,eval e1 X.env) :: starEach [e2,ew] X.env:=by rfl) (s2:starEach [e2,ew] X.env=(false,eval e2 X.env) :: starEach [ew] X.env:=by rfl) (s3:starEach [ew] X.env=(false,eval ew X.env) :: starEach [] X.env:=by rfl)
  (hpl:(backTo pos (starEach [e2,ew] X.env)).any (·.1)=false:=by rfl) (hs:∀y,foldedSetIterable (.Call (.Name x p) [e1,e2,ew] [] pos) X.env y=pure y:=by intro _;rfl) :
  DS X K Ew (.For tg (.Call (.Name x p) [e1,e2,ew] [] pos) body [] pos') (Ar iw F f1 f2 g fb) :=
 (uB hp hc (zO (zQ G hr PV hm hk hb .nil hx (bv h1 (bv h2 (bv hw cO s3) s2) s1) hdb s1 hpl)) hg hbd hs).imp λD σ H q=>by
  subst hK
  obtain⟨B,φ,Γ,r,q⟩:=q
  unfold Ar at q
  obtain⟨kvs,hgw,q⟩:=L7 q
  obtain⟨v3,Ht,hT⟩:=r.own hgw
  obtain⟨a,ks,bs,rfl,hl,ht,hφ⟩:=dC hT
  refine⟨B,φ,Γ,r,?_⟩
  match hm1:f1 Γ,q with
  | none,q=>cases q
  | some (.ex c),q=>exact .inr ⟨c,rfl,q⟩
  | some (.ok (k1,d1)),q=>
   refine .inl ⟨k1,d1,rfl,λv1 H1 t1 hv1=>⟨B,φ,Γ,r.same t1,?_⟩⟩
   match hm2:f2 Γ,q with
   | none,q=>cases q
   | some (.ex c),q=>exact .inr ⟨c,rfl,q⟩
   | some (.ok (k2,d2)),q=>
    refine .inl ⟨k2,d2,rfl,λv2 H2 t2 hv2=>⟨.ref a,Ht,?_⟩⟩
    have q5:cE X.K Ew B (if mx k1=true/\mx k2=true then (match F [d1,d2] (.dict kvs) with
     | some (.ok (.list ds,.dict kvs'))=>aZ g fb ds (Γ.set iw (some (true,.dict kvs')))
     | _=>none) else none) D:=q
    by_cases hbb:mx k1=true/\mx k2=true
    ·rw[JQ hbb] at q5
     obtain⟨b1,b2⟩:=hbb
     cases k1 <;> first | (cases b1;done) | skip
     cases k2 <;> first | (cases b2;done) | skip
     have r2:=(r.same t1).same t2
     have sB:Same B (hide (φ iw) H2):=λb o e=>by
      by_cases h:b∈φ iw
      ·rw[(r2.nb iw b h).1] at e;cases e
      ·rw[iM h];exact r2.bs b o e
     have w1:aM X.K (hide (φ iw) H2) d1 v1:=aM.same sB _ _ (show aM X.K B d1 v1 from hv1)
     have w2:aM X.K (hide (φ iw) H2) d2 v2:=aM.same sB _ _ (show aM X.K B d2 v2 from hv2)
     refine⟨hide (φ iw) H2,[d1,d2],kvs,[v1,v2],a,φ iw,rfl,rfl,Bt _ _,aW w1 (aW w2 a8),IsT.same t2 _ _ _ (IsT.same t1 _ _ _ hT),r.nd iw,λy hy=>⟨Au hy,(r2.nb iw y hy).2⟩,?_⟩
     match hF:F [d1,d2] (.dict kvs),q5 with
     | some (.ok (.list ds,.dict kvs')),q5=>
      intro v H3 a1 a2 z1 z2 z3 z4 z5 z6 z7
      have r3:=r2.swap Ht z1 z3 z5 λy hy=>z7 y (.inr hy)
      have av:Av X.K B (λj=>if j=iw then a2 else φ j) H3 (.fr []) (.list ds) v:=⟨a1,z2,z4,λy hy=> .inr ⟨sB.free (z7 y (.inl hy)).1,λj hj=>by
       replace hj:y∈(if j=iw then a2 else φ j):=hj
       split at hj
       ·exact z6 y hy hj
       ·rename_i hji
        obtain⟨_,o,e,_⟩:=r2.nb j y hj
        have:=(z7 y (.inl hy)).1
        rw[iM (r2.dj j iw hji y hj),e] at this
        cases this⟩⟩
      obtain⟨B1,ψ,PX,r4,hD⟩:=r3.kG av
      obtain⟨al,vs,rfl,hq,hds⟩:=a9 hD
      exact⟨al,rfl,⟨vs,r4.bs.seq hq⟩,Bs r4 (tv hq hds) (cE.base PX q5)⟩
     | some (.ok (.list ds,.none)),q5=>exact False.elim q5
     | some (.ok (.list ds,.bool _)),q5=>exact False.elim q5
     | some (.ok (.list ds,.int _)),q5=>exact False.elim q5
     | some (.ok (.list ds,.str _)),q5=>exact False.elim q5
     | some (.ok (.list ds,.tuple _)),q5=>exact False.elim q5
     | some (.ok (.list ds,.list _)),q5=>exact False.elim q5
     | some (.ok (.none,_)),q5=>exact False.elim q5
     | some (.ok (.bool _,_)),q5=>exact False.elim q5
     | some (.ok (.int _,_)),q5=>exact False.elim q5
     | some (.ok (.str _,_)),q5=>exact False.elim q5
     | some (.ok (.tuple _,_)),q5=>exact False.elim q5
     | some (.ok (.dict _,_)),q5=>exact False.elim q5
     | some (.ex c),q5=>exact False.elim q5
     | none,q5=>exact False.elim q5
    ·rw[JV hbb] at q5
     exact False.elim q5
end
section
variable {X:Cx}{K:Frag}{Ew:Str->Hp->Prop}{pos pos2 p p2:Pos}{a:Expr}{ta:TE}{fa:EF}
theorem o8:∀{xs:List V} {us:List Value},xs.length=us.length->(∀(i:Nat) (x:V) (u:Value),xs[i]? =some x->us[i]? =some u->RelV x u)->Vals xs us
 | [],[],_,_=> .nil
 | [],_ :: _,h,_=>by simp at h
 | _ :: _,[],h,_=>by simp at h
 | x :: xs,u :: us,h,k=> .cons (k 0 x u rfl rfl) (o8 (by simpa using h) λi y w e1 e2=>k (i+1) y w (by simpa using e1) (by simpa using e2))
theorem qN (h:ItemsOf (λi v=>∃t,v= .int (0+(i:Nat)*1) t) acc n):Vals ((List.range n).map λ(i:Nat)=>V.int (i:Int)) acc.toList:=by
 refine o8 (by simp[h.1]) λi v u e1 e2=> ?_
 have hi:i < n:=by
  have:=(X1.mp e1).1
  simpa using this
 rw[KU,UZ hi] at e1
 cases e1
 obtain⟨t,rfl⟩:=h.2 i u (by rw[←Uj];exact e2)
 exact⟨t,by simp⟩
def JE (ta:TE):TE:=λσ H Q=>ta σ H λx H1=>∃n:Int,x= .int n/\0<=n/\n<=100000/\∀t,H1 t=none->Q (.ref t) (upd H1 t (.lst ((List.range n.toNat).map λ(i:Nat)=>V.int (i:Int))))
theorem Dh (hc:X.calm=true)(hg:Gl X "list")(hm:X.mg "list" =none)(hg2:Gl X "range")(hm2:X.mg "range" =none)(ha:PE X a ta)
  (hs:starEach [a] X.env=(false,eval a X.env) :: starEach [] X.env:=by rfl) (hpl:(backTo pos2 (starEach [] X.env)).any (·.1)=false:=by rfl)
  (hs2:starEach [.Call (.Name "range" p2) [a] [] pos2] X.env=(false,eval (.Call (.Name "range" p2) [a] [] pos2) X.env) :: starEach [] X.env:=by rfl) (mq:(backTo pos (starEach [] X.env)).any (·.1)=false:=by rfl)
  (hnil:backTo pos (starEach [] X.env)=[]:=by rfl) :
  PE X (.Call (.Name "list" p) [.Call (.Name "range" p2) [a] [] pos2] [] pos) (JE ta):=by
 intro pins s σ H Q I h
 refine wpAny_Call_Name_kw (fw I hg hm PyProof.Rows.boot_list ?_)
 refine PyProof.Rows.callWith_type1 ?_ hs2 mq
 rw[hs2]
 show wpAny _ _ (spliced ((false,eval (.Call (.Name "range" p2) [a] [] pos2) X.env) :: backTo pos (starEach [] X.env))) _ _ s
 refine Calls.spliced_cons ?_
 refine wpAny_Call_Name_kw (fw I hg2 hm2 boot_range ?_)
 refine PyProof.Rows.callWith_type1 (dv (bv ha cO hs pos2 pins s σ H (λvs H1=>match vs with
  | [x]=>∃n:Int,x= .int n/\0<=n/\n<=100000/\∀t,H1 t=none->Q (.ref t) (upd H1 t (.lst ((List.range n.toNat).map λ(i:Nat)=>V.int (i:Int))))
  | _=>False) I h) λus s1 ⟨vs,H1,I1,r1,q1⟩=> ?_) hs hpl
 match vs,r1,q1 with
 | [x],r1,q1=>
  obtain⟨n,rfl,n0,n1,fin⟩:=q1
  obtain⟨u,rfl,ru⟩:=r1.one
  obtain⟨t,rfl⟩:=ru
  refine call_range_1 ?_
  rw[hnil]
  refine Calls.spliced_nil ?_
  have hh:X.A.handled=none:=I1.ok.hd hc
  have hsz:(s1.heap.push {cls:=.type "range",data:=.fields #[.int 0 s1.toks,.int n t,.int 1 (s1.toks+1)]}).objs.size=s1.heap.objs.size+1:=XJ ..
  refine call_list_range (n:=n.toNat) (by first | exact hh | simpa using hh) (IsRange.new ..) (small_one (!1) (!1) (!1) (!1)) (by rw[rangeSize_one];split <;> omega) (Kz (show n.toNat<=100000 by omega) (!8)) λh' tk acc c hk hS' hacc=> ?_
  have hv:=qN hacc
  refine⟨.ref _,_,I1.laid (h':=h') (t':=tk) (a:=(s1.heap.push {cls:=.type "range",data:=.fields #[.int 0 s1.toks,.int n t,.int 1 (s1.toks+1)]}).objs.size) (o:=.lst ((List.range n.toNat).map λ(i:Nat)=>V.int (i:Int))) (λb u e=>hk b u (K8 _ e)) (by rw[hsz];exact Y8 _) ⟨?_,acc.toList,c,hv,by simpa using hS'⟩,rfl,fin _ (I1.hok.fresh (by rw[hsz];exact Y8 _))⟩
  rw[K6,KW]
  exact Kz (show n.toNat<=100000 by omega) (!8)
 | [],r1,q1=>exact False.elim q1
 | _ :: _ :: _,r1,q1=>exact False.elim q1
theorem ng (hc:X.calm=true)(hg:Gl X "list")(hm:X.mg "list" =none)(hg2:Gl X "range")(hm2:X.mg "range" =none)(ha:DE X K Ew a fa)(hK:X.K=K:=by rfl)
  (hs:starEach [a] X.env=(false,eval a X.env) :: starEach [] X.env:=by rfl) (hpl:(backTo pos2 (starEach [] X.env)).any (·.1)=false:=by rfl)
  (hs2:starEach [.Call (.Name "range" p2) [a] [] pos2] X.env=(false,eval (.Call (.Name "range" p2) [a] [] pos2) X.env) :: starEach [] X.env:=by rfl) (mq:(backTo pos (starEach [] X.env)).any (·.1)=false:=by rfl)
  (hnil:backTo pos (starEach [] X.env)=[]:=by rfl) :
  DE X K Ew (.Call (.Name "list" p) [.Call (.Name "range" p2) [a] [] pos2] [] pos) (v6 g9 fa):=(Dh hc hg hm hg2 hm2 ha hs hpl hs2 mq hnil).imp λσ H Q q=>by
 obtain⟨B,φ,Γ,r0,q⟩:=q
 refine⟨B,φ,Γ,r0,(q.bind r0).mono λu H1 s1 ⟨k,x,e1,v1,r1,_,q1⟩=> ?_⟩
 obtain⟨z,e,q⟩:=gE (kf:=λ_=> .fr []) q1
 cases x <;> simp only[g9] at e <;> try (cases e;done)
 split at e
 ·rename_i n hn
  cases e
  have:=aE (v1.toD r1.bs)
  subst this
  refine⟨n,rfl,hn.1,hn.2,λt ht=>q _ _ (s1.trans (Same.upd ht)) (VR.fresh.mpr (aU.lst ?_ az ?_ (s1.free ht)))⟩
  ·exact aO _ (λ_=>rfl) _
  ·have:=lC (K:=K) (H:=upd H1 t (.lst ((List.range n.toNat).map λ(i:Nat)=>V.int (i:Int)))) ((List.range n.toNat).map λ(i:Nat)=>(i:Int))
   rw[KZ,KZ] at this
   exact this
 ·cases e
end
theorem Bu (i:Int)(l:List Int)(x:Int):vg (i :: (l++[x]))=if x < vg (i :: l) then x else vg (i :: l):=by
 show(l++[x]).foldl (λa b=>if b < a then b else a) i=_
 rw[List.foldl_append];rfl
theorem xa (i:Int)(l:List Int):∀k,k<=l.length->(i :: l).getD (argBest (λa b=>decide ((i :: l).getD a 0 < (i :: l).getD b 0)) k) 0=vg (i :: l.take k)
 | 0,_=>rfl
 | k+1,h=>by
  have ih:=xa i l k (!1)
  have hk:k < l.length:=by omega
  have e1:(i :: l).getD (k+1) 0=l[k]:=by simp[X8,hk]
  rw[List.take_succ_eq_append_getElem hk,Bu,←ih]
  show(i :: l).getD (if decide ((i :: l).getD (k+1) 0 < (i :: l).getD (argBest _ k) 0)=true then k+1 else argBest _ k) 0=_
  rw[e1]
  by_cases c:l[k] < (i :: l).getD (argBest (λa b=>decide ((i :: l).getD a 0 < (i :: l).getD b 0)) k) 0
  ·rw[JQ (Z9 c),JQ c];exact e1
  ·rw[JV (by simpa using c),JV c]
theorem Di (i:Int)(l:List Int):(i :: l).getD (argBest (λa b=>decide ((i :: l).getD a 0 < (i :: l).getD b 0)) l.length) 0=vg (i :: l):=by
 rw[xa i l l.length (K1 _),J3]
section
variable {X:Cx}
theorem Bv (hc:X.calm=true):iF X (.builtin "min") (λus H Q=>∃q i l,us=[.ref q]/\gD X.K H q ((i :: l).map V.int)/\Q (.int (vg (i :: l))) H):=by
 intro pins s σ H xs us Q I rv h
 obtain⟨p,i,l,rfl,hq,q⟩:=h
 obtain⟨u,rfl,ru⟩:=rv.one
 cases(show u=Value.ref p from ru)
 obtain⟨its,r,pl,hz⟩:=I.list hq
 have hlen:its.length=l.length+1:=by
  have:=r.length
  simpa using this.symm
 refine call_min_walk (wpAny_pyIter_list pl.isList ?_)
 have hne:p≠s.heap.objs.size:=by
  obtain⟨o,e,_⟩:=pl.isList
  exact X3 (Kq e)
 have W:=Walks.list (prog:=X.prog) (w:=X.w) (A:=X.A.in1) (I.ok.hd hc) s.heap.objs.size p hne its.toArray
 have hat:∀(a:Nat) (v:Value),its.toArray[a]? =some v->∃t,v= .int ((i :: l).getD a 0) t:=λa v hv=>by
  have hv:its[a]? =some v:=by simpa using hv
  have ha:a < (i :: l).length:=by
   have:=(X1.mp hv).1
   simp;omega
  have e:((i :: l).map V.int)[a]? =some (.int ((i :: l).getD a 0)):=by
   rw[KU,X8,K3 ha];rfl
  obtain⟨u,hu,ru⟩:=r.get e
  rw[hv] at hu
  cases hu
  exact ru
 refine⟨s.heap.objs.size,_,_,its.toArray.size,_,_,λa b=>decide ((i :: l).getD a 0 < (i :: l).getD b 0),rfl,W,⟨⟨_,Ky _ rfl,rfl,rfl⟩,Heap.IsList.push pl.isList _⟩,λb hb=> ?_,by rw[Kw];omega,CmpOf.ints_lt (λa=>(i :: l).getD a 0) hat,λv h' tk hv hk=> ?_⟩
 ·simp only[K0,List.mem_nil_iff,or_false] at hb
  rw[XJ]
  rcases hb with rfl | rfl
  ·exact Uz _
  ·obtain⟨o,e,_⟩:=pl.isList
   exact UJ (Kq e)
 ·have hI:Inv X pins σ H {s with heap:=h',toks:=tk}:=I.kept (t':=tk) λb o e=>hk b o (by
   intro z
   rw[K5.mp z] at e
   exact absurd (Kq e) (U2 _)) (K8 _ e)
  obtain⟨t,rfl⟩:=hat _ v hv
  refine⟨.int _,H,hI,⟨t,rfl⟩,?_⟩
  rw[show its.toArray.size - 1=l.length by rw[Kw];omega,Di]
  exact q
theorem qP:∀{xs:List PyData} {l:List Int},xs.mapM intOf=some l->xs=l.map PyData.int
 | [],l,h=>by cases h;rfl
 | x :: xs,l,h=>by
  rw[List.mapM_cons] at h
  cases e:intOf x with
  | none=>rw[e] at h;cases h
  | some i=>
   rw[e] at h
   cases e2:xs.mapM intOf with
   | none=>rw[e2] at h;cases h
   | some l'=>
    rw[e2] at h
    have h':i :: l'=l:=Option.some.inj h
    subst h'
    rw[KQ,←qP e2]
    cases x <;> simp only[intOf] at e <;> first | (cases e;rfl) | (cases e;done)
theorem yW (hc:X.calm=true):CallD X (.builtin "min") tX:=⟨_,Bv hc,λxs z us H Q e h q=>by
 match xs,e,h with
 | [.list ds],e,h=>
  simp only[tX] at e
  cases e2:ds.mapM intOf with
  | none=>rw[e2] at e;cases e
  | some l=>
   rw[e2,Option.bind_some] at e
   cases l with
   | nil=>cases e
   | cons i l=>
    cases e
    have hd:=qP e2
    subst hd
    obtain⟨u,rfl,hu⟩:=dF h
    obtain⟨a,vs,rfl,h1,h2⟩:=a9 hu
    rw[mU h2] at h1
    exact⟨a,i,l,rfl,h1,q _ H (Same.refl H) (aU.mm rfl bJ)⟩⟩
end
section
variable {A:Around}{s:Shared}
theorem yX (d:Addr)(hd:(d==sysModules)=false):Meets (Builtin.«dict.items» ⟨[.ref d],[]⟩) (λ_ R s=>s.TypeIs (.ref d) "dict" /\R (.ok (.ret (!6))) {s with heap:=s.heap.push {cls:=.type "dict_items",data:=.fields #[.ref d]}}) :=
 .of_wp λprog w A R s ⟨hT,h⟩=>by
  unfold Builtin.«dict.items»;refine JZ ?_;unfold Builtin.Dict.noArgs;refine JZ (wpAny_notOrdered_dict hT ?_)
  show wpAny _ _ (pure d) _ _ s;refine JW ?_;show wpAny _ _ (Builtin.Dict.showsAll d >>=_) _ _ s;unfold Builtin.Dict.showsAll
  rw[JV (by rw[hd];decide)];refine JZ (JW ?_)
  refine JZ (Z5 ?_);exact(JW ⟨_,rfl,h⟩)
theorem Bw (hd:(d==sysModules)=false)(hT:s.TypeIs (.ref d) "dict")(q:Q (!6) {s with heap:=s.heap.push {cls:=.type "dict_items",data:=.fields #[.ref d]}}):wpAny (!3) A (call (.builtin "dict.items") [.ref d]) Q E s :=
 call_meets F.slot_dict_items hT F.entry_dict_items (F.args_dict_items_1 _) (yX d hd) ⟨hT,q⟩
theorem Bx (hv:s.heap.IsItemsView v d)(ho:s.heap.get? d=some o)(hx:o.data= .dict es ep)
  (q:Q (!6) {s with heap:=s.heap.push {cls:=.type "dict_itemiterator",data:=.fields #[.none,.bool false,.ref d,.int 0 0,.int es.size 0,.int ep 0,.none,.none]}}):wpAny (!3) A (pyIter (.ref v)) Q E s:=by
 obtain⟨ov,hov,hcv,hdv⟩:=id hv
 refine wpAny_pyIter_slot hv.typeIs F.slot_dict_items_iter (Z6 F.slot_dict_items_iter hv.typeIs F.entry_dict_items_iter ?_ (F.args_dict_items_iter_1 _));unfold Builtin.«dict_items.__iter__»
 refine JZ (JW ?_);refine JZ ?_;unfold Builtin.Dict_items.dictOf;refine JZ (wpAny_field hov hdv (x:=.ref d) rfl ((JW ?_)))
 refine JZ ?_;unfold Builtin.Dict_items.newIterator;refine JZ (wpAny_dictEntries ho hx ?_);refine JZ (wpAny_dictEpoch ho hx ?_)
 simp only[show Builtin.Dict_items.ownsTuple "dict_itemiterator" =true by decide,if_true]
 refine Z5 (JW ⟨_,rfl,"dict_itemiterator",_,⟨_,Ky _ rfl,rfl⟩,F.slot_dict_itemiterator_next.lookup,?_⟩) (by simp only[sizeOk,Builtin.Dict_items.ownedTupleFields,Kw,K2,Kj,UQ,sizeLine_eq];omega)
 simpa [rawInt,Builtin.Dict_items.ownedTupleFields] using q
theorem By (hit:IsItemIter s.heap it d i es.size ep ok ov)(ho:s.heap.get? d=some o)(hx:o.data= .dict es ep)(he:es[i]? =some e)
  (q:∀h',IsItemIterOut h' it d (i+1) es.size ep e.key e.val s.heap.objs.size->h'.get? s.heap.objs.size=some {cls:=.type "tuple",data:=.seq #[e.key,e.val]}->h'.objs.size=s.heap.objs.size+1->(∀b u,b≠it->s.heap.get? b=some u->h'.get? b=some u)->Q (some (!6)) {s with heap:=h'}) :
  wpAny (!3) A (pyNext (.ref it)) Q E s:=by
 obtain⟨hp,g,dr,tk,os⟩:=s
 have hT:Shared.TypeIs ⟨hp,g,dr,tk,os⟩ (.ref it) "dict_itemiterator":=(⟨_,hit,rfl⟩)
 obtain⟨hlt,hes⟩:=Array.getElem?_eq_some_iff.mp he
 unfold pyNext;refine JZ (wpAny_attempt (wpAny_callSpecial?_slot (name:=Str.ofString "__next__") hT F.slot_dict_itemiterator_next (Z6 F.slot_dict_itemiterator_next hT F.entry_dict_itemiterator_next ?_ (F.args_dict_itemiterator_next_1 _))))
 refine JZ (JW ?_);refine JZ ?_;refine JZ ?_
 first | (refine JZ (wpAny_typeNameOfWhole_itemiter hT (JW ?_))) | (refine JZ (wpAny_typeNameOf_itemiter hT (JW ?_)))
 refine JZ (wpAny_fieldsOf hit rfl ?_);simp only[show Builtin.Dict_items.ownsTuple "dict_itemiterator" =true by decide,if_true]
 show wpAny _ _ (if (Value.ref d==Value.none)=true then _ else _) _ _ _;rw[JV (show ¬ ((Value.ref d==Value.none)=true) by(exact K4))]
 refine JZ (JW ?_);refine JZ (wpAny_dictEntries ho hx ?_);rw[JV (by simp)];refine JZ (JW ?_);refine JZ (wpAny_dictEpoch ho hx ?_);rw[JV (by simp)];refine JW ?_
 simp only[show ¬ ((i:Int) < 0) by omega,if_false,Ku,he]
 refine JZ ?_
 first | (refine JZ (wpAny_typeNameOfWhole_itemiter hT (JW ?_))) | (refine JZ (wpAny_typeNameOf_itemiter hT (JW ?_)))
 refine JZ (wpAny_isOneOf_itemiter hT ?_);show wpAny _ _ (setField (.ref it) 3 (rawInt ((i:Int)+1)) >>=_) _ _ ⟨hp,g,dr,tk,os⟩
 refine JZ (wpAny_setField_rec hit (by simp) λh1 e1 s1=> ?_)
 replace s1:Heap.SameBut it hp h1:=s1
 replace e1:IsItemIter h1 it d (i+1) es.size ep ok ov:=by
  unfold IsItemIter;rw[show((i+1:Nat):Int)=(i:Int)+1 by omega];simpa [rawInt] using e1
 have hT1:Shared.TypeIs ⟨h1,g,dr,tk,os⟩ (.ref it) "dict_itemiterator":=(⟨_,e1,rfl⟩)
 refine JZ (Z7 ?_);refine JZ (wpAny_isOneOf_itemiter hT1 ?_);refine JZ (wpAny_isOneOf_itemiter hT1 ?_)
 show wpAny _ _ (Builtin.Dict_items.pairFromOwner (.ref it) 6 e.key e.val) _ _ ⟨h1,g,dr,tk,os⟩;unfold Builtin.Dict_items.pairFromOwner
 refine JZ (wpAny_newTuple ?_)
 have e2:IsItemIter (h1.push {cls:=.type "tuple",data:=.seq #[e.key,e.val]}) it d (i+1) es.size ep ok ov:=(K8 _ e1)
 generalize hh:h1.push {cls:=.type "tuple",data:=.seq #[e.key,e.val]}=h2 at e2
 have z1:h1.objs.size=hp.objs.size:=s1.1
 have hil:hp.objs.size≠it:=Uq (Kq hit)
 have t2:h2.get? hp.objs.size=some {cls:=.type "tuple",data:=.seq #[e.key,e.val]}:=by(rw[←hh,←z1];exact Ky _ rfl)
 have z2:h2.objs.size=hp.objs.size+1:=by(rw[←hh,XJ,z1])
 have k2:∀b u,b≠it->hp.get? b=some u->h2.get? b=some u:=λb u hb x=>by(rw[←hh];exact K8 _ (s1.extBut b u hb x))
 show wpAny _ _ (Builtin.Dict_items.ownedTupleIsFree (.ref it) >>=_) _ _ ⟨h2,g,dr,tk,os⟩;rw[z1];clear hh e1 s1 hT1 z1 h1
 refine JZ ?_;unfold Builtin.Dict_items.ownedTupleIsFree;refine JZ (wpAny_field e2 rfl (x:=.none) rfl ((JW ?_)));simp only[if_true]
 refine JZ (wpAny_field e2 rfl (x:=ok) rfl ?_);refine JZ (wpAny_field e2 rfl (x:=ov) rfl ?_)
 refine JZ (wpAny_setField_rec e2 (by simp) λh3 e3 s3=> ?_)
 replace s3:Heap.SameBut it h2 h3:=s3;replace e3:IsItemIter h3 it d (i+1) es.size ep e.key ov:=e3
 refine JZ (wpAny_setField_rec e3 (by simp) λh4 e4 s4=> ?_)
 replace s4:Heap.SameBut it h3 h4:=s4;replace e4:IsItemIter h4 it d (i+1) es.size ep e.key e.val:=e4
 refine JZ (wpAny_setField_rec e4 (by simp) λh5 e5 s5=> ?_)
 replace s5:Heap.SameBut it h4 h5:=s5;replace e5:IsItemIterOut h5 it d (i+1) es.size ep e.key e.val hp.objs.size:=e5
 refine JZ (wpAny_setField_rec e5 (by simp) λh6 e6 s6=> ?_)
 replace s6:Heap.SameBut it h5 h6:=s6;replace e6:IsItemIterOut h6 it d (i+1) es.size ep e.key e.val hp.objs.size:=e6
 have kk:∀b u,b≠it->h2.get? b=some u->h6.get? b=some u:=λb u hb x=>s6.extBut b u hb (s5.extBut b u hb (s4.extBut b u hb (s3.extBut b u hb x)))
 exact JZ (wpAny_letGo (JW (JW ⟨_,rfl,(JW (q h6 e6 (kk _ _ hil t2) (by show h6.objs.size=hp.objs.size+1;rw[s6.1,s5.1,s4.1,s3.1,z2]) λb u hb x=>kk b u hb (k2 b u hb x)))⟩)))
theorem Dj (hh:A.handled=none)(hit:IsItemIter s.heap it d es.size es.size ep ok ov)(ho:s.heap.get? d=some o)(hx:o.data= .dict es ep)
  (q:∀h',Heap.ExtBut it s.heap h'->Q none {s with heap:=h'}):wpAny (!3) A (pyNext (.ref it)) Q E s:=by
 have hT:s.TypeIs (.ref it) "dict_itemiterator":=(⟨_,hit,rfl⟩)
 unfold pyNext;refine JZ (wpAny_attempt (wpAny_callSpecial?_slot (name:=Str.ofString "__next__") hT F.slot_dict_itemiterator_next (Z6 F.slot_dict_itemiterator_next hT F.entry_dict_itemiterator_next ?_ (F.args_dict_itemiterator_next_1 _))))
 refine JZ (JW ?_);refine JZ ?_;refine JZ ?_
 first | (refine JZ (wpAny_typeNameOfWhole_itemiter hT (JW ?_))) | (refine JZ (wpAny_typeNameOf_itemiter hT (JW ?_)))
 refine JZ (wpAny_fieldsOf hit rfl ?_);simp only[show Builtin.Dict_items.ownsTuple "dict_itemiterator" =true by decide,if_true]
 show wpAny _ _ (if (Value.ref d==Value.none)=true then _ else _) _ _ s;rw[JV (show ¬ ((Value.ref d==Value.none)=true) by(exact K4))]
 refine JZ (JW ?_);refine JZ (wpAny_dictEntries ho hx ?_);rw[JV (by simp)];refine JZ (JW ?_);refine JZ (wpAny_dictEpoch ho hx ?_);rw[JV (by simp)];refine JW ?_
 simp only[show ¬ ((es.size:Int) < 0) by omega,if_false,Ku,Array.getElem?_eq_none (K1 _)]
 refine JZ ?_
 first | (refine JZ (wpAny_typeNameOfWhole_itemiter hT (JW ?_))) | (refine JZ (wpAny_typeNameOf_itemiter hT (JW ?_)))
 show wpAny _ _ (setField (.ref it) 2 .none >>=_) _ _ s;refine JZ (wpAny_setField hit rfl (by simp) ?_)
 show wpAny _ _ (newExc (.type "StopIteration") [] >>=_) _ _ _;refine JZ ?_;simp only[newExc,newTuple];refine JZ (Z5 ?_ (by size_fits))
 refine JZ (m:=firstArgMember _ _) (wpAny_of_eq (a:=Value.none) (by first | rfl | ((simp only[firstArgMember]);rfl)) ?_);refine Z5 ?_ (by size_fits);simp only[raiseNew];refine JZ (wpAny_handled ?_)
 rw[show A.in1.handled=none from hh];refine JZ (JW (wpAny_throw ?_));refine JZ (wpAny_isInstance (T:="StopIteration") (b:=true) ⟨_,Ky _ rfl,rfl⟩ isSubtype_stop ?_)
 exact JW (q _ (((Heap.SameBut.update ..).extBut.push _).push _))
end
end L2
namespace L2
open PySem PyProof.Rows
section
variable {A:Around}{s:Shared}
theorem FR (hit:IsTupIter s.heap it t i)(ht:IsTup s.heap t items)(hx:items[i]? =some x)
  (hQ:∀h',IsTupIter h' it t (i+1)->Heap.SameBut it s.heap h'->Q x {s with heap:=h'}):wpAny (!3) A (Builtin.SmallTypes.nextOf (.ref it)) Q E s:=by
 obtain⟨o,ho,hc,hd⟩:=id hit
 obtain⟨ol,hol,_,nl,hdl⟩:=ht
 unfold Builtin.SmallTypes.nextOf
 refine JZ (wpAny_callSpecial?_slot (name:=Str.ofString "__next__") hit.typeIs slot_tupleiter_next (Z6 slot_tupleiter_next hit.typeIs entry_tupleiter_next ?_ (args_tupleiter_next _)))
 show wpAny (!3) _ (field (.ref it) 0 >>=_) _ _ s;refine JZ (wpAny_field ho hd (x:=.ref t) rfl ?_)
 show wpAny (!3) _ (if (Value.ref t==Value.none)=true then _ else _) _ _ s;rw[JV (λz:(Value.ref t==Value.none)=true=>K4 z)]
 show wpAny (!3) _ (field (.ref it) 1 >>=_) _ _ s;refine JZ (wpAny_field ho hd (x:=.int i 0) rfl ?_)
 show wpAny (!3) _ (seqItems? (.ref t) >>=_) _ _ s;refine JZ (wpAny_seqItems hol hdl ?_)
 simp only[Ku,hx];refine JZ (wpAny_setField ho hd (by simp) (JW ⟨x,rfl,JW (hQ _ ?_ (Heap.SameBut.update ..))⟩))
 exact⟨_,XY _ ho (Obj.isFreed_of_fields (Obj.data_mapFields hd _)),(Obj.cls_mapFields ..).trans hc,by(rw[Obj.data_mapFields hd]);simp[rawInt]⟩
theorem FT (hh:A.handled=none)(hit:IsTupIter s.heap it t i)(ht:IsTup s.heap t items)(hx:items[i]? =none)
  (hE:∀h' e,Heap.ExtBut it s.heap h'->(∃o,h'.get? e=some o/\o.cls= .type "StopIteration")->E (.ref e) {s with heap:=h'}):wpAny (!3) A (Builtin.SmallTypes.nextOf (.ref it)) Q E s:=by
 obtain⟨o,ho,hc,hd⟩:=id hit
 obtain⟨ol,hol,_,nl,hdl⟩:=ht
 unfold Builtin.SmallTypes.nextOf
 refine JZ (wpAny_callSpecial?_slot (name:=Str.ofString "__next__") hit.typeIs slot_tupleiter_next (Z6 slot_tupleiter_next hit.typeIs entry_tupleiter_next ?_ (args_tupleiter_next _)))
 show wpAny (!3) _ (field (.ref it) 0 >>=_) _ _ s;refine JZ (wpAny_field ho hd (x:=.ref t) rfl ?_)
 show wpAny (!3) _ (if (Value.ref t==Value.none)=true then _ else _) _ _ s;rw[JV (λz:(Value.ref t==Value.none)=true=>K4 z)]
 show wpAny (!3) _ (field (.ref it) 1 >>=_) _ _ s;refine JZ (wpAny_field ho hd (x:=.int i 0) rfl ?_)
 show wpAny (!3) _ (seqItems? (.ref t) >>=_) _ _ s;refine JZ (wpAny_seqItems hol hdl ?_)
 simp only[Ku,hx];refine JZ (wpAny_rule (JZ (wpAny_setField ho hd (by simp) ?_)))
 show wpAny (!3) _ (newExc (.type "StopIteration") [] >>=_) _ _ _
 refine JZ ?_;simp only[newExc,newTuple];refine JZ (Z5 ?_ (by size_fits));refine JZ (m:=firstArgMember _ _) (wpAny_of_eq (a:=Value.none) (by first | rfl | (simp only[firstArgMember];rfl)) ?_);refine Z5 ?_ (by size_fits)
 simp only[raiseNew];refine JZ (wpAny_handled ?_);(first | rw[show A.in1.handled=none from hh] | rw[hh])
 refine JZ (JW (wpAny_throw ?_));exact hE _ _ (((Heap.SameBut.update ..).extBut.push _).push _) ⟨_,Ky _ rfl,rfl⟩
end
theorem t3 (hh:A.handled=none)(it l:Addr)(hne:l≠it)(items:Array Value):Draws prog w A it [it,l] items.size (λi v=>items[i]? =some v) (λi h=>IsTupIter h it l i/\IsTup h l items) where
 live:=λ_ _ st=>let ⟨o,ho,_⟩:=st.1;⟨o,ho⟩
 frame:=λ_ _ _ st hk=>⟨let ⟨o,ho,r⟩:=st.1;⟨o,hk it (by simp) o ho,r⟩,let ⟨o,ho,r⟩:=st.2;⟨o,hk l (by simp) o ho,r⟩⟩
 item:=λi s Q E hi st hQ=>by
  refine FR st.1 st.2 (x:=items[i]) (by simp[hi]) λh' hit' hs'=>hQ _ h' s.toks (by simp[hi]) ⟨hit',st.2.extBut hs'.extBut hne⟩ hs'
 done:=λs Q E st hE=>FT hh st.1 st.2 (by simp) hE
open AutoSeq1 (wpAny_loadPart') in
theorem FU (l:Addr)(items:Array Value)(n:Nat)(dct:Option Addr)(sl:Array (Option Value)) :
  Meets (Builtin.«enumerate.__new__» ⟨[.type "enumerate",.ref l],[]⟩) (λ_ R s=>s.heap.get? l=some {cls:=.type "tuple",dict:=dct,data:=.seq items n,slots:=sl}/\
   R (.ok (.ret (.ref (s.heap.push {cls:=.type "tuple_iterator",data:=.fields #[.ref l,.int 0 0]}).objs.size)))
    {s with heap:=(s.heap.push {cls:=.type "tuple_iterator",data:=.fields #[.ref l,.int 0 0]}).push {cls:=.type "enumerate",data:=.fields #[.none,.bool false,.ref s.heap.objs.size,rawInt 0,.none,.none]}}) :=
 .of_wp λprog w A R s h=>by
  obtain⟨hp,g,d,tk,os⟩:=s;obtain⟨hl,h⟩:=h;have hsub:=sub_enumerate
  have hL:IsTup (Shared.heap ⟨hp,g,d,tk,os⟩) l items:=⟨_,hl,rfl,n,rfl⟩
  wp_walk using wpAny_loadPart' hl
  refine wpAny_stack_any λst=>JW ?_
  split
  ·rename_i c _ _ _ _ _
   cases(c==Value.type "enumerate") <;> (wp_walk using wpAny_loadPart' hl,iter_tuple hL;exact⟨_,rfl,h⟩)
  ·(wp_walk using wpAny_loadPart' hl,iter_tuple hL;exact⟨_,rfl,h⟩)
section
variable {s:Shared}
theorem Bz (hL:IsTup s.heap l items)
  (h:∀h',IsEnum h' (s.heap.objs.size+1) s.heap.objs.size 0 .none->IsTupIter h' s.heap.objs.size l 0->(∀b o,s.heap.get? b=some o->h'.get? b=some o)->Q (.ref (s.heap.objs.size+1)) {s with heap:=h'}) :
  wpAny (!3) A (call (.type "enumerate") [.ref l]) Q E s:=by
 obtain⟨⟨c,dct,dt,sl⟩,hl,hc,n,hd⟩:=hL
 replace hc:c= .type "tuple":=hc
 replace hd:dt= .seq items n:=hd
 subst hc hd
 refine callType_new F.called_enumerate (!8) (F.typeCall_enumerate_1 _) (F.newCall_enumerate_1 _) (λobj=>F.args_object_init_2 obj _) F.entry_enumerate_new (FU l items n dct sl) ⟨hl,?_⟩
 have hz:(s.heap.push {cls:=.type "tuple_iterator",data:=.fields #[.ref l,.int 0 0]}).objs.size=s.heap.objs.size+1:=XJ ..
 show _/\_;rw[hz]
 have he:IsEnum ((s.heap.push {cls:=.type "tuple_iterator",data:=.fields #[.ref l,.int 0 0]}).push {cls:=.type "enumerate",data:=.fields #[.none,.bool false,.ref s.heap.objs.size,rawInt 0,.none,.none]}) (s.heap.objs.size+1) s.heap.objs.size 0 .none:=by
  have:=Ky (s.heap.push {cls:=.type "tuple_iterator",data:=.fields #[.ref l,.int 0 0]}) (o:={cls:=.type "enumerate",data:=.fields #[.none,.bool false,.ref s.heap.objs.size,rawInt 0,.none,.none]}) rfl
  rw[hz] at this;exact this
 exact⟨⟨_,he,rfl⟩,h _ he ⟨_,K8 _ (Ky _ rfl),rfl,rfl⟩ λb o x=>K8 _ (K8 _ x)⟩
theorem lJ (he:IsEnum s.heap e it i old)(h:Q (.ref e) s):wpAny (!3) A (pyIter (.ref e)) Q E s:=by
 have hT:s.TypeIs (.ref e) "enumerate":=⟨_,he,rfl⟩
 refine wpAny_pyIter_slot hT F.slot_enumerate_iter (Z6 F.slot_enumerate_iter hT F.entry_enumerate_iter ?_ (F.args_enumerate_iter_1 _))
 show wpAny (!3) _ (ret (.ref e)) _ _ s
 exact JW ⟨_,rfl,"enumerate",_,hT,F.slot_enumerate_next.lookup,h⟩
end
end L2
namespace L2
open PySem PySem.Spec PyProof.Rows Y
section
variable {X:Cx}{s:Shared}{h':Heap}
theorem Inv.vi {fp:List Addr}{a:Addr}{o:HO}{t':Nat}(I:Inv X pins σ H s)(ha:s.heap.objs.size<=a)(k:∀b u,b∉fp->s.heap.get? b=some u->h'.get? b=some u)(hf:∀b∈fp,oa X pins H b)
  (new:d_ X.prog X.w (upd H a o) h' a o):Inv X pins σ (upd H a o) {s with heap:=h',toks:=t'}:=by
 have hn:H a=none:=I.hok.fresh ha
 have PY:∀b u,s.heap.get? b=some u->b≠a:=λb u e z=>by rw[z] at e;exact absurd (Kq e) (Nat.not_lt.mpr ha)
 have O2:∀b u,H b=some u->b∉fp:=λb u e z=>by rw[(hf b z).1] at e;cases e
 have hna:∀b u,H b=some u->b≠a:=λb u e z=>by rw[z,hn] at e;cases e
 refine I.step (g':=s.gens) (d':=s.drawn) (ch:=fp) (λb hb=> ?_) (λb u _ _ hc e _=>k b u hc e) (λb u _ _ hc e _=>⟨u.slots,k b u hc e⟩) (λb u _ e n=> ?_)
  (λb u hc e=>⟨u,k b u hc e⟩) (λb xs e=> ?_) (λb ob u e=> ?_) (λb ps e=>⟨#[],?_⟩) (λm hm=> ?_) (λb u e=> ?_) I.bare
 ·obtain⟨_,f1,_,f3,f4,f5⟩:=hf b hb
  exact⟨f3,f1,f4,f5⟩
 ·rw[aR (PY b u e)];exact n
 ·rw[aR (hna b _ e)];exact e
 ·rw[aR (hna b _ e)];exact e
 ·rw[aR (hna b _ e),e];simp
 ·obtain⟨ob,es,ep,ho,r⟩:=hm
  exact⟨ob,es,ep,k _ ob (λz=>(hf _ z).2.1 rfl) ho,r⟩
 ·by_cases hb:b=a
  ·subst hb
   rw[az] at e
   cases e
   exact new
  ·rw[aR hb] at e
   refine(I.hok b u e).stay (λc v hc q=>k c v ?_ q) (λc q=> ?_) λc xs q=> ?_
   ·rcases hc with z | z
    ·rw[z];exact O2 b u e
    ·exact O2 c _ z
   ·rw[aR (hna c _ q)];exact q
   ·rw[aR (hna c _ q)];exact q
end
def Ite (K:Frag)(a:Addr)(n:Nat):It :=
 ⟨λi H=>i < n/\∃xs,ee K H a xs/\xs.length=n,λi H x H'=>∃t y,x= .ref t/\H t=none/\H'=upd H t (.tup [.int (i:Int),y])/\∀xs,ee K H a xs->xs[i]? =some y,λi H=>n<=i/\∃xs,ee K H a xs/\xs.length=n⟩
theorem BA {P:Program}{w:World}{K:Frag}{elts:List Expr}{x1:Nat}{tp:Pos}(a e it:Addr)(n:Nat)(hei:e≠it) :
  Turn P w K (.Tuple elts x1 tp) (Ite K a n) [e,it] e (λi h=>i<=n/\(∃old,IsEnum h e it (i:Int) old)/\IsTupIter h it a i) where
 mem:=by simp
 obj:=λi h st b hb=>by
  obtain⟨_,⟨old,h1⟩,o,h2,_,h3⟩:=st
  rcases K0.mp hb with z | z
  ·rw[z];exact⟨_,h1,λv z=>by cases z⟩
  ·rw[K5.mp z];exact⟨_,h2,λv z=>by rw[h3] at z;cases z⟩
 keep:=λi h h' st k=>by
  obtain⟨h0,⟨old,h1⟩,o,h2,h3⟩:=st
  exact⟨h0,⟨old,k e (by simp) _ h1⟩,o,k it (by simp) _ h2,h3⟩
 item:=by
  intro X hP hw hK hc i pins s σ H E I hf st hg;subst hP hw hK
  obtain⟨hi,xs,hq,hl⟩:=hg
  obtain⟨its,rv,pt,hz⟩:=I.tuple hq
  obtain⟨h0,⟨old,he⟩,hit⟩:=st
  have hlen:=rv.length
  obtain⟨ot,hot,hct,_⟩:=id pt
  have Og:e≠a:=λz=>by
   rw[z] at he
   have:=Option.some.inj (he.symm.trans hot)
   rw[←this] at hct;simp at hct
  have hai:a≠it:=λz=>by
   obtain⟨oi,hoi,Dk,_⟩:=hit
   rw[z] at hot
   have:=Option.some.inj (hot.symm.trans hoi)
   rw[←this,hct] at Dk;simp at Dk
  have hsz:its.toArray.size=n:=by rw[Kw];omega
  have D:=t3 (prog:=X.prog) (w:=X.w) (A:=X.A.in1) (I.ok.hd hc) it a hai its.toArray
  rw[hsz] at D
  refine wpAny_pyNext_enum_itemD (fp:=[it,a]) D he ⟨hit,pt⟩ hi hei (by simp[hei,Og]) λx h1 tk hx heo hst ht hz1 hk=> ?_
  refine⟨_,rfl,wpAny_letOwnedTupleGo_enum heo λh2 he2 hs2=> ?_⟩
  have hx':its[i]? =some x:=by simpa using hx
  obtain⟨y,hy,ry⟩:∃y,xs[i]? =some y/\RelV y x:=by
   have hy:xs[i]? =some (xs[i]'(!1)):=K3 _
   obtain⟨u,hu,ru⟩:=rv.get hy
   rw[hx'] at hu;cases hu
   exact⟨_,hy,ru⟩
  have hel:e < s.heap.objs.size:=Kq he
  have Br:h2.get? s.heap.objs.size=some {cls:=.type "tuple",data:=.seq #[.int (i:Int) tk,x]}:=(hs2.2 _ (Uq hel)).trans ht
  have hk2:∀b o,b∉[e,it]->s.heap.get? b=some o->h2.get? b=some o:=λb o hb hbo=>by
   have hbe:b≠e:=λz=>hb (by simp[z])
   have hbi:b≠it:=λz=>hb (by simp[z])
   exact(hs2.2 b hbe).trans (hk b o hbe hbi hbo)
  refine⟨.ref s.heap.objs.size,upd H s.heap.objs.size (.tup [.int (i:Int),y]),I.vi (fp:=[e,it]) (t':=tk+1) (K1 _) hk2 hf ⟨show 2<=sizeLine by decide,[.int (i:Int) tk,x],.cons ⟨tk,rfl⟩ (.cons ry .nil),_,Br,rfl,_,rfl⟩,rfl,
   ⟨s.heap.objs.size,y,rfl,I.fresh,rfl,λys hy'=>by rw[I.n_ hy' hq];exact hy⟩,⟨by omega,⟨x,by simpa using he2⟩,?_⟩,λb hb=> ?_⟩
  ·obtain⟨oi,hoi,r⟩:=hst.1
   exact⟨oi,(hs2.2 it (Ne.symm hei)).trans hoi,r⟩
  ·have hb0:=(hf b hb).1
   have hbn:b≠s.heap.objs.size:=λz=>by
    rcases K0.mp hb with q | q
    ·rw[←q,z] at hel;exact absurd hel (U2 _)
    ·obtain⟨oi,hoi,_⟩:=hit
     rw[←K5.mp q,z] at hoi
     exact absurd (Kq hoi) (U2 _)
   rw[aR hbn];exact hb0
 done:=by
  intro X hP hw hK hc i pins s σ H E I hf st hg;subst hP hw hK
  obtain⟨h0,⟨old,he⟩,hit⟩:=st
  obtain⟨hg,xs,hq,hl⟩:=hg
  have hi:i=n:=Jz h0 hg
  subst hi
  obtain⟨its,rv,pt,hz⟩:=I.tuple hq
  have hlen:=rv.length
  obtain⟨ot,hot,hct,_⟩:=id pt
  have hai:a≠it:=λz=>by
   obtain⟨oi,hoi,Dk,_⟩:=hit
   rw[z] at hot
   have:=Option.some.inj (hot.symm.trans hoi)
   rw[←this,hct] at Dk;simp at Dk
  have hsz:its.toArray.size=i:=by rw[Kw];omega
  have D:=t3 (prog:=X.prog) (w:=X.w) (A:=X.A.in1) (I.ok.hd hc) it a hai its.toArray
  rw[hsz] at D
  obtain⟨f0,f1,f2,f3,f4,f5⟩:=hf it (by simp)
  exact wpAny_pyNext_enum_endD (fp:=[it,a]) D he ⟨hit,pt⟩ λh' eb=>⟨rfl,I.turned (t':=s.toks) (λb o hb q=>eb b o hb q) f0 f1 f3 f4 f5⟩
 self:=λA i s Q E st h=>by
  obtain⟨_,⟨old,he⟩,_⟩:=st
  exact lJ he h
section
variable {X:Cx}{K:Frag}{Ew:Str->Hp->Prop}{pos p tp:Pos}{elts:List Expr}{x1:Nat}{a:Expr}{ta:TE}{fa:EF}
def Oh (K:Frag)(ta:TE):TI:=λσ H R=>ta σ H λx H1=>∃q xs,x= .ref q/\ee K H1 q xs/\R (Ite K q xs.length) H1
theorem FV (hg:Gl X "enumerate")(hm:X.mg "enumerate" =none)(ha:PE X a ta)(hs:starEach [a] X.env=[(false,eval a X.env)]:=by rfl):PI X (.Tuple elts x1 tp) (.Call (.Name "enumerate" p) [a] [] pos) (Oh X.K ta):=by
 intro pins s σ H R I h
 refine Call_ (fw I hg hm PyProof.Rows.boot_enumerate (PyProof.Rows.callWith_type1 (dv (bv ha cO hs pos pins s σ H (λvs H1=>match vs with
  | [x]=>∃q xs,x= .ref q/\ee X.K H1 q xs/\R (Ite X.K q xs.length) H1
  | _=>False) I h) λus s1 ⟨vs,H1,I1,r1,q1⟩=> ?_) hs rfl))
 match vs,r1,q1 with
 | [x],r1,q1=>
  obtain⟨q,xs,rfl,hq,fin⟩:=q1
  obtain⟨u,rfl,ru⟩:=r1.one
  cases ru
  obtain⟨its,rv,pl,hz⟩:=I1.tuple hq
  refine Bz pl λh' he hit hk=> ?_
  have I2:Inv X pins σ H1 {s1 with heap:=h',toks:=s1.toks}:=I1.kept (t':=s1.toks) hk
  refine lJ he ⟨s1.heap.objs.size+1,[s1.heap.objs.size+1,s1.heap.objs.size],_,_,H1,rfl,I2,BA q (s1.heap.objs.size+1) s1.heap.objs.size xs.length (Uq (Uz _)),⟨Xw _,⟨.none,he⟩,hit⟩,λb hb=> ?_,fin⟩
  rcases K0.mp hb with z | z
  ·rw[z];exact I1.pd (Y8 _) (I1.hok.fresh (Y8 _))
  ·rw[K5.mp z];exact I1.pd (K1 _) I1.fresh
 | [],r1,q1=>exact False.elim q1
 | _ :: _ :: _,r1,q1=>exact False.elim q1
theorem jJ:∀(n:Nat) (ds:List PyData) (i:Nat),(eA n ds)[i]? =(ds[i]?).map λd=>PyData.tuple [.int ((n+i:Nat):Int),d]
 | n,[],i=>by simp[eA]
 | n,d :: ds,0=>by simp[eA]
 | n,d :: ds,i+1=>by
  rw[eA,J0,J0,jJ (n+1) ds i]
  rw[show n+1+i=n+(i+1) by omega]
theorem da:∀(n:Nat) (ds:List PyData),(eA n ds).length=ds.length
 | n,[]=>rfl
 | n,d :: ds=>by rw[eA,Kj,da,Kj]
theorem BB {B:Hp}{a:Addr}{vs:List V}{ds:List PyData}(h:ee K B a vs)(t:ay K B ds vs):uS K B (Ite K a vs.length) (eA 0 ds) where
 go:=λi H hi s=>by
  have hl:=ap t
  rw[da] at hi
  exact⟨by omega,vs,s.l6 h,rfl⟩
 yl:=λi H x H' hi s y=>by
  obtain⟨tt,y,rfl,hn,rfl,hy⟩:=y
  have hl:=ap t
  rw[da] at hi
  obtain⟨d,e,hd⟩:=iB t (hy vs (s.l6 h))
  refine⟨Same.upd hn,.tuple [.int (i:Int),d],by rw[jJ,e,Nat.zero_add];rfl,λB2 s2 hb=> ?_⟩
  exact p0 (ee.of (hb tt _ hn az)) (aW bJ (aW (aM.same s2 _ _ hd) a8))
 stop:=λH s=>by
  refine⟨?_,vs,s.l6 h,rfl⟩
  rw[da,ap t];exact K1 _
theorem Aw (hg:Gl X "enumerate")(hm:X.mg "enumerate" =none)(ha:DE X K Ew a fa)(hK:X.K=K:=by rfl)(hs:starEach [a] X.env=[(false,eval a X.env)]:=by rfl):DI X K Ew (.Tuple elts x1 tp) (.Call (.Name "enumerate" p) [a] [] pos) (uK fa) :=
 (FV hg hm ha hs).imp λσ H R q=>mW (g:=λx _=>Fq x.1 x.2) q λB φ Γ k d v H1 r s av q=>by
  replace q:wF K Ew B H Γ σ R (Fq k d):=q
  cases d <;> try (exact False.elim q)
  rename_i ds
  obtain⟨B1,ψ,s1,r1,hd⟩:=r.kG av
  obtain⟨a,vs,rfl,h1,h2⟩:=aJ hd
  rw[hK]
  exact⟨a,vs,rfl,r1.bs.l6 h1,q _ H1 B1 ψ s s1 r1 (BB h1 h2)⟩
end
end L2
namespace Y
open PySem
def JF (k:Kd):PyData->M (Kd×List PyData)
 | .list ds=>ah (k,eA 0 ds)
 | _=>none
def j8 (e:EF):IF:=λΓ=>aq (e Γ) λx=>JF x.1 x.2
end Y
namespace L2
open PySem PySem.Spec PyProof.Rows Y
open AutoSeq1 (wpAny_loadPart') in
theorem Dl (l:Addr)(items:Array Value)(n:Nat)(dct:Option Addr)(sl:Array (Option Value)) :
  Meets (Builtin.«enumerate.__new__» ⟨[.type "enumerate",.ref l],[]⟩) (λ_ R s=>s.heap.get? l=some {cls:=.type "list",dict:=dct,data:=.seq items n,slots:=sl}/\
   R (.ok (.ret (.ref (s.heap.push {cls:=.type "list_iterator",data:=.fields #[.ref l,.int 0 0]}).objs.size)))
    {s with heap:=(s.heap.push {cls:=.type "list_iterator",data:=.fields #[.ref l,.int 0 0]}).push {cls:=.type "enumerate",data:=.fields #[.none,.bool false,.ref s.heap.objs.size,rawInt 0,.none,.none]}}) :=
 .of_wp λprog w A R s h=>by
  obtain⟨hp,g,d,tk,os⟩:=s;obtain⟨hl,h⟩:=h;have hsub:=sub_enumerate
  have hL:Heap.IsList (Shared.heap ⟨hp,g,d,tk,os⟩) l items:=⟨_,hl,rfl,n,rfl⟩
  wp_walk using wpAny_loadPart' hl
  refine wpAny_stack_any λst=>JW ?_
  split
  ·rename_i c _ _ _ _ _
   cases(c==Value.type "enumerate") <;> (wp_walk using wpAny_loadPart' hl,wpAny_pyIter_list hL;exact⟨_,rfl,h⟩)
  ·(wp_walk using wpAny_loadPart' hl,wpAny_pyIter_list hL;exact⟨_,rfl,h⟩)
section
variable {s:Shared}
theorem yY (hL:s.heap.IsList l items)
  (h:∀h',IsEnum h' (s.heap.objs.size+1) s.heap.objs.size 0 .none->h'.IsListIter s.heap.objs.size l 0->(∀b o,s.heap.get? b=some o->h'.get? b=some o)->Q (.ref (s.heap.objs.size+1)) {s with heap:=h'}) :
  wpAny (!3) A (call (.type "enumerate") [.ref l]) Q E s:=by
 obtain⟨⟨c,dct,dt,sl⟩,hl,hc,n,hd⟩:=hL
 replace hc:c= .type "list":=hc
 replace hd:dt= .seq items n:=hd
 subst hc hd
 refine callType_new F.called_enumerate (!8) (F.typeCall_enumerate_1 _) (F.newCall_enumerate_1 _) (λobj=>F.args_object_init_2 obj _) F.entry_enumerate_new (Dl l items n dct sl) ⟨hl,?_⟩
 have hz:(s.heap.push {cls:=.type "list_iterator",data:=.fields #[.ref l,.int 0 0]}).objs.size=s.heap.objs.size+1:=XJ ..
 show _/\_;rw[hz]
 have he:IsEnum ((s.heap.push {cls:=.type "list_iterator",data:=.fields #[.ref l,.int 0 0]}).push {cls:=.type "enumerate",data:=.fields #[.none,.bool false,.ref s.heap.objs.size,rawInt 0,.none,.none]}) (s.heap.objs.size+1) s.heap.objs.size 0 .none:=by
  have:=Ky (s.heap.push {cls:=.type "list_iterator",data:=.fields #[.ref l,.int 0 0]}) (o:={cls:=.type "enumerate",data:=.fields #[.none,.bool false,.ref s.heap.objs.size,rawInt 0,.none,.none]}) rfl
  rw[hz] at this;exact this
 exact⟨⟨_,he,rfl⟩,h _ he ⟨_,K8 _ (Ky _ rfl),rfl,rfl⟩ λb o x=>K8 _ (K8 _ x)⟩
end
def FW (K:Frag)(a:Addr)(n:Nat):It :=
 ⟨λi H=>i < n/\∃xs,gD K H a xs/\xs.length=n,λi H x H'=>∃t y,x= .ref t/\H t=none/\H'=upd H t (.tup [.int (i:Int),y])/\∀xs,gD K H a xs->xs[i]? =some y,λi H=>n<=i/\∃xs,gD K H a xs/\xs.length=n⟩
theorem yZ {P:Program}{w:World}{K:Frag}{elts:List Expr}{x1:Nat}{tp:Pos}(a e it:Addr)(n:Nat)(hei:e≠it) :
  Turn P w K (.Tuple elts x1 tp) (FW K a n) [e,it] e (λi h=>i<=n/\(∃old,IsEnum h e it (i:Int) old)/\h.IsListIter it a i) where
 mem:=by simp
 obj:=λi h st b hb=>by
  obtain⟨_,⟨old,h1⟩,o,h2,_,h3⟩:=st
  rcases K0.mp hb with z | z
  ·rw[z];exact⟨_,h1,λv z=>by cases z⟩
  ·rw[K5.mp z];exact⟨_,h2,λv z=>by rw[h3] at z;cases z⟩
 keep:=λi h h' st k=>by
  obtain⟨h0,⟨old,h1⟩,o,h2,h3⟩:=st
  exact⟨h0,⟨old,k e (by simp) _ h1⟩,o,k it (by simp) _ h2,h3⟩
 item:=by
  intro X hP hw hK hc i pins s σ H E I hf st hg;subst hP hw hK
  obtain⟨hi,xs,hq,hl⟩:=hg
  obtain⟨its,rv,Oi,hz⟩:=I.list hq
  have pt:=Oi.isList
  obtain⟨h0,⟨old,he⟩,hit⟩:=st
  have hlen:=rv.length
  obtain⟨ot,hot,hct,_⟩:=id pt
  have Og:e≠a:=λz=>by
   rw[z] at he
   have:=Option.some.inj (he.symm.trans hot)
   rw[←this] at hct;simp at hct
  have hai:a≠it:=λz=>by
   obtain⟨oi,hoi,Dk,_⟩:=hit
   rw[z] at hot
   have:=Option.some.inj (hot.symm.trans hoi)
   rw[←this,hct] at Dk;simp at Dk
  have hsz:its.toArray.size=n:=by rw[Kw];omega
  have D:=Draws.list (prog:=X.prog) (w:=X.w) (A:=X.A.in1) (I.ok.hd hc) it a hai its.toArray
  rw[hsz] at D
  refine wpAny_pyNext_enum_itemD (fp:=[it,a]) D he ⟨hit,pt⟩ hi hei (by simp[hei,Og]) λx h1 tk hx heo hst ht hz1 hk=> ?_
  refine⟨_,rfl,wpAny_letOwnedTupleGo_enum heo λh2 he2 hs2=> ?_⟩
  have hx':its[i]? =some x:=by simpa using hx
  obtain⟨y,hy,ry⟩:∃y,xs[i]? =some y/\RelV y x:=by
   have hy:xs[i]? =some (xs[i]'(!1)):=K3 _
   obtain⟨u,hu,ru⟩:=rv.get hy
   rw[hx'] at hu;cases hu
   exact⟨_,hy,ru⟩
  have hel:e < s.heap.objs.size:=Kq he
  have Br:h2.get? s.heap.objs.size=some {cls:=.type "tuple",data:=.seq #[.int (i:Int) tk,x]}:=(hs2.2 _ (Uq hel)).trans ht
  have hk2:∀b o,b∉[e,it]->s.heap.get? b=some o->h2.get? b=some o:=λb o hb hbo=>by
   have hbe:b≠e:=λz=>hb (by simp[z])
   have hbi:b≠it:=λz=>hb (by simp[z])
   exact(hs2.2 b hbe).trans (hk b o hbe hbi hbo)
  refine⟨.ref s.heap.objs.size,upd H s.heap.objs.size (.tup [.int (i:Int),y]),I.vi (fp:=[e,it]) (t':=tk+1) (K1 _) hk2 hf ⟨show 2<=sizeLine by decide,[.int (i:Int) tk,x],.cons ⟨tk,rfl⟩ (.cons ry .nil),_,Br,rfl,_,rfl⟩,rfl,
   ⟨s.heap.objs.size,y,rfl,I.fresh,rfl,λys hy'=>by rw[I.wa hy' hq];exact hy⟩,⟨by omega,⟨x,by simpa using he2⟩,?_⟩,λb hb=> ?_⟩
  ·obtain⟨oi,hoi,r⟩:=hst.1
   exact⟨oi,(hs2.2 it (Ne.symm hei)).trans hoi,r⟩
  ·have hb0:=(hf b hb).1
   have hbn:b≠s.heap.objs.size:=λz=>by
    rcases K0.mp hb with q | q
    ·rw[←q,z] at hel;exact absurd hel (U2 _)
    ·obtain⟨oi,hoi,_⟩:=hit
     rw[←K5.mp q,z] at hoi
     exact absurd (Kq hoi) (U2 _)
   rw[aR hbn];exact hb0
 done:=by
  intro X hP hw hK hc i pins s σ H E I hf st hg;subst hP hw hK
  obtain⟨h0,⟨old,he⟩,hit⟩:=st
  obtain⟨hg,xs,hq,hl⟩:=hg
  have hi:i=n:=Jz h0 hg
  subst hi
  obtain⟨its,rv,Oi,hz⟩:=I.list hq
  have pt:=Oi.isList
  have hlen:=rv.length
  obtain⟨ot,hot,hct,_⟩:=id pt
  have hai:a≠it:=λz=>by
   obtain⟨oi,hoi,Dk,_⟩:=hit
   rw[z] at hot
   have:=Option.some.inj (hot.symm.trans hoi)
   rw[←this,hct] at Dk;simp at Dk
  have hsz:its.toArray.size=i:=by rw[Kw];omega
  have D:=Draws.list (prog:=X.prog) (w:=X.w) (A:=X.A.in1) (I.ok.hd hc) it a hai its.toArray
  rw[hsz] at D
  obtain⟨f0,f1,f2,f3,f4,f5⟩:=hf it (by simp)
  exact wpAny_pyNext_enum_endD (fp:=[it,a]) D he ⟨hit,pt⟩ λh' eb=>⟨rfl,I.turned (t':=s.toks) (λb o hb q=>eb b o hb q) f0 f1 f3 f4 f5⟩
 self:=λA i s Q E st h=>by
  obtain⟨_,⟨old,he⟩,_⟩:=st
  exact lJ he h
section
variable {X:Cx}{K:Frag}{Ew:Str->Hp->Prop}{pos p tp:Pos}{elts:List Expr}{x1:Nat}{a:Expr}{ta:TE}{fa:EF}
def Mn (K:Frag)(ta:TE):TI:=λσ H R=>ta σ H λx H1=>∃q xs,x= .ref q/\gD K H1 q xs/\R (FW K q xs.length) H1
theorem Dm (hg:Gl X "enumerate")(hm:X.mg "enumerate" =none)(ha:PE X a ta)(hs:starEach [a] X.env=[(false,eval a X.env)]:=by rfl):PI X (.Tuple elts x1 tp) (.Call (.Name "enumerate" p) [a] [] pos) (Mn X.K ta):=by
 intro pins s σ H R I h
 refine Call_ (fw I hg hm PyProof.Rows.boot_enumerate (PyProof.Rows.callWith_type1 (dv (bv ha cO hs pos pins s σ H (λvs H1=>match vs with
  | [x]=>∃q xs,x= .ref q/\gD X.K H1 q xs/\R (FW X.K q xs.length) H1
  | _=>False) I h) λus s1 ⟨vs,H1,I1,r1,q1⟩=> ?_) hs rfl))
 match vs,r1,q1 with
 | [x],r1,q1=>
  obtain⟨q,xs,rfl,hq,fin⟩:=q1
  obtain⟨u,rfl,ru⟩:=r1.one
  cases ru
  obtain⟨its,rv,PZ,hz⟩:=I1.list hq
  have pl:=PZ.isList
  refine yY pl λh' he hit hk=> ?_
  have I2:Inv X pins σ H1 {s1 with heap:=h',toks:=s1.toks}:=I1.kept (t':=s1.toks) hk
  refine lJ he ⟨s1.heap.objs.size+1,[s1.heap.objs.size+1,s1.heap.objs.size],_,_,H1,rfl,I2,yZ q (s1.heap.objs.size+1) s1.heap.objs.size xs.length (Uq (Uz _)),⟨Xw _,⟨.none,he⟩,hit⟩,λb hb=> ?_,fin⟩
  rcases K0.mp hb with z | z
  ·rw[z];exact I1.pd (Y8 _) (I1.hok.fresh (Y8 _))
  ·rw[K5.mp z];exact I1.pd (K1 _) I1.fresh
 | [],r1,q1=>exact False.elim q1
 | _ :: _ :: _,r1,q1=>exact False.elim q1
theorem y4 {B:Hp}{a:Addr}{vs:List V}{ds:List PyData}(h:gD K B a vs)(t:ay K B ds vs):uS K B (FW K a vs.length) (eA 0 ds) where
 go:=λi H hi s=>by
  have hl:=ap t
  rw[da] at hi
  exact⟨by omega,vs,s.seq h,rfl⟩
 yl:=λi H x H' hi s y=>by
  obtain⟨tt,y,rfl,hn,rfl,hy⟩:=y
  have hl:=ap t
  rw[da] at hi
  obtain⟨d,e,hd⟩:=iB t (hy vs (s.seq h))
  refine⟨Same.upd hn,.tuple [.int (i:Int),d],by rw[jJ,e,Nat.zero_add];rfl,λB2 s2 hb=> ?_⟩
  exact p0 (ee.of (hb tt _ hn az)) (aW bJ (aW (aM.same s2 _ _ hd) a8))
 stop:=λH s=>by
  refine⟨?_,vs,s.seq h,rfl⟩
  rw[da,ap t];exact K1 _
theorem qQ (hg:Gl X "enumerate")(hm:X.mg "enumerate" =none)(ha:DE X K Ew a fa)(hK:X.K=K:=by rfl)(hs:starEach [a] X.env=[(false,eval a X.env)]:=by rfl):DI X K Ew (.Tuple elts x1 tp) (.Call (.Name "enumerate" p) [a] [] pos) (j8 fa) :=
 (Dm hg hm ha hs).imp λσ H R q=>mW (g:=λx _=>JF x.1 x.2) q λB φ Γ k d v H1 r s av q=>by
  replace q:wF K Ew B H Γ σ R (JF k d):=q
  cases d <;> try (exact False.elim q)
  rename_i ds
  obtain⟨B1,ψ,s1,r1,hd⟩:=r.kG av
  obtain⟨a,vs,rfl,h1,h2⟩:=a9 hd
  rw[hK]
  exact⟨a,vs,rfl,r1.bs.seq h1,q _ H1 B1 ψ s s1 r1 (y4 h1 h2)⟩
end
def JG (a:Addr)(ks:Fs):It :=
 ⟨λi H=>i < ks.1.length/\Rd H a (.dct a ks),λi H x H'=>∃t k kv v,x= .ref t/\H t=none/\H'=upd H t (.tup [kv,v])/\ks.1[i]? =some (k,kv,v),λi H=>ks.1.length<=i/\Rd H a (.dct a ks)⟩
theorem qR {α β:Type}{F:α->β->Prop}:∀{l:List α} {m:List β} {i:Nat} {x:α},Paired F l m->l[i]? =some x->∃y,m[i]? =some y/\F x y
 | _,_,_,_,.nil,h=>by simp at h
 | _,_,0,x,.cons q r,h=>by simp at h;subst h;exact⟨_,rfl,q⟩
 | _,_,i+1,x,.cons q r,h=>by
  obtain⟨y,h1,h2⟩:=qR (i:=i) r (by simpa using h)
  exact⟨y,by simpa using h1,h2⟩
theorem y6 {P:Program}{w:World}{K:Frag}{elts:List Expr}{x1:Nat}{tp:Pos}(a e:Addr)(ks:Fs) :
  Turn P w K (.Tuple elts x1 tp) (JG a ks) [e] e (λi h=>i<=ks.1.length/\∃ok ov,IsItemIter h e a i ks.1.length ks.2 ok ov) where
 mem:=by simp
 obj:=λi h st b hb=>by
  obtain⟨_,ok,ov,h1⟩:=st
  rw[K5.mp hb];exact⟨_,h1,λv z=>by cases z⟩
 keep:=λi h h' st k=>by
  obtain⟨h0,ok,ov,h1⟩:=st
  exact⟨h0,ok,ov,k e (by simp) _ h1⟩
 item:=by
  intro X hP hw hK hc i pins s σ H E I hf st hg;subst hP hw hK
  obtain⟨hi,hr⟩:=hg
  obtain⟨h0,ok,ov,he⟩:=st
  obtain⟨⟨hl,hs,hk,hn,o,es,ho,hxd,hd,p⟩,_⟩:=(show d_ X.prog X.w H s.heap a (.dct a ks) from hr.ok I.hok)
  have hsz:es.size=ks.1.length:=by
   have:=Paired.len p
   simpa using this.symm
  obtain⟨en,hen,hh,rk,rv⟩:=qR p (K3 hi)
  have Oj:es[i]? =some en:=by simpa using hen
  rw[←hsz] at he
  refine By he ho hd Oj λh1 heo ht hz1 hk1=> ?_
  refine⟨_,rfl,wpAny_letOwnedTupleGo_items heo λh2 he2 hs2=> ?_⟩
  have hel:e < s.heap.objs.size:=Kq he
  have Br:h2.get? s.heap.objs.size=some {cls:=.type "tuple",data:=.seq #[en.key,en.val]}:=(hs2.2 _ (Uq hel)).trans ht
  have hk2:∀b o,b∉[e]->s.heap.get? b=some o->h2.get? b=some o:=λb o hb hbo=>by
   have hbe:b≠e:=λz=>hb (by simp[z])
   exact(hs2.2 b hbe).trans (hk1 b o hbe hbo)
  refine⟨.ref s.heap.objs.size,upd H s.heap.objs.size (.tup [ks.1[i].2.1,ks.1[i].2.2]),I.vi (fp:=[e]) (t':=s.toks) (K1 _) hk2 hf ⟨show 2<=sizeLine by decide,[en.key,en.val],.cons rk (.cons rv .nil),_,Br,rfl,_,rfl⟩,rfl,
   ⟨s.heap.objs.size,ks.1[i].1,ks.1[i].2.1,ks.1[i].2.2,rfl,I.fresh,rfl,K3 hi⟩,⟨by omega,en.key,en.val,?_⟩,λb hb=> ?_⟩
  ·rw[hsz] at he2;exact he2
  ·have hb0:=(hf b hb).1
   have hbn:b≠s.heap.objs.size:=λz=>by
    rw[←K5.mp hb,z] at hel;exact absurd hel (U2 _)
   rw[aR hbn];exact hb0
 done:=by
  intro X hP hw hK hc i pins s σ H E I hf st hg;subst hP hw hK
  obtain⟨h0,ok,ov,he⟩:=st
  obtain⟨hg,hr⟩:=hg
  have hi:i=ks.1.length:=Jz h0 hg
  subst hi
  obtain⟨⟨hl,hs,hk,hn,o,es,ho,hxd,hd,p⟩,_⟩:=(show d_ X.prog X.w H s.heap a (.dct a ks) from hr.ok I.hok)
  have hsz:es.size=ks.1.length:=by
   have:=Paired.len p
   simpa using this.symm
  rw[←hsz] at he
  obtain⟨f0,f1,f2,f3,f4,f5⟩:=hf e (by simp)
  exact Dj (I.ok.hd hc) he ho hd λh' eb=>⟨rfl,I.turned (t':=s.toks) (λb o hb q=>eb b o hb q) f0 f1 f3 f4 f5⟩
 self:=λA i s Q E st h=>by
  obtain⟨_,ok,ov,he⟩:=st
  exact PySem.W.kcp_self he h
section
variable {X:Cx}{K:Frag}{Ew:Str->Hp->Prop}{pos p tp apos cpos:Pos}{elts:List Expr}{x1:Nat}{o:Expr}{to:TE}{fa:EF}
def JH (to:TE):TI:=λσ H R=>to σ H λx H1=>∃a ks,x= .ref a/\Rd H1 a (.dct a ks)/\R (JG a ks) H1
theorem Dn (ho:PE X o to)(hbase:attributeBase o "items" X.env (eval o X.env)=eval o X.env:=by rfl)(hline:(apos.endLine==cpos.line)=true:=by rfl):PI X (.Tuple elts x1 tp) (.Call (.Attribute o "items" apos) [] [] cpos) (JH to):=by
 intro pins s σ H R I h
 refine wpAny_Call_method0_late hbase hline (dv (ho pins s σ H _ I h) λv s1 ⟨x,H1,I1,r1,q1⟩=> ?_)
 obtain⟨a,ks,rfl,hr,fin⟩:=q1
 obtain⟨h1,h2⟩:=C_ I1 r1 ⟨a,ks,rfl,hr⟩
 cases(show v=Value.ref a from r1)
 refine⟨"dict","dict.items",PySem.F.plainAttrs_dict,PySem.F.slot_dict_items,PySem.F.type_dict_items,h1,h2,Calls.callWith_builtin rfl (PySem.evalArgs_none ?_)⟩
 obtain⟨⟨hl,hs,hk,hn,od,es,hod,hxd,hd,p⟩,_⟩:=(show d_ X.prog X.w H1 s1.heap a (.dct a ks) from hr.ok I1.hok)
 have hsz:es.size=ks.1.length:=by
  have:=Paired.len p
  simpa using this.symm
 refine Bw hs h1 (Bx ⟨_,Ky _ rfl,rfl,rfl⟩ (K8 _ hod) hd ?_)
 have hz1:(s1.heap.push {cls:=.type "dict_items",data:=.fields #[.ref a]}).objs.size=s1.heap.objs.size+1:=XJ ..
 refine⟨_,[(s1.heap.push {cls:=.type "dict_items",data:=.fields #[.ref a]}).objs.size],_,_,H1,rfl,I1.kept (t':=s1.toks) λb u e=>K8 _ (K8 _ e),y6 a _ ks,⟨Xw _,.none,.none,?_⟩,λb hb=> ?_,fin⟩
 ·rw[←hsz];exact Ky _ rfl
 ·rw[K5.mp hb,hz1]
  exact I1.pd (Y8 _) (I1.hok.fresh (Y8 _))
theorem xb :∀{kvs:l5} {ks:List (!9)} {i:Nat} {k:PyData} {kv v:V},aV K H kvs ks->ks[i]? =some (k,kv,v)->∃d,kvs[i]? =some (k,d)/\aM K H k kv/\aM K H d v
 | [],ks,i,k,kv,v,h,e=>by simp only[aV] at h;subst h;simp at e
 | (k0,d0) :: r,ks,i,k,kv,v,h,e=>by
  simp only[aV] at h
  obtain⟨QM,v0,q,rfl,h1,h2,h3⟩:=h
  cases i with
  | zero=>simp at e;obtain⟨rfl,rfl,rfl⟩:=e;exact⟨d0,rfl,h1,h2⟩
  | succ i=>
   obtain⟨d,g1,g2,g3⟩:=xb (i:=i) h3 (by simpa using e)
   exact⟨d,by simpa using g1,g2,g3⟩
theorem y7 (h:Rd B a (.dct a ks))(t:aV K B kvs ks.1):uS K B (JG a ks) (kvs.map λp=> .tuple [p.1,p.2]) where
 go:=λi H hi s=>by
  rw[K6] at hi
  exact⟨by rw[gU t];exact hi,s.rd h⟩
 yl:=λi H x H' hi s y=>by
  obtain⟨tt,k,kv,v,rfl,hn,rfl,hy⟩:=y
  obtain⟨d,e,hk,hd⟩:=xb t hy
  refine⟨Same.upd hn,.tuple [k,d],by rw[KU,e];rfl,λB2 s2 hb=> ?_⟩
  exact p0 (ee.of (hb tt _ hn az)) (aW (aM.same s2 _ _ hk) (aW (aM.same s2 _ _ hd) a8))
 stop:=λH s=>by
  refine⟨?_,s.rd h⟩
  rw[K6,gU t];exact K1 _
theorem Dp (ha:DE X K Ew o fa)(hK:X.K=K:=by rfl)(hbase:attributeBase o "items" X.env (eval o X.env)=eval o X.env:=by rfl)(hline:(apos.endLine==cpos.line)=true:=by rfl):DI X K Ew (.Tuple elts x1 tp) (.Call (.Attribute o "items" apos) [] [] cpos) (vf fa) :=
 (Dn ha hbase hline).imp λσ H R q=>mW (g:=λx _=>Bq x.1 x.2) q λB φ Γ k d v H1 r s av q=>by
  replace q:wF K Ew B H Γ σ R (Bq k d):=q
  cases d <;> try (exact False.elim q)
  rename_i kvs
  simp only[Bq] at q
  split at q
  ·obtain⟨B1,ψ,s1,r1,hd⟩:=r.kG av
   obtain⟨a,ks,rfl,h1,h2⟩:=cu hd
   exact⟨a,ks,rfl,r1.bs.rd h1,q _ H1 B1 ψ s s1 r1 (y7 h1 h2)⟩
  ·exact False.elim q
end
noncomputable def L4 (m:Nat):List Nat:=[0,1,2,3].filter λk=>m.testBit k
noncomputable def kU (led:Bool)(m:Nat):SetTable:={mask:=7,place:=(L4 m).toArray,dummies:=#[],finger:=0,led:=led,moves:=0,plain:=true}
noncomputable def jq (f:Nat->Nat)(m:Nat):List (Int×Value):=(L4 m).map λ(k:Nat)=>((k:Int),Value.int (k:Int) (f k))
def qS (led:Bool)(h:Heap)(a:Addr)(m:Nat):Prop:=m < 16/\∃o ep f,h.get? a=some o/\o.ExactSet/\o.data= .set (jq f m).toArray ep (kU led m)
theorem BC (led:Bool):∀m < 16,∀(k:Nat),k < 4->m.testBit k=false->(kU led m).freeSlot (k:Int)=some (k,false):=by cases led <;> decide+kernel
theorem Dq (led:Bool):∀m < 16,∀k < 4,m.testBit k=false->(kU led m).put k=(kU led (m ||| 2^k),((L4 m).filter (· < k)).length):=by cases led <;> decide+kernel
theorem oy (led:Bool):∀m < 16,(kU led m).fits (L4 m).length=true:=by cases led <;> decide+kernel
theorem Dr (led:Bool):∀m < 16,(kU led m).tooFull=false:=by cases led <;> decide+kernel
theorem O3:∀m < 16,∀k < 4,m ||| 2^k < 16:=by decide+kernel
theorem JI:∀m < 16,∀k < 4,m.testBit k=true->m ||| 2^k=m:=by decide+kernel
theorem Hv:∀(k:Nat),k < 4->hashInt ((k:Nat):Int)=(k:Int):=by decide+kernel
theorem Mo (h:k∈L4 m):k < 4:=by
 have:=(XQ.mp h).1
 simp only[K0,List.not_mem_nil,or_false] at this
 omega
theorem c16:∀m,m < 16->m=0∨m=1∨m=2∨m=3∨m=4∨m=5∨m=6∨m=7∨m=8∨m=9∨m=10∨m=11∨m=12∨m=13∨m=14∨m=15:=by decide
theorem Ol (f:Nat->Nat)(m k t:Nat)(hm:m < 16)(hk:k < 4)(h:m.testBit k=false) :
  SetTable.insertAt (jq f m).toArray ((L4 m).filter (· < k)).length ((k:Int),Value.int (k:Int) t)=(jq (λj=>if j=k then t else f j) (m ||| 2^k)).toArray:=by
 have hm':=c16 m hm
 have hk':k=0∨k=1∨k=2∨k=3:=by omega
 rcases hk' with rfl | rfl | rfl | rfl <;> rcases hm' with rfl | rfl | rfl | rfl | rfl | rfl | rfl | rfl | rfl | rfl | rfl | rfl | rfl | rfl | rfl | rfl <;> first | exact absurd h (!8) | rfl
section
variable {s:Shared}{m:Nat}
theorem BD (f:Nat->Nat)(hm:m < 16):ElemsOf (intKind prog w) (jq f m):=λe he=>by
 obtain⟨k,hk,rfl⟩:=Kv.mp he
 exact⟨⟨(k:Int),intKind_is _ _ _ _,(Hv k (Mo hk)).symm⟩,rfl⟩
theorem Om {k t:Nat}{Q:Bool->Shared->Prop}(hk:k < 4)(hS:qS led s.heap a m)
  (h:∀h',Heap.SameBut a s.heap h'->qS led h' a (m ||| 2^k)->∀b,Q b {s with heap:=h'}):wpAny (!3) A (setAddHashed a (.int (k:Int) t) (hashInt (k:Int))) Q E s:=by
 obtain⟨hm,o,ep,f,ho,hex,hd⟩:=hS
 have hel:ElemsOf (intKind prog w) (jq f m).toArray.toList:=BD f hm
 have hlen:(jq f m).toArray.size=(L4 m).length:=by simp[jq]
 have h4:(L4 m).length<=4:=Xk _ _
 have hf:(kU led m).fits (jq f m).toArray.size=true:=by rw[hlen];exact oy led m hm
 have hsc:(Value.int (k:Int) t).scannable=true:=rfl
 have hb:(jq f m).toArray.size < scanBound:=by rw[hlen];exact Xv h4 (!8)
 unfold setAddHashed setAddHashedIn
 refine Z7 (JZ (wpAny_setState_of ho hd hf ?_));dsimp only
 rw[byScan_of (knd:=intKind prog w) hsc hb hel,JQ rfl]
 unfold setAddByScan
 refine JZ (JZ (wpAny_rule (JZ (wpAny_setScan_of (knd:=intKind prog w) (k:=(k:Int)) (intKind_is _ _ _ _) ho hd hf hel ?_))))
 have hfi:(jq f m).toArray.toList.findIdx? (λe=>(intKind prog w).is (k:Int) e.2)=if m.testBit k=true then some ((L4 m).findIdx (· ==k)) else none:=by
  have hm':=c16 m hm
  have hk':k=0∨k=1∨k=2∨k=3:=by omega
  clear h hd hf hb hel hlen h4
  rcases hk' with rfl | rfl | rfl | rfl <;> rcases hm' with rfl | rfl | rfl | rfl | rfl | rfl | rfl | rfl | rfl | rfl | rfl | rfl | rfl | rfl | rfl | rfl <;> rfl
 rw[hfi]
 cases hb:m.testBit k with
 | true=>
  simp only[if_true]
  refine JW (JW ?_)
  have:=h s.heap (Heap.SameBut.refl a s.heap) (by rw[JI m hm k hk hb];exact⟨hm,o,ep,f,ho,hex,hd⟩) false
  exact this
 | false=>
  simp only[XZ,if_false]
  rw[Hv k hk]
  have hlay:layNew (kU led m) (jq f m).toArray (k:Int) (.int (k:Int) t)=((jq (λj=>if j=k then t else f j) (m ||| 2^k)).toArray,kU led (m ||| 2^k),false,false):=by
   have hfit:=oy led (m ||| 2^k) (O3 m hm k hk)
   have hl2:(jq (λj=>if j=k then t else f j) (m ||| 2^k)).toArray.size=(L4 (m ||| 2^k)).length:=by simp[jq]
   unfold layNew
   rw[BC led m hm k hk hb]
   dsimp only
   rw[Dq led m hm k hk hb]
   dsimp only
   rw[Ol f m k t hm hk hb,SetTable.orStandIn,hl2,hfit]
   rfl
  rw[hlay]
  dsimp only
  have hm2:=O3 m hm k hk
  have hfew:=Dr led (m ||| 2^k) hm2
  have hl2:(jq (λj=>if j=k then t else f j) (m ||| 2^k)).toArray.size<=sizeLine:=by
   refine Kz (show _<=4 from ?_) (!8)
   simp only[jq,Kw,K6]
   exact Xk _ _
  have hpl:(kU led (m ||| 2^k)).plain=true:=rfl
  rw[JQ hpl,hashByValue_scannable 8 hsc]
  refine JZ (JW (JZ (JW ?_)))
  show wpAny _ A (storeSet a _ (kU led (m ||| 2^k)) >>=_) _ _ _
  refine JZ (wpAny_storeSet_of ho hd ?_ hl2)
  show wpAny _ A (if (!false && (kU led (m ||| 2^k)).tooFull)=true then _ else _) _ _ _
  rw[hfew]
  refine JW (JW ?_)
  refine h _ (Heap.SameBut.update s.heap a _) ⟨hm2,{o with data:=.set (jq (λj=>if j=k then t else f j) (m ||| 2^k)).toArray (ep+1) (kU led (m ||| 2^k))},ep+1,λj=>if j=k then t else f j,?_,hex,rfl⟩ true
  have hu:=XY (Obj.putSet (jq (λj=>if j=k then t else f j) (m ||| 2^k)).toArray (kU led (m ||| 2^k))) ho (by rw[putSet_of _ _ hd];rfl)
  rw[putSet_of _ _ hd] at hu
  exact hu
end
noncomputable def pk (val:Nat->Nat):Nat->Nat->Nat->Nat
 | 0,_,m=>m
 | c+1,i,m=>pk val c (i+1) (m ||| 2^val i)
section
variable {w:World}{A:Around}{s:Shared}{R:Result->Shared->Prop}{G:Array GenState->Array GenState->Prop}{P:Nat->Value->Prop}{St:Nat->Shared->Prop}
theorem qS.kept (hS:qS led h a m)(k:∀o,h.get? a=some o->h'.get? a=some o):qS led h' a m:=by
 obtain⟨hm,o,ep,f,ho,r⟩:=hS
 exact⟨hm,o,ep,f,k o ho,r⟩
theorem Mp (W:WalksS prog w A.in1 I fp wr G n P St)(S:Addr)(hSf:S∉fp)(val:Nat->Nat)(hval:∀i v,P i v->val i < 4/\∃t,v= .int (val i:Int) t) :
  ∀(c i m:Nat) (s:Shared),n - i=c->i<=n->St i s->qS led s.heap S m->(∀s',Moved (S :: wr) G s s'->qS led s'.heap S (pk val c i m)->R (.ok (.ret .none)) s')->
   codeAny (!3) A (.builtin "set.update.loop" ⟨[.ref S,.ref I],[]⟩) R s:=by
 have hSw:S∉wr:=λh=>hSf (W.sub _ h)
 have up:∀b∈wr,b∈S :: wr:=λb hb=>K9 _ hb
 intro c;induction c with
 | zero=>
  intro i m s hc hi hst hS hR
  obtain rfl:i=n:=by omega
  refine codeAny_builtin F.entry_set_update_loop ?_;rw[Around.under_plainId F.plain_set_update_loop _]
  refine JZ (m:=pyNext (.ref I)) (W.done s _ _ hst λs' hm=> ?_)
  exact JW (hR s' (hm.mono up) (hS.kept λo e=>hm.heap S o hSw e))
 | succ c ih=>
  intro i m s hc hi hst hS hR
  refine codeAny_builtin F.entry_set_update_loop ?_;rw[Around.under_plainId F.plain_set_update_loop _]
  refine JZ (m:=pyNext (.ref I)) (W.item i s _ _ (!1) hst λv s' hP hst' hm=> ?_)
  obtain⟨hlt,t,rfl⟩:=hval i v hP
  have hS':=hS.kept (h':=s'.heap) λo e=>hm.heap S o hSw e
  refine JZ (m:=holding [Value.int (val i:Int) t] (setAdd S (.int (val i:Int) t))) (Z7 ?_)
  unfold setAdd
  refine Z7 (JZ ((intKind prog w).pyHash (k:=(val i:Int)) (intKind_is _ _ _ _) ?_))
  refine Om (s:={s' with toks:=s'.toks+1}) hlt hS' λh' sb hS2 b=> ?_
  refine JW ⟨plainId_quiet F.plain_set_update_loop _,ih (i+1) _ _ (!1) (!1) (W.frame _ s' _ _ hst' (Y8 _) λb hb o e=> ?_) hS2 λs'' hm'' hS''=> ?_⟩
  ·rw[sb.2 b (λz:b=S=>hSf (z ▸ hb))];exact e
  ·refine hR s'' (Moved.trans W.gtrans ((hm.mono up).then_heap (Y8 _) λb o hb e=> ?_) hm'') hS''
   rw[sb.2 b (λz:b=S=>hb (z ▸ K7))];exact e
noncomputable def qT (w:World):Bool:=!w.params.followText "set-order"
noncomputable def qU (w:World):Obj:={cls:=.type "set",dict:=none,data:=.set #[] 0 (.fresh 0 0 (qT w))}
theorem JL (e:h.get? a=some (qU w)):qS (qT w) h a 0:=⟨by decide,qU w,0,λ_=>0,e,⟨rfl,rfl,rfl⟩,rfl⟩
theorem JM (a:Value)(h:Q₁ (!6) {s with heap:=s.heap.push (qU w)}) :
  codeAny (!3) A (.call (.builtin "set.__new__") ⟨[.type "set",a],[]⟩) (wants Q₁ E) s:=by
 refine codeAny_of_tree ?_
 show wpAny _ A.in1 (checkBuiltinCall "set.__new__" ⟨[.type "set",a],[]⟩ >>=λ_=>again (.builtin "set.__new__" ⟨[.type "set",a],[]⟩)) _ _ s
 refine JZ (wpAny_of_eq (PySem.F.newCall_set_1 a) (JW ⟨plainId_quiet PySem.F.plain_set_new _,codeAny_builtin PySem.F.entry_set_new ?_⟩));rw[Around.under_plainId PySem.F.plain_set_new _]
 unfold Builtin.«set.__new__» Builtin.Frozenset.newClass
 have hsub:=sub_set_self
 obtain⟨hp,g,d,tk,os⟩:=s;dsimp only at h⊢;wp_walk
 refine wpAny_askSetting (JW ?_);dsimp only;simp only[newObj]
 exact JZ (wpAny_alloc (JW (JW h)))
theorem BE (hh:A.handled=none)(hl:s.heap.IsList l items)(hval:∀i v,items[i]? =some v->val i < 4/\∃t,v= .int (val i:Int) t)
  (h:∀(h':Heap) (tk:Nat),qS (qT w) h' s.heap.objs.size (pk val items.size 0 0)->(∀b o,b < s.heap.objs.size->s.heap.get? b=some o->h'.get? b=some o)->Q (!6) {s with heap:=h',toks:=tk}) :
  wpAny (!3) A (call (.type "set") [.ref l]) Q E s:=by
 obtain⟨c,tl,hmro⟩:=PySem.F.called_set.mro;have hmade:=PySem.F.called_set.made;have hsub:=PySem.F.called_set.sub
 refine wpAny_call (codeAny_of_tree ?_)
 show wpAny _ _ (callAny (.type "set") _) _ _ _
 refine JW ⟨Code.quiet_builtin _ (!5),codeAny_builtin F.entry_type_call ?_⟩;rw[Around.under_plain (weight_type_call_type "set" [.ref l] []) rfl]
 have h1:=PySem.F.called_set.notType;have h2:=PySem.F.called_set.canCreate;have hct:=PySem.F.typeCall_set_1 (.ref l)
 (repeat (any_goals (first | assumption | wp_step)))
 refine codeAny_mono (JM (.ref l) (E:=E) (Q₁:=λobj s₁=>obj= .ref s.heap.objs.size/\s₁={s with heap:=s.heap.push (qU w)}) ⟨rfl,rfl⟩) λr s₁ hr=> ?_
 cases r with
 | error e=>exact hr
 | ok fl=>
  cases fl with
  | ret obj=>
   obtain⟨rfl,rfl⟩:=hr
   have hS:(s.heap.push (qU w)).get? s.heap.objs.size=some (qU w):=Ky _ rfl
   have hT:Shared.TypeIs {s with heap:=s.heap.push (qU w)} (!6) "set":=⟨_,hS,rfl⟩
   have hli:=PySem.F.called_set.init.lookup;have hbi:=PySem.F.called_set.init.bind (!6)
   (repeat (any_goals (first | assumption | wp_step)))
   refine codeAny_mono (codeAny_call_builtin (R:=wants (λr s₂=>r= .none/\∃h' tk,s₂={s with heap:=h',toks:=tk}/\qS (qT w) h' s.heap.objs.size (pk val items.size 0 0)/\(∀b o,b < s.heap.objs.size->s.heap.get? b=some o->h'.get? b=some o)) E) PySem.F.called_set.init.plain PySem.F.entry_set_init (check_set_init_1 hT ?_)) λr₂ s₂ hr₂=> ?_
   ·have hl1:(s.heap.push (qU w)).IsList l items:=hl.push _
    obtain⟨ol,hol,hcl,nl,hdl⟩:=hl
    obtain⟨ocls,odict,odata,oslots⟩:=ol
    simp only at hcl hdl;subst hcl hdl
    have hol':(s.heap.push (qU w)).get? l=some {cls:=.type "list",dict:=odict,data:=.seq items nl,slots:=oslots}:=K8 _ hol
    have hsls:=PySem.F.sub_list_set;have hslf:=PySem.F.sub_list_frozenset
    have hne:(Value.type "list" ==Value.type "dict")=false:=by decide
    unfold Builtin.«set.__init__» noKeywords Builtin.Frozenset.updateFrom
    generalize hPI:pyIter=PI;wp_walk;subst hPI
    refine wpAny_pyIter_list hl1 (JZ (wpAny_runValue ?_))
    have hlS:l < s.heap.objs.size:=Kq hol
    have hh3:A.in1.in1.in1.handled=none:=by simp[hh]
    have hneI:l≠(s.heap.push (qU w)).objs.size:=by rw[XJ];exact X3 (UJ hlS)
    have hSf:s.heap.objs.size∉[(s.heap.push (qU w)).objs.size,l]:=by
     rw[XJ];intro z;rcases K0.mp z with z | z
     ·exact X3 (Uz _) z
     ·exact Uq hlS (K5.mp z)
    refine Mp ((Walks.list hh3 _ l hneI items).toS) s.heap.objs.size hSf val hval items.size 0 0 _ rfl (Xw _) ⟨⟨_,Ky _ rfl,rfl,rfl⟩,(hl1.push _)⟩ (JL (K8 _ hS)) λs' hm hS'=> ?_
    obtain⟨h',g',d',tk',os'⟩:=s'
    obtain rfl:g'=s.gens:=hm.gens
    obtain rfl:d'=s.drawn:=hm.drawn
    obtain rfl:os'=s.os:=hm.os
    refine JW (JW ⟨rfl,h',tk',rfl,hS',λb o hb e=> ?_⟩)
    refine hm.heap b o (λz=> ?_) (K8 _ (K8 _ e))
    rcases K0.mp z with z | z
    ·exact X3 hb z
    ·rw[XJ] at z;exact X3 (UJ hb) (K5.mp z)
   ·cases r₂ with
    | error e=>exact hr₂
    | ok fl₂=>
     cases fl₂ with
     | ret r=>
      obtain⟨rfl,h',tk,rfl,hS',hk'⟩:=hr₂
      (repeat (any_goals (first | assumption | wp_step)))
      exact h _ _ hS' hk'
     | _=>exact hr₂.elim
  | _=>exact hr.elim
end
theorem db:Slot "set_iterator" "__next__" "set_iterator.__next__" :=
 .of (owner:="set_iterator") (n:="__next__") (by(rw[typeLookup_type,builtinLookup_eq_fast]);kernel_rfl) (!5) (!5) (!5) (by first | exact .inl (!5) | exact .inr (!5)) (by(rw[isSubtype_type]);kernel_rfl)
theorem nh:entryFor table "set_iterator.__next__" =some Builtin.«set_iterator.__next__»:=entryFor_of_tree (by(kernel_rfl))
theorem Ax:Manifest.owners.lookup (String.ofList ['r','o','t','a','r','e','t','i','_','t','e','s'].reverse)=some Manifest.sig_set_iterator:=by(kernel_rfl)
theorem ni (a:Value):argsOk "set_iterator.__next__" ⟨[a],[]⟩:=by
 unfold argsOk;rw[signature?_of (id:="set_iterator.__next__") (n:=['_','_','t','x','e','n','_','_']) (o:=['r','o','t','a','r','e','t','i','_','t','e','s']) (by(kernel_rfl)) Ax];(kernel_rfl)
theorem mh:Slot "set_iterator" "__iter__" "set_iterator.__iter__" :=
 .of (owner:="set_iterator") (n:="__iter__") (by(rw[typeLookup_type,builtinLookup_eq_fast]);kernel_rfl) (!5) (!5) (!5) (by first | exact .inl (!5) | exact .inr (!5)) (by(rw[isSubtype_type]);kernel_rfl)
theorem vk (a:Value):argsOk "set_iterator.__iter__" ⟨[a],[]⟩:=by
 unfold argsOk;rw[signature?_of (id:="set_iterator.__iter__") (n:=['_','_','r','e','t','i','_','_']) (o:=['r','o','t','a','r','e','t','i','_','t','e','s']) (by(kernel_rfl)) Ax];(kernel_rfl)
theorem vm:entryFor table "set_iterator.__iter__" =some Builtin.«dict_keyiterator.__iter__» :=
 entryFor_alias (id':="dict_keyiterator.__iter__") (by(kernel_rfl)) (by first | rfl | decide+kernel | (unfold String.splitOn;simp+decide [String.splitOnAux])) (!5) (by(kernel_rfl))
theorem slot_set_iter:Slot "set" "__iter__" "set.__iter__" :=
 .of (owner:="set") (n:="__iter__") (by(rw[typeLookup_type,builtinLookup_eq_fast]);kernel_rfl) (!5) (!5) (!5) (by first | exact .inl (!5) | exact .inr (!5)) (by(rw[isSubtype_type]);kernel_rfl)
theorem FY:Manifest.owners.lookup (String.ofList ['t','e','s'].reverse)=some Manifest.sig_set:=by(kernel_rfl)
theorem vo (a:Value):argsOk "set.__iter__" ⟨[a],[]⟩:=by
 unfold argsOk;rw[signature?_of (id:="set.__iter__") (n:=['_','_','r','e','t','i','_','_']) (o:=['t','e','s']) (by(kernel_rfl)) FY];(kernel_rfl)
theorem vp:entryFor table "set.__iter__" =some Builtin.«frozenset.__iter__» :=
 entryFor_alias (id':="frozenset.__iter__") (by(kernel_rfl)) (by first | rfl | decide+kernel | (unfold String.splitOn;simp+decide [String.splitOnAux])) (!5) (by(kernel_rfl))
theorem vq:typeLookup (.type "set") "__len__" =pure (some (.builtin "set.__len__")):=by(rw[typeLookup_type,builtinLookup_eq_fast]);(kernel_rfl)
noncomputable def sN (w:World)(f:Nat->Nat)(m ep:Nat):Obj:={cls:=.type "set",dict:=none,data:=.set (jq f m).toArray ep (kU (qT w) m)}
noncomputable def my (S:Addr)(slot i n ep:Nat):Obj:={cls:=.type "set_iterator",data:=.fields #[rawInt (slot:Int),rawInt (i:Int),.ref S,rawInt (n:Int),rawInt (ep:Int)]}
noncomputable def jK (w:World)(S:Addr)(f:Nat->Nat)(m ep:Nat):List (Int×Value):=if w.params.followText "set-order" =true then (pickOrder (w.params.setOrder S ep) (jq f m).toArray).toList else jq f m
noncomputable def slotAt (m:Nat):Nat->Nat
 | 0=>0
 | i+1=>(L4 m).getD i 0+1
noncomputable def gq (w:World)(m i:Nat):Nat:=if w.params.followText "set-order" =true then 0 else slotAt m i
theorem JN:∀m < 16,∀i < 5,i<=(L4 m).length->SetTable.below (L4 m).toArray (slotAt m i)=i:=by decide+kernel
theorem qV {α:Type}:∀{l:List α} {i:Nat} (h:i < l.length),List.Perm (l[i] :: l.eraseIdx i) l
 | a :: l,0,_=>List.Perm.refl _
 | a :: l,i+1,h=>by
  rw[List.getElem_cons_succ,List.eraseIdx_cons_succ]
  exact(List.Perm.swap _ _ _).trans ((qV (by simpa using h)).cons a)
theorem Ay {α:Type}(next:Nat->Nat):∀(fuel k:Nat) (left:List α) (out:Array α),left.length=fuel->List.Perm (pickOrder.go next fuel k left out).toList (out.toList++left)
 | 0,k,left,out,h=>by
  have:left=[]:=YX.mp h
  subst this;simp[pickOrder.go]
 | fuel+1,k,left,out,h=>by
  have hlt:next k % left.length < left.length:=Nat.mod_lt _ (!1)
  have e:left[next k % left.length]? =some (left[next k % left.length]):=K3 hlt
  simp only[pickOrder.go,e]
  refine(Ay next fuel (k+1) _ _ (by rw[List.length_eraseIdx];simp[hlt];omega)).trans ?_
  rw[YZ,X5]
  refine List.Perm.append_left _ ?_
  exact qV hlt
theorem lK (w:World)(S:Addr)(f:Nat->Nat)(m ep:Nat):List.Perm (jK w S f m ep) (jq f m):=by
 unfold jK;split
 ·have:=Ay (w.params.setOrder S ep) (jq f m).toArray.size 0 (jq f m).toArray.toList #[] (by simp)
  simpa [pickOrder] using this
 ·exact List.Perm.refl _
section
variable {w:World}{A:Around}{s:Shared}{f:Nat->Nat}
theorem lM (hS:s.heap.get? S=some (sN w f m ep)):s.TypeIs (.ref S) "set":=⟨_,hS,rfl⟩
theorem iN (h:s.heap.get? it=some (my S slot i n ep)):s.TypeIs (.ref it) "set_iterator":=⟨_,h,rfl⟩
theorem iO (hm:m < 16):(kU (qT w) m).fits (jq f m).toArray.size=true:=by
 have:(jq f m).toArray.size=(L4 m).length:=by simp[jq]
 rw[this];exact oy _ m hm
theorem Mq (hm:m < 16)(hS:s.heap.get? S=some (sN w f m ep))(h:Q (!6) {s with heap:=s.heap.push (my S 0 0 (L4 m).length ep)}) :
  wpAny (!3) A (pyIter (.ref S)) Q E s:=by
 refine wpAny_pyIter_slot (lM hS) slot_set_iter (Z6 slot_set_iter (lM hS) vp ?_ (vo _))
 unfold Builtin.«frozenset.__iter__»
 refine JZ (wpAny_of_eq (a:=S) rfl ?_)
 unfold Builtin.Frozenset.sizeOf setEntries
 refine JZ (JZ (JZ (wpAny_setState_of hS rfl (iO hm) (JW (JW ?_)))))
 unfold setDrawn setsByText
 refine JZ (JZ (wpAny_setState_of hS rfl (iO hm) ?_));dsimp only
 refine JZ (JZ (wpAny_askSetting (JW (JW ?_))))
 split
 ·rename_i hc;exact(K4 ((Bool.and_false (!w.params.followText "set-order")).symm.trans hc)).elim
 refine JZ (JW (JZ (wpAny_setEpoch_of hS rfl (iO hm) ?_)))
 have hsz:(jq f m).toArray.size=(L4 m).length:=by simp[jq]
 rw[hsz]
 exact JZ (Z5 (JW ⟨_,rfl,"set_iterator",_,⟨_,Ky _ rfl,rfl⟩,db.lookup,h⟩))
theorem Ds (hit:s.heap.get? it=some (my S slot i n ep))(h:Q (.ref it) s):wpAny (!3) A (pyIter (.ref it)) Q E s:=by
 refine wpAny_pyIter_slot (iN hit) mh (Z6 mh (iN hit) vm ?_ (vk _))
 show wpAny _ _ (ret (.ref it)) _ _ s;exact JW ⟨_,rfl,"set_iterator",_,iN hit,db.lookup,h⟩
theorem Hw (hm:m < 16)(hS:s.heap.get? S=some (sN w f m ep))(hi:i<=(L4 m).length)
  (h:Q (((jK w S f m ep)[i]?).map λe=>(e.2,gq w m (i+1))) s):wpAny (!3) A (setNext S (gq w m i) i ep) Q E s:=by
 unfold setNext
 refine JZ (wpAny_setState_of hS rfl (iO hm) ?_);dsimp only
 unfold setsByText
 refine JZ (JZ (wpAny_askSetting (JW ?_)))
 cases hw:w.params.followText "set-order" with
 | true=>
  split
  ·split
   ·rename_i hc;exact absurd hc (by simp)
   ·unfold setWalk setsByText
    refine JZ (JZ (wpAny_setState_of hS rfl (iO hm) ?_));dsimp only
    refine JZ (JZ (wpAny_askSetting (JW ?_)))
    split
    ·refine JZ (wpAny_askSetting (JW (JW ?_)))
     have e1:gq w m (i+1)=gq w m i:=by unfold gq;rw[JQ hw,JQ hw]
     rw[e1] at h;unfold jK at h;rw[JQ hw,Uj] at h
     exact h
    ·rename_i hc;exact absurd hw hc
  ·rename_i hc;exact absurd hw hc
 | false=>
  split
  ·rename_i hc;exact absurd (hw.symm.trans hc) K4
  ·split
   ·rename_i hc;exact(K4 hc).elim
   ·refine JZ ?_
    show wpAny _ _ (if (!(qT w) && _)=true then _ else _) _ _ _
    have hl:qT w=true:=by unfold qT;rw[hw];rfl
    split
    ·rename_i hc;rw[hl] at hc;exact(K4 hc).elim
    ·refine JW (JW ?_)
     have e0:gq w m i=slotAt m i:=by unfold gq;rw[JV (by rw[hw];exact K4)]
     have e1:gq w m (i+1)=slotAt m (i+1):=by unfold gq;rw[JV (by rw[hw];exact K4)]
     have h4:(L4 m).length<=4:=Xk _ _
     have eb:SetTable.below (kU (qT w) m).place (slotAt m i)=i:=JN m hm i (!1) hi
     unfold jK at h;rw[JV (by rw[hw];exact K4),e1] at h
     rw[e0,eb]
     show Q (match (jq f m).toArray[i]?,(L4 m).toArray[i]? with
      | some (_,x),some j=>some (x,j+1)
      | _,_=>none) s
     rw[List.getElem?_toArray,List.getElem?_toArray]
     by_cases hlt:i < (L4 m).length
     ·have g1:(jq f m)[i]? =some (((L4 m)[i]:Int),Value.int ((L4 m)[i]:Int) (f (L4 m)[i])):=by
       unfold jq;rw[KU,K3 hlt];rfl
      rw[g1] at h⊢
      rw[K3 hlt]
      have g2:slotAt m (i+1)=(L4 m)[i]+1:=by show(L4 m).getD i 0+1=_;rw[X8,K3 hlt];rfl
      rw[g2] at h
      exact h
     ·have g1:(jq f m)[i]? =none:=XU (by unfold jq;rw[K6];omega)
      rw[g1] at h⊢
      exact h
theorem Dt (hm:m < 16)(hn:n=(L4 m).length)(hne:it≠S)(hit:s.heap.get? it=some (my S (gq w m i) i n ep))(hS:s.heap.get? S=some (sN w f m ep))(he:(jK w S f m ep)[i]? =some e)(hi:i<=n)
  (hQ:∀h',h'.get? it=some (my S (gq w m (i+1)) (i+1) n ep)->Heap.SameBut it s.heap h'->Q (some e.2) {s with heap:=h'}):wpAny (!3) A (pyNext (.ref it)) Q E s:=by
 unfold pyNext
 refine JZ (wpAny_attempt (wpAny_callSpecial?_slot (name:=Str.ofString "__next__") (iN hit) db (Z6 db (iN hit) nh ?_ (ni _))))
 unfold Builtin.«set_iterator.__next__»
 refine JZ (wpAny_of_eq (a:=(Value.ref it,[])) rfl ?_);dsimp only
 refine JZ (wpAny_fieldsOf hit rfl ?_)
 unfold setEntries
 refine JZ (JZ (wpAny_setState_of hS rfl (iO hm) (JW ?_)))
 have hsz:(jq f m).toArray.size=n:=by rw[hn];simp[jq]
 split
 ·rename_i hc;exact absurd hc (by simp[hsz])
 show wpAny _ _ (setNext S ((gq w m i:Nat):Int).toNat ((i:Nat):Int).toNat ((ep:Nat):Int).toNat >>=_) _ _ _
 rw[Ku,Ku,Ku]
 refine JZ (Hw hm hS (hn ▸ hi) ?_);rw[he]
 refine JZ (wpAny_setField hit rfl (by simp) ?_)
 have hit1:=XY (Obj.mapFields (·.setIfInBounds 0 (rawInt ((gq w m (i+1):Nat):Int)))) hit rfl
 refine JZ (wpAny_setField hit1 rfl (by simp) ?_)
 refine JW ⟨_,rfl,JW (hQ _ ?_ ((Heap.SameBut.update ..).trans (Heap.SameBut.update ..)))⟩
 exact XY (Obj.mapFields (·.setIfInBounds 1 (rawInt ((i:Int)+1)))) hit1 rfl
theorem FZ (hh:A.handled=none)(hm:m < 16)(hn:n=(L4 m).length)(hit:s.heap.get? it=some (my S (gq w m n) n n ep))(hS:s.heap.get? S=some (sN w f m ep))
  (hQ:∀h' tk,Heap.ExtBut it s.heap h'->Q none {s with heap:=h',toks:=tk}):wpAny (!3) A (pyNext (.ref it)) Q E s:=by
 unfold pyNext
 refine JZ (wpAny_attempt (wpAny_callSpecial?_slot (name:=Str.ofString "__next__") (iN hit) db (Z6 db (iN hit) nh ?_ (ni _))))
 unfold Builtin.«set_iterator.__next__»
 refine JZ (wpAny_of_eq (a:=(Value.ref it,[])) rfl ?_);dsimp only
 refine JZ (wpAny_fieldsOf hit rfl ?_)
 unfold setEntries
 refine JZ (JZ (wpAny_setState_of hS rfl (iO hm) (JW ?_)))
 have hsz:(jq f m).toArray.size=n:=by rw[hn];simp[jq]
 split
 ·rename_i hc;exact absurd hc (by simp[hsz])
 show wpAny _ _ (setNext S ((gq w m n:Nat):Int).toNat ((n:Nat):Int).toNat ((ep:Nat):Int).toNat >>=_) _ _ _
 rw[Ku,Ku,Ku]
 have he:(jK w S f m ep)[n]? =none:=XU (by rw[(lK w S f m ep).length_eq,hn];simp[jq])
 refine JZ (Hw hm hS (Nat.le_of_eq hn) ?_);rw[he]
 refine JZ (wpAny_setField hit rfl (by simp) ?_)
 (first | show wpAny _ _ (newExc (.type "StopIteration") [] >>=_) _ _ _ | (wp_delta;show wpAny _ _ (newExc (.type "StopIteration") [] >>=_) _ _ _))
 refine JZ ?_;simp only[newExc,newTuple];refine JZ (Z5 ?_ (by size_fits));refine JZ (m:=firstArgMember _ _) (wpAny_of_eq (a:=Value.none) (by first | rfl | (simp only[firstArgMember];rfl)) ?_);refine Z5 ?_ (by size_fits)
 simp only[raiseNew];refine JZ (wpAny_handled ?_);(first | rw[show A.in1.handled=none from hh] | rw[hh])
 refine JZ (JW (wpAny_throw ?_));refine JZ (wpAny_isInstance (T:="StopIteration") (b:=true) ⟨_,Ky _ rfl,rfl⟩ isSubtype_stop ?_)
 exact JW (hQ _ _ (((Heap.SameBut.update ..).extBut.push _).push _))
theorem Mr (hh:A.handled=none)(hm:m < 16)(hne:it≠S):Walks prog w A it [it,S] [it] (L4 m).length (λi v=>∃e,(jK w S f m ep)[i]? =some e/\v=e.2)
  (λi h=>i<=(L4 m).length/\h.get? it=some (my S (gq w m i) i (L4 m).length ep)/\h.get? S=some (sN w f m ep)) where
 sub:=λb hb=>by simp at hb;simp[hb]
 frame:=λ_ _ _ st hk=>⟨st.1,hk it (by simp) _ st.2.1,hk S (by simp) _ st.2.2⟩
 item:=λi s Q E hi st hQ=>by
  have hlt:i < (jK w S f m ep).length:=by rw[(lK w S f m ep).length_eq];simpa [jq] using hi
  have he:(jK w S f m ep)[i]? =some (jK w S f m ep)[i]:=K3 hlt
  refine Dt hm rfl hne st.2.1 st.2.2 he st.1 λh' hit' hs'=> ?_
  exact hQ _ h' s.toks ⟨_,he,rfl⟩ ⟨hi,hit',by rw[hs'.2 S (Ne.symm hne)];exact st.2.2⟩ λb o hb e=>hs'.extBut b o (λh=>hb (by simp[h])) e
 done:=λs Q E st hQ=>FZ hh hm rfl st.2.1 st.2.2 λh' tk he'=>hQ h' tk λb o hb e=>he' b o (λh=>hb (by simp[h])) e
 self:=λ_ _ _ _ st hQ=>Ds st.2.1 hQ
end
section
variable {A:Around}{s:Shared}{f:Nat->Nat}
noncomputable def j9:Obj:={cls:=.type "list",data:=.seq ([]:List Value).toArray}
theorem y8 (hh:A.handled=none)(hm:m < 16)(hS:s.heap.get? S=some (sN w f m ep))
  (hQ:∀h' tk,s.heap.objs.size < h'.objs.size->(∀b o,b < s.heap.objs.size->s.heap.get? b=some o->h'.get? b=some o)->Q ((jK w S f m ep).map Prod.snd) {s with heap:=h',toks:=tk}):wpAny (!3) A (collect (.ref S)) Q E s:=by
 have hSlt:S < s.heap.objs.size:=Kq hS
 have nI:s.heap.objs.size≠S:=Uq hSlt
 unfold collect
 refine JZ (wpAny_runValue (codeAny_builtin F.entry_proto_collect ?_));rw[Around.under_plainId F.plain_proto_collect _]
 show wpAny _ A.in1 (newList [] >>=λl=>again (.builtin "list.__iadd__" ⟨[l,.ref S],[]⟩)) _ _ s
 refine JZ (Z5 ?_);refine JW ⟨plainId_quiet F.plain_list_iadd _,codeAny_builtin F.entry_list_iadd ?_⟩;rw[Around.under_plainId F.plain_list_iadd _]
 have new1:(s.heap.push j9).get? s.heap.objs.size=some j9:=(Ky _ rfl)
 have hS1:(s.heap.push j9).get? S=some (sN w f m ep):=K8 _ hS
 have h1:Builtin.List.listSameRef (!6) (.ref S)=false:=by(simp[Builtin.List.listSameRef,nI])
 show wpAny _ A.in1 (Builtin.List.listExtendWith (!6) (.ref S) (!6)) _ _ {s with heap:=s.heap.push j9};unfold Builtin.List.listExtendWith
 have hT:Shared.TypeIs {s with heap:=s.heap.push j9} (.ref S) "set":=lM (w:=w) (f:=f) (m:=m) (ep:=ep) (s:={s with heap:=s.heap.push j9}) hS1
 refine JZ (wpAny_typeOf hT ?_)
 rw[JV (by rw[h1];decide)]
 refine JZ (Mq (s:={s with heap:=s.heap.push j9}) hm hS1 ?_)
 have hS2:((s.heap.push j9).push (my S 0 0 (L4 m).length ep)).get? S=some (sN w f m ep):=K8 _ hS1
 have hT2:Shared.TypeIs {s with heap:=(s.heap.push j9).push (my S 0 0 (L4 m).length ep)} (.ref S) "set":=lM (w:=w) (f:=f) (m:=m) (ep:=ep) (s:={s with heap:=(s.heap.push j9).push (my S 0 0 (L4 m).length ep)}) hS2
 refine JZ (Z7 ?_)
 unfold Builtin.List.listLengthHint
 refine JZ (Z4 hT2 vq ?_)
 generalize hid:("set.__len__":String)=id0
 wp_delta
 rw[show splitId id0=some ("set","__len__") from by subst hid;decide+kernel]
 subst hid
 refine JZ (wpAny_isInstance (b:=true) hT2 (by rw[isSubtype_type];kernel_rfl) ?_)
 rw[JV (!8),JQ (!5)]
 refine JZ (wpAny_typeOf hT2 (JW ?_))
 rw[JQ (!5)]
 refine JZ (wpAny_rule (JZ ?_))
 have new2:((s.heap.push j9).push (my S 0 0 (L4 m).length ep)).get? s.heap.objs.size=some j9:=K8 _ new1
 show wpAny _ A.in1 (updateSeq s.heap.objs.size (·.push .none) >>=λ_=>updateSeq s.heap.objs.size (·.pop)) _ _ _
 refine JZ (wpAny_updateSeq new2 rfl ?_)
 have Ms:=XY (Obj.mapSeq (·.push Value.none)) new2 rfl
 refine wpAny_updateSeq Ms rfl ?_
 have JM:=XY (Obj.mapSeq (·.pop)) Ms rfl
 have O4:s.heap.objs.size≠(s.heap.push j9).objs.size:=by rw[XJ];exact X3 (Uz _)
 have P0:(s.heap.push j9).objs.size≠S:=by rw[XJ];exact Uq (UJ hSlt)
 have P1:((s.heap.push j9).push (my S 0 0 (L4 m).length ep)).get? (s.heap.push j9).objs.size=some (my S 0 0 (L4 m).length ep):=Ky _ rfl
 have oth:∀b o,b≠s.heap.objs.size->((s.heap.push j9).push (my S 0 0 (L4 m).length ep)).get? b=some o->((((s.heap.push j9).push (my S 0 0 (L4 m).length ep)).update s.heap.objs.size (Obj.mapSeq (·.push Value.none))).update s.heap.objs.size (Obj.mapSeq (·.pop))).get? b=some o :=
  λb o hb e=>(Jj _ _ (Ne.symm hb)).trans ((Jj _ _ (Ne.symm hb)).trans e)
 have s0:gq w m 0=0:=by unfold gq slotAt;split <;> rfl
 have P2:(L4 m).length<=sizeLine:=Kz (Xk _ _) (!8)
 have nS:s.heap.objs.size∉[(s.heap.push j9).objs.size,S]:=λz=>by
  rcases K0.mp z with z | z
  ·exact O4 z
  ·exact nI (K5.mp z)
 refine JW ⟨plainId_quiet F.plain_extend_loop _,codeAny_extend_loopS ((Mr (f:=f) (ep:=ep) (show A.in1.handled=none by simp[hh]) hm P0).toS) P2 _ nS _ (L4 m).length 0 _ _ _ rfl (Xw _) ⟨Xw _,by rw[s0];exact oth _ _ (Ne.symm O4) P1,oth _ _ (Ne.symm nI) hS2⟩ JM (ItemsOf.nil _) λs' acc' c' Nd hS' hacc=> ?_⟩
 show wpAny _ A (load s.heap.objs.size >>=_) _ _ s';refine JZ (wpAny_load hS' ?_)
 obtain⟨h',g',d',tk',os'⟩:=s'
 obtain rfl:g'=s.gens:=Nd.gens
 obtain rfl:d'=s.drawn:=Nd.drawn
 obtain rfl:os'=s.os:=Nd.os
 have Oo:acc'.toList=(jK w S f m ep).map Prod.snd:=by
  have hlo:(jK w S f m ep).length=(L4 m).length:=by rw[(lK w S f m ep).length_eq];simp[jq]
  refine List.ext_getElem? λj=> ?_
  rw[Uj,KU]
  by_cases hj:j < (L4 m).length
  ·have e1:acc'[j]? =some (acc'[j]'(by rw[hacc.1];exact hj)):=Yz _
   obtain⟨e,he,hv⟩:=hacc.2 j _ e1
   rw[e1,he,hv];rfl
  ·rw[Array.getElem?_eq_none (by rw[hacc.1];omega),XU (!1)];rfl
 refine JW ?_
 rw[Oo]
 refine hQ h' tk' (Kq hS') λb o hb e=> ?_
 have hb1:b≠s.heap.objs.size:=X3 hb
 refine Nd.heap b o (λz=> ?_) (oth b o hb1 (K8 _ (K8 _ e)))
 rcases K0.mp z with z | z
 ·exact hb1 z
 ·have z':=K5.mp z
  rw[XJ] at z';exact X3 (UJ hb) z'
end
theorem BF (m:Nat):((L4 m).map λ(k:Nat)=>(k:Int)).Pairwise (· <= ·):=by
 refine List.pairwise_map.mpr ?_
 have:([0,1,2,3]:List Nat).Pairwise (λ(a b:Nat)=>(a:Int)<=(b:Int)):=by decide
 exact this.sublist (List.filter_sublist)
theorem xc:∀(l:List (Int×Value)),(∀e∈l,∃t,e.2= .int e.1 t)->IntsAre (l.map Prod.snd) (l.map Prod.fst)
 | [],_=> .nil
 | (i,v) :: l,h=>by
  obtain⟨t,e⟩:=h (i,v) K7
  have e':v= .int i t:=e
  subst e'
  exact .cons i t (xc l λe he=>h e (K9 _ he))
section
variable {A:Around}{s:Shared}
theorem BG (hh:A.handled=none)(hS:qS (qT w) s.heap S m)
  (hQ:∀h' tk a (out:List Value) c,s.heap.objs.size<=a->h'.get? a=some {cls:=.type "list",data:=.seq out.toArray c}->IntsAre out ((L4 m).map λ(k:Nat)=>(k:Int))->(∀b o,b < s.heap.objs.size->s.heap.get? b=some o->h'.get? b=some o)->Q (.ref a) {s with heap:=h',toks:=tk}) :
  wpAny (!3) A (call (.builtin "sorted") [.ref S]) Q E s:=by
 obtain⟨hm,o,ep,f,ho,hex,hd⟩:=hS
 have hS:s.heap.get? S=some (sN w f m ep):=by
  rw[ho];obtain⟨h1,h2,h3⟩:=hex;cases o;simp only at h1 h2 h3 hd;subst h1 h2 h3 hd;rfl
 refine Calls.call_function_entry kind_sorted plain_sorted entry_sorted (args_sorted1 _) ?_
 unfold Builtin.«sorted»
 refine JZ (m:=checkCount "sorted" 1 1 _) (JW ?_);refine JZ (y8 (show A.in1.handled=none by simp[hh]) hm hS λh1 tk hlt1 hk=> ?_)
 have hp:=lK w S f m ep
 have P4:(jK w S f m ep).length<=4:=by rw[hp.length_eq];simp only[jq,K6];exact Xk _ _
 refine JZ (wpAny_newList ?_ (Kz (by rw[K6];exact P4) (!8)))
 have hI:IntsAre ((jK w S f m ep).map Prod.snd) ((jK w S f m ep).map Prod.fst):=xc _ λe he=>by
  obtain⟨k,_,rfl⟩:=Kv.mp (hp.mem_iff.mp he)
  exact⟨_,rfl⟩
 have hoL:(h1.push {cls:=.type "list",data:=.seq ((jK w S f m ep).map Prod.snd).toArray}).get? h1.objs.size=some (seqObj "list" ((jK w S f m ep).map Prod.snd).toArray 0):=Ky _ rfl
 refine JZ (Z7 (Z6 slot_list_sort ⟨_,hoL,rfl⟩ entry_list_sort (list_sort_tree (s:={s with heap:=h1.push {cls:=.type "list",data:=.seq ((jK w S f m ep).map Prod.snd).toArray},toks:=tk}) hoL hI (by rw[K6];omega) λout ns' a1 a2 a3=>⟨_,rfl,?_⟩) (args_list_sort _)))
 obtain⟨c,hc⟩:=sortedHeap_at (out:=out) hoL
 have hge:s.heap.objs.size<=h1.objs.size:=Y1 hlt1
 have hns:ns'=(L4 m).map λ(k:Nat)=>(k:Int):=by
  refine PySem.W.ksm_same (a2.trans ((hp.map Prod.fst).trans ?_)) a3 (BF m)
  unfold jq;rw[KZ];exact List.Perm.refl _
 subst hns
 refine JW ⟨_,rfl,hQ _ tk _ out.toList c hge (by simpa using hc) a1 λb o hb e=> ?_⟩
 have hb1:=hk b o hb e
 have hlt:=Kq hb1
 rw[sortedHeap_old (X3 hlt) (by rw[XJ];exact UJ hlt)]
 exact K8 _ hb1
end
theorem xf (val:Nat->Nat)(k:Nat):∀(c i m:Nat),(pk val c i m).testBit k=(m.testBit k || (List.range c).any λj=>val (i+j)==k)
 | 0,i,m=>by simp[pk]
 | c+1,i,m=>by
  rw[pk,xf val k c (i+1),Nat.testBit_or,Nat.testBit_two_pow,List.range_succ_eq_map,YW,List.any_map,Bool.or_assoc]
  congr 1
  have e:(decide (val i=k))=(val (i+0)==k):=by rw[Nat.add_zero];rfl
  rw[e]
  congr 1
  congr 1
  funext j
  show(val (i+1+j)==k)=(val (i+(j+1))==k)
  rw[show i+1+j=i+(j+1) by omega]
theorem t4 (h:IntsAre vs ns):Vals (ns.map V.int) vs:=by
 induction h with
 | nil=>exact .nil
 | cons n t _ ih=>exact .cons ⟨t,rfl⟩ ih
theorem Du:∀{xs:List PyData},xs.all in4=true->∃ys:List Nat,xs=ys.map (λ(k:Nat)=>PyData.int (k:Int))/\∀k∈ys,k < 4
 | [],_=>⟨[],rfl,λk hk=>by cases hk⟩
 | x :: xs,h=>by
  rw[List.all_cons,X7] at h
  obtain⟨ys,rfl,h2⟩:=Du h.2
  obtain⟨i,rfl,h0,h4⟩:∃i:Int,x= .int i/\0<=i/\i < 4:=by
   cases x <;> first | (rename_i i;exact⟨i,rfl,by simpa [in4] using h.1⟩) | (exact absurd h.1 (by simp[in4]))
  obtain⟨k,rfl⟩:=Int.eq_ofNat_of_zero_le h0
  exact⟨k :: ys,rfl,λj hj=>by
   rcases K0.mp hj with z | z
   ·rw[z];omega
   ·exact h2 j z⟩
theorem t5 {K:Frag}{H:Hp}:∀{ys:List Nat} {vs:List V},ay K H (ys.map λ(k:Nat)=>PyData.int (k:Int)) vs->vs=ys.map λ(k:Nat)=>V.int (k:Int)
 | [],vs,h=>by simpa [ay] using h
 | y :: ys,vs,h=>by
  simp only[KQ,ay,aM] at h
  obtain⟨v,r,rfl,rfl,h2⟩:=h
  rw[t5 h2];rfl
theorem t6 {K:Frag}{H:Hp}:∀(ys:List Nat),ay K H (ys.map λ(k:Nat)=>PyData.int (k:Int)) (ys.map λ(k:Nat)=>V.int (k:Int))
 | []=>a8
 | y :: ys=>by
  simp only[KQ,ay]
  exact⟨_,_,rfl,bJ,t6 ys⟩
theorem Dv (ys:List Nat):wM (ys.map λ(k:Nat)=>PyData.int (k:Int))=(L4 (pk (λi=>ys.getD i 0) ys.length 0 0)).map λ(k:Nat)=>PyData.int (k:Int):=by
 unfold wM L4
 congr 1
 refine List.filter_congr λk _=> ?_
 rw[xf,Nat.zero_testBit,Bool.false_or,List.any_map]
 rw[YK,List.any_eq_true,List.any_eq_true]
 constructor
 ·rintro⟨y,hy,hk⟩
  obtain⟨i,hi,rfl⟩:=List.getElem_of_mem hy
  have hk2:((ys[i]:Nat):Int)=(k:Int):=by simpa [Mb] using hk
  have hk':ys[i]=k:=by omega
  exact⟨i,Xy.mpr hi,by simp[X8,K3 hi,hk']⟩
 ·rintro⟨i,hi,hk⟩
  have hi':=Xy.mp hi
  refine⟨ys[i],UU hi',?_⟩
  have hk':ys[i]=k:=by simpa [X8,K3 hi'] using hk
  simp[Mb,hk']
section
variable {X:Cx}{K:Frag}{Ew:Str->Hp->Prop}{pos pos2 p p2:Pos}{a:Expr}{ta:TE}{fa:EF}
def Dw (K:Frag)(ta:TE):TE:=λσ H Q=>ta σ H λx H1=>∃q,∃ys:List Nat,x= .ref q/\gD K H1 q (ys.map λ(k:Nat)=>V.int (k:Int))/\(∀k∈ys,k < 4)/\∀t,H1 t=none->Q (.ref t) (upd H1 t (.lst ((L4 (pk (λi=>ys.getD i 0) ys.length 0 0)).map λ(k:Nat)=>V.int (k:Int))))
theorem y9 (hc:X.calm=true)(hg:Gl X "sorted")(hm:X.mg "sorted" =none)(hg2:Gl X "set")(hm2:X.mg "set" =none)(ha:PE X a ta)
  (hs:starEach [a] X.env=(false,eval a X.env) :: starEach [] X.env:=by rfl) (hpl:(backTo pos2 (starEach [] X.env)).any (·.1)=false:=by rfl)
  (hs2:starEach [.Call (.Name "set" p2) [a] [] pos2] X.env=(false,eval (.Call (.Name "set" p2) [a] [] pos2) X.env) :: starEach [] X.env:=by rfl) (mq:(backTo pos (starEach [] X.env)).any (·.1)=false:=by rfl)
  (hnil:backTo pos (starEach [] X.env)=[]:=by rfl) :
  PE X (.Call (.Name "sorted" p) [.Call (.Name "set" p2) [a] [] pos2] [] pos) (Dw X.K ta):=by
 intro pins s σ H Q I h
 refine wpAny_Call_Name_kw (fw I hg hm PyProof.Rows.boot_sorted ?_)
 refine PyProof.Rows.callWith_builtin1 ?_ hs2 mq
 rw[hs2]
 show wpAny _ _ (spliced ((false,eval (.Call (.Name "set" p2) [a] [] pos2) X.env) :: backTo pos (starEach [] X.env))) _ _ s
 refine Calls.spliced_cons (wpAny_Call_Name_kw (fw I hg2 hm2 PyProof.Rows.boot_set ?_))
 refine PyProof.Rows.callWith_type1 (dv (bv ha cO hs pos2 pins s σ H (λvs H1=>match vs with
  | [x]=>∃q,∃ys:List Nat,x= .ref q/\gD X.K H1 q (ys.map λ(k:Nat)=>V.int (k:Int))/\(∀k∈ys,k < 4)/\∀t,H1 t=none->Q (.ref t) (upd H1 t (.lst ((L4 (pk (λi=>ys.getD i 0) ys.length 0 0)).map λ(k:Nat)=>V.int (k:Int))))
  | _=>False) I h) λus s1 ⟨vs,H1,I1,r1,q1⟩=> ?_) hs hpl
 match vs,r1,q1 with
 | [x],r1,q1=>
  obtain⟨q,ys,rfl,hq,h4,fin⟩:=q1
  obtain⟨u,rfl,ru⟩:=r1.one
  cases ru
  obtain⟨its,rv,pl,hz⟩:=I1.list hq
  have hh:X.A.handled=none:=I1.ok.hd hc
  have hl:=rv.length
  rw[K6] at hl
  refine BE (w:=X.w) hh pl.isList (val:=λi=>ys.getD i 0) (λi v e=> ?_) λh' tk hM hk=> ?_
  ·rw[List.getElem?_toArray] at e
   have hi:i < ys.length:=by have:=(X1.mp e).1;omega
   have e1:(ys.map λ(k:Nat)=>V.int (k:Int))[i]? =some (.int ((ys.getD i 0:Nat):Int)):=by
    rw[KU,X8,K3 hi];rfl
   obtain⟨u,hu,ru⟩:=rv.get e1
   rw[hu] at e;cases e
   exact⟨h4 _ (by rw[X8,K3 hi];exact UU hi),ru⟩
  ·rw[hnil]
   refine Calls.spliced_nil ?_
   have P5:its.toArray.size=ys.length:=by rw[Kw];exact hl.symm
   rw[P5] at hM
   have hfr:=I1.fresh
   have I2:Inv X pins σ H1 {s1 with heap:=h',toks:=tk}:=I1.kept (t':=tk) λb u e=>hk b u (Kq e) e
   refine BG hh hM λh2 tk2 a out c hge hat hints hk2=> ?_
   refine⟨.ref a,_,I2.laid (t':=tk2) (a:=a) (o:=.lst ((L4 (pk (λi=>ys.getD i 0) ys.length 0 0)).map λ(k:Nat)=>V.int (k:Int))) (λb u e=>hk2 b u (Kq e) e) hge ⟨?_,out,c,?_,hat⟩,rfl,fin _ (I2.hok.fresh hge)⟩
   ·rw[K6];exact Kz (Xk _ _) (!8)
   ·have:=t4 hints;rw[KZ] at this;exact this
 | [],r1,q1=>exact False.elim q1
 | _ :: _ :: _,r1,q1=>exact False.elim q1
theorem y_ (hc:X.calm=true)(hg:Gl X "sorted")(hm:X.mg "sorted" =none)(hg2:Gl X "set")(hm2:X.mg "set" =none)(ha:DE X K Ew a fa)(hK:X.K=K:=by rfl)
  (hs:starEach [a] X.env=(false,eval a X.env) :: starEach [] X.env:=by rfl) (hpl:(backTo pos2 (starEach [] X.env)).any (·.1)=false:=by rfl)
  (hs2:starEach [.Call (.Name "set" p2) [a] [] pos2] X.env=(false,eval (.Call (.Name "set" p2) [a] [] pos2) X.env) :: starEach [] X.env:=by rfl) (mq:(backTo pos (starEach [] X.env)).any (·.1)=false:=by rfl)
  (hnil:backTo pos (starEach [] X.env)=[]:=by rfl) :
  DE X K Ew (.Call (.Name "sorted" p) [.Call (.Name "set" p2) [a] [] pos2] [] pos) (v6 kQ fa):=(y9 hc hg hm hg2 hm2 ha hs hpl hs2 mq hnil).imp λσ H Q q=>by
 obtain⟨B,φ,Γ,r0,q⟩:=q
 refine⟨B,φ,Γ,r0,(q.bind r0).mono λu H1 s1 ⟨k,x,e1,v1,r1,_,q1⟩=> ?_⟩
 obtain⟨z,e,q⟩:=gE (kf:=λ_=> .fr []) q1
 cases x <;> simp only[kQ] at e <;> try (cases e;done)
 split at e
 ·rename_i xs hn
  cases e
  obtain⟨ys,rfl,h4⟩:=Du hn
  obtain⟨p,vs,rfl,h1,h2⟩:=a9 (v1.toD r1.bs)
  have e2:=t5 h2
  subst e2
  rw[hK]
  refine⟨p,ys,rfl,h1,h4,λt ht=>q _ _ (s1.trans (Same.upd ht)) (VR.fresh.mpr ?_)⟩
  rw[Dv]
  refine aU.lst (aO _ (λ_=>rfl) _) az ?_ (s1.free ht)
  generalize L4 (pk (λi=>ys.getD i 0) ys.length 0 0)=l
  exact t6 l
 ·cases e
end
section
--
theorem JO:i8 X (compareOp .GtE) M_:=i8.Ac LM λx y z e=>by
 cases x <;> cases y <;> simp only[M_] at e <;> cases e
 exact⟨_,_,rfl,rfl,rfl,λ_ _=>di⟩
end
end L2
namespace Y
open PySem
end Y
namespace L2
open PySem PySem.Spec PyProof.Rows Y
open AutoSeq1 (wpAny_loadPart')
end L2
namespace Y
open PySem
theorem lN (i:Int):br (.int i)=true:=rfl
theorem F0:br .none=true:=rfl
theorem JP (b:Bool):br (.bool b)=true:=rfl
theorem F1 (b:Str):br (.str b)=true:=rfl
theorem nj (xs:List PyData):br (.list xs)=false:=rfl
theorem cz (xs:List PyData):br (.tuple xs)=ar xs:=rfl
theorem cf (h:br d=true):cP k d= .fr []:=by unfold cP;rw[JQ h]
theorem xg (h:br d=false):cP k d=k:=by unfold cP;rw[JV (by rw[h];exact K4)]
theorem p8 (k:Kd)(i:Int):cP k (.int i)= .fr []:=rfl
theorem JR (k:Kd)(i:Bool):cP k (.bool i)= .fr []:=rfl
theorem F2 (k:Kd)(i:Str):cP k (.str i)= .fr []:=rfl
theorem F3 (k:Kd):cP k .none= .fr []:=rfl
theorem F4 (k:Kd)(xs:List PyData):cP k (.list xs)=k:=rfl
theorem F5 (k:Kd)(xs:List (PyData×PyData)):cP k (.dict xs)=k:=rfl
theorem aw (h:ar xs=true):cP k (.tuple xs)= .fr []:=cf h
theorem gx (l:List Int):ar (l.map PyData.int)=true:=aO _ (λ_=>rfl) l
theorem BH (l:List Int):lays n (l.map PyData.int)=true:=jA _ (λ_=>by cases n <;> rfl) l
theorem Dx (i j:Int):lZ (.int i) (.int j)=some (.int (i+j)):=rfl
theorem Dy (i j:Int):wc (.int i) (.int j)=some (.int (i - j)):=rfl
theorem Dz (h:(-(2^64) < i/\i < 2^64)∨(-(2^64) < j/\j < 2^64)):sK (.int i) (.int j)=some (.int (i*j)):=JQ h
theorem BJ (h:0 < j/\j < 2^64):ku (.int i) (.int j)=some (.int (i / j)):=JQ h
theorem DB (h:0 < j):kF (.int i) (.int j)=some (.int (i % j)):=JQ h
theorem DC (h:0<=j/\j<=1000000/\i.natAbs < 2^64):CI (.int i) (.int j)=some (.int (i^j.toNat)):=JQ h
theorem F6 (i j:Int):Ll (.int i) (.int j)=some (.bool (decide (i < j))):=rfl
theorem F7 (i j:Int):Py (.int i) (.int j)=some (.bool (decide (i<=j))):=rfl
theorem F8 (i j:Int):Lm (.int i) (.int j)=some (.bool (decide (j < i))):=rfl
theorem DD (i:Int):NU (.int i)=some (.int (-i)):=rfl
theorem F9 (i j:Int):yE (.int i) (.int j)=some (.bool (i==j)):=rfl
theorem F_ (i j:Int):zX (.int i) (.int j)=some (.bool (!(i==j))):=rfl
theorem Ga (x:PyData):Px x .none=some (.bool (i9 x)):=rfl
theorem mz (x:PyData):og x .none=some (.bool (!i9 x)):=rfl
theorem BK (xs:List PyData):kO [.list xs]=some (.int xs.length):=rfl
theorem DF (xs:List PyData):kO [.tuple xs]=some (.int xs.length):=rfl
theorem DH (xs:List PyData)(i:Int):iH (.list xs) (.int i)=pY xs i:=rfl
theorem Gb (xs:List PyData)(i:Int):iH (.tuple xs) (.int i)=pY xs i:=rfl
theorem fR {α:Type}{xs:List α}{j:Nat}{v:α}(h:xs[j]? =some v):pY xs (j:Int)=some v:=by
 have hj:j < xs.length:=(X1.mp h).1
 have e:oW xs.length (j:Int)=some j:=by
  unfold oW
  rw[JQ (!1),JQ (!1)];simp
 unfold pY;rw[e];exact h
theorem Gc {α:Type}{xs:List α}{i:Int}{v:α}(h0:0<=i)(h:xs[i.toNat]? =some v):pY xs i=some v:=by
 obtain⟨j,rfl⟩:=Int.eq_ofNat_of_zero_le h0
 exact fR (by simpa using h)
theorem Mt (hx:lay 60 x=true)(hy:lay 60 y=true):yE x y=some (.bool (PyData.eqv x y)):=by unfold yE;rw[hx,hy];rfl
theorem Hx (hx:lay 60 x=true)(hy:lay 60 y=true):zX x y=some (.bool (!PyData.eqv x y)):=by unfold zX;rw[hx,hy];rfl
theorem qW (hx:lay 60 x=true)(hy:lays 60 ys=true):Fk x (.list ys)=some (.bool (cV ys x)):=by simp only[Fk,hx,hy,XW,if_true]
theorem xh (hx:lay 60 x=true)(hy:lays 60 ys=true):g7 x (.list ys)=some (.bool (!cV ys x)):=by simp only[g7,hx,hy,XW,if_true]
theorem qX (hx:lay 60 x=true)(hy:lays 60 ys=true):g7 x (.tuple ys)=some (.bool (!cV ys x)):=by simp only[g7,hx,hy,XW,if_true]
theorem qY (h:ar xs=true):oX [.list xs]=some (.list xs):=JQ h
theorem cg (h:ar xs=true):fx [.list xs]=some (.tuple xs):=JQ h
theorem qZ (h:ar xs=true):wv (.list xs)=some (.tuple xs.reverse):=JQ h
theorem DJ (h:-(2^62)<=n/\n < 2^62):Bb (.int n)=ah (.fr [],(List.range n.toNat).map λ(i:Nat)=>PyData.int (i:Int)):=JQ h
theorem za (l:List Int)(x:Int):cV (l.map PyData.int) (.int x)=decide (x∈l):=by
 unfold cV
 induction l with
 | nil=>rfl
 | cons y l ih=>
  rw[KQ,YW,ih]
  have e:PyData.eqv (.int y) (.int x)=(y==x):=by simp[PyData.eqv]
  rw[e]
  by_cases h:y=x
  ·subst h;simp
  ·have h':¬ x=y:=λz=>h z.symm
   simp[h,h']
theorem bt (P:Nat->aX->Prop)(h0:P 0 Γ)
  (hs:∀(i:Nat) (d:PyData) (Γ:aX),ds[i]? =some d->P i Γ->∃Γ1 Γ2,g (cP .base d) d Γ=some Γ1/\(b Γ1=ah (.nx Γ2)∨b Γ1=ah (.ct Γ2))/\P (i+1) Γ2) :
  ∃Γ',aZ g b ds Γ=ah (.nx Γ')/\P ds.length Γ':=by
 induction ds generalizing Γ P with
 | nil=>exact⟨Γ,rfl,h0⟩
 | cons d ds ih=>
  obtain⟨Γ1,Γ2,h1,h2,h3⟩:=hs 0 d Γ rfl h0
  obtain⟨Γ',h4,h5⟩:=ih (Γ:=Γ2) (λi=>P (i+1)) h3 λi d' Γ' hd hp=>hs (i+1) d' Γ' (by simpa using hd) hp
  refine⟨Γ',?_,by simpa using h5⟩
  simp only[aZ,h1,bw,au]
  rcases h2 with h2 | h2 <;> (rw[h2];exact h4)
theorem bZ (h:((List.range n).map λ(i:Nat)=>PyData.int (i:Int))[i]? =some d):d= .int (i:Int)/\i < n:=by
 rw[KU] at h
 by_cases hi:i < n
 ·rw[UZ hi] at h
  exact⟨(Option.some.inj h).symm,hi⟩
 ·rw[XU (by simpa using hi)] at h
  cases h
theorem jL (ds:List PyData)(f:PyData->Kd×PyData)(h:∀d∈ds,fe (some (false,d) :: cap)=ah (f d)):cb bT fe cap ds=some (ds.map f):=by
 induction ds with
 | nil=>rfl
 | cons d ds ih=>
  have h1:=h d K7
  simp only[cb,bT,ah] at h1⊢
  rw[h1,ih λx hx=>h x (K9 _ hx)]
  rfl
theorem vt (ds:List PyData)(p:PyData->Bool)(f:PyData->Kd×PyData)(ht:∀d∈ds,ft (some (false,d) :: cap)=ah (p d))(h:∀d∈ds,p d=true->fe (some (false,d) :: cap)=ah (f d)):cb ft fe cap ds=some ((ds.filter p).map f):=by
 induction ds with
 | nil=>rfl
 | cons d ds ih=>
  have h0:=ht d K7
  have ih':=ih (λx hx=>ht x (K9 _ hx)) λx hx=>h x (K9 _ hx)
  simp only[cb,ah] at h0⊢
  rw[h0]
  cases hp:p d with
  | false=>simp only[ih',Y4,hp,XZ,if_false]
  | true=>
   have h1:=h d K7 hp
   simp only[ah] at h1
   simp only[h1,ih',Y4,hp,if_true,KQ,Uk]
theorem cS {α:Type}(l:List α)(f:α->PyData):gO (l.map λa=>(Kd.fr [],f a))=some (.fr []):=by
 induction l with
 | nil=>rfl
 | cons a l ih=>simp only[KQ,gO,ih]
end Y
namespace L2
open PySem PySem.Spec PyProof.Rows Y
structure O5 (P:Program)(w:World)(outer:List Env)(H:Hp)(h0:Heap)(H':Hp)(B h:Heap):Prop where
 hok:pS P w H' B
 keep:∀b o,h0.get? b=some o->H b=none->b∉frs outer->B.get? b=some o
 slot:∀b o,h0.get? b=some o->H b=none->b∈frs outer->∃sl,h.get? b=some {o with slots:=sl}
 free:∀b o,h0.get? b=some o->H b=none->H' b=none
 there:∀b o,h0.get? b=some o->b∉frs outer->∃o',B.get? b=some o'
 tups:∀b xs,H b=some (.tup xs)->H' b=some (.tup xs)
 mi:∀b o u,H b=some (.Ci o u)->H' b=some (.Ci o u)
 mN:∀b ps,H b=some (.E3 ps)->∃more,H' b=some (.E3 (ps++more))
theorem O5.un (T:O5 P w outer H h0 H' B h)(ff:∀b∈frs outer,H b=none)(nf:h.FunFrames B outer)(st:B.StaysIn h')(up:h.UpToSlots h'):Un (frs outer) [] H H' h0 h':=by
 have sl:∀b o,h0.get? b=some o->H b=none->b∈frs outer->∃sl,h'.get? b=some {o with slots:=sl}:=λb o e n hb=>by
  obtain⟨sl,e1⟩:=T.slot b o e n hb
  obtain⟨_,o2,e2,nd⟩:=nf.mem hb
  rw[e1] at e2
  cases e2
  obtain⟨sl',e3⟩:=up b _ e1 nd
  exact⟨sl',e3⟩
 refine⟨λb o e n hb _=>st _ _ (T.keep b o e n hb),λb o e n hb _=>sl b o e n hb,λb o e n _=>T.free b o e n,λb o e _=> ?_,T.tups,T.mi,T.mN⟩
 by_cases hb:b∈frs outer
 ·obtain⟨s,e1⟩:=sl b o e (ff b hb) hb
  exact⟨_,e1⟩
 ·obtain⟨o',e1⟩:=T.there b o e hb
  exact⟨o',st _ _ e1⟩
end L2
namespace Y
noncomputable def nx (F:FF):FF:=λds=>match F ds with
 | some (.ok r)=>some (.ok r)
 | _=>none
end Y
namespace L2
open PySem PySem.Spec PyProof.Rows Y
end L2
namespace L2
open PySem PySem.Spec PyProof.Rows Y PySem.Calls Builtin Builtin.ObjectAttr Builtin.Getset_descriptor
def Mu (x D:Addr)(h:Heap):Prop:=∃ox,h.get? x=some ox/\ox.cls= .ref D
theorem Mu.ty {x D:Addr}{M:Model}{h:Heap}(p:Mu x D h):PySem.W.Looks M h (typeOf (.ref x)) (.ref D):=by
 obtain⟨ox,h1,h2⟩:=p
 exact h2 ▸ (PySem.W.Looks.ld h1).andThen .now
end L2
namespace Y
end Y
namespace L2
open PySem PySem.Spec PyProof.Rows Y
section
variable {X:Cx}
abbrev Cx.held (X:Cx)(e:Value):Cx:={X with A:=X.A.mark (some e),calm:=false,xe:=λ_ _=>False}
theorem Inv.held (I:Inv X pins σ H s)(e:Value):Inv (X.held e) pins σ H s :=
 ⟨⟨I.ok.mod,I.ok.kind,I.ok.glob,I.ok.blt,I.ok.above,I.ok.inj,I.ok.has,I.ok.cab,λz=>(K4 z).elim,I.ok.frames,I.ok.stk,I.ok.HW,I.ok.bs,I.ok.yr,I.ok.uw,I.ok.v8,I.ok.lV,I.ok.Cr⟩,I.os,I.bare,I.base,I.loc,I.cell,I.free,I.jx,I.pin,I.hok,I.len⟩
end
section
--
theorem zb:starEach (.Tuple elts k pos :: es) env=(false,eval (.Tuple elts k pos) env) :: starEach es env:=by rfl
theorem JS:starEach (.List elts pos :: es) env=(false,eval (.List elts pos) env) :: starEach es env:=by rfl
theorem fS :starEach (.Constant c k pos :: es) env=(false,eval (.Constant c k pos) env) :: starEach es env:=by rfl
theorem ai :starEach (.Name x pos :: es) env=(false,eval (.Name x pos) env) :: starEach es env:=by rfl
theorem oz :starEach (.Subscript a b pos :: es) env=(false,eval (.Subscript a b pos) env) :: starEach es env:=by rfl
end
end L2
namespace Ts
open PySem PyProof.Rows
abbrev eL:Array Keyed->Nat->StateT SortSt Sem Keyed:=sortPriv% PySem.Builtin.elem
abbrev lT:Keyed->Keyed->StateT SortSt Sem (Option Bool):=sortPriv% PySem.Builtin.lt
abbrev gal:Bool->Keyed->Array Keyed->Nat->Nat->Nat->StateT SortSt Sem (Option Nat):=sortPriv% PySem.Builtin.gallop
abbrev P6:Array Keyed->Array Keyed->StateT SortSt Sem (Array Keyed):=sortPriv% PySem.Builtin.mergeLo
abbrev P7:Array Keyed->Array Keyed->StateT SortSt Sem (Array Keyed):=sortPriv% PySem.Builtin.mergeHi
abbrev P8:Nat->StateT SortSt Sem Unit:=sortPriv% PySem.Builtin.setMinGallop
def kz (x:Keyed):Int:=numOf x.1
def IK (x:Keyed):Prop:=∃n t,x.1= .int n t
section
--
theorem a_ {M:Model}{arr:Array Keyed}{i:Nat}{x:Keyed}{Q:Keyed->SortSt->Prop}{st:SortSt}(h:arr[i]? =some x)(hq:Q x st):wpS M A E s (eL arr i) Q st:=by
 show wpS M A E s (elem' arr i) Q st
 rw[elem'_eq,h];exact JX hq
theorem q8 {x y:Keyed}{Q:Option Bool->SortSt->Prop}{st:SortSt}(hk:kindOf st=oneType')(hx:IK x)(hy:IK y)(hq:Q (some (decide (kz x < kz y))) st):wpS (!3) A E s (lT x y) Q st:=by
 obtain⟨a,t,ea⟩:=hx
 obtain⟨b,u,eb⟩:=hy
 show wpS (!3) A E s (lt' x y) Q st
 unfold kz at hq
 rw[ea,eb] at hq
 rw[lt'_eq]
 refine JK (JU ?_)
 rw[hk,keyLt'_oneType,ea,eb]
 exact JK (wpS_lift (wpAny_attempt (oneLt_int ⟨rfl,JX hq⟩)))
theorem BL (h:arr[i]? =some x):K arr i=kz x:=by unfold K;rw[h];rfl
noncomputable def zc (left:Bool)(key:Keyed)(arr:Array Keyed)(base i:Nat):Bool:=if left=true then decide (K arr (base+i) < kz key) else !decide (kz key < K arr (base+i))
theorem nq {left:Bool}{key:Keyed}{arr:Array Keyed}{base n i:Nat}{Q:Option Bool->SortSt->Prop}{st:SortSt}(hk:kindOf st=oneType')(hkey:IK key)(ha:∀x∈arr.toList,IK x)(hb:base+n<=arr.size)(hi:i < n)
  (hq:Q (some (zc left key arr base i)) st) :
  wpS (!3) A E s (do let x←eL arr (base+i);if left=true then lT x key else do let r←lT key x;pure (Option.map (λx=> !x) r)) Q st:=by
 have hlt:base+i < arr.size:=by omega
 have hg:arr[base+i]? =some arr[base+i]:=Yz hlt
 have hx:IK arr[base+i]:=ha _ (by simp)
 refine JK (a_ hg ?_)
 unfold zc at hq
 rw[BL hg] at hq
 cases left with
 | true=>rw[JQ rfl];exact q8 hk hx hkey hq
 | false=>rw[JV K4];exact JK (q8 hk hkey hx (JX hq))
theorem Gd {left:Bool}{key:Keyed}{arr:Array Keyed}{base n hint:Nat}{Q:Option Nat->SortSt->Prop}{st:SortSt}(hk:kindOf st=oneType')(hkey:IK key)(ha:∀x∈arr.toList,IK x)(hb:base+n<=arr.size)(hh:hint < n)
  (mono:∀i j,i<=j->j < n->zc left key arr base j=true->zc left key arr base i=true)
  (hq:∀k,k<=n->(∀i,i < k->zc left key arr base i=true)->(∀i,k<=i->i < n->zc left key arr base i=false)->Q (some k) st):wpS (!3) A E s (gal left key arr base n hint) Q st:=by
 obtain⟨B,hB⟩:∃B,zc left key arr base=B:=⟨_,rfl⟩
 rw[hB] at mono hq
 refine JK (nq hk hkey ha hb hh ?_)
 dsimp only
 cases h0:zc left key arr base hint with
 | true=>
  rw[hB] at h0
  rw[JQ rfl]
  refine JK (wpS_mono (wpS_forRange (I:=λx c st'=>st'=st/\∃l o,c=(none,l,o)/\l < o/\x+1<=o/\l < n - hint/\B (hint+l)=true)
   (Q:=λc st'=>st'=st/\∃l o,c=(none,l,o)/\l < o/\l < n - hint/\B (hint+l)=true/\(n - hint<=o∨(o < n - hint/\B (hint+o)=false))) ?_ ?_ ⟨rfl,0,1,rfl,by omega,by omega,by omega,h0⟩) ?_)
  ·rintro x c st' _ hx ⟨rfl,l,o,rfl,a1,a2,a3,a4⟩
   dsimp only
   by_cases hge:o≥n - hint
   ·rw[JQ hge]
    exact JX ⟨rfl,l,o,rfl,a1,a3,a4,.inl hge⟩
   ·rw[JV hge]
    refine JK (nq hk hkey ha hb (show hint+o < n by omega) ?_)
    dsimp only
    cases hc:zc left key arr base (hint+o) with
    | true=>exact JX ⟨rfl,o,2*o+1,rfl,by omega,by omega,by omega,by rw[←hB];exact hc⟩
    | false=>exact JX ⟨rfl,l,o,rfl,a1,a3,a4,.inr ⟨by omega,by rw[←hB];exact hc⟩⟩
  ·rintro c st' ⟨rfl,l,o,rfl,a1,a2,a3,a4⟩
   exact⟨rfl,l,o,rfl,a1,a3,a4,.inl (!1)⟩
  ·rintro c st' ⟨est,l,o,rfl,a1,a3,a4,a5⟩
   rw[est]
   dsimp only
   have b1:hint+l+1<=hint+min o (n - hint):=by omega
   have b2:hint+min o (n - hint)<=n:=by omega
   have b3:∀i,i < hint+l+1->B i=true:=λi hi=>mono i (hint+l) (!1) (!1) a4
   have b4:∀i,hint+min o (n - hint)<=i->i < n->B i=false:=λi h1 h2=>by
    rcases a5 with a5 | ⟨a5,a6⟩
    ·omega
    ·cases hz:B i with
     | false=>rfl
     | true=>have:=mono (hint+o) i (!1) h2 hz;rw[a6] at this;cases this
   refine JK (wpS_mono (wpS_forRange (I:=λx c st'=>st'=st/\∃l r,c=(none,l,r)/\l<=r/\r<=n/\r - l<=n - x/\(∀i,i < l->B i=true)/\∀i,r<=i->i < n->B i=false)
    (Q:=λc st'=>st'=st/\∃l r,c=(none,l,r)/\r<=n/\(∀i,i < r->B i=true)/\∀i,r<=i->i < n->B i=false) ?_ ?_ ⟨rfl,_,_,rfl,b1,b2,by omega,b3,b4⟩) ?_)
   ·rintro x c st' _ hx ⟨rfl,l,r,rfl,a1,a2,a3,a4,a5⟩
    dsimp only
    by_cases hge:l≥r
    ·rw[JQ hge]
     obtain rfl:l=r:=by omega
     exact JX ⟨rfl,l,l,rfl,a2,a4,a5⟩
    ·rw[JV hge]
     refine JK (nq hk hkey ha hb (show l+(r - l) / 2 < n by omega) ?_)
     dsimp only
     cases hc:zc left key arr base (l+(r - l) / 2) with
     | true=>
      rw[JQ rfl]
      exact JX ⟨rfl,l+(r - l) / 2+1,r,rfl,by omega,a2,by omega,λi hi=>mono i (l+(r - l) / 2) (!1) (!1) (hB ▸ hc),a5⟩
     | false=>
      rw[JV K4]
      refine JX ⟨rfl,l,l+(r - l) / 2,rfl,by omega,by omega,by omega,a4,λi h1 h2=> ?_⟩
      cases hz:B i with
      | false=>rfl
      | true=>have:=mono _ i h1 h2 hz;rw[←hB,hc] at this;cases this
   ·rintro c st' ⟨rfl,l,r,rfl,a1,a2,a3,a4,a5⟩
    obtain rfl:l=r:=by omega
    exact⟨rfl,l,l,rfl,a2,a4,a5⟩
   ·rintro c st' ⟨rfl,l,r,rfl,a2,a4,a5⟩
    exact JX (hq r a2 a4 a5)
 | false=>
  rw[hB] at h0
  rw[JV K4]
  refine JK (wpS_mono (wpS_forRange (I:=λx c st'=>st'=st/\∃l o,c=(none,l,o)/\l < o/\x+1<=o/\l < hint+1/\B (hint - l)=false)
   (Q:=λc st'=>st'=st/\∃l o,c=(none,l,o)/\l < o/\l < hint+1/\B (hint - l)=false/\(hint+1<=o∨(o < hint+1/\B (hint - o)=true))) ?_ ?_ ⟨rfl,0,1,rfl,by omega,by omega,by omega,h0⟩) ?_)
  ·rintro x c st' _ hx ⟨rfl,l,o,rfl,a1,a2,a3,a4⟩
   dsimp only
   by_cases hge:o≥hint+1
   ·rw[JQ hge]
    exact JX ⟨rfl,l,o,rfl,a1,a3,a4,.inl hge⟩
   ·rw[JV hge]
    refine JK (nq hk hkey ha hb (show hint - o < n by omega) ?_)
    dsimp only
    cases hc:zc left key arr base (hint - o) with
    | true=>exact JX ⟨rfl,l,o,rfl,a1,a3,a4,.inr ⟨by omega,by rw[←hB];exact hc⟩⟩
    | false=>exact JX ⟨rfl,o,2*o+1,rfl,by omega,by omega,by omega,by rw[←hB];exact hc⟩
  ·rintro c st' ⟨rfl,l,o,rfl,a1,a2,a3,a4⟩
   exact⟨rfl,l,o,rfl,a1,a3,a4,.inl (!1)⟩
  ·rintro c st' ⟨est,l,o,rfl,a1,a3,a4,a5⟩
   rw[est]
   dsimp only
   have b1:hint+1 - min o (hint+1)<=hint - l:=by omega
   have b2:hint - l<=n:=by omega
   have b3:∀i,i < hint+1 - min o (hint+1)->B i=true:=λi hi=>by
    rcases a5 with a5 | ⟨a5,a6⟩
    ·omega
    ·exact mono i (hint - o) (!1) (!1) a6
   have b4:∀i,hint - l<=i->i < n->B i=false:=λi h1 h2=>by
    cases hz:B i with
    | false=>rfl
    | true=>have:=mono (hint - l) i (!1) h2 hz;rw[a4] at this;cases this
   refine JK (wpS_mono (wpS_forRange (I:=λx c st'=>st'=st/\∃l r,c=(none,l,r)/\l<=r/\r<=n/\r - l<=n - x/\(∀i,i < l->B i=true)/\∀i,r<=i->i < n->B i=false)
    (Q:=λc st'=>st'=st/\∃l r,c=(none,l,r)/\r<=n/\(∀i,i < r->B i=true)/\∀i,r<=i->i < n->B i=false) ?_ ?_ ⟨rfl,_,_,rfl,b1,b2,by omega,b3,b4⟩) ?_)
   ·rintro x c st' _ hx ⟨rfl,l,r,rfl,a1,a2,a3,a4,a5⟩
    dsimp only
    by_cases hge:l≥r
    ·rw[JQ hge]
     obtain rfl:l=r:=by omega
     exact JX ⟨rfl,l,l,rfl,a2,a4,a5⟩
    ·rw[JV hge]
     refine JK (nq hk hkey ha hb (show l+(r - l) / 2 < n by omega) ?_)
     dsimp only
     cases hc:zc left key arr base (l+(r - l) / 2) with
     | true=>
      rw[JQ rfl]
      exact JX ⟨rfl,l+(r - l) / 2+1,r,rfl,by omega,a2,by omega,λi hi=>mono i (l+(r - l) / 2) (!1) (!1) (hB ▸ hc),a5⟩
     | false=>
      rw[JV K4]
      refine JX ⟨rfl,l,l+(r - l) / 2,rfl,by omega,by omega,by omega,a4,λi h1 h2=> ?_⟩
      cases hz:B i with
      | false=>rfl
      | true=>have:=mono _ i h1 h2 hz;rw[←hB,hc] at this;cases this
   ·rintro c st' ⟨rfl,l,r,rfl,a1,a2,a3,a4,a5⟩
    obtain rfl:l=r:=by omega
    exact⟨rfl,l,l,rfl,a2,a4,a5⟩
   ·rintro c st' ⟨rfl,l,r,rfl,a2,a4,a5⟩
    exact JX (hq r a2 a4 a5)
end
abbrev jM (f:Keyed->Int)(l:List Keyed):Prop:=l.Pairwise λx y=>f x<=f y
structure MIL (f:Keyed->Int)(A B O:List Keyed)(i j:Nat):Prop where
 p:O.Perm (A.take i++B.take j)
 s:jM f O
 a:∀x∈O,∀y∈A.drop i,f x<=f y
 b:∀x∈O,∀y∈B.drop j,f x<=f y
section
variable {f:Keyed->Int}{A B O:List Keyed}
theorem MIL.symm (m:MIL f A B O i j):MIL f B A O j i:=⟨m.p.trans Jq,m.s,m.b,m.a⟩
theorem MIL.run (m:MIL f A B O i j)(sB:jM f B)(k:Nat)(h:∀x∈(B.drop j).take k,∀y∈A.drop i,f x<=f y):MIL f A B (O++(B.drop j).take k) i (j+k):=by
 have hs:jM f (B.drop j):=sB.sublist (YY _ _)
 have hs2:jM f ((B.drop j).take k++(B.drop j).drop k):=by rw[Uu];exact hs
 refine⟨?_,?_,?_,?_⟩
 ·rw[List.take_add,←X5];exact m.p.append_right _
 ·refine Y7.mpr ⟨m.s,(Y7.mp hs2).1,λx hx y hy=>m.b x hx y (U1 hy)⟩
 ·intro x hx y hy
  rcases Kk.mp hx with z | z
  ·exact m.a x z y hy
  ·exact h x z y hy
 ·intro x hx y hy
  rw[←YQ] at hy
  rcases Kk.mp hx with z | z
  ·exact m.b x z y (U0 hy)
  ·exact(Y7.mp hs2).2.2 x z y hy
theorem take1 {l:List Keyed}(h:j < l.length):(l.drop j).take 1=[l[j]]:=by
 rw[U4 h];rfl
theorem MIL.push (m:MIL f A B O i j)(sB:jM f B)(hj:j < B.length)(h:∀y∈A.drop i,f B[j]<=f y):MIL f A B (O++[B[j]]) i (j+1):=by
 have:=m.run sB 1 (by rw[take1 hj];intro x hx;rw[K5.mp hx];exact h)
 rwa [take1 hj] at this
theorem MIL.fin (m:MIL f A B O i j)(hi:A.length<=i)(hj:B.length<=j):O.Perm (A++B)/\jM f O:=by
 have:=m.p
 rw[U7 hi,U7 hj] at this
 exact⟨this,m.s⟩
theorem MIL.nil (f:Keyed->Int)(A B:List Keyed):MIL f A B [] 0 0:=⟨by simp,List.Pairwise.nil,(λx hx=>by cases hx),(λx hx=>by cases hx)⟩
theorem MIL.both (m:MIL f A B O i j)(sA:jM f A)(sB:jM f B)(h:∀x∈B.drop j,∀y∈A.drop i,f x<=f y):(O++B.drop j++A.drop i).Perm (A++B)/\jM f (O++B.drop j++A.drop i):=by
 have m1:=m.run sB (B.length - j) (by rw[U7 (by rw[U8];omega)];exact h)
 rw[U7 (by rw[U8];omega)] at m1
 have m2:=m1.symm.run sA (A.length - i) (by
  intro x hx y hy
  rw[Jy (!1)] at hy;cases hy)
 rw[U7 (by rw[U8];omega)] at m2
 obtain⟨q1,q2⟩:=m2.fin (!1) (!1)
 exact⟨q1.trans Jq,q2⟩
end
def MI (a b out:Array Keyed)(ia ib:Nat):Prop:=MIL kz a.toList b.toList out.toList ia ib
def Fn (a b r:Array Keyed):Prop:=r.toList.Perm (a.toList++b.toList)/\jM kz r.toList
theorem iP (a:Array Keyed)(i j:Nat):(a.extract i j).toList=(a.toList.drop i).take (j - i):=by
 rw[Array.toList_extract,List.extract_eq_take_drop]
theorem nu (a:Array Keyed)(i:Nat):(a.extract i).toList=a.toList.drop i:=by
 rw[iP,U7 (by rw[U8,KY];exact K1 _)]
section
variable {a b out:Array Keyed}
theorem q9 (sl:jM kz l)(hi:i < l.length)(hy:y∈l.drop i):kz l[i]<=kz y:=by
 rw[U4 hi] at hy
 rcases K0.mp hy with rfl | hy
 ·exact Int.le_refl _
 ·have:jM kz (l[i] :: l.drop (i+1)):=by rw[←U4 hi];exact sl.sublist (YY _ _)
  exact(List.pairwise_cons.mp this).1 y hy
theorem MI.t7 (m:MI a b out ia ib)(sB:jM kz b.toList)(h:ib < b.size)(hx:∀y∈a.toList.drop ia,kz b[ib]<=kz y):MI a b (out.push b[ib]) ia (ib+1):=by
 unfold MI;rw[YZ];exact MIL.push m sB (by simpa using h) (by simpa using hx)
theorem MI.q_ (m:MI a b out ia ib)(sA:jM kz a.toList)(h:ia < a.size)(hx:∀y∈b.toList.drop ib,kz a[ia]<=kz y):MI a b (out.push a[ia]) (ia+1) ib:=by
 unfold MI;rw[YZ];exact(MIL.push (MIL.symm m) sA (by simpa using h) (by simpa using hx)).symm
theorem MI.JT (m:MI a b out ia ib)(sB:jM kz b.toList)(k:Nat)(hx:∀x∈(b.toList.drop ib).take k,∀y∈a.toList.drop ia,kz x<=kz y):MI a b (out++b.extract ib (ib+k)) ia (ib+k):=by
 unfold MI;rw[UW,iP,Nat.add_sub_cancel_left];exact MIL.run m sB k hx
theorem MI.zd (m:MI a b out ia ib)(sA:jM kz a.toList)(k:Nat)(hx:∀x∈(a.toList.drop ia).take k,∀y∈b.toList.drop ib,kz x<=kz y):MI a b (out++a.extract ia (ia+k)) (ia+k) ib:=by
 unfold MI;rw[UW,iP,Nat.add_sub_cancel_left];exact(MIL.run (MIL.symm m) sA k hx).symm
theorem MI.done (m:MI a b out ia ib)(sA:jM kz a.toList)(sB:jM kz b.toList)(h:a.size<=ia∨b.size<=ib):Fn a b (out++a.extract ia++b.extract ib):=by
 unfold Fn
 rw[UW,UW,nu,nu]
 have:=MIL.both (MIL.symm m) sB sA (λx hx y hy=>by
  rcases h with h | h
  ·rw[Jy (by rw[KY];exact h)] at hx;cases hx
  ·rw[Jy (by rw[KY];exact h)] at hy;cases hy)
 exact⟨this.1.trans Jq,this.2⟩
theorem MI.last (m:MI a b out ia ib)(sA:jM kz a.toList)(sB:jM kz b.toList)(h:∀x∈b.toList.drop ib,∀y∈a.toList.drop ia,kz x<=kz y):Fn a b (out++b.extract ib++a.extract ia):=by
 unfold Fn
 rw[UW,UW,nu,nu]
 exact MIL.both m sA sB h
end
def MH (a b out:Array Keyed)(na nb:Nat):Prop:=MIL (λx=> -kz x) a.toList.reverse b.toList.reverse out.toList (a.size - na) (b.size - nb)
theorem Ge (h:jM kz l):jM (λx=> -kz x) l.reverse:=List.pairwise_reverse.mpr (h.imp λh=>by dsimp only at h⊢;omega)
theorem DK (h:jM (λx=> -kz x) l):jM kz l.reverse:=List.pairwise_reverse.mpr (h.imp λh=>by dsimp only at h⊢;omega)
theorem xi {l:List Keyed}:l.reverse.drop (l.length - n)=(l.take n).reverse:=by rw[List.reverse_take]
section
variable {a b out:Array Keyed}
theorem MH.symm (m:MH a b out na nb):MH b a out nb na:=MIL.symm m
theorem MH.zd (m:MH a b out na nb)(sA:jM kz a.toList)(at_:Nat)(h1:at_<=na)(h2:na<=a.size)(hx:∀x∈(a.toList.take na).drop at_,∀y∈b.toList.take nb,kz y<=kz x):MH a b (out++(a.extract at_ na).reverse) at_ nb:=by
 have el:a.toList.length=a.size:=KY
 have eb:b.toList.length=b.size:=KY
 have e1:(a.toList.reverse.drop (a.size - na)).take (na - at_)=((a.toList.take na).drop at_).reverse:=by
  rw[←el,xi,List.reverse_drop,Xx,el,Nat.min_eq_left h2]
 have:=MIL.run (MIL.symm m) (Ge sA) (na - at_) (by
  rw[e1,←eb,xi]
  intro x hx' y hy
  have:=hx x (Uw.mp hx') y (Uw.mp hy)
  show -kz x<= -kz y
  omega)
 rw[e1,show a.size - na+(na - at_)=a.size - at_ by omega] at this
 unfold MH
 rw[UW,Array.toList_reverse,iP,←List.drop_take]
 exact this.symm
theorem MH.q_ (m:MH a b out na nb)(sA:jM kz a.toList)(h1:1<=na)(h2:na<=a.size)(hx:∀y∈b.toList.take nb,kz y<=kz (a[na - 1]'(!1))):MH a b (out.push (a[na - 1]'(!1))) (na - 1) nb:=by
 have e:(a.toList.take na).drop (na - 1)=[a[na - 1]'(!1)]:=by
  rw[List.drop_take,show na - (na - 1)=1 by omega,take1 (by rw[KY];omega)];simp
 have:=m.zd sA (na - 1) (!1) h2 (by rw[e];intro x hx';rw[K5.mp hx'];exact hx)
 unfold MH at this⊢
 rw[UW,Array.toList_reverse,iP,←List.drop_take,e] at this
 rw[YZ];exact this
theorem MH.fin (m:MH a b out 0 0):Fn a b out.reverse:=by
 obtain⟨p,s⟩:=MIL.fin m (by simp) (by simp)
 unfold Fn
 rw[Array.toList_reverse]
 exact⟨((List.reverse_perm _).trans p).trans ((List.reverse_perm _).append (List.reverse_perm _)),DK s⟩
theorem MH.both (m:MH a b out na nb)(sA:jM kz a.toList)(sB:jM kz b.toList)(h2:na<=a.size)(h3:nb<=b.size)(hx:∀x∈a.toList.take na,∀y∈b.toList.take nb,kz y<=kz x):Fn a b (b.extract 0 nb++a.extract 0 na++out.reverse):=by
 have m1:=m.zd sA 0 (!1) h2 (by rw[Y3];exact hx)
 have m2:=(m1.symm.zd sB 0 (!1) h3 (by intro x _ y hy;rw[YV] at hy;cases hy)).symm
 have:=m2.fin
 rwa [Array.reverse_append,Array.reverse_append,Array.reverse_reverse,Array.reverse_reverse,←Array.append_assoc] at this
theorem MH.done (m:MH a b out na nb)(sA:jM kz a.toList)(sB:jM kz b.toList)(h2:na<=a.size)(h3:nb<=b.size)(h:na=0∨nb=0):Fn a b (a.extract 0 na++b.extract 0 nb++out.reverse):=by
 have:=MH.both (MH.symm m) sB sA h3 h2 (λx hx y hy=>by
  rcases h with h | h
  ·rw[h,YV] at hy;cases hy
  ·rw[h,YV] at hx;cases hx)
 exact⟨this.1.trans Jq,this.2⟩
theorem MH.nil (a b:Array Keyed):MH a b #[] a.size b.size:=by
 unfold MH;rw[Nat.sub_self,Nat.sub_self];exact MIL.nil _ _ _
theorem rc (sl:jM kz l)(hn:1<=n)(hi:n<=l.length)(hy:y∈l.take n):kz y<=kz (l[n - 1]'(!1)):=by
 obtain⟨i,hi',rfl⟩:=List.mem_iff_getElem.mp hy
 rw[Xx] at hi'
 rw[YU]
 by_cases e:i=n - 1
 ·subst e;exact Int.le_refl _
 ·exact Yj.mp sl i (n - 1) (!1) (!1) (!1)
end
section
--
theorem o9 (hb:base+n<=arr.size)(hi:i < n):∃h:i < ((arr.toList.drop base).take n).length,K arr (base+i)=kz (((arr.toList.drop base).take n)[i]'h):=by
 have hl:((arr.toList.drop base).take n).length=n:=by rw[Xx,U8,KY];omega
 refine⟨by omega,?_⟩
 rw[YU,J5]
 have hlt:base+i < arr.size:=by omega
 rw[BL (Yz hlt)];simp
theorem xj {left:Bool}{key:Keyed}{arr:Array Keyed}{base n hint:Nat}{Q:Option Nat->SortSt->Prop}{st:SortSt}(hk:kindOf st=oneType')(hkey:IK key)(ha:∀x∈arr.toList,IK x)(hb:base+n<=arr.size)(hh:hint < n)
  (hs:jM kz ((arr.toList.drop base).take n))
  (hq:∀k,k<=n->(∀x∈((arr.toList.drop base).take n).take k,if left=true then kz x < kz key else kz x<=kz key)->(∀x∈((arr.toList.drop base).take n).drop k,if left=true then kz key<=kz x else kz key < kz x)->Q (some k) st):wpS (!3) A E s (gal left key arr base n hint) Q st:=by
 have hl:((arr.toList.drop base).take n).length=n:=by rw[Xx,U8,KY];omega
 refine Gd hk hkey ha hb hh (λi j hij hj h=> ?_) λk hk1 h1 h2=>hq k hk1 (λx hx=> ?_) λx hx=> ?_
 ·obtain⟨u1,e1⟩:=o9 (i:=i) hb (!1)
  obtain⟨u2,e2⟩:=o9 (i:=j) hb hj
  have hle:K arr (base+i)<=K arr (base+j):=by
   rw[e1,e2]
   by_cases e:i=j
   ·subst e;exact Int.le_refl _
   ·exact Yj.mp hs i j u1 u2 (!1)
  unfold zc at h⊢
  cases left with
  | true=>simp only[if_true,JJ] at h⊢;omega
  | false=>simp only[XZ,if_false,Bool.not_eq_true',decide_eq_false_iff_not] at h⊢;omega
 ·obtain⟨i,hi,rfl⟩:=List.mem_iff_getElem.mp hx
  rw[Xx,hl] at hi
  rw[YU]
  obtain⟨u1,e1⟩:=o9 (arr:=arr) (base:=base) (i:=i) hb (!1)
  have:=h1 i (!1)
  unfold zc at this
  rw[e1] at this
  cases left with
  | true=>simpa using this
  | false=>simp only[XZ,if_false,Bool.not_eq_true',decide_eq_false_iff_not] at this⊢;omega
 ·obtain⟨i,hi,rfl⟩:=List.mem_iff_getElem.mp hx
  rw[U8,hl] at hi
  rw[J5]
  obtain⟨u1,e1⟩:=o9 (arr:=arr) (base:=base) (i:=k+i) hb (!1)
  have:=h2 (k+i) (!1) (!1)
  unfold zc at this
  rw[e1] at this
  cases left with
  | true=>simp only[if_true,decide_eq_false_iff_not] at this⊢;omega
  | false=>simp only[XZ,if_false,Bool.not_eq_false',JJ] at this⊢;omega
theorem re {key:Keyed}{arr:Array Keyed}{base n hint:Nat}{Q:Option Nat->SortSt->Prop}{st:SortSt}(hk:kindOf st=oneType')(hkey:IK key)(ha:∀x∈arr.toList,IK x)(hb:base+n<=arr.size)(hh:hint < n)
  (hs:jM kz ((arr.toList.drop base).take n)) (hq:∀k,k<=n->(∀x∈((arr.toList.drop base).take n).take k,kz x<=kz key)->(∀x∈((arr.toList.drop base).take n).drop k,kz key < kz x)->Q (some k) st):wpS (!3) A E s (gal false key arr base n hint) Q st :=
 xj hk hkey ha hb hh hs λk h1 h2 h3=>hq k h1 (λx hx=>by simpa using h2 x hx) λx hx=>by simpa using h3 x hx
theorem rf {key:Keyed}{arr:Array Keyed}{base n hint:Nat}{Q:Option Nat->SortSt->Prop}{st:SortSt}(hk:kindOf st=oneType')(hkey:IK key)(ha:∀x∈arr.toList,IK x)(hb:base+n<=arr.size)(hh:hint < n)
  (hs:jM kz ((arr.toList.drop base).take n)) (hq:∀k,k<=n->(∀x∈((arr.toList.drop base).take n).take k,kz x < kz key)->(∀x∈((arr.toList.drop base).take n).drop k,kz key<=kz x)->Q (some k) st):wpS (!3) A E s (gal true key arr base n hint) Q st :=
 xj hk hkey ha hb hh hs λk h1 h2 h3=>hq k h1 (λx hx=>by simpa using h2 x hx) λx hx=>by simpa using h3 x hx
end
abbrev SG (st:SortSt)(g:Nat):SortSt:=SortSt.mk' (kindOf st) (arrOf st) (pendingOf st) g (failedOf st)
section
--
theorem p9 {M:Model}{g:Nat}{Q:Unit->SortSt->Prop}{st:SortSt}(h:Q () (SG st g)):wpS M A E s (P8 g) Q st:=by
 exact wpS_modify h
theorem aS {M:Model}{α:Type}{c:Prop}[Decidable c]{m1 m2:StateT SortSt Sem α}{Q:α->SortSt->Prop}{st:SortSt}(h1:c->wpS M A E s m1 Q st)(h2:¬c->wpS M A E s m2 Q st):wpS M A E s (if c then m1 else m2) Q st:=by
 by_cases h:c
 ·rw[JQ h];exact h1 h
 ·rw[JV h];exact h2 h
theorem t8 {M:Model}{α:Type}{c:Nat->Prop}[∀z,Decidable (c z)]{m1 F:Nat->StateT SortSt Sem α}{Q:α->SortSt->Prop}{st:SortSt}(h:∀z,m1 z=F (z - 1))(key:∀z,wpS M A E s (F z) Q st)(z:Nat):wpS M A E s (if c z then m1 z else F z) Q st :=
 aS (λ_=>by rw[h];exact key _) (λ_=>key _)
theorem Hy {M:Model}{α:Type}{P:Nat->Array Keyed->Prop}{c e:Nat->Array Keyed->Prop}{_:∀n o,Decidable (c n o)}{_:∀n o,Decidable (e n o)}{p t T:Nat->Array Keyed->StateT SortSt Sem α}{Q:α->SortSt->Prop}{st:SortSt}(R:Nat->Array Keyed->Prop)(X:Nat->Array Keyed->Nat)(O:Nat->Array Keyed->Array Keyed)(ht:∀n o,t n o=T (X n o) (O n o))
  (h1:∀n o,P n o->c n o->e n o->wpS M A E s (p n o) Q st) (h2:∀n o,P n o->c n o->¬e n o->R (X n o) (O n o)) (h3:∀n o,P n o->¬c n o->R n o) (k:∀n o,R n o->wpS M A E s (T n o) Q st) (n:Nat) (o:Array Keyed) (h:P n o):wpS M A E s (if c n o then (if e n o then p n o else t n o) else T n o) Q st :=
 aS (λhc=>aS (h1 n o h hc) λhe=>by rw[ht];exact k _ _ (h2 n o h hc he)) λhc=>k _ _ (h3 n o h hc)
theorem Hz {M:Model}{α:Type}{P:Nat->Array Keyed->Prop}{c e f:Nat->Array Keyed->Prop}{_:∀n o,Decidable (c n o)}{_:∀n o,Decidable (e n o)}{_:∀n o,Decidable (f n o)}{p q t T:Nat->Array Keyed->StateT SortSt Sem α}{Q:α->SortSt->Prop}{st:SortSt}(R:Nat->Array Keyed->Prop)(X:Nat->Array Keyed->Nat)(O:Nat->Array Keyed->Array Keyed)(ht:∀n o,t n o=T (X n o) (O n o))
  (h1:∀n o,P n o->c n o->e n o->wpS M A E s (p n o) Q st) (h2:∀n o,P n o->c n o->¬e n o->f n o->wpS M A E s (q n o) Q st) (h3:∀n o,P n o->c n o->¬e n o->¬f n o->R (X n o) (O n o)) (h4:∀n o,P n o->¬c n o->R n o) (k:∀n o,R n o->wpS M A E s (T n o) Q st) (n:Nat) (o:Array Keyed) (h:P n o) :
  wpS M A E s (if c n o then (if e n o then p n o else (if f n o then q n o else t n o)) else T n o) Q st :=
 aS (λhc=>aS (h1 n o h hc) λhe=>aS (h2 n o h hc he) λhf=>by rw[ht];exact k _ _ (h3 n o h hc he hf)) λhc=>k _ _ (h4 n o h hc)
theorem bf {a:Array Keyed}(h:i < a.size):a[i]? =some a[i]:=Yz h
structure Pre (a b:Array Keyed):Prop where
 ia:∀x∈a.toList,IK x
 ib:∀x∈b.toList,IK x
 sA:jM kz a.toList
 sB:jM kz b.toList
 a1:1<=a.size
 b1:1<=b.size
 h0:∀x∈a.toList,kz (b[0]'b1)<=kz x
 hl:∀x∈b.toList,kz x<=kz (a[a.size - 1]'(!1))
theorem Pre.kA (p:Pre a b)(h:i < a.size):IK a[i]:=p.ia _ (by simp)
theorem Pre.kB (p:Pre a b)(h:i < b.size):IK b[i]:=p.ib _ (by simp)
theorem Pre.dA (p:Pre a b)(h:i < a.size)(hy:y∈a.toList.drop i):kz a[i]<=kz y:=by
 have:=q9 p.sA (by rw[KY];exact h) hy;simpa using this
theorem Pre.dB (p:Pre a b)(h:i < b.size)(hy:y∈b.toList.drop i):kz b[i]<=kz y:=by
 have:=q9 p.sB (by rw[KY];exact h) hy;simpa using this
theorem Pre.Az (p:Pre a b)(h:i+1=a.size):∀x∈b.toList.drop j,∀y∈a.toList.drop i,kz x<=kz y:=λx hx y hy=>by
 have h1:=p.hl x (U0 hx)
 have h2:=p.dA (i:=i) (!1) hy
 have e:a[a.size - 1]'(by have:=p.a1;omega)=a[i]:=by congr 1;omega
 rw[e] at h1;omega
theorem ny {a:Array Keyed}:(a.toList.drop i).take (a.size - i)=a.toList.drop i:=U7 (by rw[U8,KY];exact K1 _)
variable {a b:Array Keyed}
structure Lv (a b out:Array Keyed)(ia ib:Nat)(lo:Nat):Prop where
 m:MI a b out ia ib
 ha:ia+1 < a.size
 hb:ib < b.size
 hp:lo<=ia+ib
theorem Gf {st:SortSt}{Q:Array Keyed->SortSt->Prop}(hk:kindOf st=oneType')(p:Pre a b)(hq:∀r g,Fn a b r->Q r (SG st g)):wpS (!3) A E s (P6 a b) Q st:=by
 have a1:=p.a1
 have b1:=p.b1
 refine JK (wpS_lift (wpAny_rule ⟨rfl,?_⟩))
 dsimp only
 refine JK (a_ (bf b1) ?_)
 have m0:MI a b #[b[0]] 0 1:=MI.t7 (out:=#[]) (ia:=0) (ib:=0) (MIL.nil _ _ _) p.sB b1 (λy hy=>p.h0 y (U0 hy))
 by_cases e1:1=b.size
 ·rw[JQ (by simpa using e1)]
  exact JX (hq _ (gallopOf st) (m0.done p.sA p.sB (.inr (!1))))
 rw[JV (by simpa using e1)]
 by_cases e2:0+1=a.size
 ·rw[JQ (by simpa using e2)]
  exact JX (hq _ (gallopOf st) (m0.last p.sA p.sB (p.Az e2)))
 rw[JV (by simpa using e2)]
 refine JK (JU ?_)
 refine JK (wpS_mono (wpS_forRange (I:=λx c st'=>∃g out ia ib mg,st'=SG st g/\c=(none,out,ia,ib,mg)/\Lv a b out ia ib (x+1))
  (Q:=λc st'=>∃g r d,st'=SG st g/\c=(some r,d)/\Fn a b r) ?_ ?_ ⟨gallopOf st,_,_,_,_,rfl,rfl,m0,by omega,by omega,by omega⟩) ?_)
 ·rintro x c st' _ hx ⟨g,out,ia,ib,mg,rfl,rfl,lv⟩
  dsimp only
  refine JK (wpS_mono (wpS_forRange (I:=λy c st'=>∃out ia ib ac bc,st'=SG st g/\c=(none,out,ia,ib,ac,bc)/\Lv a b out ia ib (x+1+y))
   (Q:=λc st'=>st'=SG st g/\((∃r d,c=(some r,d)/\Fn a b r)∨∃out ia ib ac bc,c=(none,out,ia,ib,ac,bc)/\Lv a b out ia ib (x+2))) ?_ ?_ ⟨_,_,_,_,_,rfl,rfl,lv⟩) ?_)
  ·rintro y c st' _ hy ⟨out,ia,ib,ac,bc,rfl,rfl,m,ha,hb,hp⟩
   dsimp only
   refine JK (a_ (bf hb) ?_)
   refine JK (a_ (bf (show ia < a.size by omega)) ?_)
   refine JK (q8 hk (p.kB hb) (p.kA (!1)) ?_)
   dsimp only
   by_cases hw:kz b[ib] < kz a[ia]
   ·rw[JQ (Z9 hw)]
    have m':=m.t7 p.sB hb (λy hy=>by have:=p.dA (!1) hy;omega)
    refine JK (a_ (bf hb) ?_)
    by_cases e:ib+1=b.size
    ·rw[JQ (by simpa using e)]
     exact JX ⟨rfl,.inl ⟨_,_,rfl,m'.done p.sA p.sB (.inr (!1))⟩⟩
    ·rw[JV (by simpa using e)]
     refine aS (λeI=> ?_) λeI=> ?_
     ·exact JX ⟨rfl,.inr ⟨_,_,_,_,_,rfl,m',ha,by omega,by omega⟩⟩
     ·exact JX ⟨_,_,_,_,_,rfl,rfl,m',ha,by omega,by omega⟩
   ·rw[JV (by rw[Z8 hw];exact K4)]
    have m':=m.q_ p.sA (!1) (λy hy=>by have:=p.dB hb hy;omega)
    refine JK (a_ (bf (show ia < a.size by omega)) ?_)
    by_cases e:ia+1+1=a.size
    ·rw[JQ (by simpa using e)]
     exact JX ⟨rfl,.inl ⟨_,_,rfl,m'.last p.sA p.sB (p.Az e)⟩⟩
    ·rw[JV (by simpa using e)]
     refine aS (λeI=> ?_) λeI=> ?_
     ·exact JX ⟨rfl,.inr ⟨_,_,_,_,_,rfl,m',by omega,hb,by omega⟩⟩
     ·exact JX ⟨_,_,_,_,_,rfl,rfl,m',by omega,hb,by omega⟩
  ·rintro c st' ⟨out,ia,ib,ac,bc,rfl,rfl,m,ha,hb,hp⟩
   exact⟨rfl,.inr ⟨_,_,_,_,_,rfl,m,ha,hb,by omega⟩⟩
  ·rintro c st' ⟨rfl,⟨r,d,rfl,hr⟩ | ⟨out,ia,ib,ac,bc,rfl,lv⟩⟩
   ·exact JX ⟨g,r,_,rfl,rfl,hr⟩
   dsimp only
   refine JK (wpS_lift (wpAny_rule ⟨rfl,?_⟩))
   refine JK (wpS_mono (wpS_forRange (I:=λy c st'=>∃g out ia ib mg ac bc,st'=SG st g/\c=(none,out,ia,ib,mg,ac,bc)/\Lv a b out ia ib (x+2))
    (Q:=λc st'=>(∃g r d,st'=SG st g/\c=(some r,d)/\Fn a b r)∨∃g out ia ib mg ac bc,st'=SG st g/\c=(none,out,ia,ib,mg,ac,bc)/\Lv a b out ia ib (x+2)) ?_ ?_ ⟨_,_,_,_,_,_,_,rfl,rfl,lv⟩) ?_)
   ·rintro y c st' _ hy ⟨g,out,ia,ib,mg,ac,bc,rfl,rfl,m,ha,hb,hp⟩
    dsimp only
    revert mg
    refine t8 (λ_=>rfl) λmg=> ?_
    refine JK (p9 ?_)
    refine JK (a_ (bf hb) ?_)
    refine JK (re hk (p.kB hb) p.ia (!1) (!1) (by rw[ny];exact p.sA.sublist (YY _ _)) λk q1 q2 q3=> ?_)
    rw[ny] at q2 q3
    dsimp only
    have mA:=m.zd p.sA k (λx hx y hy=>by have:=q2 x hx;have:=p.dB hb hy;omega)
    rw[YQ] at q3
    have hP:MI a b out ia ib/\MI a b (out++a.extract ia (ia+k)) (ia+k) ib/\ia+1 < a.size/\x+2<=ia+ib/\k<=a.size - ia/\∀y∈a.toList.drop (ia+k),kz b[ib] < kz y:=⟨m,mA,by omega,hp,q1,q3⟩
    clear mA m ha hp q1 q2 q3
    revert hP
    revert out
    revert ia
    refine Hz (λx' o=>x'+1 < a.size/\x+2<=x'+ib/\MI a b o x' ib/\∀y∈a.toList.drop x',kz b[ib]<=kz y) (λn _=>n+k) (λn o=>o++a.extract n (n+k)) ?_ (λia out ⟨m,mA,ha,hp,q1,q3⟩ _ e5=> ?_) (λia out ⟨m,mA,ha,hp,q1,q3⟩ _ e5 e6=> ?_) (λia out ⟨m,mA,ha,hp,q1,q3⟩ _ e5 e6=> ?_) (λia out ⟨m,mA,ha,hp,q1,q3⟩ hk1=> ?_) ?_
    ·intro _ _;rfl
    ·exact JX (.inl ⟨_,_,_,rfl,rfl,mA.last p.sA p.sB (p.Az (beq_iff_eq.mp e5))⟩)
    ·exact JX (.inl ⟨_,_,_,rfl,rfl,mA.done p.sA p.sB (.inl (by simp only[JY] at e6;omega))⟩)
    ·simp only[JY] at e5 e6
     exact⟨by omega,by omega,mA,λy hy=>Yy (q3 y hy)⟩
    ·obtain rfl:k=0:=by omega
     exact⟨ha,hp,m,λy hy=>Yy (q3 y hy)⟩
    rintro HA o ⟨ha3,hp,m2,hx2⟩
    have ha2:HA < a.size:=by omega
    refine JK (a_ (bf hb) ?_)
    have mB:=m2.t7 p.sB hb hx2
    generalize o.push b[ib]=o1 at mB⊢
    generalize hib:ib+1=Cm at mB⊢
    refine aS (λe3=> ?_) λe3=> ?_
    ·exact JX (.inl ⟨_,_,_,rfl,rfl,mB.done p.sA p.sB (.inr (by simp only[JY] at e3;omega))⟩)
    simp only[JY] at e3
    refine JK (a_ (bf ha2) ?_)
    refine JK (rf hk (p.kA ha2) p.ib (!1) (!1) (by rw[ny];exact p.sB.sublist (YY _ _)) λk2 r1 r2 r3=> ?_)
    rw[ny] at r2 r3
    dsimp only
    have mC:=mB.JT p.sB k2 (λx hx y hy=>by have:=r2 x hx;have:=p.dA ha2 hy;omega)
    rw[YQ] at r3
    have hP:MI a b o1 HA Cm/\MI a b (o1++b.extract Cm (Cm+k2)) HA (Cm+k2)/\Cm < b.size/\x+3<=HA+Cm/\k2<=b.size - Cm/\∀z∈b.toList.drop (Cm+k2),kz a[HA]<=kz z:=⟨mB,mC,by omega,by omega,r1,r3⟩
    clear mC mB r1 r2 r3 e3 hib
    revert hP
    revert o1
    revert Cm
    refine Hy (λy o=>y < b.size/\x+3<=HA+y/\MI a b o HA y/\∀z∈b.toList.drop y,kz a[HA]<=kz z) (λn _=>n+k2) (λn o=>o++b.extract n (n+k2)) ?_ (λCm o1 ⟨mB,mC,i1,i2,r1,r3⟩ _ e5=> ?_) (λCm o1 ⟨mB,mC,i1,i2,r1,r3⟩ _ e5=> ?_) (λCm o1 ⟨mB,mC,i1,i2,r1,r3⟩ hk2=> ?_) ?_
    ·intro _ _;rfl
    ·exact JX (.inl ⟨_,_,_,rfl,rfl,mC.done p.sA p.sB (.inr (by simp only[JY] at e5;omega))⟩)
    ·simp only[JY] at e5
     exact⟨by omega,by omega,mC,r3⟩
    ·obtain rfl:k2=0:=by omega
     exact⟨i1,i2,mB,r3⟩
    rintro QN o ⟨hb2,hb3,m3,P9⟩
    refine JK (a_ (bf ha2) ?_)
    have m4:=m3.q_ p.sA ha2 P9
    refine aS (λe4=> ?_) λe4=> ?_
    ·exact JX (.inl ⟨_,_,_,rfl,rfl,m4.last p.sA p.sB (p.Az (beq_iff_eq.mp e4))⟩)
    simp only[JY] at e4
    refine aS (λeJ=> ?_) λeJ=> ?_
    ·exact JX (.inr ⟨_,_,_,_,_,_,_,rfl,rfl,m4,by omega,by omega,by omega⟩)
    ·exact JX ⟨_,_,_,_,_,_,_,rfl,rfl,m4,by omega,by omega,by omega⟩
   ·rintro c st' ⟨g,out,ia,ib,mg,ac,bc,rfl,rfl,lv⟩
    exact .inr ⟨_,_,_,_,_,_,_,rfl,rfl,lv⟩
   ·rintro c st' (⟨g,r,d,rfl,rfl,hr⟩ | ⟨g,out,ia,ib,mg,ac,bc,rfl,rfl,lv⟩)
    ·exact JX ⟨_,_,_,rfl,rfl,hr⟩
    ·dsimp only
     exact JK (p9 (JX ⟨_,_,_,_,_,rfl,rfl,lv⟩))
 ·rintro c st' ⟨g,out,ia,ib,mg,rfl,rfl,m,ha,hb,hp⟩
  omega
 ·rintro c st' ⟨g,r,d,rfl,rfl,hr⟩
  exact JX (hq r g hr)
end
section
variable {a b out:Array Keyed}
theorem MH.t7 (m:MH a b out na nb)(sB:jM kz b.toList)(h1:1<=nb)(h2:nb<=b.size)(hx:∀y∈a.toList.take na,kz y<=kz (b[nb - 1]'(!1))):MH a b (out.push (b[nb - 1]'(!1))) na (nb - 1):=(m.symm.q_ sB h1 h2 hx).symm
theorem MH.JT (m:MH a b out na nb)(sB:jM kz b.toList)(at_:Nat)(h1:at_<=nb)(h2:nb<=b.size)(hx:∀x∈(b.toList.take nb).drop at_,∀y∈a.toList.take na,kz y<=kz x):MH a b (out++(b.extract at_ nb).reverse) na at_:=(m.symm.zd sB at_ h1 h2 hx).symm
theorem Pre.tA (p:Pre a b)(h1:1<=n)(h:n<=a.size)(hy:y∈a.toList.take n):kz y<=kz (a[n - 1]'(!1)):=by
 have:=rc p.sA h1 (by rw[KY];exact h) hy;simpa using this
theorem Pre.tB (p:Pre a b)(h1:1<=n)(h:n<=b.size)(hy:y∈b.toList.take n):kz y<=kz (b[n - 1]'(!1)):=by
 have:=rc p.sB h1 (by rw[KY];exact h) hy;simpa using this
theorem Pre.vz (p:Pre a b)(h:m=1):∀x∈a.toList.take n,∀y∈b.toList.take m,kz y<=kz x:=λx hx y hy=>by
 subst h
 have h1:=p.h0 x (U1 hx)
 have h2:=p.tB (n:=1) (K1 _) p.b1 hy
 exact YJ h2 h1
structure Lh (a b out:Array Keyed)(na nb lo:Nat):Prop where
 m:MH a b out na nb
 h1:1<=na
 g1:na<=a.size
 h2:2<=nb
 g2:nb<=b.size
 hp:lo<=(a.size - na)+(b.size - nb)
theorem Gg {st:SortSt}{Q:Array Keyed->SortSt->Prop}(hk:kindOf st=oneType')(p:Pre a b)(hq:∀r g,Fn a b r->Q r (SG st g)):wpS (!3) A E s (P7 a b) Q st:=by
 have a1:=p.a1
 have b1:=p.b1
 refine JK (wpS_lift (wpAny_rule ⟨rfl,?_⟩))
 dsimp only
 refine JK (a_ (bf (show a.size - 1 < a.size by omega)) ?_)
 have m0:MH a b #[a[a.size - 1]] (a.size - 1) b.size:=(MH.nil a b).q_ p.sA a1 (K1 _) (λy hy=>p.hl y (U1 hy))
 refine aS (λe1=> ?_) λe1=> ?_
 ·simp only[JY] at e1
  exact JX (hq _ (gallopOf st) (m0.done p.sA p.sB (!1) (K1 _) (.inl e1)))
 simp only[JY] at e1
 refine aS (λe2=> ?_) λe2=> ?_
 ·simp only[JY] at e2
  exact JX (hq _ (gallopOf st) (m0.both p.sA p.sB (!1) (K1 _) (p.vz e2)))
 simp only[JY] at e2
 refine JK (JU ?_)
 refine JK (wpS_mono (wpS_forRange (I:=λx c st'=>∃g na nb out mg,st'=SG st g/\c=(none,na,nb,out,mg)/\Lh a b out na nb (x+1))
  (Q:=λc st'=>∃g r d,st'=SG st g/\c=(some r,d)/\Fn a b r) ?_ ?_ ⟨gallopOf st,_,_,_,_,rfl,rfl,m0,by omega,by omega,by omega,by omega,by omega⟩) ?_)
 ·rintro x c st' _ hx ⟨g,na,nb,out,mg,rfl,rfl,lv⟩
  dsimp only
  refine JK (wpS_mono (wpS_forRange (I:=λy c st'=>∃na nb out ac bc,st'=SG st g/\c=(none,na,nb,out,ac,bc)/\Lh a b out na nb (x+1+y))
   (Q:=λc st'=>st'=SG st g/\((∃r d,c=(some r,d)/\Fn a b r)∨∃na nb out ac bc,c=(none,na,nb,out,ac,bc)/\Lh a b out na nb (x+2))) ?_ ?_ ⟨_,_,_,_,_,rfl,rfl,lv⟩) ?_)
  ·rintro y c st' _ hy ⟨na,nb,out,ac,bc,rfl,rfl,m,h1,g1,h2,g2,hp⟩
   dsimp only
   refine JK (a_ (bf (show nb - 1 < b.size by omega)) ?_)
   refine JK (a_ (bf (show na - 1 < a.size by omega)) ?_)
   refine JK (q8 hk (p.kB (!1)) (p.kA (!1)) ?_)
   dsimp only
   by_cases hw:kz (b[nb - 1]'(!1)) < kz (a[na - 1]'(!1))
   ·rw[JQ (Z9 hw)]
    have m':=m.q_ p.sA h1 g1 (λy hy=>by have:=p.tB (!1) g2 hy;omega)
    refine JK (a_ (bf (show na - 1 < a.size by omega)) ?_)
    refine aS (λe=> ?_) λe=> ?_
    ·simp only[JY] at e
     exact JX ⟨rfl,.inl ⟨_,_,rfl,m'.done p.sA p.sB (!1) g2 (.inl e)⟩⟩
    ·simp only[JY] at e
     refine aS (λeI=> ?_) λeI=> ?_
     ·exact JX ⟨rfl,.inr ⟨_,_,_,_,_,rfl,m',by omega,by omega,by omega,by omega,by omega⟩⟩
     ·exact JX ⟨_,_,_,_,_,rfl,rfl,m',by omega,by omega,by omega,by omega,by omega⟩
   ·rw[JV (by rw[Z8 hw];exact K4)]
    have m':=m.t7 p.sB (!1) g2 (λy hy=>by have:=p.tA h1 g1 hy;omega)
    refine JK (a_ (bf (show nb - 1 < b.size by omega)) ?_)
    refine aS (λe=> ?_) λe=> ?_
    ·simp only[JY] at e
     exact JX ⟨rfl,.inl ⟨_,_,rfl,m'.both p.sA p.sB g1 (!1) (p.vz e)⟩⟩
    ·simp only[JY] at e
     refine aS (λeI=> ?_) λeI=> ?_
     ·exact JX ⟨rfl,.inr ⟨_,_,_,_,_,rfl,m',by omega,by omega,by omega,by omega,by omega⟩⟩
     ·exact JX ⟨_,_,_,_,_,rfl,rfl,m',by omega,by omega,by omega,by omega,by omega⟩
  ·rintro c st' ⟨na,nb,out,ac,bc,rfl,rfl,m,h1,g1,h2,g2,hp⟩
   exact⟨rfl,.inr ⟨_,_,_,_,_,rfl,m,h1,g1,h2,g2,by omega⟩⟩
  ·rintro c st' ⟨rfl,⟨r,d,rfl,hr⟩ | ⟨na,nb,out,ac,bc,rfl,lv⟩⟩
   ·exact JX ⟨g,r,_,rfl,rfl,hr⟩
   dsimp only
   refine JK (wpS_lift (wpAny_rule ⟨rfl,?_⟩))
   refine JK (wpS_mono (wpS_forRange (I:=λy c st'=>∃g na nb out mg ac bc,st'=SG st g/\c=(none,na,nb,out,mg,ac,bc)/\Lh a b out na nb (x+2))
    (Q:=λc st'=>(∃g r d,st'=SG st g/\c=(some r,d)/\Fn a b r)∨∃g na nb out mg ac bc,st'=SG st g/\c=(none,na,nb,out,mg,ac,bc)/\Lh a b out na nb (x+2)) ?_ ?_ ⟨_,_,_,_,_,_,_,rfl,rfl,lv⟩) ?_)
   ·rintro y c st' _ hy ⟨g,na,nb,out,mg,ac,bc,rfl,rfl,m,h1,g1,h2,g2,hp⟩
    dsimp only
    revert mg
    refine t8 (λ_=>rfl) λmg=> ?_
    refine JK (p9 ?_)
    refine JK (a_ (bf (show nb - 1 < b.size by omega)) ?_)
    refine JK (re hk (p.kB (!1)) p.ia (!1) (!1) (by rw[Y3];exact p.sA.sublist (J8 _ _)) λat1 q1 q2 q3=> ?_)
    rw[Y3] at q2 q3
    rw[List.take_take,Nat.min_eq_left q1] at q2
    dsimp only
    have hlt:nb - 1 < b.size:=by clear q2 q3;omega
    replace q2:∀z∈a.toList.take at1,kz z<=kz (b[nb - 1]'hlt):=q2
    generalize hac:na - at1=P_
    have mA:=m.zd p.sA at1 q1 g1 (λx hx y hy=>by have:=q3 x hx;have:=p.tB (!1) g2 hy;omega)
    have hP:MH a b out na nb/\MH a b (out++(a.extract at1 na).reverse) at1 nb/\1<=na/\na<=a.size/\x+2<=a.size - na+(b.size - nb)/\at1<=na/\na - at1=P_:=⟨m,mA,h1,g1,hp,q1,hac⟩
    clear mA m h1 g1 hp q1 q3 hac
    revert hP
    revert out
    revert na
    refine Hy (λy o=>1<=y/\y<=a.size/\x+2<=a.size - y+(b.size - nb)/\MH a b o y nb/\∀z∈a.toList.take y,kz z<=kz (b[nb - 1]'hlt)) (λ_ _=>at1) (λn o=>o++(a.extract at1 n).reverse) ?_ (λna out ⟨m,mA,h1,g1,hp,q1,hac⟩ _ e5=> ?_) (λna out ⟨m,mA,h1,g1,hp,q1,hac⟩ _ e5=> ?_) (λna out ⟨m,mA,h1,g1,hp,q1,hac⟩ hk1=> ?_) ?_
    ·intro _ _;rfl
    ·exact JX (.inl ⟨_,_,_,rfl,rfl,mA.done p.sA p.sB (!1) g2 (.inl (beq_iff_eq.mp e5))⟩)
    ·simp only[JY] at e5
     exact⟨by omega,by omega,by omega,mA,q2⟩
    ·obtain rfl:at1=na:=by omega
     exact⟨h1,g1,hp,m,q2⟩
    clear q2
    rintro EY o ⟨f1,f2,hp,m2,q2⟩
    refine JK (a_ (bf (show nb - 1 < b.size by omega)) ?_)
    have mB:=m2.t7 p.sB (!1) g2 q2
    generalize o.push (b[nb - 1]'(!1))=o1 at mB⊢
    generalize hnb:nb - 1=AA at mB⊢
    refine aS (λe3=> ?_) λe3=> ?_
    ·exact JX (.inl ⟨_,_,_,rfl,rfl,mB.both p.sA p.sB (!1) (!1) (p.vz (beq_iff_eq.mp e3))⟩)
    simp only[JY] at e3
    refine JK (a_ (bf (show EY - 1 < a.size by omega)) ?_)
    refine JK (rf hk (p.kA (!1)) p.ib (!1) (!1) (by rw[Y3];exact p.sB.sublist (J8 _ _)) λat2 r1 r2 r3=> ?_)
    rw[Y3] at r2 r3
    rw[List.take_take,Nat.min_eq_left r1] at r2
    dsimp only
    have hla:EY - 1 < a.size:=by clear r2 r3;omega
    replace r2:∀z∈b.toList.take at2,kz z < kz (a[EY - 1]'hla):=r2
    generalize hbc:AA - at2=Qa
    have mC:=mB.JT p.sB at2 r1 (!1) (λx hx y hy=>by have:=r3 x hx;have:=p.tA f1 f2 hy;omega)
    have hP:MH a b o1 EY AA/\MH a b (o1++(b.extract at2 AA).reverse) EY at2/\2<=AA/\AA<=b.size/\x+3<=a.size - EY+(b.size - AA)/\at2<=AA/\AA - at2=Qa:=⟨mB,mC,by omega,by omega,by omega,r1,hbc⟩
    clear mC mB r1 r3 hbc e3 q2 hnb
    revert hP
    revert o1
    revert AA
    refine Hz (λy o=>2<=y/\y<=b.size/\x+3<=a.size - EY+(b.size - y)/\MH a b o EY y/\∀z∈b.toList.take y,kz z < kz (a[EY - 1]'hla)) (λ_ _=>at2) (λn o=>o++(b.extract at2 n).reverse) ?_ (λAA o1 ⟨mB,mC,i1,i2,i3,r1,hbc⟩ _ e5=> ?_) (λAA o1 ⟨mB,mC,i1,i2,i3,r1,hbc⟩ _ e5 e6=> ?_) (λAA o1 ⟨mB,mC,i1,i2,i3,r1,hbc⟩ _ e5 e6=> ?_) (λAA o1 ⟨mB,mC,i1,i2,i3,r1,hbc⟩ hk2=> ?_) ?_
    ·intro _ _;rfl
    ·exact JX (.inl ⟨_,_,_,rfl,rfl,mC.both p.sA p.sB f2 (!1) (p.vz (beq_iff_eq.mp e5))⟩)
    ·exact JX (.inl ⟨_,_,_,rfl,rfl,mC.done p.sA p.sB f2 (!1) (.inr (beq_iff_eq.mp e6))⟩)
    ·simp only[JY] at e5 e6
     exact⟨by omega,by omega,by omega,mC,r2⟩
    ·obtain rfl:at2=AA:=by omega
     exact⟨i1,i2,i3,mB,r2⟩
    clear r2
    rintro QO o ⟨k2,k1,i3,m3,r2⟩
    refine JK (a_ (bf (show EY - 1 < a.size by omega)) ?_)
    have m4:=m3.q_ p.sA f1 f2 (λy hy=>Yy (r2 y hy))
    refine aS (λe4=> ?_) λe4=> ?_
    ·exact JX (.inl ⟨_,_,_,rfl,rfl,m4.done p.sA p.sB (!1) (!1) (.inl (beq_iff_eq.mp e4))⟩)
    simp only[JY] at e4
    refine aS (λeJ=> ?_) λeJ=> ?_
    ·exact JX (.inr ⟨_,_,_,_,_,_,_,rfl,rfl,m4,by omega,by omega,by omega,by omega,by omega⟩)
    ·exact JX ⟨_,_,_,_,_,_,_,rfl,rfl,m4,by omega,by omega,by omega,by omega,by omega⟩
   ·rintro c st' ⟨g,na,nb,out,mg,ac,bc,rfl,rfl,lv⟩
    exact .inr ⟨_,_,_,_,_,_,_,rfl,rfl,lv⟩
   ·rintro c st' (⟨g,r,d,rfl,rfl,hr⟩ | ⟨g,na,nb,out,mg,ac,bc,rfl,rfl,lv⟩)
    ·exact JX ⟨_,_,_,rfl,rfl,hr⟩
    ·dsimp only
     exact JK (p9 (JX ⟨_,_,_,_,_,rfl,rfl,lv⟩))
 ·rintro c st' ⟨g,na,nb,out,mg,rfl,rfl,m,h1,g1,h2,g2,hp⟩
  omega
 ·rintro c st' ⟨g,r,d,rfl,rfl,hr⟩
  exact JX (hq r g hr)
end
abbrev lA:Nat->Nat->StateT SortSt Sem (Option Bool):=sortPriv% PySem.Builtin.ltAt
abbrev rS:Nat->Nat->StateT SortSt Sem Unit:=sortPriv% PySem.Builtin.reverseSlice
abbrev mD:Nat->Nat->StateT SortSt Sem Unit:=sortPriv% PySem.Builtin.moveDown
abbrev cR:Nat->Nat->StateT SortSt Sem (Option Nat):=sortPriv% PySem.Builtin.countRun
abbrev bS:Nat->Nat->Nat->StateT SortSt Sem Bool:=sortPriv% PySem.Builtin.binarySort
structure El (a₀:Array Keyed):Prop where
 k:∀x∈a₀.toList,IK x
 d:a₀.toList.Pairwise λx y=>kz x≠kz y
structure SB (a₀:Array Keyed)(st:SortSt):Prop where
 perm:(arrOf st).Perm a₀
 kind:kindOf st=oneType'
 failed:failedOf st=none
def l8 (xs:Array Keyed)(lo hi:Nat):Prop:=∀i j,lo<=i->i < j->j < hi->K xs i<=K xs j
section
variable {prog:Program}{w:World}{A:Around}{E:Z3}{s:Shared}{a₀:Array Keyed}{st:SortSt}
theorem SB.size (h:SB a₀ st):(arrOf st).size=a₀.size:=h.perm.size_eq
theorem SB.ik (h:SB a₀ st)(e:El a₀):∀x∈(arrOf st).toList,IK x:=λx hx=>e.k x ((Array.perm_iff_toList_perm.mp h.perm).mem_iff.mp hx)
theorem SB.dist (h:SB a₀ st)(e:El a₀):(arrOf st).toList.Pairwise λx y=>kz x≠kz y:=((Array.perm_iff_toList_perm.mp h.perm).pairwise_iff λh=>h.symm).mpr e.d
theorem SB.ne (h:SB a₀ st)(e:El a₀)(hi:i < a₀.size)(hj:j < a₀.size)(hn:i≠j):K (arrOf st) i≠K (arrOf st) j:=by
 have hi':i < (arrOf st).size:=by rw[h.size];exact hi
 have hj':j < (arrOf st).size:=by rw[h.size];exact hj
 rw[BL (bf hi'),BL (bf hj')]
 have pw:=Yj.mp (h.dist e)
 rcases Nat.lt_or_gt_of_ne hn with z | z
 ·have:=pw i j (by simpa using hi') (by simpa using hj') z
  simpa using this
 ·have:=pw j i (by simpa using hj') (by simpa using hi') z
  intro q;exact this (by simpa using q.symm)
theorem SB.set (h:SB a₀ st)(hp:xs.Perm (arrOf st)):SB a₀ (setArr st xs):=⟨hp.trans h.perm,h.kind,h.failed⟩
theorem oA (hB:SB a₀ st)(e:El a₀)(hi:i < a₀.size)(hj:j < a₀.size)(h:Q (some (decide (K (arrOf st) i < K (arrOf st) j))) st):wpS (!3) A E s (lA i j) Q st:=by
 have hi':i < (arrOf st).size:=by rw[hB.size];exact hi
 have hj':j < (arrOf st).size:=by rw[hB.size];exact hj
 rw[BL (bf hi'),BL (bf hj')] at h
 show wpS (!3) A E s (ltAt' i j) Q st
 rw[ltAt'_eq]
 refine JK (JU ?_)
 refine JK (a_ (bf hi') (JK (a_ (bf hj') ?_)))
 exact q8 hB.kind (hB.ik e _ (by simp)) (hB.ik e _ (by simp)) h
theorem J_ (h:Q () (setArr st (mirror (arrOf st) i j ((j - i) / 2)))):wpS M A E s (rS i j) Q st:=by
 show wpS M A E s (reverseSlice' i j) Q st
 rw[reverseSlice'_eq];exact wpS_modify h
theorem Ka (h:Q () (setArr st (bubble (arrOf st) i (i - j)))):wpS M A E s (mD i j) Q st:=by
 show wpS M A E s (moveDown' i j) Q st
 rw[moveDown'_eq];exact wpS_modify h
theorem l8.one (xs:Array Keyed)(lo:Nat):l8 xs lo (lo+1):=λi j h1 h2 h3=>by omega
theorem l8.up {xs:Array Keyed}{lo n:Nat}(h:l8 xs lo (lo+n))(h1:1<=n)(hl:K xs (lo+n - 1)<=K xs (lo+n)):l8 xs lo (lo+(n+1)):=λi j a1 a2 a3=>by
 by_cases hj:j=lo+n
 ·subst hj
  by_cases hi:i=lo+n - 1
  ·rw[hi];exact hl
  ·exact YJ (h i (lo+n - 1) a1 (!1) (!1)) hl
 ·exact h i j a1 a2 (!1)
theorem Kb {lo nrem:Nat}{Q:Option Nat->SortSt->Prop}(hB:SB a₀ st)(e:El a₀)(hn:lo+nrem<=a₀.size)(h1:1<=nrem)
  (h:∀m xs,xs.Perm (arrOf st)->(∀k,k < lo->xs[k]? =(arrOf st)[k]?)->1<=m->m<=nrem->l8 xs lo (lo+m)->Q (some m) (setArr st xs)):wpS (!3) A E s (cR lo nrem) Q st:=by
 refine JK (wpS_mono (wpS_forRange (I:=λx c st'=>st'=st/\c=(none,x)/\l8 (arrOf st) lo (lo+x))
  (Q:=λc st'=>st'=st/\∃n,c=(none,n)/\1<=n/\n<=nrem/\l8 (arrOf st) lo (lo+n)/\(n=nrem∨K (arrOf st) (lo+n) < K (arrOf st) (lo+n - 1))) ?_ ?_ ⟨rfl,rfl,l8.one _ _⟩) ?_)
 ·rintro x c st' Qb hxn ⟨rfl,rfl,hs'⟩
  dsimp only
  refine JK (oA hB e (!1) (!1) ?_)
  dsimp only
  refine aS (λhl=> ?_) λhl=> ?_
  ·simp only[JJ] at hl
   exact JX ⟨rfl,x,rfl,by omega,by omega,hs',.inr hl⟩
  ·simp only[JJ] at hl
   exact JX ⟨rfl,rfl,hs'.up (!1) (!1)⟩
 ·rintro c st' ⟨rfl,rfl,hs'⟩
  rw[show max 1 nrem=nrem by omega] at hs'⊢
  exact⟨rfl,nrem,rfl,h1,K1 _,hs',.inl rfl⟩
 rintro c st' ⟨est,n,rfl,n1,n2,hs,hor⟩
 rw[est]
 dsimp only
 refine aS (λe1=> ?_) λe1=> ?_
 ·exact JX (h n (arrOf st) (Array.Perm.refl _) (λ_ _=>rfl) n1 n2 hs)
 simp only[JY] at e1
 have hlt:=hor.resolve_left e1
 refine aS (λe2=> ?_) λe2=> ?_
 ·have hr:K (arrOf st) lo < K (arrOf st) (lo+n - 1):=by
   have q1:=hs lo (lo+n - 1) (!1) (!1) (!1)
   have q2:=hB.ne e (i:=lo) (j:=lo+n - 1) (!1) (!1) (!1)
   omega
  refine JK (oA hB e (!1) (!1) ?_)
  dsimp only
  rw[JQ (Z9 hr)]
  exact JX (h n (arrOf st) (Array.Perm.refl _) (λ_ _=>rfl) n1 n2 hs)
 obtain rfl:n=1:=by omega
 refine JK (wpS_lift (wpAny_rule ⟨rfl,?_⟩))
 refine JK (wpS_mono (wpS_forRange (I:=λx c st'=>st'=st/\c=(none,x,0)/\∀i j,lo<=i->i < j->j < lo+x->K (arrOf st) j < K (arrOf st) i)
  (Q:=λc st'=>st'=st/\∃n,c=(none,n,0)/\2<=n/\n<=nrem/\∀i j,lo<=i->i < j->j < lo+n->K (arrOf st) j < K (arrOf st) i) ?_ ?_ ⟨rfl,rfl,λi j u1 u2 u3=>by
   obtain rfl:i=lo:=by omega
   obtain rfl:j=i+1:=by omega
   exact hlt⟩) ?_)
 ·rintro x c st' hx1 hxn ⟨rfl,rfl,hs'⟩
  dsimp only
  refine JK (oA hB e (!1) (!1) ?_)
  dsimp only
  refine aS (λhl=> ?_) λhl=> ?_
  ·simp only[JJ] at hl
   rw[JV (!1)]
   refine JX ⟨rfl,rfl,λi j u1 u2 u3=> ?_⟩
   by_cases hj:j=lo+x
   ·subst hj
    by_cases hi:i=lo+x - 1
    ·rw[hi];exact hl
    ·exact Int.lt_trans hl (hs' i (lo+x - 1) u1 (!1) (!1))
   ·exact hs' i j u1 u2 (!1)
  ·simp only[JJ] at hl
   have q2:=hB.ne e (i:=lo+x) (j:=lo+x - 1) (!1) (!1) (!1)
   have hl2:K (arrOf st') (lo+x - 1) < K (arrOf st') (lo+x):=by omega
   refine JK (oA hB e (!1) (!1) ?_)
   dsimp only
   rw[JQ (Z9 hl2)]
   exact JX ⟨rfl,x,rfl,by omega,by omega,hs'⟩
 ·rintro c st' ⟨rfl,rfl,hs'⟩
  rw[show max (1+1) nrem=nrem by omega] at hs'⊢
  exact⟨rfl,nrem,rfl,by omega,K1 _,hs'⟩
 rintro c st' ⟨est,n,rfl,m1,m2,hd⟩
 rw[est]
 dsimp only
 rw[JV (!1)]
 refine JK (J_ ?_)
 have hsz:lo+n<=(arrOf st).size:=by rw[hB.size];omega
 have hp:=mirror_perm (arrOf st) lo (lo+n) ((lo+n - lo) / 2)
 have hkeep:∀k,k < lo->(mirror (arrOf st) lo (lo+n) ((lo+n - lo) / 2))[k]? =(arrOf st)[k]?:=λk hk=>by
  rw[getElem?_mirror_all hsz,JV (!1)]
 have hs2:l8 (mirror (arrOf st) lo (lo+n) ((lo+n - lo) / 2)) lo (lo+n):=λi j u1 u2 u3=>by
  rw[K_mirror hsz,K_mirror hsz,JQ (!1),JQ (!1)]
  exact Yy (hd _ _ (!1) (!1) (!1))
 have hB2:=hB.set hp
 generalize mirror (arrOf st) lo (lo+n) ((lo+n - lo) / 2)=ys at hp hkeep hs2 hB2
 obtain⟨st2,Gh⟩:∃st2,st2=setArr st ys:=⟨_,rfl⟩
 have Lq:arrOf st2=ys:=by rw[Gh]
 rw[←Gh] at hB2⊢
 refine JK (wpS_mono (wpS_forRange (I:=λx c st'=>st'=st2/\c=(none,x)/\l8 (arrOf st2) lo (lo+x))
  (Q:=λc st'=>st'=st2/\∃k,c=(none,k)/\n<=k/\k<=nrem/\l8 (arrOf st2) lo (lo+k)/\(k=nrem∨K (arrOf st2) (lo+k) < K (arrOf st2) (lo+k - 1))) ?_ ?_ ⟨rfl,rfl,by rw[Lq];exact hs2⟩) ?_)
 ·clear hB
  have hB:=hB2
  clear hB2
  clear Gh Lq
  rintro x c st' Qb hxn ⟨rfl,rfl,hs'⟩
  dsimp only
  refine JK (oA hB e (!1) (!1) ?_)
  dsimp only
  refine aS (λhl=> ?_) λhl=> ?_
  ·simp only[JJ] at hl
   exact JX ⟨rfl,x,rfl,by omega,by omega,hs',.inr hl⟩
  ·simp only[JJ] at hl
   exact JX ⟨rfl,rfl,hs'.up (!1) (!1)⟩
 ·rintro c st' ⟨rfl,rfl,hs'⟩
  rw[show max n nrem=nrem by omega] at hs'⊢
  exact⟨rfl,nrem,rfl,m2,K1 _,hs',.inl rfl⟩
 rintro c st' ⟨e3,k,rfl,k1,k2,hs3,_⟩
 rw[e3,Gh]
 rw[Lq] at hs3
 exact JX (h k ys hp hkeep (!1) k2 hs3)
theorem Kc {lo n ok:Nat}{Q:Bool->SortSt->Prop}(hB:SB a₀ st)(e:El a₀)(hn:lo+n<=a₀.size)(h1:1<=ok)(hok:ok<=n)(hs:l8 (arrOf st) lo (lo+ok))
  (h:∀xs,xs.Perm (arrOf st)->(∀k,k < lo->xs[k]? =(arrOf st)[k]?)->l8 xs lo (lo+n)->Q true (setArr st xs)):wpS (!3) A E s (bS lo n ok) Q st:=by
 refine JK (wpS_mono (wpS_forRange (I:=λk c st'=>c=(none,())/\∃xs,st'=setArr st xs/\xs.Perm (arrOf st)/\(∀k,k < lo->xs[k]? =(arrOf st)[k]?)/\l8 xs lo (lo+min k n))
  (Q:=λc st'=>c=(none,())/\∃xs,st'=setArr st xs/\xs.Perm (arrOf st)/\(∀k,k < lo->xs[k]? =(arrOf st)[k]?)/\l8 xs lo (lo+n)) ?_ ?_ ⟨rfl,arrOf st,rfl,Array.Perm.refl _,λ_ _=>rfl,by rw[show min (max ok 1) n=ok by omega];exact hs⟩) ?_)
 ·rintro k c st' hk1 hkn ⟨rfl,xs,est,hp,hkeep,hs'⟩
  rw[show min k n=k by omega] at hs'
  have hB2:SB a₀ st':=by rw[est];exact hB.set hp
  have Lq:arrOf st'=xs:=by rw[est]
  refine JK (wpS_mono (wpS_forRange (I:=λx c st''=>st''=st'/\∃l r,c=(none,l,r)/\l<=r/\r<=k/\r - l<=k - x/\(∀i,lo<=i->i < lo+l->K (arrOf st') i<=K (arrOf st') (lo+k))/\∀i,lo+r<=i->i < lo+k->K (arrOf st') (lo+k) < K (arrOf st') i)
   (Q:=λc st''=>st''=st'/\∃l r,c=(none,l,r)/\l<=k/\(∀i,lo<=i->i < lo+l->K (arrOf st') i<=K (arrOf st') (lo+k))/\∀i,lo+l<=i->i < lo+k->K (arrOf st') (lo+k) < K (arrOf st') i) ?_ ?_ ⟨rfl,0,k,rfl,by omega,by omega,by omega,λi _ _=>by omega,λi _ _=>by omega⟩) ?_)
  ·rintro x c st'' _ hx ⟨rfl,l,r,rfl,u1,u2,u3,u4,u5⟩
   dsimp only
   refine aS (λhge=> ?_) λhge=> ?_
   ·obtain rfl:l=r:=by omega
    exact JX ⟨rfl,l,l,rfl,u2,u4,u5⟩
   ·refine JK (oA hB2 e (!1) (!1) ?_)
    dsimp only
    rw[←Lq] at hs'
    refine aS (λhl=> ?_) λhl=> ?_
    ·simp only[JJ] at hl
     refine JX ⟨rfl,l,(l+r) / 2,rfl,by omega,by omega,by omega,u4,λi v1 v2=> ?_⟩
     by_cases hi:i=lo+(l+r) / 2
     ·rw[hi];exact hl
     ·exact Int.lt_of_lt_of_le hl (hs' _ _ (!1) (!1) v2)
    ·simp only[JJ] at hl
     refine JX ⟨rfl,(l+r) / 2+1,r,rfl,by omega,by omega,by omega,λi v1 v2=> ?_,u5⟩
     by_cases hi:i=lo+(l+r) / 2
     ·rw[hi];omega
     ·have:=hs' i (lo+(l+r) / 2) v1 (!1) (!1);omega
  ·rintro c st'' ⟨rfl,l,r,rfl,u1,u2,u3,u4,u5⟩
   obtain rfl:l=r:=by omega
   exact⟨rfl,l,l,rfl,u2,u4,u5⟩
  ·rintro c st'' ⟨e2,l,r,rfl,u2,u4,u5⟩
   rw[e2]
   dsimp only
   refine JK (Ka ?_)
   rw[Lq] at u4 u5
   have hsz:lo+k < xs.size:=by rw[hp.size_eq,hB.size];omega
   refine JX ⟨rfl,bubble xs (lo+k) (lo+k - (lo+l)),?_,(bubble_perm _ _ _).trans hp,λj hj=> ?_,?_⟩
   ·rw[est]
   ·rw[getElem?_bubble hsz _ (!1),JV (!1),JV (!1)];exact hkeep j hj
   ·rw[show min (k+1) n=k+1 by omega]
    intro i j v1 v2 v3
    rw[K_bubble hsz (!1),K_bubble hsz (!1),show lo+k - (lo+k - (lo+l))=lo+l by omega]
    repeat' split
    all_goals first
     | (exfalso;omega)
     | exact u4 _ (!1) (!1)
     | exact Yy (u5 _ (!1) (!1))
     | exact hs' _ _ (!1) (!1) (!1)
 ·rintro c st' ⟨rfl,xs,rfl,hp,hkeep,hs'⟩
  rw[show min (max (max ok 1) n) n=n by omega] at hs'
  exact⟨rfl,xs,rfl,hp,hkeep,hs'⟩
 ·rintro c st' ⟨rfl,xs,rfl,hp,hkeep,hs'⟩
  exact JX (h xs hp hkeep hs')
end
abbrev O6:Nat->StateT SortSt Sem Bool:=sortPriv% PySem.Builtin.mergeAt
theorem DL {xs:Array Keyed}{lo n:Nat}(h:l8 xs lo (lo+n))(hb:lo+n<=xs.size):jM kz ((xs.toList.drop lo).take n):=by
 refine Yj.mpr λi j hi hj hij=> ?_
 have hl:((xs.toList.drop lo).take n).length=n:=by rw[Xx,U8,KY];omega
 obtain⟨u1,e1⟩:=o9 (arr:=xs) (base:=lo) (i:=i) hb (!1)
 obtain⟨u2,e2⟩:=o9 (arr:=xs) (base:=lo) (i:=j) hb (!1)
 rw[←e1,←e2]
 exact h _ _ (!1) (!1) (!1)
theorem Mv {xs:Array Keyed}{lo n:Nat}(h:jM kz ((xs.toList.drop lo).take n))(hb:lo+n<=xs.size):l8 xs lo (lo+n):=λi j u1 u2 u3=>by
 obtain⟨v1,e1⟩:=o9 (arr:=xs) (base:=lo) (i:=i - lo) hb (!1)
 obtain⟨v2,e2⟩:=o9 (arr:=xs) (base:=lo) (i:=j - lo) hb (!1)
 rw[show lo+(i - lo)=i by omega] at e1
 rw[show lo+(j - lo)=j by omega] at e2
 rw[e1,e2]
 exact Yj.mp h _ _ v1 v2 (!1)
theorem Gi (P M T:List Keyed)(u v:Keyed):(P++u :: M++T).toArray.setIfInBounds P.length v=(P++[v]++M++T).toArray:=by
 apply Array.toList_inj.mp
 rw[Array.toList_setIfInBounds]
 simp
theorem rg (q:Nat)(T:List Keyed):∀(r P M:List Keyed) (m:Nat),M.length=r.length->P.length=q+m->(r.zipIdx m).foldl (λa x=>a.setIfInBounds (q+x.snd) x.fst) (P++M++T).toArray=(P++r++T).toArray
 | [],P,M,m,hM,_=>by
  rw[UQ] at hM
  rw[List.eq_nil_of_length_eq_zero hM];rfl
 | v :: r,P,M,m,hM,hP=>by
  cases M with
  | nil=>simp at hM
  | cons u M=>
   rw[List.zipIdx_cons,Y9]
   dsimp only
   rw[←hP,Gi P M T u v]
   have ih:=rg q T r (P++[v]) M (m+1) (by simpa using hM) (by rw[K2,X4];omega)
   rw[ih]
   simp
theorem DM {P M M' T:List Keyed}(hl:M'.length=M.length)(h:k < P.length∨P.length+M.length<=k):(P++M'++T)[k]? =(P++M++T)[k]?:=by
 rcases h with h | h
 ·rw[X5,X5,Xu h,Xu h]
 ·rw[Xj (by rw[K2,hl];exact h),Xj (by rw[K2];exact h),K2,K2,hl]
def Mg (arr xs:Array Keyed)(sa n:Nat):Prop:=xs.Perm arr/\(∀k,k < sa∨sa+n<=k->xs[k]? =arr[k]?)/\l8 xs sa (sa+n)
theorem mg_of (h1:arr.toList=P++M++T)(h2:xs.toList=P++M'++T)(hp:M'.Perm M)(hs:jM kz M')(hP:P.length=sa)(hM:M.length=n):Mg arr xs sa n:=by
 have hl:=hp.length_eq
 refine⟨Array.perm_iff_toList_perm.mpr ?_,λk hk=> ?_,Mv ?_ ?_⟩
 ·rw[h1,h2];exact(hp.append_left P).append_right T
 ·rw[←Uj,←Uj,h1,h2];exact DM hl (by rw[hP,hM];exact hk)
 ·rw[h2,X5,←hP,List.drop_left,←hM,←hl,List.take_left];exact hs
 ·rw[←KY,h2,K2,K2];omega
section
variable {prog:Program}{w:World}{A:Around}{E:Z3}{s:Shared}{a₀:Array Keyed}{st:SortSt}
theorem Gj (h:Q ⟨⟩ t):wpS M A E s (set t:StateT SortSt Sem PUnit) Q st:=by
 unfold wpS;rw[StateT.run_set];exact JW ⟨rfl,h⟩
theorem DN (hB:SB a₀ st)(e:El a₀)(hi:(pendingOf st)[i]? =some (sa,na,pw))(hj:(pendingOf st)[i+1]? =some (sa+na,nb,q))(n1:1<=na)(n2:1<=nb)(hb:sa+(na+nb)<=a₀.size)
  (s1:l8 (arrOf st) sa (sa+na)) (s2:l8 (arrOf st) (sa+na) (sa+na+nb))
  (h:∀xs g,Mg (arrOf st) xs sa (na+nb)->Q true (SortSt.mk' (kindOf st) xs (((pendingOf st).setIfInBounds i (sa,na+nb,pw)).eraseIdxIfInBounds (i+1)) g (failedOf st))):wpS (!3) A E s (O6 i) Q st:=by
 have hsz:=hB.size
 have ik:=hB.ik e
 have hk:=hB.kind
 have hf:=hB.failed
 have c1:=DL s1 (!1)
 have c2:=DL s2 (!1)
 obtain⟨P,hP⟩:∃P,P=(arrOf st).toList.take sa:=⟨_,rfl⟩
 obtain⟨R1,Gk⟩:∃R1,R1=((arrOf st).toList.drop sa).take na:=⟨_,rfl⟩
 obtain⟨R2,Gm⟩:∃R2,R2=((arrOf st).toList.drop (sa+na)).take nb:=⟨_,rfl⟩
 obtain⟨T,hT⟩:∃T,T=(arrOf st).toList.drop (sa+na+nb):=⟨_,rfl⟩
 have hL:(arrOf st).toList=P++(R1++R2)++T:=by
  rw[hP,Gk,Gm,hT,X5,X5]
  rw[←YQ (i:=nb),Uu,←YQ (i:=na),Uu,Uu]
 have lP:P.length=sa:=by rw[hP,Xx,KY];omega
 have l1:R1.length=na:=by rw[Gk,Xx,U8,KY];omega
 have l2:R2.length=nb:=by rw[Gm,Xx,U8,KY];omega
 have g1:sa+na < (arrOf st).size:=by omega
 have g2:sa+na - 1 < (arrOf st).size:=by omega
 have O7:(arrOf st)[sa+na]=R2[0]'(!1):=by
  have:(arrOf st).toList[sa+na]'(by simpa using g1)=R2[0]'(!1):=by
   simp only[Gm,YU,J5,Nat.add_zero]
  simpa using this
 have O8:(arrOf st)[sa+na - 1]=R1[na - 1]'(!1):=by
  have:(arrOf st).toList[sa+na - 1]'(by simpa using g2)=R1[na - 1]'(!1):=by
   simp only[Gk,YU,J5]
   congr 1;omega
  simpa using this
 have mb:∀y∈R2,kz (R2[0]'(!1))<=kz y:=λy hy=>by
  rw[←Gm] at c2
  exact q9 c2 (!1) (by rw[Y3];exact hy)
 have ma:∀y∈R1,kz y<=kz (R1[na - 1]'(!1)):=λy hy=>by
  rw[←Gk] at c1
  exact rc c1 n1 (!1) (by rw[U7 (!1)];exact hy)
 refine JK (JU ?_)
 dsimp only
 simp only[hi,hj]
 refine JK (Gj ?_)
 refine JK (a_ (bf g1) ?_)
 rw[O7]
 refine JK (re hk (ik _ (by rw[←O7];simp)) ik (show sa+na<=(arrOf st).size by omega) (!1) c1 λk q1 q2 q3=> ?_)
 rw[←Gk] at q2 q3
 dsimp only
 refine aS (λe1=> ?_) λe1=> ?_
 ·simp only[JY] at e1
  refine JX (h (arrOf st) (gallopOf st) (mg_of hL hL (List.Perm.refl _) ?_ lP (by rw[K2];omega)))
  rw[←Gk] at c1
  rw[←Gm] at c2
  refine Y7.mpr ⟨c1,c2,λx hx y hy=>YJ (q2 x ?_) (mb y hy)⟩
  rw[U7 (!1)];exact hx
 simp only[JY] at e1
 rw[show sa+k+(na - k) - 1=sa+na - 1 by omega]
 refine JK (a_ (bf g2) ?_)
 rw[O8]
 refine JK (rf hk (ik _ (by rw[←O8];simp)) ik (show sa+na+nb<=(arrOf st).size by omega) (!1) c2 λk2 r1 r2 r3=> ?_)
 rw[←Gm] at r2 r3
 rw[←Gk] at c1
 rw[←Gm] at c2
 dsimp only
 refine aS (λe2=> ?_) λe2=> ?_
 ·simp only[JY] at e2
  refine JX (h (arrOf st) (gallopOf st) (mg_of hL hL (List.Perm.refl _) ?_ lP (by rw[K2];omega)))
  refine Y7.mpr ⟨c1,c2,λx hx y hy=>YJ (ma x hx) (r3 y ?_)⟩
  rw[e2,Y3];exact hy
 simp only[JY] at e2
 have ex:((arrOf st).extract (sa+k) (sa+na)).toList=R1.drop k:=by
  rw[iP,Gk,List.drop_take,YQ,show sa+na - (sa+k)=na - k by omega]
 have ey:((arrOf st).extract (sa+na) (sa+na+k2)).toList=R2.take k2:=by
  rw[iP,Gm,List.take_take,Nat.add_sub_cancel_left,Nat.min_eq_left r1]
 have sx:((arrOf st).extract (sa+k) (sa+na)).size=na - k:=by rw[←KY,ex,U8,l1]
 have sy:((arrOf st).extract (sa+na) (sa+na+k2)).size=k2:=by rw[←KY,ey,Xx,l2];omega
 have Qc:((arrOf st).extract (sa+na) (sa+na+k2))[0]'(!1)=R2[0]'(!1):=by
  have:((arrOf st).extract (sa+na) (sa+na+k2)).toList[0]'(by rw[KY];omega)=R2[0]'(!1):=by
   simp only[ey,YU]
  simpa using this
 have Qd:((arrOf st).extract (sa+k) (sa+na))[((arrOf st).extract (sa+k) (sa+na)).size - 1]'(!1)=R1[na - 1]'(!1):=by
  have:((arrOf st).extract (sa+k) (sa+na)).toList[((arrOf st).extract (sa+k) (sa+na)).size - 1]'(by rw[KY];omega)=R1[na - 1]'(!1):=by
   simp only[ex,J5]
   congr 1;omega
  simpa using this
 have Qe:∀x∈R1,x∈(arrOf st).toList:=λx hx=>by rw[Gk] at hx;exact U0 (U1 hx)
 have Qf:∀x∈R2,x∈(arrOf st).toList:=λx hx=>by rw[Gm] at hx;exact U0 (U1 hx)
 have pre:Pre ((arrOf st).extract (sa+k) (sa+na)) ((arrOf st).extract (sa+na) (sa+na+k2)):=by
  refine⟨?_,?_,?_,?_,by omega,by omega,?_,?_⟩
  ·rw[ex];exact λx hx=>ik x (Qe x (U0 hx))
  ·rw[ey];exact λx hx=>ik x (Qf x (U1 hx))
  ·rw[ex];exact c1.sublist (YY _ _)
  ·rw[ey];exact c2.sublist (J8 _ _)
  ·rw[ex,Qc];exact λx hx=>Yy (q3 x hx)
  ·rw[ey,Qd];exact λx hx=>Yy (r2 x hx)
 have Mw:∀r,Fn ((arrOf st).extract (sa+k) (sa+na)) ((arrOf st).extract (sa+na) (sa+na+k2)) r->Mg (arrOf st) (List.foldl (λa x=>a.setIfInBounds (sa+k+x.snd) x.fst) (arrOf st) r.toList.zipIdx) sa (na+nb):=by
  rintro r ⟨p1,p2⟩
  rw[ex,ey] at p1
  have hlr:(R1.drop k++R2.take k2).length=r.toList.length:=p1.length_eq.symm
  have hL2:(arrOf st).toList=P++R1.take k++(R1.drop k++R2.take k2)++(R2.drop k2++T):=by
   rw[hL]
   conv=>lhs;rw[←Uu k R1,←Uu k2 R2]
   simp only[X5]
  have hw:List.foldl (λa x=>a.setIfInBounds (sa+k+x.snd) x.fst) (arrOf st) r.toList.zipIdx=(P++R1.take k++r.toList++(R2.drop k2++T)).toArray:=by
   have:=rg (sa+k) (R2.drop k2++T) r.toList (P++R1.take k) (R1.drop k++R2.take k2) 0 hlr (by rw[K2,Xx];omega)
   rw[←hL2,Array.toArray_toList] at this
   exact this
  rw[hw]
  refine mg_of (P:=P) (M:=R1++R2) (M':=R1.take k++r.toList++R2.drop k2) (T:=T) hL (by simp only[X5]) ?_ ?_ lP (by rw[K2];omega)
  ·have:(R1.take k++r.toList++R2.drop k2).Perm (R1.take k++(R1.drop k++R2.take k2)++R2.drop k2):=(p1.append_left _).append_right _
   refine this.trans (List.Perm.of_eq ?_)
   conv=>rhs;rw[←Uu k R1,←Uu k2 R2]
   simp only[X5]
  ·have rm:∀x∈r.toList,x∈R1.drop k∨x∈R2.take k2:=λx hx=>Kk.mp (p1.mem_iff.mp hx)
   have hal:∀x∈r.toList,kz (R2[0]'(!1))<=kz x/\kz x<=kz (R1[na - 1]'(!1)):=λx hx=>by
    rcases rm x hx with z | z
    ·exact⟨Yy (q3 x z),ma x (U0 z)⟩
    ·exact⟨mb x (U1 z),Yy (r2 x z)⟩
   refine Y7.mpr ⟨Y7.mpr ⟨c1.sublist (J8 _ _),p2,λx hx y hy=>YJ (q2 x hx) (hal y hy).1⟩,c2.sublist (YY _ _),λx hx y hy=> ?_⟩
   rcases Kk.mp hx with z | z
   ·exact YJ (q2 x z) (mb y (U0 hy))
   ·exact YJ (hal x z).2 (r3 y hy)
 refine aS (λe3=> ?_) λe3=> ?_
 ·refine JK (Gf hk pre λr g hr=> ?_)
  refine JK (wpS_modify ?_)
  refine JK (JU ?_)
  refine JX ?_
  have:=h _ g (Mw r hr)
  rw[show(failedOf st).isNone=true by rw[hf];rfl]
  exact this
 ·refine JK (Gg hk pre λr g hr=> ?_)
  refine JK (wpS_modify ?_)
  refine JK (JU ?_)
  refine JX ?_
  have:=h _ g (Mw r hr)
  rw[show(failedOf st).isNone=true by rw[hf];rfl]
  exact this
end
abbrev Qg:StateT SortSt Sem Unit:=sortPriv% PySem.Builtin.sortRuns
def jb (xs:Array Keyed):List (Nat×Nat×Nat)->Nat->Nat->Prop
 | [],lo,hi=>lo=hi
 | t :: r,lo,hi=>t.1=lo/\1<=t.2.1/\l8 xs lo (lo+t.2.1)/\jb xs r (lo+t.2.1) hi
theorem jb.len :∀{l:List (Nat×Nat×Nat)} {lo hi:Nat},jb xs l lo hi->lo+l.length<=hi
 | [],lo,hi,h=>by rw[jb] at h;simp;omega
 | t :: r,lo,hi,h=>by rw[jb] at h;have:=jb.len h.2.2.2;simp only[Kj];omega
theorem jb.app :∀{l1:List (Nat×Nat×Nat)} {lo hi:Nat},jb xs (l1++l2) lo hi↔∃mid,jb xs l1 lo mid/\jb xs l2 mid hi
 | [],lo,hi=>⟨λh=>⟨lo,rfl,h⟩,λ⟨mid,h1,h2⟩=>by rw[jb] at h1;subst h1;exact h2⟩
 | t :: r,lo,hi=>by
  rw[U5,jb,jb.app (l1:=r)]
  constructor
  ·rintro⟨a,b,c,mid,d,e⟩;exact⟨mid,⟨a,b,c,d⟩,e⟩
  ·rintro⟨mid,⟨a,b,c,d⟩,e⟩;exact⟨a,b,c,mid,d,e⟩
theorem l8.keep {xs ys:Array Keyed}{lo hi:Nat}(h:l8 xs lo hi)(hk:∀k,lo<=k->k < hi->ys[k]? =xs[k]?):l8 ys lo hi:=λi j a b c=>by
 rw[K_congr (hk i a (!1)),K_congr (hk j (!1) c)];exact h i j a b c
theorem jb.keep :∀{l:List (Nat×Nat×Nat)} {lo hi:Nat},jb xs l lo hi->(∀k,lo<=k->k < hi->ys[k]? =xs[k]?)->jb ys l lo hi
 | [],lo,hi,h,_=>h
 | t :: r,lo,hi,⟨a,b,c,d⟩,hk=>by
  have:=d.len
  exact⟨a,b,c.keep λk h1 h2=>hk k h1 (!1),d.keep λk h1 h2=>hk k (!1) h2⟩
theorem jb.push {xs:Array Keyed}{l:List (Nat×Nat×Nat)}{lo n p:Nat}(h:jb xs l 0 lo)(h1:1<=n)(hs:l8 xs lo (lo+n)):jb xs (l++[(lo,n,p)]) 0 (lo+n):=jb.app.mpr ⟨lo,h,rfl,h1,hs,rfl⟩
theorem jb.pow (hf:∀t,(f t).1=t.1/\(f t).2.1=t.2.1):∀{l:List (Nat×Nat×Nat)} {i lo hi:Nat},jb xs l lo hi->jb xs (l.modify i f) lo hi
 | [],i,lo,hi,h=>by cases i <;> exact h
 | t :: r,0,lo,hi,h=>by
  rw[List.modify_zero_cons]
  obtain⟨a,b,c,d⟩:=h
  rw[jb,(hf t).1,(hf t).2];exact⟨a,b,c,d⟩
 | t :: r,i+1,lo,hi,⟨a,b,c,d⟩=>by rw[List.modify_succ_cons];exact⟨a,b,c,d.pow hf⟩
theorem Ke {c:Prop}[Decidable c](h:¬ n<=1):(if c then n - 2 - 1 else n - 2)+1 < n:=by split <;> omega
section
variable {prog:Program}{w:World}{A:Around}{E:Z3}{s:Shared}{a₀:Array Keyed}{st:SortSt}
theorem AB (hB:SB a₀ st)(e:El a₀)(hr:jb (arrOf st) (pendingOf st).toList 0 hi)(hhi:hi<=a₀.size)(hi1:i+1 < (pendingOf st).size)
  (h:∀st',SB a₀ st'->jb (arrOf st') (pendingOf st').toList 0 hi->(pendingOf st').size+1=(pendingOf st).size->(∀k,hi<=k->(arrOf st')[k]? =(arrOf st)[k]?)->Q true st'):wpS (!3) A E s (O6 i) Q st:=by
 obtain⟨l,hl⟩:∃l,(pendingOf st).toList=l:=⟨_,rfl⟩
 have hsz:(pendingOf st).size=l.length:=by rw[←hl,KY]
 rw[hl] at hr
 have hi2:i < l.length:=by omega
 have O9:i+1 < l.length:=by omega
 have el:l=l.take i++l[i] :: l[i+1] :: l.drop (i+2):=by
  rw[←U4 O9,←U4 hi2,Uu]
 have e1:(pendingOf st)[i]? =some l[i]:=by rw[←Uj,hl,K3 hi2]
 have e2:(pendingOf st)[i+1]? =some l[i+1]:=by rw[←Uj,hl,K3 O9]
 obtain⟨l1,hl1⟩:∃l1,l1=l.take i:=⟨_,rfl⟩
 obtain⟨l2,hl2⟩:∃l2,l2=l.drop (i+2):=⟨_,rfl⟩
 have n1:l1.length=i:=by rw[hl1,Xx];omega
 obtain⟨⟨sa,na,pw⟩,ht1⟩:∃t,t=l[i]:=⟨_,rfl⟩
 obtain⟨⟨sb,nb,q⟩,Br⟩:∃t,t=l[i+1]:=⟨_,rfl⟩
 rw[←ht1] at e1
 rw[←Br] at e2
 rw[←hl1,←hl2,←ht1,←Br] at el
 rw[el] at hr
 obtain⟨mid,r1,x1,x2,x3,y1,y2,y3,r2⟩:=jb.app.mp hr
 dsimp only at x1 x2 x3 y1 y2 y3 r2
 subst x1 y1
 have len2:=r2.len
 refine DN hB e e1 e2 x2 y2 (!1) x3 y3 λxs g ⟨m1,m2,m3⟩=> ?_
 have el2:(((pendingOf st).setIfInBounds i (sa,na+nb,pw)).eraseIdxIfInBounds (i+1)).toList=l1++(sa,na+nb,pw) :: l2:=by
  have:(((pendingOf st).setIfInBounds i (sa,na+nb,pw)).eraseIdxIfInBounds (i+1)).toList=((pendingOf st).toList.set i (sa,na+nb,pw)).eraseIdx (i+1):=by
   rw[Array.toList_eraseIdxIfInBounds,Array.toList_setIfInBounds]
  rw[this,hl,el,←n1]
  simp[List.eraseIdx_append_of_length_le]
 refine h _ ⟨m1.trans hB.perm,hB.kind,hB.failed⟩ ?_ ?_ λk hk=>m2 k (.inr (!1))
 ·show jb xs _ 0 hi
  rw[el2]
  refine jb.app.mpr ⟨sa,r1.keep λk _ hk=>m2 k (.inl hk),rfl,by show 1<=na+nb;omega,m3,?_⟩
  have:=r2.keep (ys:=xs) λk h1 _=>m2 k (.inr (!1))
  rw[show sa+na+nb=sa+(na+nb) by omega] at this
  exact this
 ·show(((pendingOf st).setIfInBounds i (sa,na+nb,pw)).eraseIdxIfInBounds (i+1)).size+1=_
  rw[←KY,el2,hsz,el]
  simp only[K2,Kj];omega
theorem Kf (hB:SB a₀ st)(e:El a₀)(hp:pendingOf st= #[])(h1:1<=a₀.size)(h:∀st',SB a₀ st'->l8 (arrOf st') 0 a₀.size->Q () st'):wpS (!3) A E s Qg Q st:=by
 refine JK (JU ?_)
 dsimp only
 simp only[hB.size]
 refine JK (wpS_mono (wpS_forRange (I:=λx c st'=>∃lo,c=(none,lo)/\SB a₀ st'/\jb (arrOf st') (pendingOf st').toList 0 lo/\lo<=a₀.size/\(x<=lo∨lo=a₀.size))
  (Q:=λc st'=>c=(none,a₀.size)/\SB a₀ st'/\jb (arrOf st') (pendingOf st').toList 0 a₀.size) ?_ ?_ ⟨0,rfl,hB,by rw[hp];rfl,by omega,.inl (!1)⟩) ?_)
 ·rintro x c st' _ hx ⟨lo,rfl,hB',hr,hlo,Qh⟩
  dsimp only
  refine aS (λhge=> ?_) λhge=> ?_
  ·obtain rfl:lo=a₀.size:=by omega
   exact JX ⟨rfl,hB',hr⟩
  refine JK (Kb hB' e (!1) (!1) λm xs hpm hkp m1 m2 hs=> ?_)
  have Mx:=hB'.set hpm
  have hr1:jb xs (pendingOf st').toList 0 lo:=hr.keep λk _ hk=>hkp k hk
  dsimp only
  refine aS (λhm=> ?_) (λhm=> ?_)
  case' refine_2=>
   obtain⟨s1,hs1⟩:∃s1,s1=setArr st' xs:=⟨_,rfl⟩
   rw[←hs1]
   have g1:SB a₀ s1:=by rw[hs1];exact Mx
   have g2:jb (arrOf s1) (pendingOf s1).toList 0 lo:=by rw[hs1];exact hr1
   have g3:l8 (arrOf s1) lo (lo+m):=by rw[hs1];exact hs
   obtain⟨n,hn⟩:∃n,n=m:=⟨_,rfl⟩
   rw[←hn] at g3⊢
   have n1:1<=n:=by omega
   have n2:lo+n<=a₀.size:=by omega
   clear hs1 hn
  case' refine_1=>
   refine JK (wpS_lift (wpAny_rule ⟨rfl,?_⟩))
   obtain⟨n,hn⟩:∃n,n=min (a₀.size - lo) ((sortPriv% PySem.Builtin.minRun) a₀.size a₀.size 0):=⟨_,rfl⟩
   rw[←hn]
   have n1:1<=n:=by omega
   have n2:lo+n<=a₀.size:=by omega
   refine JK (Kc Mx e n2 m1 (!1) hs λys hpy hky N8=> ?_)
   obtain⟨s1,hs1⟩:∃s1,s1=setArr (setArr st' xs) ys:=⟨_,rfl⟩
   rw[←hs1]
   have g1:SB a₀ s1:=by rw[hs1];exact Mx.set hpy
   have g2:jb (arrOf s1) (pendingOf s1).toList 0 lo:=by rw[hs1];exact hr1.keep λk _ hk=>hky k hk
   have g3:l8 (arrOf s1) lo (lo+n):=by rw[hs1];exact N8
   rw[JV (by simp)]
   clear hs1 hn
  all_goals
   refine JK (JU ?_)
   rcases hb:(pendingOf s1).back? with _ | ⟨u1,u2,u3⟩
   ·dsimp only
    refine JK (wpS_modify (JX ⟨lo+n,rfl,⟨g1.perm,g1.kind,g1.failed⟩,?_,n2,by omega⟩))
    show jb (arrOf s1) ((pendingOf s1).push _).toList 0 (lo+n)
    rw[YZ];exact g2.push n1 g3
   ·dsimp only
    refine JK (wpS_mono (wpS_forRange (I:=λ_ c s2=>c=(none,())/\SB a₀ s2/\jb (arrOf s2) (pendingOf s2).toList 0 lo/\l8 (arrOf s2) lo (lo+n))
     (Q:=λc s2=>c=(none,())/\SB a₀ s2/\jb (arrOf s2) (pendingOf s2).toList 0 lo/\l8 (arrOf s2) lo (lo+n)) ?_ (λc s2 h=>h) ⟨rfl,g1,g2,g3⟩) ?_)
    ·rintro y c s2 _ hy ⟨rfl,q1,q2,q3⟩
     refine JK (JU ?_)
     by_cases hsz:(pendingOf s2).size > 1
     ·rw[JQ hsz]
      have hlt:(pendingOf s2).size - 2 < (pendingOf s2).size:=by omega
      rw[Yz hlt]
      obtain⟨t,ht⟩:∃t,(pendingOf s2)[(pendingOf s2).size - 2]=t:=⟨_,rfl⟩
      rw[ht]
      obtain⟨v1,v2,v3⟩:=t
      dsimp only
      refine aS (λho=> ?_) λho=> ?_
      ·exact JX ⟨rfl,q1,q2,q3⟩
      ·refine JK (AB q1 e q2 hlo (show(pendingOf s2).size - 2+1 < (pendingOf s2).size by omega) λs3 c1 c2 _ c4=> ?_)
       exact JX ⟨rfl,c1,c2,q3.keep λk h1 _=>c4 k h1⟩
     ·rw[JV hsz]
      exact JX ⟨rfl,q1,q2,q3⟩
    ·rintro c s2 ⟨rfl,q1,q2,q3⟩
     dsimp only
     refine JK (wpS_modify (JK (wpS_modify (JX ⟨lo+n,rfl,⟨q1.perm,q1.kind,q1.failed⟩,?_,n2,by omega⟩))))
     show jb (arrOf s2) (((pendingOf s2).modify _ _).push _).toList 0 (lo+n)
     rw[YZ,Array.toList_modify]
     refine jb.push (jb.pow ?_ q2) n1 q3
     exact λt=>⟨rfl,rfl⟩
 ·rintro c st' ⟨lo,rfl,hB',hr,hlo,Qh⟩
  obtain rfl:lo=a₀.size:=by omega
  exact⟨rfl,hB',hr⟩
 rintro c st1 ⟨rfl,Mx,hr1⟩
 dsimp only
 have hlen:=hr1.len
 rw[KY] at hlen
 refine JK (wpS_mono (wpS_forRange (I:=λx c st'=>c=(none,())/\SB a₀ st'/\jb (arrOf st') (pendingOf st').toList 0 a₀.size/\((pendingOf st').size<=1∨(pendingOf st').size+x<=a₀.size))
  (Q:=λc st'=>c=(none,())/\SB a₀ st'/\jb (arrOf st') (pendingOf st').toList 0 a₀.size/\(pendingOf st').size<=1) ?_ ?_ ⟨rfl,Mx,hr1,.inr (!1)⟩) ?_)
 ·rintro x c st' _ hx ⟨rfl,q1,q2,q3⟩
  refine JK (JU ?_)
  refine aS (λhs=> ?_) λhs=> ?_
  ·exact JX ⟨rfl,q1,q2,hs⟩
  ·have hs:¬ (pendingOf st').size<=1:=hs
   refine JK (AB q1 e q2 (K1 _) (Ke hs) λs3 c1 c2 c3 _=> ?_)
   exact JX ⟨rfl,c1,c2,.inr (!1)⟩
 ·rintro c st' ⟨rfl,q1,q2,q3⟩
  exact⟨rfl,q1,q2,by omega⟩
 rintro c st' ⟨rfl,q1,q2,q3⟩
 refine JX (h st' q1 ?_)
 have q3:(pendingOf st').toList.length<=1:=by rw[KY];exact q3
 generalize (pendingOf st').toList=l at q2 q3
 match l,q2,q3 with
 | [],q2,_=>rw[jb] at q2;omega
 | [t],q2,_=>
  obtain⟨_,_,a3,a4⟩:=q2
  rw[jb] at a4
  rw[a4] at a3;exact a3
 | _ :: _ :: _,_,q3=>simp at q3
end
end Ts
namespace Ts
open PySem PyProof.Rows PySem.Calls PyProof.V PySem.Spec
section
variable {A:Around}{s:Shared}
theorem Mz (hI:IntsAre vs ns)(hd:ns.Nodup):El (pairsOf vs):=by
 refine⟨hI.intKeys,?_⟩
 rw[pairsOf_toList]
 have e:(vs.zip vs).map kz=ns:=by
  rw[←hI.nums]
  clear hI hd
  induction vs with
  | nil=>rfl
  | cons v vs ih=>rw[List.zip_cons_cons,KQ,KQ,ih];rfl
 rw[←e] at hd
 exact List.Pairwise.of_map _ (λa b h=>h) hd
theorem Gn (ho:s.heap.get? a=some (seqObj "list" vs.toArray n))(hI:IntsAre vs ns)(hd:ns.Nodup)(hl:vs.length<=sizeLine)
  (h:∀(out:Array Value) (ns':List Int),IntsAre out.toList ns'->ns'.Perm ns->ns'.Pairwise (· <= ·)->P (.done (.ret .none)) {s with heap:=sortedHeap s.heap a vs out}):wpAny (!3) A (Builtin.«list.sort» ⟨[.ref a],[]⟩) P E s:=by
 by_cases h64:vs.length < 64
 ·exact list_sort_tree ho hI h64 h
 have ha:=Kq ho
 have hz:vs.toArray.size=vs.length:=by simp
 obtain⟨e1,o1⟩:∃e1,(s.heap.update a (Obj.mapSeq λ_=> #[])).get? a=some (seqObj "list" #[] e1):=⟨_,get?_update_seq ho λ_=> #[]⟩
 have o6:(((s.heap.update a (Obj.mapSeq λ_=> #[])).push (seqObj "tuple" vs.toArray 0)).push (seqObj "list" #[] 0)).get? a=some (seqObj "list" #[] e1) :=
  K8 _ (K8 _ o1)
 rw[list_sort_plain]
 refine JZ (listItems_at ho rfl (JZ (listUpdate_at ho rfl (JZ (seqEpoch_at o1 rfl (JZ (wpAny_newTuple (JZ (wpAny_newList (Z7 ?_) (Xw _))) (by simpa using hl))))) (by rw[hz];exact hl) (Xw _))))
 have fin:∀st':SortSt,(arrOf st').Perm (pairsOf vs)->l8 (arrOf st') 0 (pairsOf vs).size->P (.done (.ret .none)) {s with heap:=sortedHeap s.heap a vs ((arrOf st').map (·.2))}:=λst' hp hs=>by
  obtain⟨ns',q1,q2,q3⟩:=sorted_out hI hp (λi j hij hj=>by
   by_cases e:i=j
   ·subst e;exact Int.le_refl _
   ·exact hs i j (!1) (!1) hj)
  exact h _ ns' q1 q2 q3
 show wpAny (!3) A _ P E {s with heap:=((s.heap.update a (Obj.mapSeq λ_=> #[])).push (seqObj "tuple" vs.toArray 0)).push (seqObj "list" #[] 0)}
 dsimp only
 have h2:¬ vs.toArray.size < 2:=by omega
 rw[JV h2,JV h2]
 have el:=Mz hI hd
 have hk:keyKind' vs.toArray=pure oneType':=by
  match vs,hI,h64 with
  | [],_,h64=>simp at h64
  | [_],_,h64=>simp at h64
  | _ :: _ :: _,hI,_=>exact keyKind_ints hI
 rw[hk]
 refine JZ (JW ?_)
 have run:=Kf (prog:=prog) (w:=w) (A:=A) (E:=E) (s:={s with heap:=((s.heap.update a (Obj.mapSeq λ_=> #[])).push (seqObj "tuple" vs.toArray 0)).push (seqObj "list" #[] 0)})
  (a₀:=pairsOf vs) (st:=SortSt.mk' oneType' (vs.toArray.zip vs.toArray) #[] 7 none) (Q:=λ_ st'=>(arrOf st').Perm (pairsOf vs)/\failedOf st'=none/\l8 (arrOf st') 0 (pairsOf vs).size)
  ⟨Array.Perm.refl _,rfl,rfl⟩ el rfl (by rw[pairsOf_size];omega) λst' b g=>⟨b.perm,b.failed,g⟩
 refine JZ (wpAny_mono run ?_ λ_ _ e=>e)
 rintro⟨⟨⟩,st'⟩ s' ⟨rfl,hp,hf,hs⟩
 dsimp only
 refine JZ (seqEpoch_at o6 rfl (JZ (listUpdate_at o6 rfl ?_ (Xw _) (by rw[Array.size_map,hp.size_eq,pairsOf_size];omega))))
 rw[hf]
 simp only[bne_self_eq_false,XZ,if_false]
 exact JW (fin st' hp hs)
theorem jN:∀l:List Int,(Y.wX l).Perm l
 | []=>List.Perm.refl _
 | x :: l=>(Kg x (Y.wX l)).trans ((jN l).cons x)
where Kg (x:Int):∀l:List Int,(Y.insI x l).Perm (x :: l)
 | []=>List.Perm.refl _
 | y :: l=>by
  rw[Y.insI]
  split
  ·exact List.Perm.refl _
  ·exact((Kg x l).cons y).trans (List.Perm.swap x y l)
theorem xk (x:Int):∀{l:List Int},l.Pairwise (· <= ·)->(Y.insI x l).Pairwise (· <= ·)
 | [],_=>by simp[Y.insI]
 | y :: l,h=>by
  obtain⟨h1,h2⟩:=List.pairwise_cons.mp h
  rw[Y.insI]
  split
  ·rename_i hc
   refine List.pairwise_cons.mpr ⟨λz hz=> ?_,h⟩
   rcases K0.mp hz with rfl | hz
   ·exact hc
   ·exact YJ hc (h1 z hz)
  ·rename_i hc
   refine List.pairwise_cons.mpr ⟨λz hz=> ?_,xk x h2⟩
   rcases K0.mp ((jN.Kg x l).mem_iff.mp hz) with rfl | hz
   ·omega
   ·exact h1 z hz
theorem rh:∀l:List Int,(Y.wX l).Pairwise (· <= ·)
 | []=> .nil
 | x :: l=>xk x (rh l)
theorem DO (Ks:PySem.W.KdlSrc prog w T r d n Pk OK)(hh:A.handled=none)(hok:OK s.heap)(hn:n<=sizeLine)
  (h:∀(h':Heap) (tk:Nat) (acc:Array Value),s.heap.objs.size < h'.objs.size->(∀b o,s.heap.get? b=some o->h'.get? b=some o)->ItemsOf Pk acc n->R acc.toList {s with heap:=h',toks:=tk}):wpAny (!3) A (collect (.ref r)) R E s:=by
 have hlt:=Ks.there _ hok
 have push:∀b o,s.heap.get? b=some o->(s.heap.push {cls:=.type "list",data:=.seq ([]:List Value).toArray}).get? b=some o:=λb o e=>K8 _ e
 unfold collect
 refine JZ (wpAny_runValue (codeAny_builtin entry_proto_collect' ?_))
 rw[Around.under_plainId PySem.F.plain_proto_collect _]
 show wpAny _ A.in1 (newList [] >>=λz=>again (.builtin "list.__iadd__" ⟨[z,.ref r],[]⟩)) _ _ s
 refine JZ (Z5 (JW ⟨plainId_quiet PySem.F.plain_list_iadd _,codeAny_builtin entry_list_iadd' ?_⟩))
 rw[Around.under_plainId PySem.F.plain_list_iadd _]
 have fin:∀(q:Result) (s':Shared),(∃(h':Heap) (tk:Nat) (acc:Array Value) (c:Nat),q= .ok (.ret (!6))/\s'={s with heap:=h',toks:=tk}/\(∀b o,s.heap.get? b=some o->h'.get? b=some o)/\
   h'.get? s.heap.objs.size=some {cls:=.type "list",dict:=none,data:=.seq acc c,slots:=#[]}/\ItemsOf Pk acc n)->∃(h':Heap) (tk:Nat) (acc:Array Value),q= .ok (.ret (!6))/\s'={s with heap:=h',toks:=tk}/\
   ∀{F:Z3},wpAny (!3) A (load s.heap.objs.size >>=λo=>match o.data with | .seq xs _=>pure xs.toList | _=>unsupported "internal:collect") R F s':=by
  rintro q s' ⟨h',tk,acc,c,rfl,rfl,hk,hS,hacc⟩
  exact⟨h',tk,acc,rfl,rfl,JZ (wpAny_load hS (JW (h h' tk acc (Kq hS) hk hacc)))⟩
 refine wpAny_mono (PySem.W.kdl_extend (A:=A) (s:={s with heap:=s.heap.push {cls:=.type "list",data:=.seq ([]:List Value).toArray}})
  (R:=λq s'=>∃(h':Heap) (tk:Nat) (acc:Array Value) (c:Nat),q= .ok (.ret (!6))/\s'={s with heap:=h',toks:=tk}/\(∀b o,s.heap.get? b=some o->h'.get? b=some o)/\
   h'.get? s.heap.objs.size=some {cls:=.type "list",dict:=none,data:=.seq acc c,slots:=#[]}/\ItemsOf Pk acc n)
  Ks hh (Ks.keep _ _ hok λb _ o e=>push b o e) s.heap.objs.size (Uq hlt.1) (Uq hlt.2) (!6) 0 (Ky _ rfl)
  (λh' tk acc c hk hS hacc=>⟨h',tk,acc,c,rfl,rfl,λb o e=>hk b o (X3 (Kq e)) (push b o e),hS,hacc⟩) hn) (λf s' x=> ?_) λe s' x=> ?_
 ·cases f with
  | done f=>
   obtain⟨h',tk,acc,e,rfl,hw⟩:=fin _ _ x
   cases e
   exact hw
  | again c=>
   refine⟨x.1,codeAny_mono x.2 λq s2 y=> ?_⟩
   obtain⟨h',tk,acc,rfl,rfl,hw⟩:=fin _ _ y
   exact hw
 ·obtain⟨_,_,_,_,e',_⟩:=x
  cases e'
theorem ze (hh:A.handled=none)(hD:s.heap.DictOf (intKind prog w) d xs)(lo:(d==sysModules)=false)(hn:xs.length<=sizeLine)
  (hQ:∀h' tk a (out:List Value) c,s.heap.objs.size<=a->h'.get? a=some {cls:=.type "list",data:=.seq out.toArray c}->IntsAre out (Y.wX (xs.map (·.1)))->(∀b o,b < s.heap.objs.size->s.heap.get? b=some o->h'.get? b=some o)->Q (.ref a) {s with heap:=h',toks:=tk}) :
  wpAny (!3) A (call (.builtin "sorted") [.ref d]) Q E s:=by
 obtain⟨ep,hat⟩:=hD.dictAt
 have hnd:=hat.nodup
 refine Calls.call_function_entry kind_sorted plain_sorted entry_sorted (args_sorted1 _) ?_
 unfold Builtin.«sorted»
 refine JZ (m:=checkCount "sorted" 1 1 _) (JW (JZ (DO (A:=A.in1) (PySem.W.kdl_dict (knd:=intKind prog w) (kvs:=xs) (ep:=ep) lo) (show A.in1.handled=none by simp[hh]) hat hn λh1 tk acc hlt1 hk hacc=> ?_)))
 have hl:acc.toList.length=xs.length:=by rw[KY];exact hacc.1
 have hI:IntsAre acc.toList (xs.map (·.1)):=by
  have key:∀(vs:List Value) (ys:List (Int×Value)),vs.length=ys.length->(∀(j:Nat) (v:Value),vs[j]? =some v->∃k x,ys[j]? =some (k,x)/\(intKind prog w).is k v=true)->IntsAre vs (ys.map (·.1)):=by
   intro vs
   induction vs with
   | nil=>intro ys hl _;cases ys with
    | nil=>exact .nil
    | cons y ys=>simp at hl
   | cons v vs ih=>
    intro ys hl hv
    cases ys with
    | nil=>simp at hl
    | cons y ys=>
     obtain⟨k,x,e,hi⟩:=hv 0 v rfl
     have e':y=(k,x):=by simpa using e
     obtain⟨t,et⟩:=Value.isInt_shape hi
     subst et
     rw[KQ,e']
     exact .cons k t (ih ys (by simpa using hl) λj u hu=>by simpa using hv (j+1) u (by simpa using hu))
  exact key _ _ hl λj v e=>hacc.2 j v (by rw[←Uj];exact e)
 refine JZ (wpAny_newList ?_ (by rw[hl];exact hn))
 have hoL:(h1.push {cls:=.type "list",data:=.seq acc.toList.toArray}).get? h1.objs.size=some (seqObj "list" acc.toList.toArray 0):=Ky _ rfl
 refine JZ (Z7 (Z6 slot_list_sort ⟨_,hoL,rfl⟩ entry_list_sort (Gn (s:={s with heap:=h1.push {cls:=.type "list",data:=.seq acc.toList.toArray},toks:=tk}) hoL hI hnd (by rw[hl];exact hn) λout ns' a1 a2 a3=>⟨_,rfl,?_⟩) (args_list_sort _)))
 obtain⟨c,hc⟩:=sortedHeap_at (out:=out) hoL
 have hns:ns'=Y.wX (xs.map (·.1)):=PySem.W.ksm_same (a2.trans (jN _).symm) a3 (rh _)
 subst hns
 have hge:s.heap.objs.size<=h1.objs.size:=Y1 hlt1
 refine JW ⟨_,rfl,hQ _ tk _ out.toList c hge (by simpa using hc) a1 λb o hb e=> ?_⟩
 have hb1:=hk b o e
 have hlt:=Kq hb1
 rw[sortedHeap_old (X3 hlt) (by rw[XJ];exact UJ hlt)]
 exact K8 _ hb1
end
end Ts
namespace Y
open PySem
def Gq:PyData->Int
 | .int i=>i
 | _=>0
noncomputable def rj:List PyData->Option PyData
 | [.dict kvs]=>if allI kvs=true then some (.list ((wX (kvs.map λp=>Gq p.1)).map PyData.int)) else none
 | _=>none
end Y
namespace L2
open PySem PySem.Spec PyProof.Rows Y
theorem HB {K:Frag}{H:Hp}:∀{kvs:l5} {ks:List (!9)} {ys:List (Int×Value)},aV K H kvs ks->Paired sF ks ys->(kvs.map λp=>Gq p.1)=ys.map (·.1)
 | [],ks,ys,t,p=>by simp only[aV] at t;subst t;cases p;rfl
 | (k,d) :: r,ks,ys,t,p=>by
  simp only[aV] at t
  obtain⟨kv,v,q,rfl,h1,h2,h3⟩:=t
  cases p with
  | @cons _ y _ ys' hp pt=>
   rw[KQ,KQ,HB h3 pt]
   have e:k= .int y.1:=hp.1
   rw[e];rfl
theorem t9 {K:Frag}{H:Hp}:∀(l:List Int),ay K H (l.map PyData.int) (l.map V.int)
 | []=>a8
 | i :: l=>aW rfl (t9 l)
section
variable {X:Cx}
def Kh (K:Frag):List V->Hp->VK->Prop:=λxs H Q=>∃q ks kvs,xs=[.ref q]/\Rd H q (.dct q ks)/\aV K H kvs ks.1/\allI kvs=true/\∀t,H t=none->Q (.ref t) (upd H t (.lst ((wX (kvs.map λp=>Gq p.1)).map V.int)))
theorem zf (hc:X.calm=true):iF X (.builtin "sorted") (Kh X.K):=by
 intro pins s σ H xs us Q I rv h
 obtain⟨q,ks,kvs,rfl,hr,t,ht,fin⟩:=h
 obtain⟨u,rfl,ru⟩:=rv.one
 cases ru
 obtain⟨ys,hD,p,hs,hl⟩:=ja I hr t ht
 have hlen:ks.1.length=ys.length:=Paired.length p
 rw[HB t p] at fin
 refine Ts.ze (I.ok.hd hc) hD hs (!1) λh' tk a out c hge hat hints hk=> ?_
 refine⟨.ref a,_,I.laid (t':=tk) (a:=a) (o:=.lst ((wX (ys.map (·.1))).map V.int)) (λb u e=>hk b u (Kq e) e) hge ⟨?_,out,c,t4 hints,hat⟩,rfl,fin _ (I.hok.fresh hge)⟩
 rw[K6,(Ts.jN _).length_eq,K6];omega
theorem xm (hc:X.calm=true):CallD X (.builtin "sorted") rj:=⟨_,zf hc,λxs z us H Q e h q=>by
 match xs,e,h with
 | [.dict kvs],e,h=>
  simp only[rj] at e
  split at e
  ·rename_i ht
   cases e
   obtain⟨u,rfl,hu⟩:=dF h
   obtain⟨a,ks,rfl,hr,t⟩:=cu hu
   exact⟨a,ks,kvs,rfl,hr,t,ht,λt' ht'=>q _ _ (Same.upd ht') (aU.lst (aO _ (λ_=>rfl) _) az (t9 _) ht')⟩
  ·cases e⟩
end
end L2
namespace Y
open PySem
def mE (n:Nat)(fi fe:EF):SF:=λΓ=>match Γ[n]? with
 | some (some (true,.list xs))=>aq (fi Γ) λa=>aq (mo (qy xs a.2)) λp=>aq (fe Γ) λb=>if br b.2=true/\p.2.length < sizeLine then ah (.nx (Γ.set n (some (true,.list (xs.set p.1 (.list (p.2++[b.2]))))))) else none
 | _=>none
end Y
namespace L2
open PySem PySem.Spec PyProof.Rows Y
section
variable {K:Frag}{B H:Hp}{φ:Nat->List Addr}{Γ:aX}{σ:St}
theorem Rep.inner {n m:Nat}{xs ys ys':List PyData}{l b:Addr}{vs ws ws':List V}{bs:List Addr}(r:Rep K B φ Γ σ H)(hv:σ[n]? =some (some (.ref l)))(hl:H l=some (.lst vs))(ht:aA K H xs vs bs)(hφ:φ n=l :: bs)
  (e2:xs[m]? =some (.list ys)) (e3:ar ys=true) (f1:vs[m]? =some (.ref b)) (f2:H b=some (.lst ws)) (hn:ar ys'=true) (hd:ay K (upd H b (.lst ws')) ys' ws') :
  ∃ψ,Rep K B ψ (Γ.set n (some (true,.list (xs.set m (.list ys'))))) σ (upd H b (.lst ws')):=by
 have nd:(l :: bs).Nodup:=hφ ▸ r.nd n
 obtain⟨O_,Oq⟩:=KJ.mp nd
 obtain⟨b',QP,g1,g2,g3,g4,g5⟩:=u6 ht Oq e2 e3
 have hbb:b'=b:=by rw[f1] at g1;cases g1;rfl
 subst hbb
 have hnl:l≠b':=λz=>O_ (z ▸ g4)
 exact⟨_,r.chg (i:=n) (o':=.lst ws') (v:=.ref l) (as:=l :: bs) (by rw[hφ];exact K9 _ g4) f2 trivial hv (dQ (by rw[aR hnl];exact hl) (g5 _ _ (ay.toT _ _ hn hd))) nd (λa ha=> .inl (by rw[hφ];exact ha)) trivial⟩
end
section
variable {X:Cx}{K:Frag}{Ew:Str->Hp->Prop}{p1 p2 p apos cpos pos:Pos}{ie je e:Expr}{fi fj fe:EF}{nn:Str}
theorem DP (vn:PE X (.Name nn p1) (lX n))(hi:DE X K Ew ie fi)(hpi:uD ie)(he:DE X K Ew e fe)(hK:X.K=K:=by rfl)
  (hbase:attributeBase (.Subscript (.Name nn p1) ie p2) "append" X.env (eval (.Subscript (.Name nn p1) ie p2) X.env)=eval (.Subscript (.Name nn p1) ie p2) X.env:=by rfl)
  (hfew:((backTo cpos (starEach [e] X.env)).all (λx=> !x.1) && (backToKw cpos (keywordEach [] X.env)).all (λx=>x.1.isSome)
   && decide (([e]:List Expr).length+([]:List Keyword).length+(if ([]:List Keyword).isEmpty then 0 else 1) < 30))=true:=by rfl)
  (hline:(apos.endLine==cpos.line)=true:=by rfl) (hs:starEach [e] X.env=(false,eval e X.env) :: starEach [] X.env:=by rfl) (hplain:(backTo cpos (starEach [] X.env)).any (·.1)=false:=by rfl)
  (hsw:swapsWith (.Call (.Attribute (.Subscript (.Name nn p1) ie p2) "append" apos) [e] [] cpos) none pos.line X.env=pure false:=by rfl) :
  DS X K Ew (.Expr (.Call (.Attribute (.Subscript (.Name nn p1) ie p2) "append" apos) [e] [] cpos) pos) (mE n fi fe) :=
 (lx (wk PySem.F.plainAttrs_list PySem.F.slot_list_append PySem.F.type_list_append lB (Hl zU vn hi hpi) (bv he cO hs) hbase hfew hline hs hplain) hsw).imp λD σ H q=>by
  subst hK
  obtain⟨B,φ,Γ,r,q⟩:=q
  unfold mE at q
  obtain⟨xs,hg,q⟩:=L6 q
  obtain⟨v,hv,hT⟩:=r.own hg
  obtain⟨l,vs,bs,rfl,hl,ht,hφ⟩:=bF hT
  refine⟨.ref l,hv,B,φ,Γ,r,?_⟩
  match hm:fi Γ,q with
  | none,q=>cases q
  | some (.ex c),q=>exact .inr ⟨c,rfl,q⟩
  | some (.ok (k1,d1)),q=>
   refine .inl ⟨k1,d1,rfl,λw H2 sa hw=> ?_⟩
   have r2:=r.same sa
   cases hb:qy xs d1 with
   | none=>simp only[aq,hb,mo] at q;exact False.elim q
   | some p=>
    obtain⟨i,rfl,e1,e2,e3⟩:=yR hb
    have:=aE (hw.toD r2.bs)
    subst this
    have nd:(l :: bs).Nodup:=hφ ▸ r.nd n
    obtain⟨O_,Oq⟩:=KJ.mp nd
    obtain⟨b,ws,f1,f2,f3,f4,f5⟩:=u6 (aA.same sa _ _ _ ht) Oq e2 e3
    have lv:vs.length=xs.length:=bB ht
    refine⟨l,vs,i,.ref b,rfl,rfl,gD.of (sa _ _ hl),?_,.inl ⟨rfl,ws,gD.of f2⟩,B,φ,Γ,r2,?_⟩
    ·show(oW vs.length i).bind _=_
     rw[lv]
     have e1':L2.oW xs.length i=some p.1:=e1
     rw[e1']
     exact f1
    simp only[aq,hb,mo,ah,Uk] at q
    match hm2:fe Γ,q with
    | none,q=>cases q
    | some (.ex c),q=>exact .inr ⟨c,rfl,q⟩
    | some (.ok (k2,d2)),q=>
     refine .inl ⟨k2,d2,rfl,λy H3 sc hy=> ?_⟩
     have r3:=r2.same sc
     by_cases hc:br d2=true/\p.2.length < sizeLine
     ·simp only[JQ hc] at q
      have lw:ws.length=p.2.length:=bB f3
      refine⟨b,ws,y,rfl,rfl,sc _ _ f2,by omega,?_⟩
      have hds:ay X.K (upd H3 b (.lst (ws++[y]))) (p.2++[d2]) (ws++[y]):=by
       have h1:aA X.K (upd H3 b (.lst (ws++[y]))) p.2 ws []:=aA.upd (sc _ _ f2) trivial _ _ _ (by simp) (aA.same sc _ _ _ f3)
       have h2:IsT X.K (upd H3 b (.lst (ws++[y]))) d2 y []:=IsT.upd (sc _ _ f2) trivial _ _ _ (by simp) (aM.toT _ _ hc.1 (hy.toD r3.bs))
       exact dz (aA.toD _ _ _ h1) (aW (IsT.toD _ _ _ h2) a8)
      obtain⟨ψ,r6⟩:=r3.inner (m:=p.1) (ys:=p.2) (ys':=p.2++[d2]) (ws':=ws++[y]) hv (sc _ _ (sa _ _ hl)) (aA.same sc _ _ _ (aA.same sa _ _ _ ht)) hφ e2 e3 f1 (sc _ _ f2) (by rw[fF,e3,ar,ar,hc.1];rfl) hds
      exact q B ψ σ _ (Same.refl B) r6
     ·simp only[JV hc] at q
      exact False.elim q
end
end L2
namespace Y
open PySem
end Y
namespace L2
open PySem PySem.Spec PyProof.Rows Y
end L2
namespace L2
open PySem PySem.Spec PyProof.Rows
structure ci (X:Cx)(scope:Scope)(vs:List Str)(F:List Str)(ix:List Nat):Prop where
 kind:scope.kind= .function
 own:∀v∈vs,scope.names.lookup v=some .local
 names:∀y∈scope.names,y.2= .local->scope.names.lookup y.1=some .local
 uI:∀y∈scope.names,y.2≠ .cell
 free:∀y∈scope.names,y.2= .free->X.env.scope.names.lookup y.1=some .cell∨X.env.scope.names.lookup y.1=some .free
 cap:∀x∈F,scope.names.lookup x=some .free
 nd:(vs++F).Nodup
 eqs:ix.map (λk=>X.N[k]?)=F.map some
abbrev MA (scope out:Scope)(vs F:List Str):Prop:=(∀v∈vs,scope.names.lookup v=some .local)/\(∀y∈scope.names,y.2= .local->scope.names.lookup y.1=some .local)/\(∀y∈scope.names,y.2≠ .cell)/\
 (∀y∈scope.names,y.2= .free->out.names.lookup y.1=some .cell∨out.names.lookup y.1=some .free)/\(∀x∈F,scope.names.lookup x=some .free)/\(vs++F).Nodup
theorem oK (out:Scope)(h:MA scope out vs F)(hk:scope.kind= .function:=by rfl)(ho:X.env.scope=out:=by rfl)(e:ix.map (λk=>X.N[k]?)=F.map some:=by rfl):ci X scope vs F ix :=
 ⟨hk,h.1,h.2.1,h.2.2.1,ho ▸ h.2.2.2.1,h.2.2.2.2.1,h.2.2.2.2.2,e⟩
theorem ci.len (O:ci X scope vs F ix):ix.length=F.length:=by
 have:=congrArg List.length O.eqs
 simpa using this
theorem ci.imp (O:ci X scope vs F ix):∀(i:Nat) (x:Str),F[i]? =some x->∃k,ix[i]? =some k/\X.N[k]? =some x:=λi x e=>by
 have h:=congrArg (·[i]?) O.eqs
 simp only[KU,e,Uk] at h
 cases q:ix[i]? with
 | none=>rw[q] at h;cases h
 | some k=>rw[q] at h;exact⟨k,rfl,Option.some.inj h⟩
noncomputable def DQ (n:Nat)(σ:St)(ix:List Nat):St:=List.replicate n none++lY σ ix
def DR (n:Nat)(g:TG)(J:It)(σ:St)(ix:List Nat)(tt:TT)(te:TE)(H1:Hp)(Q:VK)(D:Addr):Prop :=
 ∃W:Nat->Nat->List V->Hp->Prop,(∃m,W 0 m [] (upd H1 D (.lst [])))/\∀i m ys H,W i m ys H->H D=some (.lst ys)/\
  ((
   J.stop i H/\Q (.ref D) H)∨(J.go i H/\∀x H',J.LF i H x H'->g x (DQ n σ ix) H' λσ' H2=>∃zs:List V,zs.length=n/\σ'=zs.map some++lY σ ix/\tt σ' H2 λb H3=>if b=true then te σ' H3 λv H4=>H4 D=some (.lst ys)/\ys.length < sizeLine/\∃m',m' < m/\W (i+1) m' (ys++[v]) (upd H4 D (.lst (ys++[v])))
   else∃m',m' < m/\W (i+1) m' ys H3))
def zg (n:Nat)(g:TG)(wi:TI)(ix:List Nat)(tt:TT)(te:TE):TE:=λσ H Q=>wi σ H λJ H1=>∀D,H1 D=none->DR n g J σ ix tt te H1 Q D
theorem DU (e:(DQ n σ ix)[i]? =some (some u)):n<=i/\(lY σ ix)[i - n]? =some (some u):=by
 unfold DQ at e
 by_cases h:i < n
 ·rw[Xu (by rw[Uy];exact h),J1,JQ h] at e
  cases e
 ·have h:n<=i:=Nat.le_of_not_lt h
  rw[Xj (by rw[Uy];exact h),Uy] at e
  exact⟨h,e⟩
theorem Gr {vs F:List Str}{σ:St}(e1:(vs++F)[i]? =some x)(e2:(DQ vs.length σ ix)[i]? =some (some u)):F[i - vs.length]? =some x/\(lY σ ix)[i - vs.length]? =some (some u):=by
 obtain⟨h,e2⟩:=DU e2
 rw[Xj h] at e1
 exact⟨e1,e2⟩
section
variable {X:Cx}{scope:Scope}{vs:List Str}{s:Shared}
theorem Inv.rl (I:Inv X pins σ H s)(O:ci X scope vs F ix):∀y∈scope.names,y.2= .free->∃c,X.env.cells.lookup y.1=some c:=λy hy hf=>I.ok.has y.1 (O.free y hy hf)
theorem Inv.Gs (I:Inv X pins σ H s)(O:ci X scope vs F ix)(hsub:∀x c,cl.lookup x=some c->X.env.cells.lookup x=some c)(hcl:∀y∈scope.names,y.2= .free->∃c,cl.lookup y.1=some c)
  (hfp:∀b∈fp,oa X pins H b) (hfz:∀b∈fp,b < s.heap.objs.size) (hC:s.heap.objs.size<=C):(bb X scope cl (vs++F) fp s H C).Ok where
 mod:=I.ok.mod
 kind:=O.kind
 glob:=I.ok.glob
 blt:=I.ok.blt
 above:=hC
 inj:=λx y c h1 h2=>I.ok.inj x y c (hsub x c h1) (hsub y c h2)
 has:=λx hx=>by
  have hx':scope.names.lookup x=some .cell∨scope.names.lookup x=some .free:=qi (env:=X.env) hx
  rcases hx' with e | e
  ·exact absurd rfl (O.uI _ (PySem.mem_of_lookup e))
  ·exact hcl _ (PySem.mem_of_lookup e) rfl
 cab:=λx c hf _=>by cases hf
 hd:=I.ok.hd
 frames:=I.ok.frames
 stk:=.inl rfl
 HW:=λb hb=>⟨X3 (X6 (hfz b hb) hC),λx c e=>(hfp b hb).2.2.2.2.1 x c (hsub x c e)⟩
 bs:=I.bs
 yr:=Kz I.ok.yr I.sz
 uw:=λb o e hb=>by
  rcases(hfp b hb).2.2.2.1 with z | z
  ·exact I.ok.uw b o e z
  ·exact absurd (X6 (Kq e) (Kz I.ok.yr z)) (U2 _)
 v8:=λb hb hs=>by
  rcases K0.mp (I.ux b hs) with e | e
  ·exact(hfp b hb).2.1 e
  ·exact(hfp b hb).2.2.1 e
 lV:=I.stack
 Cr:=I.uy
theorem Inv.zh (I:Inv X pins σ H s)(O:ci X scope vs F ix)(hsub:∀x c,cl.lookup x=some c->X.env.cells.lookup x=some c)(hcl:∀y∈scope.names,y.2= .free->∃c,cl.lookup y.1=some c)
  (hfp:∀b∈fp,oa X pins H b) (hfz:∀b∈fp,b < s.heap.objs.size) (hC:C=s.heap.objs.size+1) (hk:∀b o,s.heap.get? b=some o->h1.get? b=some o) (hns:h1.Ns C λ_=>none)
  (hD:h1.get? s.heap.objs.size=some {cls:=.type "list",data:=.seq ([]:List Value).toArray n}) :
  Inv (bb X scope cl (vs++F) fp s H C) [] (DQ vs.length σ ix) (upd H s.heap.objs.size (.lst [])) {s with heap:=h1,toks:=tk}:=by
 have hn:H s.heap.objs.size=none:=I.hok.fresh (K1 _)
 have hlt:s.heap.objs.size < C:=by rw[hC];exact Uz _
 refine⟨I.Gs O hsub hcl hfp hfz (Y1 hlt),rfl,I.bare,Un.laid hk (K1 _) hn,⟨_,hns,λi x u e1 e2 e3=> ?_⟩,λx c e=> ?_,?_,λx c e=> ?_,λp hp=>absurd (show p∈([]:List (Addr×Obj)) from hp) (by simp),
  I.hok.laid hk (K1 _) ⟨Xw _,[],n,.nil,hD⟩,?_⟩
 ·obtain⟨e1',e2'⟩:=Gr e1 e2
  obtain⟨k,hk1,hk2⟩:=O.imp _ x e1'
  unfold lY at e2'
  rw[KU,hk1] at e2'
  have e4:(σ[k]?).join=some u:=by simpa using e2'
  have e5:σ[k]? =some (some u):=by
   cases q:σ[k]? with
   | none=>rw[q] at e4;cases e4
   | some o=>rw[q] at e4;have:o=some u:=e4;rw[this]
  have hfr:scope.names.lookup x=some .free:=O.cap x (UY e1')
  have L1:=O.free _ (PySem.mem_of_lookup hfr) rfl
  obtain⟨m,hm,hl⟩:=I.loc
  obtain⟨w,yC,lk⟩:=hl k x u hk2 e5 (by rcases L1 with z | z;exact .inr (.inl z);exact .inr (.inr z))
  refine⟨w,yC,.inr ⟨?_,?_⟩⟩
  ·exact mR hfr
  ·obtain⟨c,hc⟩:=hcl _ (PySem.mem_of_lookup hfr) rfl
   refine⟨c,hc,?_⟩
   rcases lk with⟨z,_⟩ | ⟨_,c',hc',cell⟩
   ·have z':X.env.scope.names.lookup x=some .local:=z
    rcases L1 with y | y <;> (rw[z'] at y;cases y)
   ·have:c'=c:=by
     have:=hsub _ _ hc
     rw[hc'] at this
     exact Option.some.inj this
    subst this
    exact cell.keeps hk
 ·obtain⟨w,cell⟩:=I.cell x c (hsub x c e)
  exact⟨w,cell.keeps hk⟩
 ·show upd H s.heap.objs.size (.lst []) C=none
  rw[aR (Uq hlt)]
  exact I.hok.fresh (Y1 hlt)
 ·obtain⟨w,cell⟩:=I.cell x c (hsub x c e)
  rw[aR (X3 cell.lt)]
  exact I.jx x c (hsub x c e)
 ·show(DQ vs.length σ ix).length=(vs++F).length
  unfold DQ lY
  rw[K2,K2,Uy,K6,O.len]
end
section
variable {X:Cx}{scope:Scope}{vs:List Str}{s:Shared}
 {elt iter:Expr} {ifs:List Expr} {tg:Expr} {g:TG} {pos:Pos} {tt:TT} {te:TE}
theorem o_ {tn:Nat->Heap->Prop}{Q:VK}{RR:Value->Addr->Result->Shared->Prop}
  (I:Inv X pins σ H s) (O:ci X scope vs F ix) (hc:X.calm=true) (hsub:∀x c,cl.lookup x=some c->X.env.cells.lookup x=some c) (hcl:∀y∈scope.names,y.2= .free->∃c,cl.lookup y.1=some c)
  (T:Turn X.prog X.w X.K tg J fp it tn) (hst:tn 0 s.heap) (hfp:∀b∈fp,oa X pins H b)
  (mF:∀cl fp s H C,Ck (bb X scope cl (vs++F) fp s H C) ifs tt) (helt:∀cl fp s H C,PE (bb X scope cl (vs++F) fp s H C) elt te) (hg:∀cl fp s H C,PG (bb X scope cl (vs++F) fp s H C) tg g)
  (hr:∀D,H D=none->DR vs.length g J σ ix tt te H Q D)
  (hRR:∀(D C:Addr) (s':Shared) (H':Hp) (m:Str->Option Value),s'.heap.Ns C m->Inv X pins σ H' s'->H' C=none->s.heap.objs.size<=C->Q (.ref D) H'->RR (.ref D) C (.ok .next) s') :
  wpAny (!7) X.A (newList []) (λacc s₃=>wpAny (!7) X.A (newFunctionEnv scope X.env.globals cl [] X.env.qual none .none (some X.env)) (λcenv s₄=>
   codeAny (!7) X.A (.compStart (.ListComp elt [⟨tg,iter,ifs,0⟩] scope pos) 0 (.ref it) acc {cenv with scope:=relabel scope X.env}) (RR acc cenv.locals) s₄) X.xe s₃) X.xe s:=by
 have hfz:∀b∈fp,b < s.heap.objs.size:=λb hb=>let ⟨o,e,_⟩:=T.obj 0 s.heap hst b hb;Kq e
 refine Z5 (wpAny_newFunctionEnv O.uI (by intro y hy;simp at hy) (λh₁ hns₁ hsb₁=> ?_) O.kind)
 dsimp only at hns₁ hsb₁⊢
 generalize hH2:s.heap.push {cls:=.type "list",dict:=none,data:=.seq ([]:List Value).toArray}=H2 at hns₁ hsb₁⊢
 have hC:H2.objs.size=s.heap.objs.size+1:=by rw[←hH2,XJ]
 have hDC:s.heap.objs.size≠H2.objs.size:=by rw[hC];exact X3 (Uz _)
 have old:∀b o,s.heap.get? b=some o->h₁.get? b=some o:=λb o e=>hsb₁.extBut b o (by rw[hC];exact X3 (UJ (Kq e))) (K8 _ (hH2 ▸ K8 _ e))
 have hD:h₁.get? s.heap.objs.size=some {cls:=.type "list",data:=.seq ([]:List Value).toArray}:=hsb₁.extBut _ _ hDC (K8 _ (hH2 ▸ Ky _ rfl))
 have hst₁:tn 0 h₁:=T.keep 0 _ _ hst λb _ o e=>old b o e
 have loop:∀s₃:Shared,s₃={s with heap:=h₁,toks:=s.toks+([]:List (Str×Value)).length}->
   codeAny (!7) X.A (.compLoop (.ListComp elt [⟨tg,iter,ifs,0⟩] scope pos) 0 (.ref it) (!6) (compEnvC scope cl H2.objs.size X.env))
    (RR (!6) H2.objs.size) s₃:=by
  rintro s₃ rfl
  have I1:=I.zh (C:=H2.objs.size) (tk:=s.toks+([]:List (Str×Value)).length) O hsub hcl hfp hfz hC old (show h₁.Ns _ (λ_=>none) from hns₁) hD
  obtain⟨W,⟨m0,w0⟩,turn⟩:=hr s.heap.objs.size (I.hok.fresh (K1 _))
  have stat:∀{H':Hp},(∀b∈fp,H' b=none)->∀b∈fp,oa (bb X scope cl (vs++F) fp s H H2.objs.size) [] H' b:=λhn b hb=>
   ⟨hn b hb,((I1.ok.HW b hb).1),I1.ok.v8 b hb,.inl hb,(I1.ok.HW b hb).2,λp hp=>absurd (show p∈([]:List (Addr×Obj)) from hp) (by simp)⟩
  have Qi:∀b∈fp,(upd H s.heap.objs.size (.lst [])) b=none:=λb hb=>by
   rw[aR (X3 (hfz b hb))]
   exact(hfp b hb).1
  refine codeAny_loop rfl (λn s'=>∃i ys H',Inv (bb X scope cl (vs++F) fp s H H2.objs.size) [] (DQ vs.length σ ix) H' s'/\tn i s'.heap/\(∀b∈fp,H' b=none)/\W i n ys H') (λn s3 hI=> ?_) m0 ⟨0,[],_,I1,hst₁,Qi,w0⟩
  obtain⟨i,ys,H3,I3,st3,LI,w3⟩:=hI
  show wpAny _ X.A ((compTurn (.ListComp elt [⟨tg,iter,ifs,0⟩] scope pos) 0 (.ref it) (!6) (compEnvC scope cl H2.objs.size X.env)).onRaise (λx=>do noteFrame x (compEnvC scope cl H2.objs.size X.env);theTreesLotGoes x)) _ _ s3
  refine wpAny_noted ?_
  rw[compTurn_list]
  refine JZ (wpAny_standAt (JZ ?_))
  obtain⟨Nf,⟨stop,qn⟩ | ⟨go,step⟩⟩:=turn i n ys H3 w3
  ·refine dv (T.done (bb X scope cl (vs++F) fp s H H2.objs.size) rfl rfl rfl hc i [] s3 _ H3 _ I3 (stat LI) st3 stop) λr s4 ⟨Ot,I4⟩=> ?_
   subst Ot
   obtain⟨m,hm,_⟩:=id I4.loc
   refine JW ?_
   refine hRR _ _ s4 H3 m hm ?_ I4.free (by rw[hC];exact Y8 _) qn
   exact I.call' (ch:=fp) I4.os I4.base I4.hok I4.bare λb hb=>⟨(hfp b hb).2.2.2.1,(hfp b hb).2.1,(hfp b hb).2.2.2.2.1,(hfp b hb).2.2.2.2.2⟩
  ·refine dv (T.item (bb X scope cl (vs++F) fp s H H2.objs.size) rfl rfl rfl hc i [] s3 _ H3 _ I3 (stat LI) st3 go) λr s4 ⟨u,Ot,h4⟩=> ?_
   subst Ot
   refine JZ (dv h4 λ_ s5 ⟨x,H5,I5,r5,y5,Iq,NF⟩=> ?_)
   have NG:=I5.pinned (stat NF) (T.obj _ _ Iq)
   have hstep:=step x H5 y5
   have again:∀{H7:Hp} {s7:Shared} {m':Nat} {zs zs':List V},Inv (bb X scope cl (vs++F) fp s H H2.objs.size) ([]++qg fp s5.heap) (zs'.map some++lY σ ix) H7 s7->zs'.length=vs.length->m' < n->W (i+1) m' zs H7->
     ∃m,m < n/\∃i ys H',Inv (bb X scope cl (vs++F) fp s H H2.objs.size) [] (DQ vs.length σ ix) H' s7/\tn i s7.heap/\(∀b∈fp,H' b=none)/\W i m ys H':=λ{H7 s7 m' zs zs'} I7 hz hm w7=>by
    refine⟨m',hm,i+1,zs,H7,?_,T.keep _ _ _ Iq λb hb o e=>(I7.pin (b,o) (Kx _ (Kx _ (jW hb e)))).1,λb hb=> ?_,w7⟩
    ·refine I7.mP.weak (by unfold DQ;rw[K2,K2,Uy,K6,hz]) λj w e=> ?_
     obtain⟨h1,h2⟩:=DU e
     rw[Xj (by rw[K6,hz];exact h1),K6,hz]
     exact h2
    ·obtain⟨o,e,d⟩:=T.obj _ _ Iq b hb
     exact(I7.pin (b,o) (Kx _ (Kx _ (jW hb e)))).2.1
   refine JZ (wpAny_mono (hg cl fp s H H2.objs.size _ s5 _ H5 x u _ NG r5 hstep) (λ_ s6 ⟨σ6,H6,I6,zs',hz,e6,hstep⟩=> ?_) λ_ _ z=>False.elim z)
   subst e6
   refine JZ (wpAny_mono (mF cl fp s H H2.objs.size _ s6 _ H6 _ I6 hstep) (λok s7 ⟨H7,I7,q7⟩=> ?_) λ_ _ z=>False.elim z)
   cases ok with
   | false=>
    rw[JV K4] at q7
    obtain⟨m',hm,w7⟩:=q7
    exact JW ⟨rfl,again I7 hz hm w7⟩
   | true=>
    rw[JQ rfl] at q7
    refine JZ (JZ (wpAny_mono (helt cl fp s H H2.objs.size _ s7 _ H7 _ I7 q7) (λy s8 ⟨vv,H8,I8,r8,Qj,hz8,m',hm,w8⟩=> ?_) λ_ _ z=>False.elim z))
    refine JZ (wpAny_mono (lB (X:=bb X scope cl (vs++F) fp s H H2.objs.size) _ s8 _ H8 (!6) [vv] _ [y] (λ_ H9=>H9=upd H8 s.heap.objs.size (.lst (ys++[vv]))) I8 rfl (.cons r8 .nil) ⟨_,ys,vv,rfl,rfl,Qj,hz8,rfl⟩) (λ_ s9 ⟨_,H9,I9,_,e9⟩=> ?_) λ_ _ z=>False.elim z)
    subst e9
    exact JW (JW ⟨rfl,again I9 hz hm w8⟩)
 exact codeAny_compStart_list (loop _ rfl) (T.self _ 0 _ _ _ hst₁ (loop _ rfl))
theorem DV (hc:X.calm=true)(O:ci X scope vs F ix)(hi:PI X tg iter wi)
  (mF:∀cl fp s H C,Ck (bb X scope cl (vs++F) fp s H C) ifs tt) (helt:∀cl fp s H C,PE (bb X scope cl (vs++F) fp s H C) elt te) (hg:∀cl fp s H C,PG (bb X scope cl (vs++F) fp s H C) tg g)
  (hs:∀x,foldedSetIterable iter X.env x=pure x:=by intro _;rfl):PE X (.ListComp elt [⟨tg,iter,ifs,0⟩] scope pos) (zg vs.length g wi ix tt te):=by
 intro pins s σ H Q I h
 obtain⟨cl,hclos,hsub,hcl⟩:=qj (I.rl O)
 rw[eval_ListComp]
 refine wpAny_comprehension_free (use:=none) rfl hs hclos O.kind O.names (dv (hi pins s σ H _ I h) λxv s1 h1=>dv h1 λitv s2 h2=> ?_)
 obtain⟨it,fp,tn,J,H2,e,I2,T,st2,f2,hr⟩:=h2
 subst e
 refine o_ (RR:=λacc C=>compPost (!7) X.A X.xe none (EP X pins σ Q) acc C) I2 O hc hsub hcl T st2 f2 mF helt hg hr ?_
 intro D C s' H' m hm I' hn hC q
 have fp':=I2.pd (H':=H') hC hn
 exact⟨m,hm,λh' hs'=>⟨.ref D,H',I'.turned (t':=s'.toks) (λb o hb e=>(hs'.2 b hb).trans e) hn fp'.2.1 fp'.2.2.2.1 fp'.2.2.2.2.1 fp'.2.2.2.2.2,rfl,q⟩⟩
theorem xn (hN:X.N.Nodup)(hxi:X.N[i]? =some x)(hx:Loc X.env.scope x)(hc:X.calm=true)(O:ci X scope vs F ix)(hi:PI X tg iter wi)
  (mF:∀cl fp s H C,Ck (bb X scope cl (vs++F) fp s H C) ifs tt) (helt:∀cl fp s H C,PE (bb X scope cl (vs++F) fp s H C) elt te) (hg:∀cl fp s H C,PG (bb X scope cl (vs++F) fp s H C) tg g)
  (hsw:swapsWith (.ListComp elt [⟨tg,iter,ifs,0⟩] scope pos) (some (.Name x py)) spos.line X.env=pure true)
  (hs:∀x,foldedSetIterable iter X.env x=pure x:=by intro _;rfl) (hf:X.fn x=true∨X.env.scope.names.lookup x=some .local:=by first | exact .inl rfl | exact .inr rfl | assumption) :
  PS X (.Assign [.Name x py] (.ListComp elt [⟨tg,iter,ifs,0⟩] scope pos) spos) (Im (zg vs.length g wi ix tt te) (kL i)):=by
 intro pins s σ H D I h
 obtain⟨cl,hclos,hsub,hcl⟩:=qj (I.rl O)
 rw[exec_Assign_Name_used _ _ _ _ hsw]
 refine JZ (wpAny_standAt (JZ ?_))
 show wpAny _ X.A (do let _←comprehension (.ListComp elt [⟨tg,iter,ifs,0⟩] scope pos) scope X.env _ (newList []) false (eval iter X.env) (some (assign (.Name x py) X.env))) _ _ s
 refine JZ (wpAny_mono (wpAny_comprehension_free (use:=some (assign (.Name x py) X.env)) (Q:=λ_ s'=>SP X pins D .next s') rfl hs hclos O.kind O.names
  (dv (hi pins s σ H _ I h) λxv s1 h1=>dv h1 λitv s2 h2=> ?_)) (λ_ s' hq=>JW (JW hq)) λ_ _ e=>e)
 obtain⟨it,fp,tn,J,H2,e,I2,T,st2,f2,hr⟩:=h2
 subst e
 refine o_ (RR:=λacc C=>compPost (!7) X.A X.xe (some (assign (.Name x py) X.env)) (λ_ s'=>SP X pins D .next s') acc C) (Q:=λy H1=>kL i y σ H1 D.nx) I2 O hc hsub hcl T st2 f2 mF helt hg hr ?_
 intro L C s' H' m hm I' hn hC q
 have fp':=I2.pd (H':=H') hC hn
 show wpAny _ X.A (assign (.Name x py) X.env (.ref L)) _ _ _
 refine wpAny_assign_Name (sW I' hN hxi hx (v:=.ref L) rfl (λs3 I3 ⟨a,sb,ha⟩=> ?_) hf)
 have Qk:C≠a:=by
  rcases ha with e | e
  ·rw[e];exact fp'.2.1
  ·exact Ne.symm (fp'.2.2.2.2.1 _ _ e)
 refine⟨m,hm.sameBut sb Qk,λh' hs'=>⟨_,H',I3.turned (t':=s3.toks) (λb o hb e=>(hs'.2 b hb).trans e) hn fp'.2.1 fp'.2.2.2.1 fp'.2.2.2.2.1 fp'.2.2.2.2.2,q⟩⟩
end
end L2
namespace Y
open PySem
noncomputable def kX (spl:PyData->Option (List PyData)){α:Type}(f:aX->M α):aX->M α:=λΓ=>match Γ with
 | some (false,d) :: cap=>(match spl d with
  | some ds=>f (ds.map (λd=>some (false,d))++cap)
  | none=>none)
 | _=>none
noncomputable def HC:PyData->Option (List PyData)
 | .tuple [a,b,c]=>some [a,b,c]
 | _=>none
end Y
namespace L2
open PySem PySem.Spec PyProof.Rows Y
section
variable {X:Cx}{K:Frag}{Ew:Str->Hp->Prop}{pos:Pos}{tg:Expr}{scope:Scope}{vs F:List Str}{g:TG}{spl:PyData->Option (List PyData)}{ix:List Nat}{elt iter:Expr}{ifs:List Expr}{it:IF}{ft:TF}{fe:EF}
theorem BM (r:Rep K B φ Γ σ H)(s0:Same H H1)(hD:H1 D=none)(s1:Same H1 H')(hx:ay K (ii D H') ds ys) :
  Rep K (ii D H') (λ_=> []) (ds.map (λd=>some (false,d))++i7 Γ ix) (ys.map some++lY σ ix) H' where
 bs:=jH
 len:=by unfold i7 lY;simp[ap hx]
 sl:=λi o d' e=>by
  have hl:=ap hx
  by_cases hi:i < ds.length
  ·rw[Xu (by rw[K6];exact hi),KU,K3 hi] at e
   cases e
   obtain⟨v,h1,h2⟩:=gP hx (K3 hi)
   exact⟨v,by rw[Xu (by rw[K6,hl];exact hi),KU,h1];rfl,by rw[JV K4];exact h2⟩
  ·have hi:ds.length<=i:=Nat.le_of_not_lt hi
   rw[Xj (by rw[K6];exact hi),K6] at e
   rw[Xj (by rw[K6,hl];exact hi),K6,hl]
   have e':(i7 Γ ix)[i - ds.length]? =some (some (o,d')):=e
   unfold i7 at e'
   rw[KU] at e'
   cases hk:ix[i - ds.length]? with
   | none=>rw[hk] at e';cases e'
   | some k=>
    rw[hk] at e'
    have e2:(Γ[k]?).join.map (λp=>(false,p.2))=some (o,d'):=Option.some.inj e'
    cases hg:Γ[k]? with
    | none=>rw[hg] at e2;cases e2
    | some s=>
     rw[hg] at e2
     cases s with
     | none=>cases e2
     | some p=>
      obtain⟨o',d2⟩:=p
      cases e2
      obtain⟨w,h1,h2⟩:=r.sl k o' d2 hg
      have hw:aM K H d2 w:=by
       cases o' with
       | true=>rw[JQ rfl] at h2;exact IsT.toD _ _ _ h2
       | false=>rw[JV K4] at h2;exact aM.same r.bs _ _ h2
      refine⟨w,?_,?_⟩
      ·unfold lY
       rw[KU,hk,Uk,h1];rfl
      ·rw[JV K4]
       exact aM.same (tz hD s1) _ _ (aM.same s0 _ _ hw)
 nd:=λ_=>X2
 nb:=λ_ a ha=>by cases ha
 dj:=λ_ _ _ a ha=>by cases ha
def DX (K:Frag)(n:Nat)(g:TG)(spl:PyData->Option (List PyData))(ix:List Nat):Prop:=∀(d:PyData) (ds:List PyData) (x:V) (H B:Hp) (σ:St) (Q:St->Hp->Prop),spl d=some ds->Same B H->aM K B d x->
 (∀ys:List V,ys.length=n->ay K B ds ys->Q (ys.map some++lY σ ix) H)->g x (DQ n σ ix) H Q
theorem xo (hgt:DX K n g spl ix)(q:tD K Ew (a7 it ix (kX spl ft) (kX spl fe)) σ H Q):zg n g (tI K Ew it) ix (EX K yP ft) (tD K yP fe) σ H Q:=by
  obtain⟨B,φ,Γ,r,q⟩:=q
  refine⟨B,φ,Γ,r,?_⟩
  replace q:Runs K Ew B φ H (aq (it Γ) λx=>aq (mo (cb (kX spl ft) (kX spl fe) (i7 Γ ix) x.2)) λys=>aq (mo (gO ys)) λk=>if x.2.length<=100000 then ah (k,.list (ys.map Prod.snd)) else none) Q:=q
  match hm:it Γ,q with
  | some (.ok (k0,ds)),q=>
   intro J H1 B1 ψ s0 sB r1 io D hD
   replace q:Runs K Ew B φ H (aq (mo (cb (kX spl ft) (kX spl fe) (i7 Γ ix) ds)) λys=>aq (mo (gO ys)) λk=>if ds.length<=100000 then ah (k,.list (ys.map Prod.snd)) else none) Q:=q
   match hys:cb (kX spl ft) (kX spl fe) (i7 Γ ix) ds,q with
   | none,q=>rcases q with⟨k,d,e,_⟩ | ⟨c,e,_⟩ <;> cases e
   | some ys,q=>
    replace q:Runs K Ew B φ H (aq (mo (gO ys)) λk=>if ds.length<=100000 then ah (k,.list (ys.map Prod.snd)) else none) Q:=q
    match hkk:gO ys,q with
    | none,q=>rcases q with⟨k,d,e,_⟩ | ⟨c,e,_⟩ <;> cases e
    | some kk,q=>
     replace q:Runs K Ew B φ H (if ds.length<=100000 then ah (kk,.list (ys.map Prod.snd)) else none) Q:=q
     have hlen:ds.length<=100000:=Decidable.byContradiction λhn=>by
      rw[JV hn] at q
      rcases q with⟨k,d,e,_⟩ | ⟨c,e,_⟩ <;> cases e
     rw[JQ hlen] at q
     have q:∀v H',Same H H'->VR K B φ H H' kk (.list (ys.map Prod.snd)) v->Q v H':=by
      rcases q with⟨k,d,e,q⟩ | ⟨c,e,_⟩
      ·cases e;exact q
      ·cases e
     obtain⟨hk1,hk2⟩:=CS hkk
     refine⟨λi m zs Hc=>m=ds.length - i/\i<=ds.length/\Same H1 Hc/\Hc D=some (.lst zs)/\zs.length<=i/\∃done rest,cb (kX spl ft) (kX spl fe) (i7 Γ ix) (ds.drop i)=some rest/\ys=done++rest/\
      ay K (ii D Hc) (done.map Prod.snd) zs/\(gO done=some (.fr [])->∃as,aA K (ii D Hc) (done.map Prod.snd) zs as/\as.Nodup/\∀a∈as,H1 a=none),
      ⟨ds.length,by simp,Xw _,Same.upd hD,az,Xw _,[],ys,by simpa using hys,rfl,a8,λ_=>⟨[],jC,X2,λa ha=>by cases ha⟩⟩,?_⟩
     rintro i m zs Hc ⟨rfl,hi2,sc,Lr,QQ,done,rest,hrest,DY,hel,hfr⟩
     refine⟨Lr,?_⟩
     by_cases hlt:i < ds.length
     ·refine .inr ⟨io.go i Hc hlt (r1.bs.trans sc),λx H' hy=> ?_⟩
      obtain⟨s3,d,hd,hitem⟩:=io.yl i Hc x H' hlt (r1.bs.trans sc) hy
      have sc':=sc.trans s3
      have Ou:B1 D=none:=by
       cases e:B1 D with
       | none=>rfl
       | some o=>have:=r1.bs _ _ e;rw[hD] at this;cases this
      have hx:aM K (ii D H') d x:=hitem _ (tz Ou (r1.bs.trans sc')) λa o e1 e2=>by
       rw[i_]
       ·exact e2
       ·rintro rfl;rw[Lr] at e1;cases e1
      have ed:ds.drop i=d :: ds.drop (i+1):=by
       rw[U4 hlt]
       congr 1
       rw[K3 hlt] at hd
       exact Option.some.inj hd
      rw[ed] at hrest
      simp only[cb] at hrest
      obtain⟨Gu,MB⟩:∃Gu,spl d=some Gu:=by
       cases hu:spl d with
       | none=>simp only[kX,hu] at hrest;cases hrest
       | some z=>exact⟨z,rfl⟩
      simp only[kX,MB] at hrest
      refine hgt d Gu x H' (ii D H') σ _ MB jH hx λQl hl0 hy0=> ?_
      have rin:=BM (ix:=ix) r s0 hD sc' hy0
      refine⟨Ql,hl0,rfl,ii D H',λ_=> [],Gu.map (λd=>some (false,d))++i7 Γ ix,rin,?_⟩
      replace hrest:(match ft (Gu.map (λd=>some (false,d))++i7 Γ ix) with
       | some (.ok true)=>(match fe (Gu.map (λd=>some (false,d))++i7 Γ ix) with
        | some (.ok x)=>(cb (kX spl ft) (kX spl fe) (i7 Γ ix) (ds.drop (i+1))).map (x :: ·)
        | _=>none)
       | some (.ok false)=>cb (kX spl ft) (kX spl fe) (i7 Γ ix) (ds.drop (i+1))
       | _=>none)=some rest:=hrest
      match hft:ft (Gu.map (λd=>some (false,d))++i7 Γ ix),hrest with
      | some (.ok true),hrest=>
       refine .inl ⟨true,rfl,λH3 s4=> ?_⟩
       show(if true=true then _ else _)
       rw[JQ rfl]
       refine⟨ii D H',λ_=> [],Gu.map (λd=>some (false,d))++i7 Γ ix,rin.same s4,?_⟩
       match hfe:fe (Gu.map (λd=>some (false,d))++i7 Γ ix),hrest with
       | some (.ok (k,d2)),hrest=>
        refine .inl ⟨k,d2,rfl,λw H4 s5 hv=> ?_⟩
        have Ov:H' D=some (.lst zs):=s3 _ _ Lr
        have Nf:H3 D=some (.lst zs):=s4 _ _ Ov
        have Pa:H4 D=some (.lst zs):=s5 _ _ Nf
        replace hrest:(cb (kX spl ft) (kX spl fe) (i7 Γ ix) (ds.drop (i+1))).map ((k,d2) :: ·)=some rest:=hrest
        cases hr2:cb (kX spl ft) (kX spl fe) (i7 Γ ix) (ds.drop (i+1)) with
        | none=>rw[hr2] at hrest;cases hrest
        | some HD=>
         rw[hr2] at hrest
         have hrr:(k,d2) :: HD=rest:=Option.some.inj hrest
         have hmem:(k,d2)∈ys:=by rw[DY,←hrr];exact Kx _ K7
         have Pb:Same (ii D Hc) (ii D H4):=lF ((s3.trans s4).trans s5)
         have Qm:Same (ii D H') (ii D H4):=lF (s4.trans s5)
         have Pc:∀{as:List Addr},(∀a∈as,H3 a=none)->IsT K H4 d2 w as->IsT K (ii D H4) d2 w as:=λ{as} hn hT=>by
          refine IsT.mv (λa o e n=> ?_) _ _ _ (λa ha o e=> ?_) hT
          ·rw[i_]
           ·exact e
           ·rintro rfl;rw[Pa] at e;cases e;exact n trivial
          ·rw[i_]
           ·exact e
           ·rintro rfl;rw[hn _ ha] at Nf;cases Nf
         have hfresh:∀{l:List Nat},VR K (ii D H') (λ_=> []) H3 H4 (.fr l) d2 w->∃as,IsT K H4 d2 w as/\as.Nodup/\∀a∈as,H3 a=none:=λ{l} ⟨as,h1,h2,h3⟩=>⟨as,h1,h2,λa ha=>by
          rcases h3 a ha with⟨_,_,z⟩ | z
          ·cases z
          ·exact z⟩
         refine⟨Pa,Xv (show zs.length<=100000 by omega) (!8),ds.length - (i+1),by omega,rfl,hlt,(sc'.trans (s4.trans s5)).I0 hD,az,by rw[K2,X4];omega,done++[(k,d2)],HD,hr2,by rw[DY,←hrr,X5];rfl,?_,λhk=> ?_⟩
         ·rw[wI,X0]
          refine dz (ay.same Pb _ _ hel) (aW ?_ a8)
          rcases hk2 _ hmem with e | e
          ·have e':k= .fr []:=e
           subst e'
           obtain⟨as,h1,h2,h3⟩:=hfresh hv
           exact IsT.toD _ _ _ (Pc h3 h1)
          ·have e':k= .base:=e
           subst e'
           exact aM.same Qm _ _ hv
         ·obtain⟨hk3,Qn⟩:=Bj hk
          have e':k= .fr []:=Qn
          subst e'
          obtain⟨as,h1,h2,h3⟩:=hfresh hv
          obtain⟨bs,g1,g2,g3⟩:=hfr hk3
          rw[wI,X0]
          refine⟨bs++as,dD (aA.same Pb _ _ _ g1) ?_,XX.mpr ⟨g2,h2,λa ha b hb e=> ?_⟩,λa ha=> ?_⟩
          ·have:=jD (Pc h3 h1) (jC (K:=K))
           rwa [Xz] at this
          ·subst e
           obtain⟨o,eo,_⟩:=aA.live _ _ _ g1 a ha
           have:=s4 _ _ (s3 _ _ (jH _ _ eo))
           rw[h3 a hb] at this;cases this
          ·rcases Kk.mp ha with ha | ha
           ·exact g3 a ha
           ·exact(sc'.trans s4).free (h3 a ha)
       | some (.ex c),hrest=>cases hrest
       | none,hrest=>cases hrest
      | some (.ok false),hrest=>
       refine .inl ⟨false,rfl,λH3 s4=> ?_⟩
       show(if false=true then _ else _)
       rw[JV K4]
       refine⟨ds.length - (i+1),by omega,rfl,hlt,sc'.trans s4,s4 _ _ (s3 _ _ Lr),by omega,done,rest,hrest,DY,ay.same (lF (s3.trans s4)) _ _ hel,λhk=> ?_⟩
       obtain⟨bs,g1,g2,g3⟩:=hfr hk
       exact⟨bs,aA.same (lF (s3.trans s4)) _ _ _ g1,g2,g3⟩
      | some (.ex c),hrest=>cases hrest
      | none,hrest=>cases hrest
     ·have e:i=ds.length:=by omega
      subst e
      refine .inl ⟨io.stop Hc (r1.bs.trans sc),?_⟩
      rw[List.drop_length] at hrest
      simp only[cb] at hrest
      cases hrest
      rw[Xz] at DY
      subst DY
      refine q _ Hc (s0.trans sc) ?_
      rcases hk1 with e | e
      ·subst e
       obtain⟨bs,g1,g2,g3⟩:=hfr hkk
       refine⟨D :: bs,dQ Lr (aA.same jH _ _ _ g1),KJ.mpr ⟨λz=> ?_,g2⟩,λa ha=> .inr ?_⟩
       ·obtain⟨o,eo,_⟩:=aA.live _ _ _ g1 D z
        rw[jG] at eo;cases eo
       ·rcases K0.mp ha with rfl | ha
        ·exact s0.free hD
        ·exact s0.free (g3 a ha)
      ·subst e
       exact uL (gD.of Lr) (ay.same jH _ _ hel)
  | some (.ex c),q=>
   rcases q with⟨k,d,e,_⟩ | ⟨c',e,q⟩
   ·cases e
   ·cases e;exact q
  | none,q=>rcases q with⟨k,d,e,_⟩ | ⟨c,e,_⟩ <;> cases e
theorem xp (hc:X.calm=true)(O:ci X scope vs F ix)(hgt:DX K vs.length g spl ix)(hg:∀cl fp s H C,PG (bb X scope cl (vs++F) fp s H C) tg g)(hi:DI X K Ew tg iter it)
  (mF:∀cl fp s H C,Ck (bb X scope cl (vs++F) fp s H C) ifs (EX K yP ft)) (helt:∀cl fp s H C,DE (bb X scope cl (vs++F) fp s H C) K yP elt fe)
  (hK:X.K=K:=by rfl) (hs:∀x,foldedSetIterable iter X.env x=pure x:=by intro _;rfl):DE X K Ew (.ListComp elt [⟨tg,iter,ifs,0⟩] scope pos) (a7 it ix (kX spl ft) (kX spl fe)) :=
 (DV hc O hi mF helt hg hs).imp λσ H Q q=>xo hgt q
theorem xq (hN:X.N.Nodup)(hxi:X.N[i]? =some x)(hx:Loc X.env.scope x)(hc:X.calm=true)(O:ci X scope vs F ix)(hgt:DX K vs.length g spl ix)(hg:∀cl fp s H C,PG (bb X scope cl (vs++F) fp s H C) tg g)(hi:DI X K Ew tg iter it)
  (mF:∀cl fp s H C,Ck (bb X scope cl (vs++F) fp s H C) ifs (EX K yP ft)) (helt:∀cl fp s H C,DE (bb X scope cl (vs++F) fp s H C) K yP elt fe)
  (hsw:swapsWith (.ListComp elt [⟨tg,iter,ifs,0⟩] scope pos) (some (.Name x py)) spos.line X.env=pure true)
  (hK:X.K=K:=by rfl) (hs:∀x,foldedSetIterable iter X.env x=pure x:=by intro _;rfl) (hf:X.fn x=true∨X.env.scope.names.lookup x=some .local:=by first | exact .inl rfl | exact .inr rfl | assumption) :
  DS X K Ew (.Assign [.Name x py] (.ListComp elt [⟨tg,iter,ifs,0⟩] scope pos) spos) (aH i (a7 it ix (kX spl ft) (kX spl fe))) :=
 (xn (i:=i) hN hxi hx hc O hi mF helt hg hsw hs hf).imp λD σ H q=>xo hgt (gS (g:=λx Γ=>ah (.nx (jo Γ i x.1 x.2))) q λB φ Γ k d v H1 r a q=>by
  obtain⟨B',φ',s',r'⟩:=j3 r i a
  exact q B' φ' _ H1 s' r')
theorem MC {α:Type}(f:aX->M α)(d:PyData)(cap:aX):kX (λd=>some [d]) f (some (false,d) :: cap)=f (some (false,d) :: cap):=rfl
theorem DZ (cap:aX):∀ds:List PyData,cb (kX (λd=>some [d]) ft) (kX (λd=>some [d]) fe) cap ds=cb ft fe cap ds
 | []=>rfl
 | d :: ds=>by rw[cb,cb,MC,MC,DZ cap ds]
theorem HE:a7 it ix (kX (λd=>some [d]) ft) (kX (λd=>some [d]) fe)=a7 it ix ft fe:=by
 funext Γ
 unfold a7
 simp only[DZ]
theorem Pd:DX K 1 (kL 0) (λd=>some [d]) ix:=λd ds x H B σ Q e s h q=>by
 cases e
 exact q [x] rfl (aW h a8)
theorem Pe (O:ci X scope [v] F ix):∀cl fp s H C,PG (bb X scope cl ([v]++F) fp s H C) (.Name v px) (kL 0):=λcl fp s H C=>
 bp O.nd rfl (.inl (lookup_relabel_local (O.own v (by simp)))) (.inr (lookup_relabel_local (O.own v (by simp))))
theorem dG (hc:X.calm=true)(O:ci X scope [v] F ix)(hi:DI X K Ew (.Name v px) iter it)
  (mF:∀cl fp s H C,Ck (bb X scope cl ([v]++F) fp s H C) ifs (EX K yP ft)) (helt:∀cl fp s H C,DE (bb X scope cl ([v]++F) fp s H C) K yP elt fe)
  (hK:X.K=K:=by rfl) (hs:∀x,foldedSetIterable iter X.env x=pure x:=by intro _;rfl):DE X K Ew (.ListComp elt [⟨.Name v px,iter,ifs,0⟩] scope pos) (a7 it ix ft fe) :=
 HE ▸ xp hc O Pd (Pe O) hi mF helt hK hs
theorem gV (hN:X.N.Nodup)(hxi:X.N[i]? =some x)(hx:Loc X.env.scope x)(hc:X.calm=true)(O:ci X scope [v] F ix)(hi:DI X K Ew (.Name v px) iter it)
  (mF:∀cl fp s H C,Ck (bb X scope cl ([v]++F) fp s H C) ifs (EX K yP ft)) (helt:∀cl fp s H C,DE (bb X scope cl ([v]++F) fp s H C) K yP elt fe)
  (hsw:swapsWith (.ListComp elt [⟨.Name v px,iter,ifs,0⟩] scope pos) (some (.Name x py)) spos.line X.env=pure true)
  (hK:X.K=K:=by rfl) (hs:∀x,foldedSetIterable iter X.env x=pure x:=by intro _;rfl) (hf:X.fn x=true∨X.env.scope.names.lookup x=some .local:=by first | exact .inl rfl | exact .inr rfl | assumption) :
  DS X K Ew (.Assign [.Name x py] (.ListComp elt [⟨.Name v px,iter,ifs,0⟩] scope pos) spos) (aH i (a7 it ix ft fe)) :=
 HE ▸ xq hN hxi hx hc O Pd (Pe O) hi mF helt hsw hK hs hf
theorem Qo:DX K 3 (λv σ H Q=>∃a us,v= .ref a/\ee K H a us/\us.length=3/\wb (kL 0) (wb (kL 1) (wb (kL 2) Il)) us σ H Q) HC ix:=λd ds x H B σ Q e s h q=>by
 unfold HC at e
 split at e
 ·cases e
  obtain⟨ax,us,ex,Qp,hvs⟩:=aJ h
  have hq:=hvs
  simp only[ay] at hvs
  obtain⟨y0,r0,rfl,h1,z0,r1,rfl,h2,w0,r2,rfl,h3,rfl⟩:=hvs
  exact⟨ax,_,ex,s.l6 Qp,rfl,y0,_,rfl,z0,_,rfl,w0,_,rfl,rfl,q [y0,z0,w0] rfl hq⟩
 ·cases e
theorem D0 (hc:X.calm=true)(O:ci X scope [v,v2,v3] F ix)(hi:DI X K Ew (.Tuple [.Name v px,.Name v2 Pf,.Name v3 Pg] kx Ph) iter it)
  (mF:∀cl fp s H C,Ck (bb X scope cl ([v,v2,v3]++F) fp s H C) ifs (EX K yP ft)) (helt:∀cl fp s H C,DE (bb X scope cl ([v,v2,v3]++F) fp s H C) K yP elt fe)
  (hK:X.K=K:=by rfl) (hs:∀x,foldedSetIterable iter X.env x=pure x:=by intro _;rfl):DE X K Ew (.ListComp elt [⟨.Tuple [.Name v px,.Name v2 Pf,.Name v3 Pg] kx Ph,iter,ifs,0⟩] scope pos) (a7 it ix (kX HC ft) (kX HC fe)):=by
 subst hK
 have L:∀u∈[v,v2,v3],(relabel scope X.env).names.lookup u=some .local:=λu hu=>lookup_relabel_local (O.own u hu)
 exact xp hc O Qo (λcl fp s H C=>yt (n:=3) hc (bo (bp (i:=0) O.nd rfl (.inl (L v (by simp))) (.inr (L v (by simp)))) (bo (bp (i:=1) O.nd rfl (.inl (L v2 (by simp))) (.inr (L v2 (by simp)))) (bo (bp (i:=2) O.nd rfl (.inl (L v3 (by simp))) (.inr (L v3 (by simp)))) h9)))) hi mF helt rfl hs
end
end L2
namespace Y
open PySem
def xr:PyData->PyData->Option PyData
 | .tuple [d],.int n=>if br d=true/\(n=2∨n=3∨n=4) then some (.tuple (List.replicate n.toNat d)) else none
 | _,_=>none
end Y
namespace L2
open PySem PySem.Spec PyProof.Rows Y
open AutoSeq1 (wpAny_loadPart')
theorem Gv:fillsNumberSlot (.type "tuple") "mul" =pure false:=PySem.fillsNumberSlot_seq (id:="tuple.__mul__") (r:=some (.builtin "tuple.__rmul__")) F.slot_tuple_mul.lookup (!5) F.slot_tuple_rmul.lookup (!5)
theorem Gw:seqRepeat? (.type "tuple")=pure (some (.builtin "tuple.__mul__")):=by
 unfold seqRepeat?
 rw[PySem.seqSlot_of (T:="tuple") (name:="__mul__") (id:="tuple.__mul__") F.slot_tuple_mul.lookup (!5),PySem.seqSlot_of (T:="tuple") (name:="__rmul__") (id:="tuple.__rmul__") F.slot_tuple_rmul.lookup (!5)];rfl
theorem MD (a:Int)(t:Tok)(l:Addr)(items:Array Value)(n:Nat)(dd:Option Addr)(sl:Array (Option Value)):Meets (Builtin.«int.__rmul__» ⟨[.int a t,.ref l],[]⟩) (λ_ R s=>s.heap.get? l=some {cls:=.type "tuple",dict:=dd,data:=.seq items n,slots:=sl}/\R (.ok (.ret Value.notImplemented)) s) :=
 .of_wp λprog w A R s h=>by
  obtain⟨hp,g,d,tk,os⟩:=s;obtain⟨hl,h⟩:=h;wp_walk using wpAny_loadPart' hl;exact⟨_,rfl,h⟩
theorem ME (hk:k=2∨k=3∨k=4)(l:Addr)(v:Value)(n:Nat)(dd:Option Addr)(sl:Array (Option Value))(u:Tok):Meets (Builtin.«tuple.__mul__» ⟨[.ref l,.int k u],[]⟩) (λ_ R s=>s.heap.get? l=some {cls:=.type "tuple",dict:=dd,data:=.seq #[v] n,slots:=sl}/\R (.ok (.ret (!6))) {s with heap:=s.heap.push {cls:=.type "tuple",data:=.seq (List.replicate k.toNat v).toArray}}) :=
 .of_wp λprog w A R s h=>by
  rcases hk with rfl | rfl | rfl <;> (obtain⟨hp,g,d,tk,os⟩:=s;obtain⟨hl,h⟩:=h;wp_walk using wpAny_loadPart' hl;exact⟨_,rfl,h⟩)
theorem xt {K:Frag}{H:Hp}{d:PyData}{w:V}(h:aM K H d w):∀k,ay K H (List.replicate k d) (List.replicate k w)
 | 0=>a8
 | k+1=>aW h (xt h k)
section
--
theorem D1:i8 X (binaryOp .Mult) xr:=i8.of λpins s σ H x y z u v a b Q I e hx hy ru rv q=>by
 cases x <;> cases y <;> simp only[xr] at e <;> try (cases e;done)
 rename_i xs n
 match xs,e with
 | [],e=>cases e
 | _ :: _ :: _,e=>cases e
 | [d],e=>
  simp only at e
  split at e
  ·rename_i c
   cases e
   have h2:=aE hy
   subst h2
   obtain⟨p,vs,rfl,h1,h3⟩:=aJ hx
   obtain⟨t,rfl⟩:=rv
   cases ru
   obtain⟨w1,rfl,hd⟩:=dF h3
   obtain⟨its,r1,p1,_⟩:=I.tuple h1
   obtain⟨w2,rfl,Qq⟩:=r1.one
   obtain⟨⟨cls,dd,data,sl⟩,ho,hc,n1,hda⟩:=id p1
   simp only at hc hda
   subst hc hda
   refine wpAny_binaryOp_repeat_ref (T:="tuple") (U:="int") (!8) ⟨_,ho,rfl⟩ (λs'=>typeIs_int s' n t) Gv F.fills_int_mul F.slot_int_rmul Gw F.slot_int_index.lookup
    (call_meets F.slot_int_rmul (typeIs_int s n t) F.entry_int_rmul (F.args_int_rmul_2 _ _) (MD n t p _ n1 dd sl) ⟨ho,rfl,⟨_,ho,rfl⟩,?_⟩)
   have hf:=I.fresh
   refine call_meets F.slot_tuple_mul ⟨_,ho,rfl⟩ F.entry_tuple_mul (F.args_tuple_mul_2 _ _) (ME c.2 p w2 n1 dd sl t) ⟨ho,?_⟩
   refine⟨.ref _,_,I.laid (t':=s.toks) (a:=s.heap.objs.size) (o:=.tup (List.replicate n.toNat w1)) (λb u e=>K8 _ e) (K1 _) ⟨?_,List.replicate n.toNat w2,?_,IsTup.new _ _⟩,rfl,
     q _ _ (Same.upd hf) (aU.tup (by rw[aT];intro x hx;rw[List.eq_of_mem_replicate hx];exact c.1) (ee.of az) (ay.same (Same.upd hf) _ _ (xt hd _)))⟩
   ·rcases c.2 with rfl | rfl | rfl <;> (simp;decide)
   ·rcases c.2 with rfl | rfl | rfl <;> simp[List.replicate] <;> (repeat (first | exact .nil | refine .cons Qq ?_))
  ·cases e
end
end L2
namespace Y
open PySem
noncomputable def EZ (W:List Nat)(Γ:aX):aX:=W.foldl (λΓ i=>Γ.set i none) Γ
noncomputable def MF:M Bool->Bool
 | some (.ok false)=>true
 | _=>false
abbrev QF:=aX->Bool
noncomputable def xu (it:IF)(p:Nat)(W:List Nat)(g:QF):QF:=λΓ=>match it Γ with
 | some (.ok (k,ds))=>ds.all λd=>g ((EZ (p :: W) (kG k Γ)).set p (some (false,d)))
 | _=>false
noncomputable def Gy (W:List Nat)(f g:QF):QF:=λΓ=>f Γ && g (EZ W Γ)
def Gz (t:TF):QF:=λΓ=>MF (t Γ)
def sQ (W:List Nat)(f:QF):SF:=λΓ=>if f Γ=true then ah (.nx (EZ W Γ)) else none
theorem AD:∀(W:List Nat) (Γ:aX),(EZ W Γ).length=Γ.length
 | [],_=>rfl
 | i :: W,Γ=>(AD W (Γ.set i none)).trans U9
theorem AE:∀(W:List Nat) (Γ:aX) (i:Nat) (x:Bool×PyData),(EZ W Γ)[i]? =some (some x)->i∉W/\Γ[i]? =some (some x)
 | [],_,i,x,h=>⟨by simp,h⟩
 | j :: W,Γ,i,x,h=>by
  obtain⟨h1,h2⟩:=AE W (Γ.set j none) i x h
  by_cases e:j=i
  ·subst e
   rw[List.getElem?_set] at h2
   simp at h2
  ·rw[Xq e] at h2
   exact⟨by simp[h1,Ne.symm e],h2⟩
end Y
namespace L2
open PySem PySem.Spec PyProof.Rows Y
def Ng (W:List Nat)(σ σ':St):Prop:=σ'.length=σ.length/\∀i,i∉W->σ'[i]? =σ[i]?
def tQ (K:Frag)(W:List Nat)(f:QF):TS:=λD σ H=>∃B φ Γ,Rep K B φ Γ σ H/\f Γ=true/\∀σ' H',Ng W σ σ'->Same H H'->D.nx σ' H'
def QS (X:Cx)(K:Frag)(Ew:Str->Hp->Prop)(s:Stmt)(W:List Nat)(f:QF):Prop:=PS X s (tQ K W f)
def Nh (X:Cx)(K:Frag)(Ew:Str->Hp->Prop)(s:List Stmt)(W:List Nat)(f:QF):Prop:=qf X s (tQ K W f)
section
variable {X:Cx}{K:Frag}{Ew:Str->Hp->Prop}{B H H':Hp}{φ:Nat->List Addr}{Γ:aX}{σ σ':St}{W:List Nat}{pos:Pos}
theorem Rep.EZ (r:Rep K B φ Γ σ H)(a:Ng W σ σ')(s:Same H H'):Rep K B φ (Y.EZ W Γ) σ' H':=by
 have r:=r.same s
 exact⟨r.bs,by rw[AD,a.1,r.len],λi o d e=>by
  obtain⟨h1,h2⟩:=AE _ _ _ _ e
  obtain⟨v,h3,h4⟩:=r.sl i o d h2
  exact⟨v,(a.2 i h1).trans h3,h4⟩,r.nd,r.nb,r.dj⟩
theorem HF (hc:DT X K Ew c t)(ha:Aa X K Ew a fa):QS X K Ew (.If c a [] pos) [] (Gz t):=(Cv hc ha uz).imp λD σ H q=>by
 obtain⟨B,φ,Γ,r,hf,hn⟩:=q
 refine⟨B,φ,Γ,r,.inl ⟨false,?_,λH' s=> ?_⟩⟩
 ·unfold Gz at hf
  match hm:t Γ,hf with
  | some (.ok false),hf=>rfl
 ·show(if false=true then _ else _)
  rw[JV K4]
  exact hn σ H' ⟨rfl,λ_ _=>rfl⟩ s
theorem D2 (h:QS X K Ew s W f):Nh X K Ew [s] W f:=pU h
theorem GA {s:Stmt}{rest:List Stmt}{W2:List Nat}{f g:QF}(h1:QS X K Ew s W f)(h2:Nh X K Ew rest W2 g):Nh X K Ew (s :: rest) (W++W2) (Gy W f g):=(mO h1 h2).imp λD σ H q=>by
 obtain⟨B,φ,Γ,r,hf,hn⟩:=q
 obtain⟨hf,hg⟩:=Bool.and_eq_true_iff.mp hf
 refine⟨B,φ,Γ,r,hf,λσ' H' a s=>⟨B,φ,_,r.EZ a s,hg,λσ2 H2 a2 s2=>hn σ2 H2 ⟨a2.1.trans a.1,λi hi=> ?_⟩ (s.trans s2)⟩⟩
 rw[Kk,not_or] at hi
 exact(a2.2 i hi.2).trans (a.2 i hi.1)
theorem D3 (hp:PassesOwn (!7) X.A X.env X.xe)(hc:X.calm=true)(hi:DI X K Ew (.Name x px) iter it)(hg:PG X (.Name x px) (kL p))(hb:Nh X K Ew body W g)
  (hs:∀x,foldedSetIterable iter X.env x=pure x:=by intro _;rfl):QS X K Ew (.For (.Name x px) iter body [] pos) (p :: W) (xu it p W g):=(uB hp hc hi hg hb hs).imp λD σ H q=>by
 obtain⟨B,φ,Γ,r,hf,hn⟩:=q
 refine⟨B,φ,Γ,r,?_⟩
 unfold xu at hf
 match hm:it Γ,hf with
 | some (.ok (k,ds)),hf=>
  intro J H1 B1 ψ s0 s1 r1 io
  refine⟨λi m σ2 H2=>m=ds.length - i/\i<=ds.length/\Ng (p :: W) σ σ2/\Same H1 H2,⟨ds.length,by simp,Xw _,⟨rfl,λ_ _=>rfl⟩,Same.refl H1⟩,?_⟩
  rintro i m σ2 H2 ⟨rfl,hi2,ag,s2⟩
  by_cases hlt:i < ds.length
  ·refine .inr ⟨io.go i H2 hlt (r1.bs.trans s2),λσ' H'=>Ng (p :: W) σ σ'/\Same H1 H',λσ' H' h'=>⟨ds.length - (i+1),by omega,rfl,hlt,h'⟩,λx H' y=> ?_⟩
   obtain⟨s3,d,e,hd⟩:=io.yl i H2 x H' hlt (r1.bs.trans s2) y
   have r3:=r1.EZ ag (s2.trans s3)
   have yO:aM K (gR ψ H') d x:=hd _ r3.sM λa o e1 e2=>by
    rw[cQ]
    ·exact e2
    ·intro j hj
     obtain⟨o',e',_⟩:=((r1.same s2).nb j a hj).2
     rw[e1] at e';cases e'
   refine⟨_,_,_,r3.cut.Fv p yO,Uv.mp hf d (UY e),λσ' j2 a' s'=>⟨⟨a'.1.trans (U9.trans ag.1),λj hj=> ?_⟩,s2.trans (s3.trans s')⟩⟩
   rw[K0,not_or] at hj
   rw[a'.2 j hj.2,Xq (Ne.symm hj.1)]
   exact ag.2 j (by rw[K0,not_or];exact hj)
  ·have e:i=ds.length:=by omega
   subst e
   exact .inl ⟨io.stop H2 (r1.bs.trans s2),hn σ2 H2 ag (s0.trans s2)⟩
theorem D4 (h:QS X K Ew s W f):DS X K Ew s (sQ W f):=h.imp λD σ H q=>by
 obtain⟨B,φ,Γ,r,q⟩:=q
 unfold sQ at q
 by_cases hf:f Γ=true
 ·rw[JQ hf] at q
  exact⟨B,φ,Γ,r,hf,λσ' H' a s=>q B φ σ' H' (Same.refl B) (r.EZ a s)⟩
 ·rw[JV hf] at q;exact False.elim q
end
theorem Qr {P:List Value->Prop}(h:P [])(us:List Value)(hl:us.length=0):P us:=YX.mp hl ▸ h
theorem Ni {P:List Value->Prop}(h:∀a us,us.length=n->P (a :: us))(us:List Value)(hl:us.length=n+1):P us:=by
 cases us with
 | nil=>cases hl
 | cons a us=>exact h a us (Nat.succ.inj hl)
theorem GB {P:List Value->Prop}(h:∀a,P [a]):∀us:List Value,us.length=1->P us:=Ni λa=>Qr (P:=λl=>P (a :: l)) (h a)
theorem AF {P:List Value->Prop}(h:∀a b,P [a,b]):∀us:List Value,us.length=2->P us:=Ni λa=>GB (P:=λl=>P (a :: l)) (h a)
theorem BN {P:List Value->Prop}(h:∀a b c,P [a,b,c]):∀us:List Value,us.length=3->P us:=Ni λa=>AF (P:=λl=>P (a :: l)) (h a)
theorem Qs {P:List Value->Prop}(h:∀a b c d,P [a,b,c,d]):∀us:List Value,us.length=4->P us:=Ni λa=>BN (P:=λl=>P (a :: l)) (h a)
structure FI where
 n:Str
 s:Stmt
 ps:List Str
structure Fx (K:Frag)(mg:Str->Option Value)(i:FI)(f:Addr)(d:FuncData):Prop where
 F:EW K i.n i.n i.s f d
 m:mg i.n=some (.ref f)
 b:Binds K d i.ps []
def FX (K:Frag)(n:Str)(s:Stmt):Prop:=∃(f:Addr) (oc:Value) (od:Option Addr) (kV dc pm:Value) (an:Option Addr) (cd ct:Value) (sl:Array (Option Value)),
 nsIn K mainGlobals n=some (some (.ref f))/\K.lookup f=some ⟨oc,od,.func (fnOf n n (jX s) (eY s) (aj s) .none kV dc pm an cd ct),sl⟩/\codeIn K cd n=true/\keepIn K (.ref f)=true
theorem FX.mk {K:Frag}{n:Str}{s:Stmt}{f:Addr}{oc:Value}{od:Option Addr}{kV dc pm:Value}{an:Option Addr}{cd ct:Value}{sl:Array (Option Value)}(a:nsIn K mainGlobals n=some (some (.ref f)))
  (l:K.lookup f=some ⟨oc,od,.func (fnOf n n (jX s) (eY s) (aj s) .none kV dc pm an cd ct),sl⟩) (c:codeIn K cd n=true) (k:keepIn K (.ref f)=true):FX K n s:=⟨f,oc,od,kV,dc,pm,an,cd,ct,sl,a,l,c,k⟩
def Ex (K:Frag)(mg:Str->Option Value)(i:FI):Prop:=∃f d,Fx K mg i f d
theorem FX.ex {K:Frag}{mg:Str->Option Value}{h:Heap}{i:FI}(X:K.In h)(G:h.Ns mainGlobals mg)(x:FX K i.n i.s)
  (hb:∀(kV dc pm:Value) (an:Option Addr) (cd ct:Value) (us:List Value),us.length=i.ps.length->bindArgs (fnOf i.n i.n (jX i.s) (eY i.s) (aj i.s) .none kV dc pm an cd ct) ⟨us,[]⟩=pure (i.ps.zip us)):Ex K mg i:=by
 obtain⟨f,oc,od,kV,dc,pm,an,cd,ct,sl,e1,e2,e3,e4⟩:=x
 have F:=IV e2 e3 e4
 exact⟨f,_,F,mg_of X G e1,F.binds hb⟩
theorem Fx.uniq {K:Frag}{mg:Str->Option Value}{i:FI}{f f':Addr}{d d':FuncData}(x:Fx K mg i f d)(y:Fx K mg i f' d'):f=f'/\d=d':=by
 cases x.m.symm.trans y.m
 obtain⟨_,_,_,_,_,_,_,_,_,_,e,_⟩:=x.F.ex
 obtain⟨_,_,_,_,_,_,_,_,_,_,e',_⟩:=y.F.ex
 cases e.symm.trans e'
 exact⟨rfl,rfl⟩
def Gx (P:Program)(w:World)(K:Frag)(mg:Str->Option Value)(base:Heap)(k:Nat)(i:FI)(sp:Sp):Prop:=∃f d,Fx K mg i f d/\jy P w K mg base zW k f d i.ps sp
section
variable {P:Program}{w:World}{K:Frag}{mg:Str->Option Value}{base:Heap}{i:FI}{N:List Str}
theorem l9 (k n m:Nat)(hn:N.length=n)(hm:i.ps.length=m)(x:Ex K mg i)(S:aL N i.ps (aj i.s))
  (hbody:∀(f:Addr) (cdv:Value) (A:Around) (outer:List Env) (s:Shared) (H:Hp) (E:XK),eH k (A.deeper (envOfC i.n (aj i.s) s.heap.objs.size f cdv))->(A.deeper (envOfC i.n (aj i.s) s.heap.objs.size f cdv)).units+80 < cLine->
   Aa (sH zW P w K mg base N i.n (aj i.s) f cdv A outer s H E).Cj K (λ_ _=>False) (eY i.s) fb):Gx P w K mg base (k+1) i (jw K m (cM n fb)):=by
 obtain⟨f,d,x⟩:=x
 exact⟨f,d,x,NY k n m hn hm x.F S λcdv A outer s H E hr=>hbody f cdv A outer s H E hr hr.Ab⟩
end
section
variable {X:Cx}{K:Frag}{Ew:Str->Hp->Prop}{e:Expr}{es:List Expr}{pos:Pos}
theorem aG (G:Gx X.prog X.w X.K X.mg X.base k i (jw K n F))(hr:eH k' X.A)(ha:DA X K Ew (e :: es) Bg)(hk:k<=k':=by decide)(hg:Gl X i.n:=by rfl)
  (hn:Bg.length=n:=by rfl) (hE:∀c H,¬ Ew c H:=by exact λ_ _ h=>h) (hdb:(i.n==("__debug__":Str))=false:=by decide) (he:starEach (e :: es) X.env=(false,eval e X.env) :: starEach es X.env:=by rfl) (hpl:(backTo pos (starEach es X.env)).any (·.1)=false:=by rfl) :
  DE X K Ew (.Call (.Name i.n p) (e :: es) [] pos) (aN F Bg):=by
 obtain⟨f,d,x,g⟩:=G
 exact Fw g (hr.mono hk) hg x.m x.F.kp x.b (E:=E0) Hm ha hn hE hdb he hpl
end
end L2
namespace Y
open PySem
noncomputable def xw:PyData->Option PyData
 | .int n=>if 0<=n/\n<=100000 then some (.tuple ((List.range n.toNat).map λi=> .int (i:Nat))) else none
 | _=>none
end Y
namespace L2
open PySem PySem.Spec PyProof.Rows Y
section
variable {prog:Program}{w:World}{A:Around}{E:Z3}{s:Shared}{r:Addr}{a b c:Int}{t u v:Tok}{n:Nat}
theorem collectRange (hh:A.handled=none)(hr:IsRange s.heap r a b c t u v)(hsmall:Builtin.Range.small a b c=true)(hn:Builtin.Range.rangeSize a b c=n)(hlen:n<=2^24)
  (hQ:∀(h':Heap) (tk:Nat) (acc:Array Value),(∀b o,s.heap.get? b=some o->h'.get? b=some o)->s.heap.objs.size<=h'.objs.size->ItemsOf (λi v=>∃t,v= .int (a+i*c) t) acc n->Q acc.toList {s with heap:=h',toks:=tk}):wpAny (!3) A (collect (.ref r)) Q E s:=by
 unfold collect
 refine JZ (wpAny_runValue (codeAny_builtin F.entry_proto_collect ?_));rw[Around.under_plainId F.plain_proto_collect _]
 show wpAny _ A.in1 (newList [] >>=λl=>again (.builtin "list.__iadd__" ⟨[l,.ref r],[]⟩)) _ _ s
 refine JZ (Z5 ?_);refine JW ⟨plainId_quiet F.plain_list_iadd _,codeAny_builtin F.entry_list_iadd ?_⟩;rw[Around.under_plainId F.plain_list_iadd _]
 show wpAny _ A.in1 (Builtin.List.listExtendWith (!6) (.ref r) (!6)) _ _ _
 have hS:(s.heap.push {cls:=.type "list",data:=.seq ([]:List Value).toArray}).get? s.heap.objs.size=some {cls:=.type "list",data:=.seq #[]}:=Ky _ rfl
 have hr':IsRange (s.heap.push {cls:=.type "list",data:=.seq ([]:List Value).toArray}) r a b c t u v:=K8 _ hr
 refine wpAny_extend_range (A:=A) (R:=wants _ E) (s:={s with heap:=s.heap.push {cls:=.type "list",data:=.seq ([]:List Value).toArray}}) hh hr' hsmall hn hlen s.heap.objs.size (!6) _ hS λh' tk acc c' hk hS' hacc=> ?_
 show wpAny _ A (load s.heap.objs.size >>=_) _ _ _;refine JZ (wpAny_load hS' ?_)
 exact JW (hQ h' tk acc (λb o e=>hk b o (X3 (Kq e)) (K8 _ e)) (Y1 (Kq hS')) hacc)
theorem xx (hh:A.handled=none)(hr:IsRange s.heap r a b c t u v)(hsmall:Builtin.Range.small a b c=true)(hn:Builtin.Range.rangeSize a b c=n)(hlen:n<=2^24)
  (h:∀(h':Heap) (tk:Nat) (acc:Array Value),(∀b o,s.heap.get? b=some o->h'.get? b=some o)->s.heap.objs.size<=h'.objs.size->ItemsOf (λi v=>∃t,v= .int (a+i*c) t) acc n->Q1 (.ref h'.objs.size) {s with heap:=h'.push {cls:=.type "tuple",data:=.seq acc},toks:=tk}) :
  codeAny (!3) A (.call (.builtin "tuple.__new__") ⟨[.type "tuple",.ref r],[]⟩) (wants Q1 E) s:=by
 have hz:n<=sizeLine:=Kz hlen (!8)
 refine codeAny_of_tree ?_
 show wpAny _ A.in1 (do checkBuiltinCall "tuple.__new__" ⟨[.type "tuple",.ref r],[]⟩;again (.builtin "tuple.__new__" ⟨[.type "tuple",.ref r],[]⟩)) _ _ s
 refine JZ (wpAny_of_eq (F.newCall_tuple_1 _) (JW ⟨plainId_quiet F.plain_tuple_new _,codeAny_builtin F.entry_tuple_new ?_⟩))
 rw[Around.under_plainId F.plain_tuple_new _];have hsub:=sub_tuple_self;have hinit:=init_tuple_lookup;have hmh:=madeHere_tuple;have hTI:s.TypeIs (.ref r) "range":=⟨_,hr,rfl⟩
 wp_walk using wpAny_typeOf hTI,collectRange (A:=A.in1) hh hr hsmall hn hlen
 intro h' tk acc hm hz' hacc
 show wpAny _ _ (Builtin.Tuple.tupleExact acc.toList.toArray >>=λv=>ret v) _ _ _;unfold Builtin.Tuple.tupleExact
 refine JZ (Z5 ?_ (by show acc.toList.toArray.size<=sizeLine;(simp only[Array.toArray_toList]);(rw[hacc.1]);exact hz));refine JW ?_
 have e:acc.toList.toArray=acc:=(by simp)
 rw[e];exact h h' tk acc hm hz' hacc
theorem vA (hh:A.handled=none)(hr:IsRange s.heap r a b c t u v)(hsmall:Builtin.Range.small a b c=true)(hn:Builtin.Range.rangeSize a b c=n)(hlen:n<=2^24)
  (hQ:∀(h':Heap) (tk:Nat) (acc:Array Value),(∀b o,s.heap.get? b=some o->h'.get? b=some o)->s.heap.objs.size<=h'.objs.size->ItemsOf (λi v=>∃t,v= .int (a+i*c) t) acc n->Q (.ref h'.objs.size) {s with heap:=h'.push {cls:=.type "tuple",data:=.seq acc},toks:=tk}):wpAny (!3) A (call (.type "tuple") [.ref r]) Q E s:=by
 refine callType_codes (Q₁:=λobj s1=>s1.TypeIs obj "tuple" /\Q obj s1) F.called_tuple (F.typeCall_tuple_1 _) F.entry_object_init (xx (A:=A.in1) hh hr hsmall hn hlen λh' tk acc hm hz' hacc=>⟨⟨_,Ky _ rfl,rfl⟩,hQ h' tk acc hm hz' hacc⟩) λobj s1 q=> ?_
 exact⟨q.1,F.args_object_init_2 obj _,object_init_meets F.called_tuple.init.lookup F.called_tuple.made (!8) prog w A.in1 _ s1 ⟨q.1,rfl,q.2⟩⟩
end
section
variable {X:Cx}{K:Frag}{Ew:Str->Hp->Prop}{a:Expr}{ta:TE}{fa:EF}{p p2 pos pos2:Pos}
def MG (ta:TE):TE:=λσ H Q=>ta σ H λx H1=>∃n:Int,x= .int n/\0<=n/\n<=100000/\∀t,H1 t=none->Q (.ref t) (upd H1 t (.tup ((List.range n.toNat).map λ(i:Nat)=>V.int (i:Int))))
theorem GC (hc:X.calm=true)(hg:Gl X "tuple")(hm:X.mg "tuple" =none)(hg2:Gl X "range")(hm2:X.mg "range" =none)(ha:PE X a ta)
  (hs:starEach [a] X.env=(false,eval a X.env) :: starEach [] X.env:=by rfl) (hpl:(backTo pos2 (starEach [] X.env)).any (·.1)=false:=by rfl)
  (hs2:starEach [.Call (.Name "range" p2) [a] [] pos2] X.env=(false,eval (.Call (.Name "range" p2) [a] [] pos2) X.env) :: starEach [] X.env:=by rfl) (mq:(backTo pos (starEach [] X.env)).any (·.1)=false:=by rfl)
  (hnil:backTo pos (starEach [] X.env)=[]:=by rfl) :
  PE X (.Call (.Name "tuple" p) [.Call (.Name "range" p2) [a] [] pos2] [] pos) (MG ta):=by
 intro pins s σ H Q I h
 refine wpAny_Call_Name_kw (fw I hg hm PyProof.Rows.boot_tuple ?_)
 refine PyProof.Rows.callWith_type1 ?_ hs2 mq
 rw[hs2]
 show wpAny _ _ (spliced ((false,eval (.Call (.Name "range" p2) [a] [] pos2) X.env) :: backTo pos (starEach [] X.env))) _ _ s
 refine Calls.spliced_cons ?_
 refine wpAny_Call_Name_kw (fw I hg2 hm2 boot_range ?_)
 refine PyProof.Rows.callWith_type1 (dv (bv ha cO hs pos2 pins s σ H (λvs H1=>match vs with
  | [x]=>∃n:Int,x= .int n/\0<=n/\n<=100000/\∀t,H1 t=none->Q (.ref t) (upd H1 t (.tup ((List.range n.toNat).map λ(i:Nat)=>V.int (i:Int))))
  | _=>False) I h) λus s1 ⟨vs,H1,I1,r1,q1⟩=> ?_) hs hpl
 match vs,r1,q1 with
 | [x],r1,q1=>
  obtain⟨n,rfl,n0,n1,fin⟩:=q1
  obtain⟨u,rfl,ru⟩:=r1.one
  obtain⟨t,rfl⟩:=ru
  refine call_range_1 ?_
  rw[hnil]
  refine Calls.spliced_nil ?_
  have hh:X.A.handled=none:=I1.ok.hd hc
  have hsz:(s1.heap.push {cls:=.type "range",data:=.fields #[.int 0 s1.toks,.int n t,.int 1 (s1.toks+1)]}).objs.size=s1.heap.objs.size+1:=XJ ..
  refine vA (n:=n.toNat) (by first | exact hh | simpa using hh) (IsRange.new ..) (small_one (!1) (!1) (!1) (!1)) (by rw[rangeSize_one];split <;> omega) (Kz (show n.toNat<=100000 by omega) (!8)) λh' tk acc hk hz' hacc=> ?_
  have hv:=qN hacc
  have hle:s1.heap.objs.size<=h'.objs.size:=Kz (by rw[hsz];exact Y8 _) hz'
  refine⟨.ref _,_,I1.laid (h':=h'.push {cls:=.type "tuple",data:=.seq acc}) (t':=tk) (a:=h'.objs.size) (o:=.tup ((List.range n.toNat).map λ(i:Nat)=>V.int (i:Int))) (λb u e=>K8 _ (hk b u (K8 _ e))) hle ⟨?_,acc.toList,hv,by simpa using IsTup.new _ _⟩,rfl,fin _ (I1.hok.fresh hle)⟩
  rw[K6,KW]
  exact Kz (show n.toNat<=100000 by omega) (!8)
 | [],r1,q1=>exact False.elim q1
 | _ :: _ :: _,r1,q1=>exact False.elim q1
theorem GD (hc:X.calm=true)(hg:Gl X "tuple")(hm:X.mg "tuple" =none)(hg2:Gl X "range")(hm2:X.mg "range" =none)(ha:DE X K Ew a fa)(hK:X.K=K:=by rfl)
  (hs:starEach [a] X.env=(false,eval a X.env) :: starEach [] X.env:=by rfl) (hpl:(backTo pos2 (starEach [] X.env)).any (·.1)=false:=by rfl)
  (hs2:starEach [.Call (.Name "range" p2) [a] [] pos2] X.env=(false,eval (.Call (.Name "range" p2) [a] [] pos2) X.env) :: starEach [] X.env:=by rfl) (mq:(backTo pos (starEach [] X.env)).any (·.1)=false:=by rfl)
  (hnil:backTo pos (starEach [] X.env)=[]:=by rfl) :
  DE X K Ew (.Call (.Name "tuple" p) [.Call (.Name "range" p2) [a] [] pos2] [] pos) (v6 xw fa):=(GC hc hg hm hg2 hm2 ha hs hpl hs2 mq hnil).imp λσ H Q q=>by
 obtain⟨B,φ,Γ,r0,q⟩:=q
 refine⟨B,φ,Γ,r0,(q.bind r0).mono λu H1 s1 ⟨k,x,e1,v1,r1,_,q1⟩=> ?_⟩
 obtain⟨z,e,q⟩:=gE (kf:=λ_=> .fr []) q1
 cases x <;> simp only[xw] at e <;> try (cases e;done)
 split at e
 ·rename_i n hn
  cases e
  have:=aE (v1.toD r1.bs)
  subst this
  refine⟨n,rfl,hn.1,hn.2,λt ht=>q _ _ (s1.trans (Same.upd ht)) (VR.fresh.mpr (aU.tup ?_ (ee.of az) ?_))⟩
  ·exact aO _ (λ_=>rfl) _
  ·have:=lC (K:=K) (H:=upd H1 t (.tup ((List.range n.toNat).map λ(i:Nat)=>V.int (i:Int)))) ((List.range n.toNat).map λ(i:Nat)=>(i:Int))
   rw[KZ,KZ] at this
   exact this
 ·cases e
end
end L2
namespace K52
open PySem Y
def j_:SF :=
 (aH 0 (bR ku (eV 0) (eC (.int 2147483648))))
def ka:SF :=
 (aC (l4 (tE (bR M_ (eV 0) (bR CI (eC (.int 10)) (eC (.int 12)))))
 (aC (aH 0 (bR wc (bR ku (eV 0) (bR CI (eC (.int 10)) (eC (.int 12)))) (eC (.int 1))))
 (aC (bA (eE (bR kF (eV 1) (eC (.int 61)))) (bW 2)
 j_)
 (cy (bR kF (eV 0) (eC (.int 2147483648))))))
 fH)
 (aC (aH 3 (bR kF (bR sK (bR lZ (bR lZ (bR kF (eV 0) (eC (.int 1000003))) (bR sK (bR sK (eV 1) (eV 1)) (eC (.int 7919)))) (eV 1)) (eC (.int 48271))) (eC (.int 2147483629))))
 (aC (aH 3 (bR kF (bR sK (eV 3) (eV 3)) (eC (.int 2147483587))))
 (cy (bR ku (bR kF (bR sK (eV 3) (bR lZ (eV 3) (eC (.int 2)))) (eC (.int 2147483579))) (eC (.int 7)))))))
def gy:FF:=cM 4 ka
def rq:SF :=
 (l4 (tE (bR zX (eV 2) (eV 3)))
 (iI 1 (fM [(eV 2),(eV 3)]))
 fH)
def rA:SF :=
 (bA (eE (eV 0)) (bW 3)
 rq)
def nA:SF :=
 (aC (aH 1 (dh []))
 (aC (bA (eE (eV 0)) (bW 2)
 rA)
 (cy (eV 1))))
def kb:FF:=cM 4 nA
def dS:SF :=
 (aC (l4 (tE (bR yE (bR kF (eV 0) (eC (.int 3))) (eC (.int 0))))
 (iI 2 (eV 3))
 fH)
 (aH 0 (bR ku (eV 0) (eC (.int 3)))))
def iQ:SF :=
 (aC (aH 2 (dh []))
 (aC (bA (i6 (aN kb [(eV 1)])) (bW 3)
 dS)
 (cy (kJ fx [(eV 2)]))))
def dH:FF:=cM 4 iQ
def fU:SF :=
 (aC (l4 (tE (bR Ll (eV 1) (kJ kO [(eV 0)])))
 (cy (kI iH (eV 0) (eV 1)))
 fH)
 (cy (eC (.int 0))))
def bh:FF:=cM 2 fU
def de:SF :=
 (aC (aH 5 (aN gy [(aN bh [(eV 0),(bR lZ (eC (.int 2)) (eV 4))]),(bR lZ (eC (.int 20)) (eV 4))]))
 (aC (aH 6 (aN dH [(eV 5),(eV 1)]))
 (aC (l4 (tE (bR yE (bR kF (bR ku (eV 5) (eC (.int 600000))) (eC (.int 3))) (eC (.int 1))))
 (aH 6 (M7 (eV 6) none (some (eC (.int 1)))))
 fH)
 (l4 (tf (tE (bR g7 (eV 6) (eV 3))) (tE (bR Ll (kJ kO [(eV 3)]) (eV 2))))
 (iI 3 (eV 6))
 fH))))
def kY:SF :=
 (aC (aH 3 (dh []))
 (aC (l4 (tE (bR yE (bR kF (aN bh [(eV 0),(eC (.int 1))]) (eC (.int 2))) (eC (.int 1))))
 (iI 3 (fM []))
 fH)
 (aC (bA (eE (eV 2)) (bW 4)
 de)
 (cy (eV 3)))))
def kZ:FF:=cM 7 kY
def gz:SF :=
 (aC (aH 1 (bR lZ (eC (.int 2)) (bR kF (aN bh [(eV 0),(eC (.int 0))]) (eC (.int 3)))))
 (aC (aH 2 (bR kF (bR ku (aN bh [(eV 0),(eC (.int 0))]) (eC (.int 3))) (kI iH (dh [(eC (.int 5)),(eC (.int 4)),(eC (.int 3))]) (bR wc (eV 1) (eC (.int 2))))))
 (aC (aH 3 (aN kZ [(eV 0),(eV 1),(kI iH (dh [(eC (.int 3)),(eC (.int 3)),(eC (.int 2))]) (bR wc (eV 1) (eC (.int 2))))]))
 (cy (fM [(eV 1),(eV 3),(eV 2)])))))
def bz:FF:=cM 4 gz
def gF:SF :=
 (iI 4 (bR lZ (eV 5) (fM [(eV 6)])))
def df:SF :=
 (bA (i6 (eV 0)) (bW 6)
 gF)
def eQ:SF :=
 (aC (aH 4 (dh []))
 (aC (bA (i6 (eV 2)) (bW 5)
 df)
 (yH 2 4)))
def k6:SF :=
 (aC (aH 2 (dh [(fM [])]))
 (aC (bA (eE (eV 1)) (bW 3)
 eQ)
 (cy (eV 2))))
def gX:FF:=cM 7 k6
def fV:EF :=
 (kI iH (eV 1) (eV 0))
def bC:SF :=
 (l4 (tE (bR Lm (kI iH (eV 2) (eV 7)) (eV 6)))
 (aC (Bd 2 (eV 7) (eV 6))
 (aH 3 (eC (.bool true))))
 fH)
def dI:SF :=
 (aC (aH 6 (kJ tX [(a7 (i6 (eV 5)) [2] bT fV)]))
 (bA (i6 (eV 5)) (bW 7)
 bC))
def dJ:SF :=
 (aC (aH 3 (eC (.bool false)))
 (bA (vf (eV 1)) (jY [4,5])
 dI))
def iR:TF :=
 (tE (eV 3))
def iS:TF :=
 (tE (bR yE (kI iH (eV 2) (eV 0)) (eV 1)))
def iT:EF :=
 (eV 0)
def cH:SF :=
 (l4 (tE (bR yE (kI iH (eV 2) (eV 9)) (eV 9)))
 (iI 8 (a7 (eE (eV 0)) [9,2] iS iT))
 fH)
def kc:SF :=
 (aC (aH 2 (v6 g9 (eV 0)))
 (aC (aH 3 (eC (.bool true)))
 (aC (qm wu iR
 dJ)
 (aC (aH 8 (dh []))
 (aC (bA (eE (eV 0)) (bW 9)
 cH)
 (cy (eV 8)))))))
def il:FF:=cM 10 kc
def cI:SF :=
 (l4 (tf (tE (bR zX (eV 4) (eV 2))) (tE (bR g7 (fM [(eV 4),(eV 2)]) (eV 1))))
 (iI 3 (eV 4))
 fH)
def iU:SF :=
 (aC (aH 3 (dh []))
 (aC (bA (eE (eV 0)) (bW 4)
 cI)
 (cy (kJ fx [(eV 3)]))))
def dL:FF:=cM 5 iU
def gG:EF :=
 (wz (fM [(eV 0),(eC (.int 0))]) (eC (.bool true)))
def gH:SF :=
 (tj 8 (kI iH (eV 3) (eV 9)))
def gI:SF :=
 (aC (aH 8 (kJ pZ [(kI iH (eV 3) (eV 7))]))
 (aC (bA (i6 (aN dL [(eV 2),(eV 5),(eV 7)])) (bW 9)
 gH)
 (aC (tm 8 (fM [(eV 7),(bR lZ (eV 4) (eC (.int 1)))]) (eC (.bool true)))
 (iI 6 (eV 8)))))
def gJ:SF :=
 (aC (aH 6 (dh []))
 (aC (bA (eE (eV 2)) (bW 7)
 gI)
 (yH 3 6)))
def eS:SF :=
 (l4 (tE (bR wy (fM [(eV 7),(eC (.int 0))]) (kI iH (eV 3) (eV 1))))
 (Bd 10 (eV 7) (kI iH (kI iH (eV 0) (eC (.int 0))) (eV 7)))
 fH)
def eT:SF :=
 (l4 (tE (bR wy (fM [(eV 7),(bR lZ (eV 4) (eC (.int 1)))]) (kI iH (eV 3) (eV 1))))
 (Bd 12 (eV 7) (aN dL [(eV 2),(eV 5),(eV 7)]))
 fH)
def gK:SF :=
 (aC (aH 12 (Fl (dh [(eC .none)]) (eV 2)))
 (aC (bA (eE (eV 2)) (bW 7)
 eT)
 (iI 11 (kJ fx [(eV 12)]))))
def k7:SF :=
 (aC (aH 2 (kJ kO [(kI iH (eV 0) (eC (.int 0)))]))
 (aC (aH 3 (a7 (eE (eV 2)) [] bT gG))
 (aC (bA (uK (kI iH (eV 0) (eC (.int 1)))) (jY [4,5])
 gJ)
 (aC (aH 10 (Fl (dh [(eC .none)]) (eV 2)))
 (aC (aH 11 (dh []))
 (aC (bA (eE (eV 2)) (bW 7)
 eS)
 (aC (bA (uK (kI iH (eV 0) (eC (.int 1)))) (jY [4,5])
 gK)
 (cy (fM [(eV 1),(kJ fx [(eV 10)]),(kJ fx [(eV 11)])])))))))))
def dM:FF:=cM 13 k7
def cA:SF :=
 (Bp 2 (fM [(eV 5),(kI iH (aN dM [(fM [(bR xr (fM [(eC (.int 0))]) (eV 0)),(eV 4)]),(eV 5)]) (eC (.int 2)))]) 3)
def bu:SF :=
 (bA (eE (eV 0)) (bW 5)
 cA)
def fX:SF :=
 (aC (aH 2 mS)
 (aC (bA (j8 (eV 1)) (jY [3,4])
 bu)
 (cy (aN il [(kJ kO [(eV 1)]),(eV 2)]))))
def cj:FF:=cM 6 fX
def jc:TF :=
 (tf (tE (bR zX (eV 0) (eV 1))) (tE (bR g7 (fM [(eV 0),(eV 1)]) (eV 2))))
def k8:EF :=
 (eV 0)
def oB:SF :=
 (cy (kJ fx [(a7 (eE (eV 0)) [2,1] jc k8)]))
def lO:FF:=cM 3 oB
def dk:EF :=
 (L3 (tE (bR Fk (eV 0) (eV 1))) (aN lO [(eV 2),(eV 3),(eV 0)]) (eC .none))
def g_:SF :=
 (cy (kJ fx [(a7 (eE (eV 0)) [2,0,1] bT dk)]))
def e7:FF:=cM 3 g_
def dm:SF :=
 (l4 (tE (bR og (eV 3) (eC .none)))
 (yJ 2 (eV 3))
 fH)
def hJ:SF :=
 (aC (aH 2 (kJ oX [(eV 0)]))
 (aC (bA (i6 (eV 1)) (bW 3)
 dm)
 (cy (v6 kQ (eV 2)))))
def e_:FF:=cM 4 hJ
def rB:SF :=
 (aC (aH 7 (aN e7 [(eV 3),(eV 6),(eV 4)]))
 (aC (iI 5 (eV 7))
 (aH 4 (aN e_ [(eV 4),(eV 7)]))))
def nB:EF :=
 (L3 (tE (bR Fk (eV 0) (eV 1))) (kI iH (eV 2) (eV 0)) (eC .none))
def zi:SF :=
 (aC (aH 2 (kI iH (eV 0) (eC (.int 0))))
 (aC (aH 3 (kJ kO [(eV 2)]))
 (aC (aH 4 (dh [(eV 1)]))
 (aC (aH 5 (dh []))
 (aC (bA (CK (kI iH (eV 0) (eC (.int 1)))) (bW 6)
 rB)
 (aC (aH 8 (a7 (eE (eV 3)) [4,2] bT nB))
 (cy (fM [(eV 1),(kJ fx [(eV 8)]),(v6 wv (eV 5))]))))))))
def rC:FF:=cM 9 zi
def kg:EF :=
 (aN rC [(eV 1),(eV 0)])
def mG:SF :=
 (cy (a7 (eE (eV 0)) [1] bT kg))
def kh:FF:=cM 2 mG
def gA:EF :=
 (aN kh [(eV 1),(eV 0)])
def iV:SF :=
 (cy (a7 (i6 (eV 1)) [0] bT gA))
def fY:FF:=cM 2 iV
def jr:SF :=
 (aH 2 (bR sK (eV 2) (kJ kO [(eV 0)])))
def k9:SF :=
 (aC (aH 2 (eC (.int 1)))
 (aC (bA (eE (eV 1)) (bW 3)
 jr)
 (cy (eV 2))))
def gY:FF:=cM 4 k9
def k_:SF :=
 (cy (bR sK (kJ kO [(eV 2)]) (aN gY [(eV 0),(eV 1)])))
def gZ:FF:=cM 3 k_
def mH:SF :=
 (aC (iI 3 (kI iH (eV 0) (bR kF (eV 4) (kJ kO [(eV 0)]))))
 (aH 4 (bR ku (eV 4) (kJ kO [(eV 0)]))))
def rD:SF :=
 (aC (aH 3 (dh []))
 (aC (yH 4 2)
 (aC (bA (eE (eV 1)) (bW 5)
 mH)
 (cy (v6 wv (eV 3))))))
def nC:FF:=cM 6 rD
def rE:SF :=
 (aC (aH 4 (aN gY [(eV 0),(eV 1)]))
 (cy (fM [(kI iH (eV 2) (bR ku (eV 3) (eV 4))),(aN nC [(eV 0),(eV 1),(bR kF (eV 3) (eV 4))])])))
def nD:FF:=cM 5 rE
def im:EF :=
 (aN nD [(eV 1),(eV 2),(eV 3),(eV 0)])
def mI:SF :=
 (aC (aH 3 (aN gZ [(eV 0),(eV 1),(eV 2)]))
 (aC (l4 (tE (bR Lm (eV 3) (eC (.int 3000))))
 CJ
 fH)
 (cy (a7 (eE (eV 3)) [0,1,2] bT im))))
def ki:FF:=cM 4 mI
def ck:EF :=
 (eC (.int 0))
def hU:SF :=
 (aC (aH 3 (kJ fx [(a7 (eE (eV 0)) [] bT ck)]))
 (cy (aN fY [(eV 0),(aN ki [(eV 1),(eV 2),(dh [(eV 3)])])])))
def cW:FF:=cM 4 hU
def fZ:TF :=
 (tE (bR og (kI iH (kI iH (eV 1) (eC (.int 1))) (eV 0)) (eC .none)))
def la:EF :=
 (eV 0)
def dN:SF :=
 (aH 3 (a7 (i6 (eV 3)) [5] fZ la))
def cJ:SF :=
 (bA (i6 (kI iH (eV 1) (eV 4))) (bW 5)
 dN)
def kj:SF :=
 (aC (aH 3 (v6 g9 (eV 0)))
 (aC (bA (i6 (eV 2)) (bW 4)
 cJ)
 (cy (eV 3))))
def kl:FF:=cM 6 kj
def gB:SF :=
 (Bp 1 (eV 4) 2)
def cK:SF :=
 (bA (i6 (eV 3)) (bW 4)
 gB)
def iW:SF :=
 (aC (aH 1 mS)
 (aC (bA (j8 (eV 0)) (jY [2,3])
 cK)
 (cy (eV 1))))
def f6:FF:=cM 5 iW
def cT:EF :=
 (fM [(eV 1),(eV 0)])
def ba:SF :=
 (l4 (tE (bR fO (eV 5) (eV 2)))
 (aC (qo 2 (eV 5) (eC (.bool true)))
 (yJ 3 (a7 (i6 (kI Fo (eV 1) (eV 5))) [4] bT cT)))
 fH)
def cm:SF :=
 (aC (aH 3 (dh []))
 (aC (bA (j8 (eV 0)) (jY [4,5])
 ba)
 fH))
def cn:=runIO 6 3 cm
def bL:SF :=
 (l4 (tE (bR fO (eV 9) (eV 3)))
 (aC (tm 3 (eV 9) (fM [(eV 8),(eV 7)]))
 (iI 6 (eV 9)))
 fH)
def dg:SF :=
 (Ar 4 cn (kI iH (eV 0) (eV 7)) (eV 1) (jY [8,9])
 bL)
def eU:SF :=
 (aC (aH 6 (dh []))
 (aC (bA (i6 (eV 5)) (bW 7)
 dg)
 (yH 5 6)))
def gL:TF :=
 (tE (bR Lm (kJ kO [(eV 5)]) (eC (.int 0))))
def lb:SF :=
 (aC (aH 3 (wz (eV 2) (eC .none)))
 (aC (aH 4 mS)
 (aC (aH 5 (dh [(eV 2)]))
 (aC (qm wu gL
 eU)
 (cy (eV 3))))))
def lf:FF:=cM 10 lb
def bM:SF :=
 (l4 (tE (bR fO (eV 4) (eV 2)))
 (aC (aH 5 (aN lf [(eV 0),(eV 1),(eV 4)]))
 (aC (tj 2 (eV 5))
 (iI 3 (kJ rj [(eV 5)]))))
 fH)
def iX:SF :=
 (aC (aH 1 (aN f6 [(eV 0)]))
 (aC (aH 2 mS)
 (aC (aH 3 (dh []))
 (aC (bA (eE (kJ kO [(eV 0)])) (bW 4)
 bM)
 (cy (eV 3))))))
def f7:FF:=cM 6 iX
def f9:EF :=
 (fM [(eV 0),(eV 2)])
def km:SF :=
 (cy (a7 (i6 (eV 0)) [] (kX HC bT) (kX HC f9)))
def ip:FF:=cM 1 km
def cp:EF :=
 (aN ip [(eV 0)])
def ky:SF :=
 (cy (aN f7 [(a7 (i6 (eV 0)) [] bT cp)]))
def fc:FF:=cM 1 ky
def jd:EF :=
 (aN kl [(eV 1),(eV 2),(eV 0)])
def oC:SF :=
 (aC (aH 3 (aN cW [(eV 0),(eV 1),(eV 2)]))
 (cy (a7 (i6 (aN fc [(eV 3)])) [0,3] bT jd)))
def jO:FF:=cM 4 oC
def bP:TF :=
 (tE (bR og (kI iH (eV 1) (eV 0)) (eC .none)))
def gu:EF :=
 (eV 0)
def bx:SF :=
 (aC (aH 4 (kI iH (aN dM [(fM [(v6 xw (eV 0)),(eV 1)]),(eV 3)]) (eC (.int 1))))
 (aH 2 (a7 (i6 (eV 2)) [4] bP gu)))
def eG:SF :=
 (aC (aH 2 (v6 g9 (eV 0)))
 (aC (bA (eE (eV 0)) (bW 3)
 bx)
 (cy (eV 2))))
def cB:FF:=cM 5 eG
def kn:SF :=
 (cy (IY (wq "int" (eV 0)) (CH (wq "bool" (eV 0)))))
def cq:FF:=cM 1 kn
def p_:TF :=
 (tE (bR Fk (eV 0) (eV 1)))
def AG:EF :=
 (eV 0)
def lQ:SF :=
 (aC (aH 9 (aN cB [(eV 1),(kI iH (eV 4) (eV 8))]))
 (aH 7 (a7 (i6 (eV 7)) [9] p_ AG)))
def ko:SF :=
 (aC (aH 7 (v6 g9 (eV 1)))
 (aC (bA (i6 (eV 6)) (bW 8)
 lQ)
 (iI 5 (eV 7))))
def D5:SF :=
 (aC (Bc (jY [1,2,3]) (aN bz [(eV 0)]))
 (aC (aH 4 (aN gX [(eV 2),(eV 3)]))
 (aC (aH 5 (dh []))
 (aC (bA (i6 (aN cj [(eV 1),(eV 4)])) (bW 6)
 ko)
 (aC (aH 10 (kJ oX [(eV 2)]))
 (aC (aH 11 (aN jO [(eV 1),(eV 10),(eV 3)]))
 (aC (l4 (A9 (kN (tE (wq "list" (eV 11)))) (A9 (tE (bR zX (eV 11) (eV 5))) (tE (bR zX (eV 10) (eV 2)))))
 (cy (eC (.bool false)))
 fH)
 (aC (sQ [6,12] (xu (i6 (eV 11)) 6 [12] (Gy [] (Gz (kN (tE (wq "list" (eV 6))))) (xu (i6 (eV 6)) 12 [] (Gz (kN (tE (aN cq [(eV 12)]))))))))
 (aC (mE 11 (eC (.int 0)) (eC (.int 9)))
 (aC (iI 11 (dh []))
 (cy (bR yE (aN jO [(eV 1),(eV 10),(eV 3)]) (eV 5)))))))))))))
def rF:FF:=cM 13 D5
end K52
namespace K52
open PySem L2 Y
noncomputable def top (i:Nat):Stmt:=PySem.Challenge.pw_losspact_k52_callers.main.body.getD i (.Pass ⟨0,0,0,0⟩)
abbrev jf:FI:=⟨"many_rows",top 5,["things","length"]⟩
theorem iq:aL ["things","length","many","place"] jf.ps (aj jf.s):=(!0)
abbrev nE:FI:=⟨"row_at",top 6,["things","length","number"]⟩
theorem jP:aL ["things","length","number","row","rest","place"] nE.ps (aj nE.s):=(!0)
abbrev jg:FI:=⟨"many_runs",top 7,["road","rounds","starts"]⟩
theorem vB:aL ["road","rounds","starts"] jg.ps (aj jg.s):=(!0)
abbrev nF:FI:=⟨"run_at",top 8,["road","rounds","starts","number"]⟩
theorem t_:aL ["road","rounds","starts","number","many"] nF.ps (aj nF.s):=(!0)
abbrev iY:FI:=⟨"all_runs",top 9,["road","rounds","starts"]⟩
theorem pb:aL ["road","rounds","starts","many"] iY.ps (aj iY.s):=(!0)
abbrev jQ:FI:=⟨"came_to",top 11,["hands","weather","hand"]⟩
theorem zj:aL ["hands","weather","hand"] jQ.ps (aj jQ.s):=(!0)
abbrev rG:FI:=⟨"view",top 12,["run","hand"]⟩
theorem iu:aL ["run","hand","values","hands","heard","came","weather","came_here","seen_values"] rG.ps (aj rG.s):=(!0)
abbrev cX:FI:=⟨"came_to_heard",top 13,["hands","weather","heard"]⟩
theorem oD:aL ["hands","weather","heard"] cX.ps (aj cX.s):=(!0)
abbrev fm:FI:=⟨"heard_earlier",top 14,["heard","came_here"]⟩
theorem gC:aL ["heard","came_here","earlier","starts"] fm.ps (aj fm.s):=(!0)
abbrev dO:FI:=⟨"views_of_all",top 16,["hands","runs"]⟩
theorem pr:aL ["hands","runs"] dO.ps (aj dO.s):=(!0)
abbrev iZ:FI:=⟨"views_in",top 17,["hands","run"]⟩
theorem xy:aL ["hands","run"] iZ.ps (aj iZ.s):=(!0)
abbrev f_:FI:=⟨"runs_by_view",top 18,["seen"]⟩
theorem cY:aL ["seen","sharing","number","views","one_view"] f_.ps (aj f_.s):=(!0)
abbrev gc:FI:=⟨"joined_parts",top 19,["seen"]⟩
theorem b9:aL ["seen","sharing","placed","told","number","ways"] gc.ps (aj gc.s):=(!0)
abbrev jh:FI:=⟨"ways_from",top 20,["seen","sharing","first"]⟩
theorem bK:aL ["seen","sharing","first","ways","walked","wave","further","ahead","hand","number"] jh.ps (aj jh.s):=(!0)
abbrev bD:FI:=⟨"steps_by_new_views",top 21,["views","sharing","walked"]⟩
theorem bQ:aL ["views","sharing","walked","steps","hand","one_view"] bD.ps (aj bD.s):=(!0)
abbrev jR:FI:=⟨"callers",top 23,["hands","road","rounds"]⟩
theorem rH:aL ["hands","road","rounds","seen"] jR.ps (aj jR.s):=(!0)
abbrev cZ:FI:=⟨"views_of_rows",top 24,["hands","road","rounds"]⟩
theorem jS:aL ["hands","road","rounds","start"] cZ.ps (aj cZ.s):=(!0)
abbrev c_:FI:=⟨"parts_by_came",top 25,["seen"]⟩
theorem oF:aL ["seen"] c_.ps (aj c_.s):=(!0)
abbrev gg:FI:=⟨"came_alone",top 26,["views"]⟩
theorem sO:aL ["views"] gg.ps (aj gg.s):=(!0)
abbrev gh:FI:=⟨"callers_of",top 27,["hands","seen","part"]⟩
theorem eX:aL ["hands","seen","part","told","number","one_view"] gh.ps (aj gh.s):=(!0)
abbrev gj:FI:=⟨"_law_cell_at",top 29,["_law_script","_law_k"]⟩
theorem pz:aL ["_law_script","_law_k"] gj.ps (aj gj.s):=(!0)
abbrev kq:FI:=⟨"_law_mix",top 30,["_law_cell","_law_k"]⟩
theorem fG:aL ["_law_cell","_law_k","_law_turn","_law_number"] kq.ps (aj kq.s):=(!0)
abbrev iy:FI:=⟨"_law_whole",top 31,["_law_found"]⟩
theorem sP:aL ["_law_found"] iy.ps (aj iy.s):=(!0)
abbrev iz:FI:=⟨"_law_pairs",top 32,["_law_hands"]⟩
theorem gM:aL ["_law_hands","_law_found","_law_start","_law_goal"] iz.ps (aj iz.s):=(!0)
abbrev gk:FI:=⟨"_law_weather",top 33,["_law_number","_law_hands"]⟩
theorem fq:aL ["_law_number","_law_hands","_law_lost","_law_pair"] gk.ps (aj gk.s):=(!0)
abbrev ji:FI:=⟨"_law_road",top 34,["_law_script","_law_hands","_law_many"]⟩
theorem dU:aL ["_law_script","_law_hands","_law_many","_law_road_here","_law_k","_law_drawn","_law_weather_here"] ji.ps (aj ji.s):=(!0)
abbrev dX:FI:=⟨"_law_road_case",top 35,["_law_script"]⟩
theorem dq:aL ["_law_script","_law_hands","_law_rounds","_law_road_here"] dX.ps (aj dX.s):=(!0)
abbrev jk:FI:=⟨"_law_rows",top 36,["_law_road_here","_law_rounds"]⟩
theorem cU:aL ["_law_road_here","_law_rounds","_law_rows_here","_law_k","_law_longer","_law_row","_law_weather_here"] jk.ps (aj jk.s):=(!0)
abbrev gm:FI:=⟨"_law_senders",top 37,["_law_hands","_law_weather_here","_law_hand"]⟩
theorem hX:aL ["_law_hands","_law_weather_here","_law_hand","_law_found","_law_other"] gm.ps (aj gm.s):=(!0)
abbrev g6:FI:=⟨"_law_view",top 38,["_law_run","_law_hand"]⟩
theorem aQ:aL ["_law_run","_law_hand","_law_hands","_law_known","_law_k","_law_weather_here","_law_after","_law_other","_law_some","_law_start","_law_values","_law_came","_law_row"] g6.ps (aj g6.s):=(!0)
abbrev dY:FI:=⟨"_law_parts",top 39,["_law_many","_law_groups"]⟩
theorem bj:aL ["_law_many","_law_groups","_law_names","_law_busy","_law_seen","_law_group","_law_least","_law_number","_law_found","_law_name"] dY.ps (aj dY.s):=(!0)
abbrev du:FI:=⟨"_law_came_parts",top 40,["_law_hands","_law_rows_here"]⟩
theorem bO:aL ["_law_hands","_law_rows_here","_law_groups","_law_number","_law_row","_law_hand"] du.ps (aj du.s):=(!0)
abbrev bH:FI:=⟨"_law_heard_by_all",top 41,["_law_hands","_law_row"]⟩
theorem bE:aL ["_law_hands","_law_row","_law_found","_law_hand","_law_seen"] bH.ps (aj bH.s):=(!0)
abbrev xA:FI:=⟨"law",top 42,["_law_script"]⟩
theorem fC:aL ["_law_script","_law_hands","_law_road_here","_law_rounds","_law_rows_here","_law_due","_law_part","_law_some","_law_number","_law_heard","_law_handed","_law_found","_law_hand"] xA.ps (aj xA.s):=(!0)
structure Tx (K:Frag)(mg:Str->Option Value)(t:Nat):Prop where
 xB:Ex K mg jf
 D6:Ex K mg nE
 xC:Ex K mg jg
 D7:Ex K mg nF
 zk:Ex K mg iY
 BO:Ex K mg jQ
 Ki:Ex K mg rG
 pA:Ex K mg cX
 pB:Ex K mg fm
 rJ:Ex K mg dO
 zl:Ex K mg iZ
 rK:Ex K mg f_
 rM:Ex K mg gc
 xD:Ex K mg jh
 lg:Ex K mg bD
 BP:Ex K mg jR
 pC:Ex K mg cZ
 pD:Ex K mg c_
 vC:Ex K mg gg
 vD:Ex K mg gh
 rN:Ex K mg gj
 zm:Ex K mg kq
 vE:Ex K mg iy
 vF:Ex K mg iz
 rO:Ex K mg gk
 xE:Ex K mg ji
 oG:Ex K mg dX
 xF:Ex K mg jk
 rP:Ex K mg gm
 xG:Ex K mg g6
 vG:Ex K mg dY
 nG:Ex K mg du
 l_:Ex K mg bH
 HG:Ex K mg xA
 bool:mg "bool" =none
 dict:mg "dict" =none
 enumerate:mg "enumerate" =none
 int:mg "int" =none
 isinstance:mg "isinstance" =none
 len:mg "len" =none
 list:mg "list" =none
 min:mg "min" =none
 range:mg "range" =none
 reversed:mg "reversed" =none
 set:mg "set" =none
 sorted:mg "sorted" =none
 tuple:mg "tuple" =none
 xH:mg "MOST_RUNS" =some (.int 3000 t)
section
variable {mg:Str->Option Value}
seal DS Aa DE DA DT DW DI
theorem xI (T:Tx K mg t):Gx P w K mg base 1 kq (jw K 2 gy):=l9 (fb:=ka) 0 4 2 rfl rfl T.zm fG λ_ _ _ _ _ _ _ hr bm=>
 (af (gT (bq (JO) (ae 0) (bg (Ad) aF aF) (cC _))
 (af (aD (i:=0) fG.nd rfl (!4) (bg (uN) (bg (gQ) (ae 0) (bg (Ad) aF aF)) aF))
 (af (bd PassesOwn.never rfl (dE (by rfl) T.range (bg (dR) (ae 1) aF)) (cx (i:=2) fG.nd rfl (!4))
 (am (aD (i:=0) fG.nd rfl (!4) (bg (gQ) (ae 0) aF))))
 (am (aY (bg (dR) (ae 0) aF)))))
 cc)
 (af (aD (i:=3) fG.nd rfl (!4) (bg (dR) (bg (j4) (bg (ig) (bg (ig) (bg (dR) (ae 0) aF) (bg (j4) (bg (j4) (ae 1) (ae 1)) aF)) (ae 1)) aF) aF))
 (af (aD (i:=3) fG.nd rfl (!4) (bg (dR) (bg (j4) (ae 3) (ae 3)) aF))
 (am (aY (bg (gQ) (bg (dR) (bg (j4) (ae 3) (bg (ig) (ae 3) aF)) aF) aF))))))
theorem sR (T:Tx K mg t):Gx P w K mg base 1 iz (jw K 1 kb):=l9 (fb:=nA) 0 4 1 rfl rfl T.vF gM λ_ _ _ _ _ _ _ hr bm=>
 (af (aD (i:=1) gM.nd rfl (!4) (bN ao))
 (af (bd PassesOwn.never rfl (dE (by rfl) T.range (ae 0)) (cx (i:=2) gM.nd rfl (!4))
 (am (bd PassesOwn.never rfl (dE (by rfl) T.range (ae 0)) (cx (i:=3) gM.nd rfl (!4))
 (am (gT (bq (qt bm) (ae 2) (ae 3) (cC _))
 (am (fz (i:=1) (pv 1) (cv (ab (ae 2) (ab (ae 3) ao ai) ai))))
 cc)))))
 (am (aY (ae 1)))))
theorem pE (T:Tx K mg t):Gx P w K mg base 2 gk (jw K 2 dH):=l9 (fb:=iQ) 1 4 2 rfl rfl T.rO fq λ_ _ _ _ _ _ _ hr bm=>
 (af (aD (i:=2) fq.nd rfl (!4) (bN ao))
 (af (bd PassesOwn.never rfl (iL (aG (sR T) hr (ab (ae 1) ao ai))) (cx (i:=3) fq.nd rfl (!4))
 (af (gT (bq (oj bm) (bg (dR) (ae 0) aF) aF (cC _))
 (am (fz (i:=2) (pv 2) (ae 3)))
 cc)
 (am (aD (i:=0) fq.nd rfl (!4) (bg (gQ) (ae 0) aF)))))
 (am (aY (bY ce (by rfl) T.tuple PyProof.Rows.boot_tuple (ab (ae 2) ao ai))))))
theorem fu (T:Tx K mg t):Gx P w K mg base 1 gj (jw K 2 bh):=l9 (fb:=fU) 0 2 2 rfl rfl T.rN pz λ_ _ _ _ _ _ _ hr bm=>
 (af (gT (bq (CM) (ae 1) (cF cG (by rfl) T.len PySem.boot_len (ab (ae 0) ao ai)) (cC _))
 (am (aY (bU mL (ae 0) (ae 1) (λ_ _=>rfl))))
 cc)
 (am (aY aF)))
theorem vH (T:Tx K mg t):Gx P w K mg base 3 ji (jw K 3 kZ):=l9 (fb:=kY) 2 7 3 rfl rfl T.xE dU λ_ _ _ _ _ _ _ hr bm=>
 (af (aD (i:=3) dU.nd rfl (!4) (bN ao))
 (af (gT (bq (oj bm) (bg (dR) (aG (fu T) hr (ab (ae 0) (ab aF ao fS) ai)) aF) aF (cC _))
 (am (fz (i:=3) (pv 3) (cv ao)))
 cc)
 (af (bd PassesOwn.never rfl (dE (by rfl) T.range (ae 2)) (cx (i:=4) dU.nd rfl (!4))
 (af (aD (i:=5) dU.nd rfl (!4) (aG (xI T) hr (ab (aG (fu T) hr (ab (ae 0) (ab (bg (ig) aF (ae 4)) ao) ai)) (ab (bg (ig) aF (ae 4)) ao))))
 (af (aD (i:=6) dU.nd rfl (!4) (aG (pE T) hr (ab (ae 5) (ab (ae 1) ao ai) ai)))
 (af (gT (bq (oj bm) (bg (dR) (bg (gQ) (ae 5) aF) aF) aF (cC _))
 (am (aD (i:=6) dU.nd rfl (!4) (Ma (ae 6) C1 (C2 aF))))
 cc)
 (am (gT (DW.dt (yM (bq (lD bm) (ae 6) (ae 3) (by rfl)) (uP (bq (CM) (cF cG (by rfl) T.len PySem.boot_len (ab (ae 3) ao ai)) (ae 2) (cC _)))))
 (am (fz (i:=3) (pv 3) (ae 6)))
 cc))))))
 (am (aY (ae 3))))))
theorem nH (T:Tx K mg t):Gx P w K mg base 4 dX (jw K 1 bz):=l9 (fb:=gz) 3 4 1 rfl rfl T.oG dq λ_ _ _ _ _ _ _ hr bm=>
 (af (aD (i:=1) dq.nd rfl (!4) (bg (ig) aF (bg (dR) (aG (fu T) hr (ab (ae 0) (ab aF ao fS) ai)) aF)))
 (af (aD (i:=2) dq.nd rfl (!4) (bg (dR) (bg (gQ) (aG (fu T) hr (ab (ae 0) (ab aF ao fS) ai)) aF) (bU mL (bN (ab aF (ab aF (ab aF ao fS) fS) fS)) (bg (uN) (ae 1) aF) (λ_ _=>rfl))))
 (af (aD (i:=3) dq.nd rfl (!4) (aG (vH T) hr (ab (ae 0) (ab (ae 1) (ab (bU mL (bN (ab aF (ab aF (ab aF ao fS) fS) fS)) (bg (uN) (ae 1) aF) (λ_ _=>rfl)) ao oz) ai) ai)))
 (am (aY (cv (ab (ae 1) (ab (ae 3) (ab (ae 2) ao ai) ai) ai)))))))
theorem vI (T:Tx K mg t):Gx P w K mg base 1 jk (jw K 2 gX):=l9 (fb:=k6) 0 7 2 rfl rfl T.xF cU λ_ _ _ _ _ _ _ hr bm=>
 (af (aD (i:=2) cU.nd rfl (!4) (bN (ab (cv ao) ao zb)))
 (af (bd PassesOwn.never rfl (dE (by rfl) T.range (ae 1)) (cx (i:=3) cU.nd rfl (!4))
 (af (aD (i:=4) cU.nd rfl (!4) (bN ao))
 (af (bd PassesOwn.never rfl (iL (ae 2)) (cx (i:=5) cU.nd rfl (!4))
 (am (bd PassesOwn.never rfl (iL (ae 0)) (cx (i:=6) cU.nd rfl (!4))
 (am (fz (i:=4) (pv 4) (bg (ig) (ae 5) (cv (ab (ae 6) ao ai))))))))
 (am (uQ (i:=2) (j:=4) cU.nd rfl (!4) (pv 4))))))
 (am (aY (ae 2)))))
theorem sS (T:Tx K mg t):Gx P w K mg base 1 dY (jw K 2 il):=l9 (fb:=kc) 0 10 2 rfl rfl T.vG bj λ_ _ _ _ _ _ _ hr bm=>
 (af (aD (i:=2) bj.nd rfl (Or.inr rfl) (ng rfl (by rfl) T.list (by rfl) T.range (ae 0)))
 (af (aD (i:=3) bj.nd rfl (!4) mV)
 (af (wG wu PassesOwn.never (uO (ae 3))
 (af (aD (i:=3) bj.nd rfl (!4) mV)
 (am (bd PassesOwn.never rfl (Dp (ae 1)) (qv (is:=[4,5]) rfl (bo (bp (i:=4) bj.nd rfl (!4)) (bo (bp (i:=5) bj.nd rfl (!4)) h9)))
 (af (aD (i:=6) bj.nd rfl (!4) (cF (yW rfl) (by rfl) T.min PyProof.Rows.boot_min (ab (dG rfl (F:=["_law_names"]) (ix:=[2]) (oK (aj dY.s) (!5)) (iL (ae 5)) (λ_ _ _ _ _=>eZ) (λ_ _ _ _ _=>(bU mL (ae 1) (ae 0) (λ_ _=>rfl)))) ao)))
 (am (bd PassesOwn.never rfl (iL (ae 5)) (cx (i:=7) bj.nd rfl (!4))
 (am (gT (bq (yL) (bU mL (ae 2) (ae 7) (λ_ _=>rfl)) (ae 6) (cC _))
 (af (uW (i:=2) (pv 2) (ae 7) (ae 6))
 (am (aD (i:=3) bj.nd rfl (!4) mV)))
 cc)))))))))
 (af (aD (i:=8) bj.nd rfl (!4) (bN ao))
 (af (bd PassesOwn.never rfl (dE (by rfl) T.range (ae 0)) (cx (i:=9) bj.nd rfl (Or.inr rfl))
 (am (gT (bq (oj bm) (bU mL (ae 2) (ae 9) (λ_ _=>rfl)) (ae 9) (cC _))
 (am (fz (i:=8) (pv 8) (dG rfl (F:=["_law_name","_law_names"]) (ix:=[9,2]) (oK (aj dY.s) (!5)) (dE (by rfl) T.range (ae 0)) (λ_ _ _ _ _=>(mX (bq (oj bm) (bU mL (ae 2) (ae 0) (λ_ _=>rfl)) (ae 1) (cC _)))) (λ_ _ _ _ _=>(ae 0)))))
 cc)))
 (am (aY (ae 8))))))))
theorem kC (T:Tx K mg t):Gx P w K mg base 1 gm (jw K 3 dL):=l9 (fb:=iU) 0 5 3 rfl rfl T.rP hX λ_ _ _ _ _ _ _ hr bm=>
 (af (aD (i:=3) hX.nd rfl (!4) (bN ao))
 (af (bd PassesOwn.never rfl (dE (by rfl) T.range (ae 0)) (cx (i:=4) hX.nd rfl (!4))
 (am (gT (DW.dt (yM (bq (qt bm) (ae 4) (ae 2) (cC _)) (uP (bq (lD bm) (cv (ab (ae 4) (ab (ae 2) ao ai) ai)) (ae 1) (by rfl)))))
 (am (fz (i:=3) (pv 3) (ae 4)))
 cc)))
 (am (aY (bY ce (by rfl) T.tuple PyProof.Rows.boot_tuple (ab (ae 3) ao ai))))))
theorem nJ (T:Tx K mg t):Gx P w K mg base 2 g6 (jw K 2 dM):=l9 (fb:=k7) 1 13 2 rfl rfl T.xG aQ λ_ _ _ _ _ _ _ hr bm=>
 (af (aD (i:=2) aQ.nd rfl (!4) (cF cG (by rfl) T.len PySem.boot_len (ab (bU mL (ae 0) aF (λ_ _=>rfl)) ao oz)))
 (af (gV (i:=3) aQ.nd rfl (!4) rfl (F:=[]) (ix:=[]) (oK (aj g6.s) (!5)) (dE (by rfl) T.range (ae 2)) (λ_ _ _ _ _=>eZ) (λ_ _ _ _ _=>(Aq bm (cv (ab (ae 0) (ab aF ao fS) ai)) mV)) (by rfl))
 (af (bd PassesOwn.never rfl (Aw (by rfl) T.enumerate (bU mL (ae 0) aF (λ_ _=>rfl))) (qv (is:=[4,5]) rfl (bo (bp (i:=4) aQ.nd rfl (!4)) (bo (bp (i:=5) aQ.nd rfl (!4)) h9)))
 (af (aD (i:=6) aQ.nd rfl (!4) (bN ao))
 (af (bd PassesOwn.never rfl (dE (by rfl) T.range (ae 2)) (cx (i:=7) aQ.nd rfl (!4))
 (af (aD (i:=8) aQ.nd rfl (!4) (bY yT (by rfl) T.dict PyProof.Rows.boot_dict (ab (bU mL (ae 3) (ae 7) (λ_ _=>rfl)) ao oz)))
 (af (bd PassesOwn.never rfl (iL (aG (kC T) hr (ab (ae 2) (ab (ae 5) (ab (ae 7) ao ai) ai) ai))) (cx (i:=9) aQ.nd rfl (!4))
 (am (Dc bm (i:=8) (pv 8) (bU mL (ae 3) (ae 9) (λ_ _=>rfl)))))
 (af (Ap bm (i:=8) (pv 8) (cv (ab (ae 7) (ab (bg (ig) (ae 4) aF) ao) ai)) mV)
 (am (fz (i:=6) (pv 6) (ae 8)))))))
 (am (uQ (i:=3) (j:=6) aQ.nd rfl (!4) (pv 6))))))
 (af (aD (i:=10) aQ.nd rfl (!4) (CW (bN (ab kP ao fS)) (ae 2)))
 (af (aD (i:=11) aQ.nd rfl (!4) (bN ao))
 (af (bd PassesOwn.never rfl (dE (by rfl) T.range (ae 2)) (cx (i:=7) aQ.nd rfl (!4))
 (am (gT (bq (An bm) (cv (ab (ae 7) (ab aF ao fS) ai)) (bU mL (ae 3) (ae 1) (λ_ _=>rfl)) (by rfl))
 (am (uW (i:=10) (pv 10) (ae 7) (bU mL (bU mL (ae 0) aF (λ_ _=>rfl)) (ae 7) (λ_ _=>rfl))))
 cc)))
 (af (bd PassesOwn.never rfl (Aw (by rfl) T.enumerate (bU mL (ae 0) aF (λ_ _=>rfl))) (qv (is:=[4,5]) rfl (bo (bp (i:=4) aQ.nd rfl (!4)) (bo (bp (i:=5) aQ.nd rfl (!4)) h9)))
 (af (aD (i:=12) aQ.nd rfl (!4) (CW (bN (ab kP ao fS)) (ae 2)))
 (af (bd PassesOwn.never rfl (dE (by rfl) T.range (ae 2)) (cx (i:=7) aQ.nd rfl (!4))
 (am (gT (bq (An bm) (cv (ab (ae 7) (ab (bg (ig) (ae 4) aF) ao) ai)) (bU mL (ae 3) (ae 1) (λ_ _=>rfl)) (by rfl))
 (am (uW (i:=12) (pv 12) (ae 7) (aG (kC T) hr (ab (ae 2) (ab (ae 5) (ab (ae 7) ao ai) ai) ai))))
 cc)))
 (am (fz (i:=11) (pv 11) (bY ce (by rfl) T.tuple PyProof.Rows.boot_tuple (ab (ae 12) ao ai)))))))
 (am (aY (cv (ab (ae 1) (ab (bY ce (by rfl) T.tuple PyProof.Rows.boot_tuple (ab (ae 10) ao ai)) (ab (bY ce (by rfl) T.tuple PyProof.Rows.boot_tuple (ab (ae 11) ao ai)) ao)) ai)))))))))))
theorem mJ (T:Tx K mg t):Gx P w K mg base 3 du (jw K 2 cj):=l9 (fb:=fX) 2 6 2 rfl rfl T.nG bO λ_ _ _ _ _ _ _ hr bm=>
 (af (aD (i:=2) bO.nd rfl (!4) p7)
 (af (bd PassesOwn.never rfl (qQ (by rfl) T.enumerate (ae 1)) (qv (is:=[3,4]) rfl (bo (bp (i:=3) bO.nd rfl (!4)) (bo (bp (i:=4) bO.nd rfl (!4)) h9)))
 (am (bd PassesOwn.never rfl (dE (by rfl) T.range (ae 0)) (cx (i:=5) bO.nd rfl (!4))
 (am (Hu bm (i:=2) (j:=3) (pv 2) (cv (ab (ae 5) (ab (bU mL (aG (nJ T) hr (ab (cv (ab (bg (D1) (cv (ab aF ao fS)) (ae 0)) (ab (ae 4) ao ai))) (ab (ae 5) ao ai) zb)) aF (λ_ _=>rfl)) ao oz) ai)) (pv 3))))))
 (am (aY (aG (sS T) hr (ab (cF cG (by rfl) T.len PySem.boot_len (ab (ae 1) ao ai)) (ab (ae 2) ao ai)))))))
theorem zn (T:Tx K mg t):Gx P w K mg base 1 jQ (jw K 3 lO):=l9 (fb:=oB) 0 3 3 rfl rfl T.BO zj λ_ _ _ _ _ _ _ hr bm=>
 (am (aY (bY ce (by rfl) T.tuple PyProof.Rows.boot_tuple (ab (dG rfl (F:=["hand","weather"]) (ix:=[2,1]) (oK (aj jQ.s) (!5)) (dE (by rfl) T.range (ae 0)) (λ_ _ _ _ _=>(mX (DW.dt (yM (bq (qt bm) (ae 0) (ae 1) (cC _)) (uP (bq (lD bm) (cv (ab (ae 0) (ab (ae 1) ao ai) ai)) (ae 2) (by rfl))))))) (λ_ _ _ _ _=>(ae 0))) ao))))
theorem oH (T:Tx K mg t):Gx P w K mg base 2 cX (jw K 3 e7):=l9 (fb:=g_) 1 3 3 rfl rfl T.pA oD λ_ _ _ _ _ _ _ hr bm=>
 (am (aY (bY ce (by rfl) T.tuple PyProof.Rows.boot_tuple (ab (dG rfl (F:=["heard","hands","weather"]) (ix:=[2,0,1]) (oK (aj cX.s) (!5)) (dE (by rfl) T.range (ae 0)) (λ_ _ _ _ _=>eZ) (λ_ _ _ _ _=>(Hq (bq (uM bm) (ae 0) (ae 1) (by rfl)) (aG (zn T) hr (ab (ae 2) (ab (ae 3) (ab (ae 0) ao ai) ai) ai)) kP))) ao))))
theorem oJ (T:Tx K mg t):Gx P w K mg base 1 fm (jw K 2 e_):=l9 (fb:=hJ) 0 4 2 rfl rfl T.pB gC λ_ _ _ _ _ _ _ hr bm=>
 (af (aD (i:=2) gC.nd rfl (!4) (bY qw (by rfl) T.list PyProof.Rows.boot_list (ab (ae 0) ao ai)))
 (af (bd PassesOwn.never rfl (iL (ae 1)) (cx (i:=3) gC.nd rfl (!4))
 (am (gT (bq (om) (ae 3) kP (cC _))
 (am (Jf (i:=2) (pv 2) (ae 3)))
 cc)))
 (am (aY (y_ rfl (by rfl) T.sorted (by rfl) T.set (ae 2))))))
theorem GG (T:Tx K mg t):Gx P w K mg base 3 rG (jw K 2 rC):=l9 (fb:=zi) 2 9 2 rfl rfl T.Ki iu λ_ _ _ _ _ _ _ hr bm=>
 (af (aD (i:=2) iu.nd rfl (Or.inr rfl) (bU mL (ae 0) aF (λ_ _=>rfl)))
 (af (aD (i:=3) iu.nd rfl (!4) (cF cG (by rfl) T.len PySem.boot_len (ab (ae 2) ao ai)))
 (af (aD (i:=4) iu.nd rfl (Or.inr rfl) (bN (ab (ae 1) ao ai)))
 (af (aD (i:=5) iu.nd rfl (!4) (bN ao))
 (af (bd PassesOwn.never rfl (Jh rfl (by rfl) T.reversed (bU mL (ae 0) aF (λ_ _=>rfl))) (cx (i:=6) iu.nd rfl (!4))
 (af (aD (i:=7) iu.nd rfl (!4) (aG (oH T) hr (ab (ae 3) (ab (ae 6) (ab (ae 4) ao ai) ai) ai)))
 (af (fz (i:=5) (pv 5) (ae 7))
 (am (aD (i:=4) iu.nd rfl (Or.inr rfl) (aG (oJ T) hr (ab (ae 4) (ab (ae 7) ao ai) ai)))))))
 (af (gV (i:=8) iu.nd rfl (!4) rfl (F:=["heard","values"]) (ix:=[4,2]) (oK (aj rG.s) (!5)) (dE (by rfl) T.range (ae 3)) (λ_ _ _ _ _=>eZ) (λ_ _ _ _ _=>(Hq (bq (uM bm) (ae 0) (ae 1) (by rfl)) (bU mL (ae 2) (ae 0) (λ_ _=>rfl)) kP)) (by rfl))
 (am (aY (cv (ab (ae 1) (ab (bY ce (by rfl) T.tuple PyProof.Rows.boot_tuple (ab (ae 8) ao ai)) (ab (tF rfl (by rfl) T.tuple (by rfl) T.reversed (ae 5)) ao)) ai))))))))))
theorem xJ (T:Tx K mg t):Gx P w K mg base 4 iZ (jw K 2 kh):=l9 (fb:=mG) 3 2 2 rfl rfl T.zl xy λ_ _ _ _ _ _ _ hr bm=>
 (am (aY (dG rfl (F:=["run"]) (ix:=[1]) (oK (aj iZ.s) (!5)) (dE (by rfl) T.range (ae 0)) (λ_ _ _ _ _=>eZ) (λ_ _ _ _ _=>(aG (GG T) hr (ab (ae 1) (ab (ae 0) ao ai) ai))))))
theorem pF (T:Tx K mg t):Gx P w K mg base 5 dO (jw K 2 fY):=l9 (fb:=iV) 4 2 2 rfl rfl T.rJ pr λ_ _ _ _ _ _ _ hr bm=>
 (am (aY (dG rfl (F:=["hands"]) (ix:=[0]) (oK (aj dO.s) (!5)) (iL (ae 1)) (λ_ _ _ _ _=>eZ) (λ_ _ _ _ _=>(aG (xJ T) hr (ab (ae 1) (ab (ae 0) ao ai) ai))))))
theorem nK (T:Tx K mg t):Gx P w K mg base 1 jf (jw K 2 gY):=l9 (fb:=k9) 0 4 2 rfl rfl T.xB iq λ_ _ _ _ _ _ _ hr bm=>
 (af (aD (i:=2) iq.nd rfl (!4) aF)
 (af (bd PassesOwn.never rfl (dE (by rfl) T.range (ae 1)) (cx (i:=3) iq.nd rfl (!4))
 (am (aD (i:=2) iq.nd rfl (!4) (bg (j4) (ae 2) (cF cG (by rfl) T.len PySem.boot_len (ab (ae 0) ao ai))))))
 (am (aY (ae 2)))))
theorem vJ (T:Tx K mg t):Gx P w K mg base 2 jg (jw K 3 gZ):=l9 (fb:=k_) 1 3 3 rfl rfl T.xC vB λ_ _ _ _ _ _ _ hr bm=>
 (am (aY (bg (j4) (cF cG (by rfl) T.len PySem.boot_len (ab (ae 2) ao ai)) (aG (nK T) hr (ab (ae 0) (ab (ae 1) ao ai) ai)))))
theorem BQ (T:Tx K mg t):Gx P w K mg base 1 nE (jw K 3 nC):=l9 (fb:=rD) 0 6 3 rfl rfl T.D6 jP λ_ _ _ _ _ _ _ hr bm=>
 (af (aD (i:=3) jP.nd rfl (!4) (bN ao))
 (af (uQ (i:=4) (j:=2) jP.nd rfl (!4) (pv 2))
 (af (bd PassesOwn.never rfl (dE (by rfl) T.range (ae 1)) (cx (i:=5) jP.nd rfl (!4))
 (af (fz (i:=3) (pv 3) (bU mL (ae 0) (bg (dR) (ae 4) (cF cG (by rfl) T.len PySem.boot_len (ab (ae 0) ao ai))) (λ_ _=>rfl)))
 (am (aD (i:=4) jP.nd rfl (!4) (bg (gQ) (ae 4) (cF cG (by rfl) T.len PySem.boot_len (ab (ae 0) ao ai)))))))
 (am (aY (tF rfl (by rfl) T.tuple (by rfl) T.reversed (ae 3)))))))
theorem BR (T:Tx K mg t):Gx P w K mg base 2 nF (jw K 4 nD):=l9 (fb:=rE) 1 5 4 rfl rfl T.D7 t_ λ_ _ _ _ _ _ _ hr bm=>
 (af (aD (i:=4) t_.nd rfl (!4) (aG (nK T) hr (ab (ae 0) (ab (ae 1) ao ai) ai)))
 (am (aY (cv (ab (bU mL (ae 2) (bg (gQ) (ae 3) (ae 4)) (λ_ _=>rfl)) (ab (aG (BQ T) hr (ab (ae 0) (ab (ae 1) (ab (bg (dR) (ae 3) (ae 4)) ao) ai) ai)) ao) oz)))))
theorem xK (T:Tx K mg t):Gx P w K mg base 3 iY (jw K 3 ki):=l9 (fb:=mI) 2 4 3 rfl rfl T.zk pb λ_ _ _ _ _ _ _ hr bm=>
 (af (aD (i:=3) pb.nd rfl (!4) (aG (vJ T) hr (ab (ae 0) (ab (ae 1) (ab (ae 2) ao ai) ai) ai)))
 (af (gT (bq (yL) (ae 3) (Ft (E6 (v:=.int 3000) (by rfl) T.xH ⟨_,rfl⟩) rfl λ_=>bJ) (cC _))
 (am CZ)
 cc)
 (am (aY (dG rfl (F:=["road","rounds","starts"]) (ix:=[0,1,2]) (oK (aj iY.s) (!5)) (dE (by rfl) T.range (ae 3)) (λ_ _ _ _ _=>eZ) (λ_ _ _ _ _=>(aG (BR T) hr (ab (ae 1) (ab (ae 2) (ab (ae 3) (ab (ae 0) ao ai) ai) ai) ai))))))))
theorem oM (T:Tx K mg t):Gx P w K mg base 6 cZ (jw K 3 cW):=l9 (fb:=hU) 5 4 3 rfl rfl T.pC jS λ_ _ _ _ _ _ _ hr bm=>
 (af (aD (i:=3) jS.nd rfl (!4) (bY ce (by rfl) T.tuple PyProof.Rows.boot_tuple (ab (dG rfl (F:=[]) (ix:=[]) (oK (aj cZ.s) (!5)) (dE (by rfl) T.range (ae 0)) (λ_ _ _ _ _=>eZ) (λ_ _ _ _ _=>aF)) ao)))
 (am (aY (aG (pF T) hr (ab (ae 0) (ab (aG (xK T) hr (ab (ae 1) (ab (ae 2) (ab (bN (ab (ae 3) ao ai)) ao JS) ai) ai)) ao) ai)))))
theorem sT (T:Tx K mg t):Gx P w K mg base 1 gh (jw K 3 kl):=l9 (fb:=kj) 0 6 3 rfl rfl T.vD eX λ_ _ _ _ _ _ _ hr bm=>
 (af (aD (i:=3) eX.nd rfl (!4) (ng rfl (by rfl) T.list (by rfl) T.range (ae 0)))
 (af (bd PassesOwn.never rfl (iL (ae 2)) (cx (i:=4) eX.nd rfl (!4))
 (am (bd PassesOwn.never rfl (iL (bU mL (ae 1) (ae 4) (λ_ _=>rfl))) (cx (i:=5) eX.nd rfl (Or.inr rfl))
 (am (gV (i:=3) eX.nd rfl (!4) rfl (F:=["one_view"]) (ix:=[5]) (oK (aj gh.s) (!5)) (iL (ae 3)) (λ_ _ _ _ _=>(mX (bq (om) (bU mL (bU mL (ae 1) aF (λ_ _=>rfl)) (ae 0) (λ_ _=>rfl)) kP (cC _)))) (λ_ _ _ _ _=>(ae 0)) (by rfl))))))
 (am (aY (ae 3)))))
theorem pG (T:Tx K mg t):Gx P w K mg base 1 f_ (jw K 1 f6):=l9 (fb:=iW) 0 5 1 rfl rfl T.rK cY λ_ _ _ _ _ _ _ hr bm=>
 (af (aD (i:=1) cY.nd rfl (!4) p7)
 (af (bd PassesOwn.never rfl (qQ (by rfl) T.enumerate (ae 0)) (qv (is:=[2,3]) rfl (bo (bp (i:=2) cY.nd rfl (!4)) (bo (bp (i:=3) cY.nd rfl (!4)) h9)))
 (am (bd PassesOwn.never rfl (iL (ae 3)) (cx (i:=4) cY.nd rfl (!4))
 (am (Hu bm (i:=1) (j:=2) (pv 1) (ae 4) (pv 2))))))
 (am (aY (ae 1)))))
theorem kH (T:Tx K mg t):Gx P w K mg base 1 bD (JD K 2 cn):=by
 obtain⟨f,d,x⟩:=T.lg
 refine⟨f,d,x,Of (fb:=cm) 0 6 2 3 rfl rfl x.F bQ (!8) (!8) λcdv A outer s H E aa hr=> ?_⟩
 have bm:=hr.Ab
 exact(w_ (JA (i:=3) bQ.nd rfl (!4) (bN ao))
 (w_ (JB PassesOwn.never rfl (qQ (by rfl) T.enumerate (ae 0)) (Ml (is:=[4,5]) rfl (bo (bp (i:=4) bQ.nd rfl (Or.inr rfl)) (bo (bp (i:=5) bQ.nd rfl (!4)) h9)))
 (As (Mk (bq (mw bm) (ae 5) (ae 2) (by rfl))
 (Df (FP bm (i:=2) (pv 2) (ae 5) mV)
 (As (JC (i:=3) (pv 3) (dG rfl (F:=["hand"]) (ix:=[4]) (oK (aj bD.s) (!5)) (iL (bU (N9 bm) (ae 1) (ae 5) (λ_ _=>rfl))) (λ_ _ _ _ _=>eZ) (λ_ _ _ _ _=>(cv (ab (ae 1) (ab (ae 0) ao ai) ai)))))))
 FO)))
 (Dg (pv 3))))
theorem vK (T:Tx K mg t):Gx P w K mg base 2 jh (jw K 3 lf):=by
 obtain⟨fW,dW,xW,gW⟩:=kH (P:=P) (w:=w) (base:=base) T
 refine l9 (fb:=lb) 1 10 3 rfl rfl T.xD bK λ_ _ _ _ _ _ _ hr bm=> ?_
 exact(af (aD (i:=3) bK.nd rfl (!4) (Aq bm (ae 2) kP))
 (af (aD (i:=4) bK.nd rfl (!4) p7)
 (af (aD (i:=5) bK.nd rfl (!4) (bN (ab (ae 2) ao ai)))
 (af (wG wu PassesOwn.never (bq (yL) (cF cG (by rfl) T.len PySem.boot_len (ab (ae 5) ao ai)) aF (cC _))
 (af (aD (i:=6) bK.nd rfl (!4) (bN ao))
 (af (bd PassesOwn.never rfl (iL (ae 5)) (cx (i:=7) bK.nd rfl (!4))
 (am (FQ (iw:=4) PassesOwn.never rfl gW (hr.mono (!8)) (by rfl) xW.m xW.F.kp xW.b (E:=E0) Hm (bU mL (ae 0) (ae 7) (λ_ _=>rfl)) (ae 1) (pv 4) (qv (is:=[8,9]) rfl (bo (bp (i:=8) bK.nd rfl (!4)) (bo (bp (i:=9) bK.nd rfl (!4)) h9)))
 (am (gT (bq (mw bm) (ae 9) (ae 3) (by rfl))
 (af (Ap bm (i:=3) (pv 3) (ae 9) (cv (ab (ae 8) (ab (ae 7) ao ai) ai)))
 (am (fz (i:=6) (pv 6) (ae 9))))
 cc)))))
 (am (uQ (i:=5) (j:=6) bK.nd rfl (!4) (pv 6))))))
 (am (aY (ae 3)))))))
theorem pH (T:Tx K mg t):Gx P w K mg base 3 gc (jw K 1 f7):=l9 (fb:=iX) 2 6 1 rfl rfl T.rM b9 λ_ _ _ _ _ _ _ hr bm=>
 (af (aD (i:=1) b9.nd rfl (!4) (aG (pG T) hr (ab (ae 0) ao ai)))
 (af (aD (i:=2) b9.nd rfl (!4) p7)
 (af (aD (i:=3) b9.nd rfl (!4) (bN ao))
 (af (bd PassesOwn.never rfl (dE (by rfl) T.range (cF cG (by rfl) T.len PySem.boot_len (ab (ae 0) ao ai))) (cx (i:=4) b9.nd rfl (!4))
 (am (gT (bq (mw bm) (ae 4) (ae 2) (by rfl))
 (af (aD (i:=5) b9.nd rfl (!4) (aG (vK T) hr (ab (ae 0) (ab (ae 1) (ab (ae 4) ao ai) ai) ai)))
 (af (Dc bm (i:=2) (pv 2) (ae 5))
 (am (fz (i:=3) (pv 3) (cF (xm rfl) (by rfl) T.sorted PyProof.Rows.boot_sorted (ab (ae 5) ao ai))))))
 cc)))
 (am (aY (ae 3)))))))
theorem sU (T:Tx K mg t):Gx P w K mg base 1 gg (jw K 1 ip):=l9 (fb:=km) 0 1 1 rfl rfl T.vC sO λ_ _ _ _ _ _ _ hr bm=>
 (am (aY (D0 rfl (F:=[]) (ix:=[]) (oK (aj gg.s) (!5)) (iL (ae 0)) (λ_ _ _ _ _=>eZ) (λ_ _ _ _ _=>(cv (ab (ae 0) (ab (ae 2) ao ai) ai))))))
theorem oN (T:Tx K mg t):Gx P w K mg base 4 c_ (jw K 1 fc):=l9 (fb:=ky) 3 1 1 rfl rfl T.pD oF λ_ _ _ _ _ _ _ hr bm=>
 (am (aY (aG (pH T) hr (ab (dG rfl (F:=[]) (ix:=[]) (oK (aj c_.s) (!5)) (iL (ae 0)) (λ_ _ _ _ _=>eZ) (λ_ _ _ _ _=>(aG (sU T) hr (ab (ae 0) ao ai)))) ao))))
theorem rQ (T:Tx K mg t):Gx P w K mg base 7 jR (jw K 3 jO):=l9 (fb:=oC) 6 4 3 rfl rfl T.BP rH λ_ _ _ _ _ _ _ hr bm=>
 (af (aD (i:=3) rH.nd rfl (Or.inr rfl) (aG (oM T) hr (ab (ae 0) (ab (ae 1) (ab (ae 2) ao ai) ai) ai)))
 (am (aY (dG rfl (F:=["hands","seen"]) (ix:=[0,3]) (oK (aj jR.s) (!5)) (iL (aG (oN T) hr (ab (ae 3) ao ai))) (λ_ _ _ _ _=>eZ) (λ_ _ _ _ _=>(aG (sT T) hr (ab (ae 1) (ab (ae 2) (ab (ae 0) ao ai) ai) ai)))))))
theorem lh (T:Tx K mg t):Gx P w K mg base 3 bH (jw K 2 cB):=l9 (fb:=eG) 2 5 2 rfl rfl T.l_ bE λ_ _ _ _ _ _ _ hr bm=>
 (af (aD (i:=2) bE.nd rfl (!4) (ng rfl (by rfl) T.list (by rfl) T.range (ae 0)))
 (af (bd PassesOwn.never rfl (dE (by rfl) T.range (ae 0)) (cx (i:=3) bE.nd rfl (!4))
 (af (aD (i:=4) bE.nd rfl (Or.inr rfl) (bU mL (aG (nJ T) hr (ab (cv (ab (GD rfl (by rfl) T.tuple (by rfl) T.range (ae 0)) (ab (ae 1) ao ai))) (ab (ae 3) ao ai) zb)) aF (λ_ _=>rfl)))
 (am (gV (i:=2) bE.nd rfl (!4) rfl (F:=["_law_seen"]) (ix:=[4]) (oK (aj bH.s) (!5)) (iL (ae 2)) (λ_ _ _ _ _=>(mX (bq (om) (bU mL (ae 1) (ae 0) (λ_ _=>rfl)) kP (cC _)))) (λ_ _ _ _ _=>(ae 0)) (by rfl)))))
 (am (aY (ae 2)))))
theorem sV (T:Tx K mg t):Gx P w K mg base 1 iy (jw K 1 cq):=l9 (fb:=kn) 0 1 1 rfl rfl T.vE sP λ_ _ _ _ _ _ _ hr bm=>
 (am (aY (Jc (uU (!8) (by rfl) T.isinstance (ae 0) (pT (v:=.ty "int") (by rfl) T.int PyProof.Rows.boot_int rfl)) (Jb (Jd (uU (!8) (by rfl) T.isinstance (ae 0) (pT (v:=.ty "bool") (by rfl) T.bool PyProof.Rows.boot_bool rfl)))))))
theorem Kl (T:Tx K mg t):Gx P w K mg base 8 xA (jw K 1 rF):=l9 (fb:=D5) 7 13 1 rfl rfl T.HG fC λ_ _ _ _ _ _ _ hr bm=>
 (af (Je (aG (nH T) hr (ab (ae 0) ao ai)) (qv (is:=[1,2,3]) rfl (bo (bp (i:=1) fC.nd rfl (!4)) (bo (bp (i:=2) fC.nd rfl (!4)) (bo (bp (i:=3) fC.nd rfl (!4)) h9)))))
 (af (aD (i:=4) fC.nd rfl (!4) (aG (vI T) hr (ab (ae 2) (ab (ae 3) ao ai) ai)))
 (af (aD (i:=5) fC.nd rfl (!4) (bN ao))
 (af (bd PassesOwn.never rfl (iL (aG (mJ T) hr (ab (ae 1) (ab (ae 4) ao ai) ai))) (cx (i:=6) fC.nd rfl (!4))
 (af (aD (i:=7) fC.nd rfl (!4) (ng rfl (by rfl) T.list (by rfl) T.range (ae 1)))
 (af (bd PassesOwn.never rfl (iL (ae 6)) (cx (i:=8) fC.nd rfl (!4))
 (af (aD (i:=9) fC.nd rfl (Or.inr rfl) (aG (lh T) hr (ab (ae 1) (ab (bU mL (ae 4) (ae 8) (λ_ _=>rfl)) ao oz) ai)))
 (am (gV (i:=7) fC.nd rfl (!4) rfl (F:=["_law_heard"]) (ix:=[9]) (oK (aj xA.s) (!5)) (iL (ae 7)) (λ_ _ _ _ _=>(mX (bq (uM bm) (ae 0) (ae 1) (by rfl)))) (λ_ _ _ _ _=>(ae 0)) (by rfl)))))
 (am (fz (i:=5) (pv 5) (ae 7))))))
 (af (aD (i:=10) fC.nd rfl (!4) (bY qw (by rfl) T.list PyProof.Rows.boot_list (ab (ae 2) ao ai)))
 (af (aD (i:=11) fC.nd rfl (!4) (aG (rQ T) hr (ab (ae 1) (ab (ae 10) (ab (ae 3) ao ai) ai) ai)))
 (af (gT (DW.dt (Ho (yN (uO (uU (!8) (by rfl) T.isinstance (ae 11) (pT (v:=.ty "list") (by rfl) T.list PyProof.Rows.boot_list rfl)))) (Ho (bq (qt bm) (ae 11) (ae 5) (cC _)) (Ja (bq (qt bm) (ae 10) (ae 2) (cC _))))))
 (am (aY mV))
 cc)
 (af (D4 (D3 PassesOwn.never rfl (iL (ae 11)) (bp (i:=6) fC.nd rfl (!4))
 (GA (HF (yN (uO (uU (!8) (by rfl) T.isinstance (ae 6) (pT (v:=.ty "list") (by rfl) T.list PyProof.Rows.boot_list rfl))))
 (am (aY mV)))
 (D2 (D3 PassesOwn.never rfl (iL (ae 6)) (bp (i:=12) fC.nd rfl (!4))
 (D2 (HF (yN (uO (aG (sV T) hr (ab (ae 12) ao ai))))
 (am (aY mV)))))))))
 (af (DP (n:=11) (pv 11) aF (λ_ _=>rfl) aF)
 (af (fz (i:=11) (pv 11) (bN ao))
 (am (aY (I_ (oj bm) (aG (rQ T) hr (ab (ae 1) (ab (ae 10) (ab (ae 3) ao ai) ai) ai)) (ae 5) (cC _))))))))))))))
end
theorem all_mk {l:OpenLaw}{K:Frag}{h:Heap}{mg:Str->Option Value}(X:K.In h)(G:h.Ns mainGlobals mg)(hfa:mg "law" =some (.ref fa))
  (xL:FX K "many_rows" (top 5))
  (D8:FX K "row_at" (top 6))
  (xM:FX K "many_runs" (top 7))
  (D9:FX K "run_at" (top 8))
  (zo:FX K "all_runs" (top 9))
  (BS:FX K "came_to" (top 11))
  (Km:FX K "view" (top 12))
  (pI:FX K "came_to_heard" (top 13))
  (pJ:FX K "heard_earlier" (top 14))
  (rR:FX K "views_of_all" (top 16))
  (zp:FX K "views_in" (top 17))
  (rU:FX K "runs_by_view" (top 18))
  (rV:FX K "joined_parts" (top 19))
  (xN:FX K "ways_from" (top 20))
  (li:FX K "steps_by_new_views" (top 21))
  (BU:FX K "callers" (top 23))
  (pK:FX K "views_of_rows" (top 24))
  (pL:FX K "parts_by_came" (top 25))
  (vL:FX K "came_alone" (top 26))
  (vM:FX K "callers_of" (top 27))
  (rW:FX K "_law_cell_at" (top 29))
  (zq:FX K "_law_mix" (top 30))
  (vN:FX K "_law_whole" (top 31))
  (vO:FX K "_law_pairs" (top 32))
  (rY:FX K "_law_weather" (top 33))
  (xO:FX K "_law_road" (top 34))
  (oO:FX K "_law_road_case" (top 35))
  (xP:FX K "_law_rows" (top 36))
  (rZ:FX K "_law_senders" (top 37))
  (xQ:FX K "_law_view" (top 38))
  (vP:FX K "_law_parts" (top 39))
  (nL:FX K "_law_came_parts" (top 40))
  (md:FX K "_law_heard_by_all" (top 41))
  (MJ:FX K "law" (top 42))
  (Kn:nsIn K mainGlobals "bool" =some none)
  (Ko:nsIn K mainGlobals "dict" =some none)
  (xR:nsIn K mainGlobals "enumerate" =some none)
  (MK:nsIn K mainGlobals "int" =some none)
  (vQ:nsIn K mainGlobals "isinstance" =some none)
  (ML:nsIn K mainGlobals "len" =some none)
  (Kp:nsIn K mainGlobals "list" =some none)
  (MM:nsIn K mainGlobals "min" =some none)
  (GH:nsIn K mainGlobals "range" =some none)
  (zr:nsIn K mainGlobals "reversed" =some none)
  (MN:nsIn K mainGlobals "set" =some none)
  (D_:nsIn K mainGlobals "sorted" =some none)
  (GJ:nsIn K mainGlobals "tuple" =some none)
  (xS:nsIn K mainGlobals "MOST_RUNS" =some (some (.int 3000 t)))
  :∃fd:FuncData,(∀(s:Shared) (v:Value),BindsTo s fd ⟨[v],[]⟩ [("_law_script",v)])/\∀base:Heap,K.In base->base.Ns mainGlobals mg->jy l.prog w K mg base zW 8 fa fd ["_law_script"] (jw K 1 rF):=by
 have T:Tx K mg t:=⟨FX.ex X G xL λ_ _ _ _ _ _=>AF λ_ _=>rfl,FX.ex X G D8 λ_ _ _ _ _ _=>BN λ_ _ _=>rfl,FX.ex X G xM λ_ _ _ _ _ _=>BN λ_ _ _=>rfl,FX.ex X G D9 λ_ _ _ _ _ _=>Qs λ_ _ _ _=>rfl,FX.ex X G zo λ_ _ _ _ _ _=>BN λ_ _ _=>rfl,FX.ex X G BS λ_ _ _ _ _ _=>BN λ_ _ _=>rfl,FX.ex X G Km λ_ _ _ _ _ _=>AF λ_ _=>rfl,FX.ex X G pI λ_ _ _ _ _ _=>BN λ_ _ _=>rfl,FX.ex X G pJ λ_ _ _ _ _ _=>AF λ_ _=>rfl,FX.ex X G rR λ_ _ _ _ _ _=>AF λ_ _=>rfl,FX.ex X G zp λ_ _ _ _ _ _=>AF λ_ _=>rfl,FX.ex X G rU λ_ _ _ _ _ _=>GB λ_=>rfl,FX.ex X G rV λ_ _ _ _ _ _=>GB λ_=>rfl,FX.ex X G xN λ_ _ _ _ _ _=>BN λ_ _ _=>rfl,FX.ex X G li λ_ _ _ _ _ _=>BN λ_ _ _=>rfl,FX.ex X G BU λ_ _ _ _ _ _=>BN λ_ _ _=>rfl,FX.ex X G pK λ_ _ _ _ _ _=>BN λ_ _ _=>rfl,FX.ex X G pL λ_ _ _ _ _ _=>GB λ_=>rfl,FX.ex X G vL λ_ _ _ _ _ _=>GB λ_=>rfl,FX.ex X G vM λ_ _ _ _ _ _=>BN λ_ _ _=>rfl,FX.ex X G rW λ_ _ _ _ _ _=>AF λ_ _=>rfl,FX.ex X G zq λ_ _ _ _ _ _=>AF λ_ _=>rfl,FX.ex X G vN λ_ _ _ _ _ _=>GB λ_=>rfl,FX.ex X G vO λ_ _ _ _ _ _=>GB λ_=>rfl,FX.ex X G rY λ_ _ _ _ _ _=>AF λ_ _=>rfl,FX.ex X G xO λ_ _ _ _ _ _=>BN λ_ _ _=>rfl,FX.ex X G oO λ_ _ _ _ _ _=>GB λ_=>rfl,FX.ex X G xP λ_ _ _ _ _ _=>AF λ_ _=>rfl,FX.ex X G rZ λ_ _ _ _ _ _=>BN λ_ _ _=>rfl,FX.ex X G xQ λ_ _ _ _ _ _=>AF λ_ _=>rfl,FX.ex X G vP λ_ _ _ _ _ _=>AF λ_ _=>rfl,FX.ex X G nL λ_ _ _ _ _ _=>AF λ_ _=>rfl,FX.ex X G md λ_ _ _ _ _ _=>AF λ_ _=>rfl,FX.ex X G MJ λ_ _ _ _ _ _=>GB λ_=>rfl,PySem.W.mg_none_of X G Kn,PySem.W.mg_none_of X G Ko,PySem.W.mg_none_of X G xR,PySem.W.mg_none_of X G MK,PySem.W.mg_none_of X G vQ,PySem.W.mg_none_of X G ML,PySem.W.mg_none_of X G Kp,PySem.W.mg_none_of X G MM,PySem.W.mg_none_of X G GH,PySem.W.mg_none_of X G zr,PySem.W.mg_none_of X G MN,PySem.W.mg_none_of X G D_,PySem.W.mg_none_of X G GJ,mg_of X G xS⟩
 obtain⟨f,d,x⟩:=T.HG
 cases hfa.symm.trans x.m
 refine⟨d,?_,λbase _ _=> ?_⟩
 ·obtain⟨_,_,kV,dc,pm,an,cd,ct,_,rfl,_⟩:=x.F.ex
  exact λs v=> .of_eq rfl
 ·obtain⟨f,d,y,g⟩:=Kl (P:=l.prog) (w:=w) (base:=base) T
  obtain⟨rfl,rfl⟩:=x.uniq y
  exact g
theorem walk (MO:∀ns:List Int,ns.length<=63->∃o,rF [.list (ns.map PyData.int)]=some (.ok (o,.bool true))){l:OpenLaw}{XP:(Str->Option Value)->Heap->Prop}{YP:World->Heap->Prop}{d:DefRec}{K:Params->Frag}(hn:l.most=some 63)(hdf:d.params.defaults=[])
  (hY:∀(w:World) (h:Heap),YP w h->(K w.params).In h)
  (F:∀(w:World) (mg:Str->Option Value) (fa:Addr) (h:Heap),(K w.params).In h->h.Ns mainGlobals mg->mg d.name=some (.ref fa)->
   ∃fd:FuncData,(∀(s:Shared) (u:Value),BindsTo s fd ⟨[u],[]⟩ [("_law_script",u)])/\∀base:Heap,(K w.params).In base->base.Ns mainGlobals mg->jy l.prog w (K w.params) mg base zW 8 fa fd ["_law_script"] (jw (K w.params) 1 rF)) :
  PySem.W.WalkO q loose XP YP l.row.toRowW d [] (λf vs=>PySem.call f vs) :=
 L2.Fh (n:=63) (k:=8) (x:="_law_script") (CX:=λ_=>zW) (sp:=λw=>jw (K w.params) 1 rF) hn (!8) hdf ⟨rfl,by decide,by decide⟩ hY F (λ_ _ a ns hl _ hS=>C0 hS (MO ns hl)) λ_ _ _ _ _ z=>z
end K52
namespace K52
open PySem Y
def aI {a b:Prop}(x:a)(y:b):=And.intro x y
def rn:=aI @cM.eq_1<|aI @cD.eq_1<|aI @aC.eq_1<|aI @l4.eq_1<|aI @cy.eq_1<|aI @fH.eq_1<|aI @NV.eq_1<|aI @aH.eq_1<|aI @Bc.eq_1<|aI @yH.eq_1<|aI @bA.eq_1<|aI @iI.eq_1<|aI @yJ.eq_1<|aI @Bd.eq_1<|aI @bR.eq_1<|aI @v6.eq_1<|aI @eV.eq_1<|aI @eC.eq_1<|aI @kI.eq_1<|aI @L3.eq_1<|aI @IX.eq_1<|aI @IY.eq_1<|aI @CH.eq_1<|aI @eArgs.eq_1<|aI @eArgs.eq_2<|aI @fM.eq_1<|aI @dh.eq_1<|aI @kJ.eq_1<|aI @aN.eq_1<|aI @wq.eq_1<|aI @qk.eq_1<|aI @qk.eq_2<|aI @qk.eq_3<|aI @qk.eq_4<|aI @qk.eq_5<|aI @qk.eq_6<|aI @qk.eq_7<|aI @Fl.eq_1<|aI @tE.eq_1<|aI @tf.eq_1<|aI @A9.eq_1<|aI @kN.eq_1<|aI @bT.eq_1<|aI @oh.eq_1<|aI @oh.eq_2<|aI @bV.eq_1<|aI @bV.eq_2<|aI @bV.eq_3<|aI @jo.eq_1<|aI @jo.eq_2<|aI @jo.eq_3<|aI @jo.eq_4<|aI @kG.eq_1<|aI @kG.eq_2<|aI @kG.eq_3<|aI @kG.eq_4<|aI @bW.eq_1<|aI @i6.eq_1<|aI @eE.eq_1<|aI @itemsOf.eq_1<|aI @itemsOf.eq_2<|aI @itemsOf.eq_3<|aI @i7.eq_1<|aI @au<|aI @bw<|aI @F6<|aI @F7<|aI @F8<|aI @BK<|aI @DF<|aI @DH<|aI @Gb<|aI @Dx<|aI @Dy<|aI @Dz<|aI @BJ<|aI @DB<|aI @DC<|aI @DD<|aI @F9<|aI @F_<|aI @Ga<|aI @mz<|aI @i9.eq_1<|aI @i9.eq_2<|aI @DJ<|aI @p8<|aI @JR<|aI @F2<|aI @F3<|aI @F4<|aI @F5<|aI @lN<|aI @JP<|aI @F1<|aI @F0<|aI @nj<|aI @cz<|aI @List.map_cons.{0,0}<|aI @List.map_nil.{0,0}<|aI @List.cons_append.{0}<|aI @List.nil_append.{0}<|aI @List.getElem?_cons_zero.{0}<|aI @List.getElem?_cons_succ.{0}<|aI @List.length_cons.{0}<|aI @List.length_nil.{0}<|aI @List.length_map.{0,0}<|aI @List.length_range<|aI @List.set_cons_zero.{0}<|aI @List.set_cons_succ.{0}<|aI @List.replicate_succ.{0}<|aI @List.replicate_zero.{0}<|aI @if_true.{0}<|aI @if_false.{0}<|aI @Bool.false_eq_true<|aI @Bool.not_true<|aI @Bool.not_false<|aI @decide_true<|aI @decide_false<|aI @ite_true.{0}<|aI @ite_false.{0}<|aI @Option.map_some.{0,0}<|aI @Option.join_some.{0}<|aI @beq_self_eq_true.{0}<|aI @eq_self.{0}<|aI @Bool.or_false<|aI @Bool.false_or<|aI @Bool.or_true<|@Bool.true_or
abbrev tL (x:List Z2):Option (Bool×Z2):=some (true,.list x)
abbrev tI (x:Int):Option (Bool×Z2):=some (true,.int x)
abbrev tN (x:Nat):Option (Bool×Z2):=some (true,.int (x:Int))
abbrev tT (x:List Z2):Option (Bool×Z2):=some (true,.tuple x)
abbrev tD (x:List (Z2×Z2)):Option (Bool×Z2):=some (true,.dict x)
abbrev tB (x:Bool):Option (Bool×Z2):=some (true,.bool x)
abbrev tA (x:Z2):Option (Bool×Z2):=some (true,x)
abbrev fL (x:List Z2):Option (Bool×Z2):=some (false,.list x)
abbrev fI (x:Int):Option (Bool×Z2):=some (false,.int x)
abbrev fN (x:Nat):Option (Bool×Z2):=some (false,.int (x:Int))
abbrev fT (x:List Z2):Option (Bool×Z2):=some (false,.tuple x)
abbrev fD (x:List (Z2×Z2)):Option (Bool×Z2):=some (false,.dict x)
abbrev fA (x:Z2):Option (Bool×Z2):=some (false,x)
noncomputable def nat (o:Nat):Z2:=.int (o:Int)
abbrev Qt:=(Nat->List Nat)×(Nat->List Nat)
def bX (h:Nat)(W:List Z2)(k:Nat):List Nat:=(!2).filter λo=> !((o:Int)==(k:Int)) && !cV W (.tuple [.int (o:Int),.int (k:Int)])
theorem GK (h k:Nat)(W:List Z2)(hh:h<=4)(hW:lays 60 W=true):lO [.int (h:Int),.tuple W,.int (k:Int)]=ah (true,.tuple ((bX h W k).map nat)):=by
 have hp:∀o:Nat,lay 60 (.tuple [.int (o:Int),.int (k:Int)])=true:=λ_=>rfl
 have hc:=vt (ft:=jc) (fe:=k8) (cap:=[fN k,fT W]) ((!2).map λ(i:Nat)=>PyData.int (i:Int))
  (λd=>match d with | .int o=> !(o==(k:Int)) && !cV W (.tuple [.int o,.int (k:Int)]) | _=>false) (λd=>(Kd.fr [],d)) (λd hd=>by
   obtain⟨o,_,rfl⟩:=Kv.mp hd
   have e:=qX (hp o) hW
   have n2:ar [PyData.int (o:Int),.int (k:Int)]=true:=rfl
   cases hb:(((o:Nat):Int)==(k:Int)) with
   | true=>simp(disch:=omega) only[jc,rn,reduceIte,hb,J9]
   | false=>simp(disch:=omega) only[jc,rn,reduceIte,hb,e,aw n2,J4]) (λd hd _=>by
   obtain⟨o,_,rfl⟩:=Kv.mp hd
   simp(disch:=omega) only[k8,rn,reduceIte])
 have e1:((((!2).map λ(i:Nat)=>PyData.int (i:Int)).filter λd=>match d with | .int o=> !(o==(k:Int)) && !cV W (.tuple [.int o,.int (k:Int)]) | _=>false))=(bX h W k).map nat:=by
  rw[List.filter_map];rfl
 rw[e1] at hc
 have k1:=cS ((bX h W k).map nat) id
 simp only[id] at k1
 have m1:(((bX h W k).map nat).map λd=>(Kd.fr [],d)).map Prod.snd=(bX h W k).map nat:=by rw[KZ];exact List.map_id _
 have hl:h<=100000:=by omega
 have nW:ar ((bX h W k).map nat)=true:=aO _ (λ_=>rfl) _
 generalize (bX h W k).map nat=L at*
 simp(disch:=omega) only[lO,oB,a7,rn,reduceIte,Ku,hc,k1,m1,hl,cg nW,aw nW]
theorem r_ (h k:Nat)(W:List Z2)(hh:h<=4)(hW:lays 60 W=true):dL [.int (h:Int),.tuple W,.int (k:Int)]=ah (true,.tuple ((bX h W k).map nat)):=by
 have hp:∀o:Nat,lay 60 (.tuple [.int (o:Int),.int (k:Int)])=true:=λ_=>rfl
 obtain⟨Γ',h1,c4,h2⟩:=bt (g:=bW 4) (b:=cI) (ds:=(!2).map λ(i:Nat)=>PyData.int (i:Int)) (Γ:=[fN h,fT W,fN k,tL [],none])
  (λi Γ=>∃c4:Option (Bool×Z2),Γ=[fN h,fT W,fN k,tL ((bX i W k).map nat),c4]) ⟨none,rfl⟩ (by
  rintro i d Γ hd ⟨c4,rfl⟩
  obtain⟨rfl,hi⟩:=bZ hd
  refine⟨_,[fN h,fT W,fN k,tL ((bX (i+1) W k).map nat),tN i],rfl,.inl ?_,_,rfl⟩
  have e:=qX (hp i) hW
  have n2:ar [PyData.int (i:Int),.int (k:Int)]=true:=rfl
  have hsz:(bX i W k).length < sizeLine:=Xv (Kz (Xk _ _) (by rw[KW];omega:_<=4)) (!8)
  have es:bX (i+1) W k=bX i W k++(if (!((i:Int)==(k:Int)) && !cV W (.tuple [.int (i:Int),.int (k:Int)]))=true then [i] else []):=by
   unfold bX;rw[Yk,List.filter_append,Y4,Jv]
  rw[es]
  cases hb:(((i:Nat):Int)==(k:Int)) with
  | true=>simp(disch:=omega) only[cI,rn,reduceIte,hb,J9,Xz]
  | false=>
   cases ha:cV W (.tuple [.int (i:Int),.int (k:Int)]) with
   | true=>simp(disch:=omega) only[cI,rn,reduceIte,hb,e,ha,aw n2,J4,Xz]
   | false=>simp(disch:=omega) only[cI,rn,reduceIte,hb,e,ha,aw n2,J4,hsz,X0,nat])
 rw[K6,KW] at h2
 have nW:ar ((bX h W k).map nat)=true:=aO _ (λ_=>rfl) _
 simp(disch:=omega) only[dL,iU,rn,reduceIte,Ku,h1,h2,cg nW,aw nW]
theorem mK (H:List Nat)(k:Nat):cV (H.map nat) (.int (k:Int))=decide (k∈H):=by
 have e:H.map nat=(H.map λ(o:Nat)=>(o:Int)).map PyData.int:=by rw[KZ];rfl
 rw[e,za]
 congr 1
 rw[Kv,eq_iff_iff]
 exact⟨λ⟨o,ho,h⟩=>(show o=k by omega) ▸ ho,λh=>⟨k,h,rfl⟩⟩
def cw (h:Nat)(W:List Z2)(H:List Nat)(k:Nat):Z2:=if k∈H then .tuple ((bX h W k).map nat) else .none
theorem kr (h:Nat)(W:List Z2)(H:List Nat)(k:Nat):br (cw h W H k)=true:=by
 unfold cw;split
 ·exact aO _ (λ_=>rfl) _
 ·rfl
theorem Ea (h:Nat)(W:List Z2)(H:List Nat)(hh:h<=4)(hW:lays 60 W=true) :
  e7 [.int (h:Int),.tuple W,.list (H.map nat)]=ah (true,.tuple ((!2).map (cw h W H))):=by
 have hc:=jL (fe:=dk) (cap:=[fL (H.map nat),fN h,fT W]) ((!2).map λ(i:Nat)=>PyData.int (i:Int))
  (λd=>match d with | .int k=>(.fr [],cw h W H k.toNat) | _=>(.fr [],.none)) (λd hd=>by
   obtain⟨k,_,rfl⟩:=Kv.mp hd
   have e:=qW (x:=.int (k:Int)) (ys:=H.map nat) rfl (jA _ (λ_=>rfl) _)
   rw[mK] at e
   have c:=GK h k W hh hW
   have nW:ar ((bX h W k).map nat)=true:=aO _ (λ_=>rfl) _
   by_cases hb:k∈H
   ·simp(disch:=omega) only[dk,rn,reduceIte,e,hb,c,aw nW,Ku,cw]
   ·simp(disch:=omega) only[dk,rn,reduceIte,e,hb,Ku,cw])
 rw[KZ] at hc
 have e1:(((!2).map λ(i:Nat)=>PyData.int (i:Int)).map λd=>match d with | .int k=>(Kd.fr [],cw h W H k.toNat) | _=>(Kd.fr [],PyData.none))=(!2).map λk=>(Kd.fr [],cw h W H k):=by
  rw[KZ];refine UK λk _=> ?_;simp only[Function.comp,Ku]
 rw[KZ] at e1
 rw[e1] at hc
 have k1:=cS (!2) (cw h W H)
 have m1:((!2).map λk=>(Kd.fr [],cw h W H k)).map Prod.snd=(!2).map (cw h W H):=by rw[KZ];rfl
 have hl:h<=100000:=by omega
 have nW:ar ((!2).map (cw h W H))=true:=aO _ (kr h W H) _
 simp(disch:=omega) only[e7,g_,a7,rn,reduceIte,Ku,hc,k1,m1,hl,cg nW,aw nW]
def kt (h:Nat)(W:List Z2)(H:List Nat)(i:Nat):List Nat:=H++((List.range i).filter λk=>decide (k∈H)).flatMap (bX h W)
def jl (h:Nat)(W:List Z2)(H:List Nat):List Nat:=[0,1,2,3].filter λk=>decide (k∈kt h W H h)
theorem zt (E:List Nat):wM (E.map nat)=([0,1,2,3].filter λk=>decide (k∈E)).map nat:=by
 unfold wM
 show List.map nat _=_
 congr 1
 refine List.filter_congr λk _=> ?_
 rw[List.any_map,YK,List.any_eq_true,JJ]
 constructor
 ·rintro⟨y,hy,hk⟩
  have hk2:((y:Nat):Int)=(k:Int):=by simpa [Mb,nat] using hk
  have:y=k:=by omega
  exact this ▸ hy
 ·intro h;exact⟨k,h,by simp[Mb,nat]⟩
theorem nM (ho:o∈bX h W k):o < h:=Xy.mp (XQ.mp ho).1
theorem zu (h:Nat)(W:List Z2)(H:List Nat)(hh:h<=4)(hH:∀k∈H,k < h)(hl:H.length<=4) :
  e_ [.list (H.map nat),.tuple ((!2).map (cw h W H))]=ah (true,.list ((jl h W H).map nat)):=by
 have MP:∀k,(bX h W k).length<=4:=λk=>Kz (Xk _ _) (by rw[KW];exact hh)
 have Ow:∀i,i<=h->(kt h W H i).length<=4+4*i:=by
  intro i
  induction i with
  | zero=>intro _;simp[kt];omega
  | succ i ih=>
   intro hi
   have:=ih (!1)
   have s:=MP i
   unfold kt at this⊢
   rw[Yk,List.filter_append,List.flatMap_append,←X5,K2]
   by_cases hm:i∈H
   ·simp only[Y4,hm,decide_true,if_true,Jv,List.flatMap_cons,Jk,Xz];omega
   ·simp only[Y4,hm,decide_false,XZ,if_false,Jv,Jk,UQ];omega
 obtain⟨Γ',h1,c3,h2⟩:=bt (g:=bW 3) (b:=dm) (ds:=(!2).map (cw h W H)) (Γ:=[fL (H.map nat),fT ((!2).map (cw h W H)),tL (H.map nat),none])
  (λi Γ=>∃c3:Option (Bool×Z2),Γ=[fL (H.map nat),fT ((!2).map (cw h W H)),tL ((kt h W H i).map nat),c3]) ⟨none,by simp[kt]⟩ (by
  rintro i d Γ hd ⟨c3,rfl⟩
  have hi:i < h:=by have:=(X1.mp hd).1;simpa using this
  rw[KU,UZ hi] at hd
  have hd':cw h W H i=d:=Option.some.inj hd
  subst hd'
  refine⟨_,[fL (H.map nat),fT ((!2).map (cw h W H)),tL ((kt h W H (i+1)).map nat),tA (cw h W H i)],by rw[cf (kr h W H i)];rfl,.inl ?_,_,rfl⟩
  have f1:=Ow i (!1)
  have s1:=MP i
  have nW:ar ((bX h W i).map nat)=true:=aO _ (λ_=>rfl) _
  have hsz:(kt h W H i).length+(bX h W i).length<=sizeLine:=Kz (show _<=100 by omega) (!8)
  have es:kt h W H (i+1)=kt h W H i++(if i∈H then bX h W i else []):=by
   unfold kt
   rw[Yk,List.filter_append,List.flatMap_append,←X5]
   by_cases hm:i∈H
   ·simp only[Y4,hm,decide_true,if_true,Jv,List.flatMap_cons,Jk,Xz]
   ·simp only[Y4,hm,decide_false,XZ,if_false,Jv,Jk]
  rw[es]
  by_cases hm:i∈H
  ·simp(disch:=omega) only[dm,rn,i9,oh,bV,reduceIte,cw,hm,aw nW,yI,nW,hsz,X0,and_self]
  ·simp(disch:=omega) only[dm,rn,i9,oh,bV,reduceIte,cw,hm,Xz])
 rw[K6,KW] at h2
 have hlt:∀k∈kt h W H h,k < 4:=λk hk=>by
  unfold kt at hk
  rcases Kk.mp hk with hk | hk
  ·have:=hH k hk;omega
  ·obtain⟨j,_,hj⟩:=Y5.mp hk
   have:=nM hj;omega
 have hin:((kt h W H h).map nat).all in4=true:=by
  rw[List.all_map,Uv]
  intro k hk
  have:=hlt k hk
  simp only[Function.comp,nat,in4,X7,JJ]
  omega
 have hs:kQ (.list ((kt h W H h).map nat))=some (.list ((jl h W H).map nat)):=by
  simp only[kQ,hin,if_true,zt,jl]
 have n1:ar (H.map nat)=true:=aO _ (λ_=>rfl) _
 have n2:ar ((!2).map (cw h W H))=true:=aO _ (kr h W H) _
 simp(disch:=omega) only[e_,hJ,rn,i9,oh,bV,reduceIte,qY n1,aw n2,h1,h2,hs]
noncomputable def hs (h:Nat):List (List Z2)->List Nat->List Nat
 | [],H=>H
 | W :: R,H=>hs h R (jl h W H)
noncomputable def rows (h:Nat):List (List Z2)->List Nat->List Z2
 | [],_=> []
 | W :: R,H=> .tuple ((!2).map (cw h W H)) :: rows h R (jl h W H)
theorem AH (h:Nat)(W:List Z2):∀(R:List (List Z2)) (H:List Nat),hs h (R++[W]) H=jl h W (hs h R H)
 | [],H=>rfl
 | V :: R,H=>by rw[U5,hs,hs,AH h W R]
theorem ua (h:Nat)(W:List Z2):∀(R:List (List Z2)) (H:List Nat),rows h (R++[W]) H=rows h R H++[.tuple ((!2).map (cw h W (hs h R H)))]
 | [],H=>rfl
 | V :: R,H=>by rw[U5,rows,rows,ua h W R,hs,U5]
theorem xT (hH:∀k∈H,k < h):∀k∈jl h W H,k < h:=λk hk=>by
 have hk':k∈kt h W H h:=by simpa using (XQ.mp hk).2
 unfold kt at hk'
 rcases Kk.mp hk' with z | z
 ·exact hH k z
 ·obtain⟨j,_,hj⟩:=Y5.mp z;exact nM hj
theorem BV (h:Nat)(W:List Z2)(H:List Nat):(jl h W H).length<=4:=Xk _ _
theorem HH :∀{R:List (List Z2)} {H:List Nat},(∀k∈H,k < h)->H.length<=4->(∀k∈hs h R H,k < h)/\(hs h R H).length<=4
 | [],H,h1,h2=>⟨h1,h2⟩
 | W :: R,H,h1,h2=>HH (R:=R) (H:=jl h W H) (xT h1) (BV h W H)
theorem lj :∀{R:List (List Z2)} {H:List Nat},ar (rows h R H)=true
 | [],H=>rfl
 | W :: R,H=>by rw[rows,ar,lj,cz,aO _ (kr h W H)];rfl
theorem nN :∀{R:List (List Z2)} {H:List Nat},(rows h R H).length=R.length
 | [],H=>rfl
 | W :: R,H=>by rw[rows,Kj,nN,Kj]
noncomputable def bI (vs:List Int)(H:List Nat)(k:Nat):Z2:=if k∈H then .int (vs.getD k 0) else .none
theorem ll (vs:List Int)(H:List Nat)(k:Nat):br (bI vs H k)=true:=by unfold bI;split <;> rfl
def cL (vs:List Int)(Ws:List (List Z2))(hand:Nat):Z2 :=
 .tuple [.int (hand:Int),.tuple ((List.range vs.length).map (bI vs (hs vs.length Ws.reverse [hand]))),.tuple (rows vs.length Ws.reverse [hand]).reverse]
noncomputable def jt (vs:List Int)(Ws:List (List Z2)):Z2:=.tuple [.tuple (vs.map PyData.int),.tuple (Ws.map PyData.tuple)]
theorem nO {vs:List Int}{Ws:List (List Z2)}(hn:∀W∈Ws,ar W=true):ar [PyData.tuple (vs.map PyData.int),.tuple (Ws.map PyData.tuple)]=true:=by
 have:ar (Ws.map PyData.tuple)=true:=aT.mpr λx hx=>by
  obtain⟨W,hW,rfl⟩:=Kv.mp hx;exact hn W hW
 simp only[ar,cz,gx,this,XW]
theorem GL (vs:List Int)(Ws:List (List Z2))(hand:Nat)(hh:vs.length<=4)(hd:hand < vs.length)(hr:Ws.length<=5)(hn:∀W∈Ws,ar W=true)(hW:∀W∈Ws,lays 60 W=true) :
  rC [jt vs Ws,.int (hand:Int)]=ah (true,cL vs Ws hand):=by
 have nr:=nO (vs:=vs) hn
 have nw:ar (Ws.map PyData.tuple)=true:=by simp only[ar,cz,gx,J4,Bool.and_true] at nr;exact nr
 generalize hh':vs.length=h at*
 have a0:pY [PyData.tuple (vs.map PyData.int),.tuple (Ws.map PyData.tuple)] 0=some (.tuple (vs.map PyData.int)):=rfl
 have a1:pY [PyData.tuple (vs.map PyData.int),.tuple (Ws.map PyData.tuple)] 1=some (.tuple (Ws.map PyData.tuple)):=rfl
 have hml:(vs.map PyData.int).length=h:=by rw[K6];exact hh'
 obtain⟨Γ',h1,c6,c7,h2⟩:=bt (g:=bW 6) (b:=rB) (ds:=Ws.reverse.map PyData.tuple) (Γ:=[fA (jt vs Ws),fN hand,tT (vs.map PyData.int),tN h,tL [.int (hand:Int)],tL [],none,none,none])
  (λi Γ=>∃c6 c7:Option (Bool×Z2),Γ=[fA (jt vs Ws),fN hand,tT (vs.map PyData.int),tN h,tL ((hs h (Ws.reverse.take i) [hand]).map nat),tL (rows h (Ws.reverse.take i) [hand]),c6,c7,none]) ⟨none,none,rfl⟩ (by
  rintro i d Γ hd2 ⟨c6,c7,rfl⟩
  have hi:i < Ws.reverse.length:=by have:=(X1.mp hd2).1;simpa using this
  rw[KU,K3 hi] at hd2
  have hd':PyData.tuple Ws.reverse[i]=d:=Option.some.inj hd2
  subst hd'
  have hm:Ws.reverse[i]∈Ws:=Uw.mp (UU hi)
  have et:Ws.reverse.take (i+1)=Ws.reverse.take i++[Ws.reverse[i]]:=by rw[J7,K3 hi];rfl
  obtain⟨o1,o2⟩:=HH (R:=Ws.reverse.take i) (H:=[hand]) (h:=h) (λk hk=>by rw[K5.mp hk];exact hd) (by simp)
  have n1:=hn _ hm
  have c1:=Ea h Ws.reverse[i] (hs h (Ws.reverse.take i) [hand]) hh (hW _ hm)
  have c2:=zu h Ws.reverse[i] (hs h (Ws.reverse.take i) [hand]) hh o1 o2
  have nR:ar ((!2).map (cw h Ws.reverse[i] (hs h (Ws.reverse.take i) [hand])))=true:=aO _ (kr _ _ _) _
  have hsz:(rows h (Ws.reverse.take i) [hand]).length < sizeLine:=Xv (show _<=5 by rw[nN];simp at hi⊢;omega) (!8)
  refine⟨_,[fA (jt vs Ws),fN hand,tT (vs.map PyData.int),tN h,tL ((hs h (Ws.reverse.take (i+1)) [hand]).map nat),tL (rows h (Ws.reverse.take (i+1)) [hand]),tT Ws.reverse[i],tT ((!2).map (cw h Ws.reverse[i] (hs h (Ws.reverse.take i) [hand]))),none],by rw[aw n1];rfl,.inl ?_,_,_,rfl⟩
  rw[et,AH,ua]
  generalize Ws.reverse[i]=W at*
  simp(disch:=omega) only[rB,rn,reduceIte,aw n1,c1,aw nR,hsz,c2])
 rw[K6,J3] at h2
 simp only[jt] at h1 h2
 have hc:=jL (fe:=nB) (cap:=[fL ((hs h Ws.reverse [hand]).map nat),fT (vs.map PyData.int)]) ((!2).map λ(i:Nat)=>PyData.int (i:Int))
  (λd=>match d with | .int k=>(.fr [],bI vs (hs h Ws.reverse [hand]) k.toNat) | _=>(.fr [],.none)) (λd hd=>by
   obtain⟨k,hk,rfl⟩:=Kv.mp hd
   have e:=qW (x:=.int (k:Int)) (ys:=(hs h Ws.reverse [hand]).map nat) rfl (jA _ (λ_=>rfl) _)
   rw[mK] at e
   have hk':k < vs.length:=by rw[hh'];exact Xy.mp hk
   have ea:pY (vs.map PyData.int) (k:Int)=some (.int (vs.getD k 0)):=fR (by rw[KU,X8,K3 hk'];rfl)
   by_cases hb:k∈hs h Ws.reverse [hand]
   ·simp(disch:=omega) only[nB,rn,reduceIte,e,hb,ea,aw (gx vs),Ku,bI]
   ·simp(disch:=omega) only[nB,rn,reduceIte,e,hb,Ku,bI])
 have e1:(((!2).map λ(i:Nat)=>PyData.int (i:Int)).map λd=>match d with | .int k=>(Kd.fr [],bI vs (hs h Ws.reverse [hand]) k.toNat) | _=>(Kd.fr [],PyData.none))=(!2).map λk=>(Kd.fr [],bI vs (hs h Ws.reverse [hand]) k):=by
  rw[KZ];refine UK λk _=> ?_;simp only[Function.comp,Ku]
 rw[e1] at hc
 have k1:=cS (!2) (bI vs (hs h Ws.reverse [hand]))
 have m1:((!2).map λk=>(Kd.fr [],bI vs (hs h Ws.reverse [hand]) k)).map Prod.snd=(!2).map (bI vs (hs h Ws.reverse [hand])):=by rw[KZ];rfl
 have hl:h<=100000:=by omega
 have n1:ar ((!2).map (bI vs (hs h Ws.reverse [hand])))=true:=aO _ (ll _ _) _
 have n2:ar (rows h Ws.reverse [hand])=true:=lj
 have n3:ar (rows h Ws.reverse [hand]).reverse=true:=aT.mpr λx hx=>aT.mp n2 x (Uw.mp hx)
 have n4:ar [PyData.int (hand:Int),.tuple ((!2).map (bI vs (hs h Ws.reverse [hand]))),.tuple (rows h Ws.reverse [hand]).reverse]=true:=by simp only[ar,lN,cz,n1,n3,XW]
 simp(disch:=omega) only[rC,zi,a7,CK,Fm,rn,reduceIte,jt,a0,a1,aw nr,aw (gx vs),aw nw,hml,hh',←List.map_reverse,h1,h2,Ku,hc,k1,m1,hl,cg n1,qZ n2,aw n1,aw n3,aw n4,cL]
mutual
noncomputable def pl:Z2->Bool
 | .none=>true
 | .int _=>true
 | .tuple xs=>E1 xs
 | _=>false
noncomputable def E1:List Z2->Bool
 | []=>true
 | d :: ds=>pl d && E1 ds
end
mutual
theorem Eb:∀(x y:Z2),pl x=true->pl y=true->PyData.eqv x y=true->x=y
 | .none,.none,_,_,_=>rfl
 | .int i,.int j,_,_,h=>by simp[PyData.eqv] at h;rw[h]
 | .tuple xs,.tuple ys,hx,hy,h=>by
  rw[pl] at hx hy
  simp only[PyData.eqv] at h
  rw[AI xs ys hx hy h]
 | .none,.int _,_,_,h=>by simp[PyData.eqv] at h
 | .none,.tuple _,_,_,h=>by simp[PyData.eqv] at h
 | .int _,.none,_,_,h=>by simp[PyData.eqv] at h
 | .int _,.tuple _,_,_,h=>by simp[PyData.eqv] at h
 | .tuple _,.none,_,_,h=>by simp[PyData.eqv] at h
 | .tuple _,.int _,_,_,h=>by simp[PyData.eqv] at h
 | .bool _,_,hx,_,_=>by simp[pl] at hx
 | .str _,_,hx,_,_=>by simp[pl] at hx
 | .list _,_,hx,_,_=>by simp[pl] at hx
 | .dict _,_,hx,_,_=>by simp[pl] at hx
 | .none,.bool _,_,hy,_=>by simp[pl] at hy
 | .none,.str _,_,hy,_=>by simp[pl] at hy
 | .none,.list _,_,hy,_=>by simp[pl] at hy
 | .none,.dict _,_,hy,_=>by simp[pl] at hy
 | .int _,.bool _,_,hy,_=>by simp[pl] at hy
 | .int _,.str _,_,hy,_=>by simp[pl] at hy
 | .int _,.list _,_,hy,_=>by simp[pl] at hy
 | .int _,.dict _,_,hy,_=>by simp[pl] at hy
 | .tuple _,.bool _,_,hy,_=>by simp[pl] at hy
 | .tuple _,.str _,_,hy,_=>by simp[pl] at hy
 | .tuple _,.list _,_,hy,_=>by simp[pl] at hy
 | .tuple _,.dict _,_,hy,_=>by simp[pl] at hy
theorem AI:∀(xs ys:List Z2),E1 xs=true->E1 ys=true->PyData.eqvAll xs ys=true->xs=ys
 | [],[],_,_,_=>rfl
 | x :: xs,y :: ys,hx,hy,h=>by
  rw[E1,X7] at hx hy
  simp only[PyData.eqvAll,X7] at h
  rw[Eb x y hx.1 hy.1 h.1,AI xs ys hx.2 hy.2 h.2]
 | [],_ :: _,_,_,h=>by simp[PyData.eqvAll] at h
 | _ :: _,[],_,_,h=>by simp[PyData.eqvAll] at h
end
theorem nP:∀{xs:List Z2},E1 xs=true↔∀x∈xs,pl x=true
 | []=>by simp[E1]
 | x :: xs=>by rw[E1,X7,nP (xs:=xs)];simp
theorem Kr (h:Nat)(W:List Z2)(H:List Nat)(k:Nat):pl (cw h W H k)=true:=by
 unfold cw;split
 ·rw[pl];exact nP.mpr λx hx=>by
   obtain⟨o,_,rfl⟩:=Kv.mp hx;rfl
 ·rfl
theorem AJ :∀{R:List (List Z2)} {H:List Nat},∀x∈rows h R H,pl x=true
 | [],H,x,hx=>by cases hx
 | W :: R,H,x,hx=>by
  rw[rows] at hx
  rcases K0.mp hx with rfl | hx
  ·rw[pl];exact nP.mpr λy hy=>by
    obtain⟨k,_,rfl⟩:=Kv.mp hy;exact Kr h W H k
  ·exact AJ x hx
def zz (h:Nat)(R1 R2:List (List Z2)):List Qt:=(R1.zip R2).map λx=>(bX h x.1,bX h x.2)
theorem sd (hh:h<=4)(hH:∀k∈H,k < h)(k:Nat):k∈jl h W H↔k∈H++H.flatMap (bX h W):=by
 have e:∀k,k∈kt h W H h↔k∈H++H.flatMap (bX h W):=λk=>by
  unfold kt
  simp only[Kk,Y5,XQ,Xy,JJ]
  exact⟨λz=>z.imp id λ⟨j,⟨_,hj⟩,r⟩=>⟨j,hj,r⟩,λz=>z.imp id λ⟨j,hj,r⟩=>⟨j,⟨hH j hj,hj⟩,r⟩⟩
 rw[←e k]
 unfold jl
 rw[XQ,JJ]
 refine⟨λz=>z.2,λz=>⟨?_,z⟩⟩
 have hk:k < h:=by
  rcases Kk.mp ((e k).mp z) with y | y
  ·exact hH k y
  ·obtain⟨j,_,hj⟩:=Y5.mp y;exact nM hj
 simp only[K0,List.not_mem_nil,or_false];omega
mutual
theorem AK:∀(x:Z2),pl x=true->PyData.eqv x x=true
 | .none,_=>by simp[PyData.eqv]
 | .int _,_=>by simp[PyData.eqv]
 | .tuple xs,h=>by rw[pl] at h;simp only[PyData.eqv];exact xU xs h
 | .bool _,h=>by simp[pl] at h
 | .str _,h=>by simp[pl] at h
 | .list _,h=>by simp[pl] at h
 | .dict _,h=>by simp[pl] at h
theorem xU:∀(xs:List Z2),E1 xs=true->PyData.eqvAll xs xs=true
 | [],_=>by simp[PyData.eqvAll]
 | x :: xs,h=>by
  rw[E1,X7] at h
  simp only[PyData.eqvAll,AK x h.1,xU xs h.2,XW]
end
theorem nQ (hx:pl x=true)(hy:pl y=true):PyData.eqv x y=true↔x=y :=
 ⟨Eb x y hx hy,λh=>by rw[←h];exact AK x hx⟩
theorem lq (vs:List Int)(Ws:List (List Z2))(hand:Nat):br (cL vs Ws hand)=true:=by
 have n1:ar ((List.range vs.length).map (bI vs (hs vs.length Ws.reverse [hand])))=true:=aO _ (ll _ _) _
 have n2:ar (rows vs.length Ws.reverse [hand])=true:=lj
 have n3:ar (rows vs.length Ws.reverse [hand]).reverse=true:=aT.mpr λx hx=>aT.mp n2 x (Uw.mp hx)
 unfold cL
 rw[cz]
 simp only[ar,lN,cz,n1,n3,XW]
structure pM (h:Nat)(b:Nat)(vs:List Int)(Ws:List (List Z2)):Prop where
 hv:vs.length=h
 hr:Ws.length<=5
 hp:∀W∈Ws,(∀x∈W,∃i j:Int,x= .tuple [.int i,.int j])/\W.length<=b
theorem pM.n (w:pM h b vs Ws):∀W∈Ws,ar W=true:=λW hW=>aT.mpr λx hx=>by
 obtain⟨i,j,rfl⟩:=(w.hp W hW).1 x hx;rfl
theorem pM.l (w:pM h b vs Ws):∀W∈Ws,lays 60 W=true:=λW hW=>gN.mpr λx hx=>by
 obtain⟨i,j,rfl⟩:=(w.hp W hW).1 x hx;rfl
theorem pM.take (w:pM h b vs Ws)(r:Nat):pM h b vs (Ws.take r) :=
 ⟨w.hv,by rw[Xx];have:=w.hr;omega,λW hW=>w.hp W (U1 hW)⟩
theorem pM.view (w:pM h b vs Ws)(hh:h<=4)(hk:k < h):rC [jt vs Ws,.int (k:Int)]=ah (true,cL vs Ws k) :=
 GL vs Ws k (w.hv ▸ hh) (w.hv ▸ hk) w.hr w.n w.l
theorem nU (w:pM h b vs Ws):br (jt vs Ws)=true:=nO w.n
theorem GN (h:ar xs=true):M6 (.tuple xs) lo hi=some (.tuple (cutD xs lo hi)):=JQ h
theorem AL (w:pM h b vs Ws):ar (Ws.map PyData.tuple)=true:=aT.mpr λx hx=>by
 obtain⟨W,hW,rfl⟩:=Kv.mp hx;exact w.n W hW
theorem Pj (vs:List Int)(Ws:List (List Z2)):iH (jt vs Ws) (.int 0)=some (.tuple (vs.map PyData.int)):=rfl
theorem Qu (vs:List Int)(Ws:List (List Z2)):iH (jt vs Ws) (.int 1)=some (.tuple (Ws.map PyData.tuple)):=rfl
noncomputable def sp (p:Nat×Nat):Z2:=.tuple [.int (p.1:Int),.int (p.2:Int)]
def enc (l:List (Nat×Nat)):List (Z2×Z2):=l.map λp=>(sp p,.bool true)
noncomputable def ins (l:List (Nat×Nat))(p:Nat×Nat):List (Nat×Nat):=if p∈l then l else l++[p]
theorem Kt (p q:Nat×Nat):PyData.eqv (sp p) (sp q)=decide (p=q):=by
 obtain⟨a,b⟩:=p
 obtain⟨c,d⟩:=q
 have e:PyData.eqv (sp (a,b)) (sp (c,d))=((a:Int)==(c:Int) && ((b:Int)==(d:Int) && true)):=by simp[sp,PyData.eqv,PyData.eqvAll]
 rw[e,YK,JJ,Prod.mk.injEq]
 simp only[Bool.and_true,X7,JY]
 omega
theorem xV (l:List (Nat×Nat))(p:Nat×Nat):mj (enc l) (sp p)=decide (p∈l):=by
 unfold mj enc
 rw[List.any_map]
 induction l with
 | nil=>rfl
 | cons q l ih=>
  rw[YW,ih]
  simp only[Function.comp,Kt]
  by_cases h:q=p
  ·simp[h]
  ·have h':¬ p=q:=λz=>h z.symm
   simp[h,h']
theorem xX (l:List (Nat×Nat))(p:Nat×Nat):putK (enc l) (sp p) (.bool true)=enc (ins l p):=by
 unfold putK ins
 rw[xV]
 by_cases h:p∈l
 ·rw[JQ (Z9 h),JQ h]
  unfold enc
  rw[KZ]
  refine UK λq _=> ?_
  simp only[Function.comp]
  split <;> rfl
 ·rw[JV (by rw[Z8 h];exact K4),JV h]
  unfold enc
  rw[X0];rfl
theorem ub:∀(m l:List (Nat×Nat)),me (enc l) (enc m)=enc (m.foldl ins l)
 | [],l=>rfl
 | p :: m,l=>by
  show me (putK (enc l) (sp p) (.bool true)) (enc m)=_
  rw[xX,ub m];rfl
theorem vR :q∈ins l p↔q∈l∨q=p:=by
 unfold ins
 split
 ·rename_i h
  exact⟨.inl,λz=>z.elim id λe=>e ▸ h⟩
 ·simp
theorem uc:∀{m l:List (Nat×Nat)} {q:Nat×Nat},q∈m.foldl ins l↔q∈l∨q∈m
 | [],l,q=>by simp
 | p :: m,l,q=>by
  rw[Y9,uc (m:=m),vR,K0]
  exact⟨λz=>z.elim (λy=>y.elim .inl λe=> .inr (.inl e)) λy=> .inr (.inr y),λz=>z.elim (λy=> .inl (.inl y)) λy=>y.elim (λe=> .inl (.inr e)) .inr⟩
theorem ud (h:l.Nodup):(ins l p).Nodup:=by
 unfold ins
 split
 ·exact h
 ·rename_i hp
  refine XX.mpr ⟨h,KJ.mpr ⟨by simp,X2⟩,λa ha b hb e=>hp ?_⟩
  rw[←K5.mp hb,←e];exact ha
theorem pc:∀{m l:List (Nat×Nat)},l.Nodup->(m.foldl ins l).Nodup
 | [],l,h=>h
 | p :: m,l,h=>pc (m:=m) (ud h)
theorem AM (l:List (Nat×Nat))(p:Nat×Nat):(ins l p).length<=l.length+1:=by
 unfold ins;split
 ·omega
 ·rw[K2,X4];omega
theorem oP:∀(m l:List (Nat×Nat)),(m.foldl ins l).length<=l.length+m.length
 | [],l=>K1 _
 | p :: m,l=>by
  have h1:=oP m (ins l p)
  have h2:=AM l p
  rw[Y9,Kj];omega
theorem Ec (l:List (Nat×Nat))(p:Nat×Nat):ins l p≠[]:=λz=>by
 have:p∈ins l p:=vR.mpr (.inr rfl)
 rw[z] at this;cases this
theorem se:∀{m l:List (Nat×Nat)},l≠[]->m.foldl ins l≠[]
 | [],l,h=>h
 | p :: m,l,h=>se (m:=m) (Ec l p)
noncomputable def GO:List (Nat×Nat):=(List.range 4).flatMap λa=>(List.range 6).map λb=>(a,b)
theorem BW:(GO.map λp=>gp (sp p))=[-8458139203682520985,-1950498447580522560,7204814214171964562,-4734289103435588629,1773351652666409796,
  -3119722376306286570,-5164621852614943976,8389048192121911274,-3550055125485641917,-1440771752368011620,
  -6333845781340707986,173794974761290439,4685526799349444076,6794810172467074373,1901736143494378007,
  8409376899596376432,3516302870623680066,-8422800446983873125,2248468952609198383,8756109708711196808,
  3863035679738500442,5972319052856130739,1079245023883434373,7586885779985432798]:=by decide+kernel
theorem zv:(GO.map λp=>gp (sp p)).Nodup:=by rw[BW];decide+kernel
theorem Ed {α:Type}(f:α->Int):∀{l:List α},(l.map f).Nodup->∀{p q:α},p∈l->q∈l->f p=f q->p=q
 | x :: l,h,p,q,hp,hq,e=>by
  rw[KQ,KJ] at h
  rcases K0.mp hp with z1 | z1
  ·rcases K0.mp hq with z2 | z2
   ·rw[z1,z2]
   ·refine absurd ?_ h.1
    rw[←z1,e];exact Yw z2
  ·rcases K0.mp hq with z2 | z2
   ·refine absurd ?_ h.1
    rw[←z2,←e];exact Yw z1
   ·exact Ed f h.2 z1 z2 e
theorem xY {α:Type}(f:α->Int):∀{l:List α},l.Nodup->(∀p∈l,∀q∈l,f p=f q->p=q)->(l.map f).Nodup
 | [],_,_=>X2
 | x :: l,h,hf=>by
  rw[KJ] at h
  rw[KQ,KJ]
  refine⟨λz=> ?_,xY f h.2 λp hp q hq=>hf p (K9 _ hp) q (K9 _ hq)⟩
  obtain⟨y,hy,e⟩:=Kv.mp z
  exact h.1 (hf y (K9 _ hy) x K7 e ▸ hy)
theorem xZ (h:p.1 < 4/\p.2 < 6):p∈GO:=by
 unfold GO
 exact Y5.mpr ⟨p.1,Xy.mpr h.1,Kv.mpr ⟨p.2,Xy.mpr h.2,rfl⟩⟩
theorem Ee (f:Z2->Int)(l:List (Nat×Nat)):((enc l).map λp=>f p.1)=l.map λp=>f (sp p):=by unfold enc;rw[KZ];rfl
theorem zw (h:l.Nodup)(hb:∀p∈l,p.1 < 4/\p.2 < 6):((enc l).map λp=>gp p.1).Nodup:=by
 rw[Ee gp]
 exact xY _ h λp hp q hq e=>Ed _ zv (xZ (hb p hp)) (xZ (hb q hq)) e
theorem nV (l:List (Nat×Nat)):eM (enc l)=true:=by
 unfold eM enc
 rw[KZ];exact aO _ (λ_=>rfl) l
theorem GP (p:Nat×Nat):dy (sp p)=true:=rfl
theorem lr (l:List (Nat×Nat)):((enc l).all λp=>dy p.1)=true:=by
 unfold enc;rw[List.all_map,Uv];intro p _;rfl
theorem ue (h:l≠[]):(enc l).isEmpty=false:=by
 cases l with
 | nil=>exact absurd rfl h
 | cons p l=>rfl
theorem vS (l:List (Nat×Nat)):(enc l).length=l.length:=K6 _
theorem x0 (h0:l≠[])(hn:l.Nodup)(hb:∀p∈l,p.1 < 4/\p.2 < 6):pZ [.dict (enc l)]=some (.dict (enc l)):=JQ ⟨ue h0,lr l,nV l,zw hn hb⟩
theorem Ef (h0:l≠[])(hz:l.length+m.length<=sizeLine):wA 8 (.fr [3]) (enc l) (.dict (enc m))=some (enc (m.foldl ins l)):=by
 simp only[wA]
 rw[JQ ⟨rfl,.inl ⟨ue h0,lr l,lr m⟩,nV l,nV m,by rw[vS,vS];exact hz⟩,ub]
theorem x4 (l:List (Nat×Nat))(p:Nat×Nat):wy (sp p) (.dict (enc l))=some (.bool (decide (p∈l))):=by
 simp only[wy]
 rw[JQ (show eK (enc l) (sp p)=true by unfold eK g8;rw[lr,GP];rfl),xV]
def pN (h:Nat)(W:List Z2)(f:Nat->List (Nat×Nat))(k:Nat)(S:List Nat):List (Nat×Nat):=S.foldl (λacc s=>(f s).foldl ins acc) (f k)
def Lk (h:Nat)(Ws:List (List Z2)):Nat->Nat->List (Nat×Nat)
 | 0,k=> [(k,0)]
 | i+1,k=>ins (pN h (Ws.getD i []) (Lk h Ws i) k (bX h (Ws.getD i []) k)) (k,i+1)
theorem x5 {h:Nat}{W:List Z2}{f:Nat->List (Nat×Nat)}:∀{S:List Nat} {l:List (Nat×Nat)},q∈S.foldl (λacc s=>(f s).foldl ins acc) l↔q∈l∨∃s∈S,q∈f s
 | [],l=>by simp
 | s :: S,l=>by
  rw[Y9,x5 (h:=h) (W:=W) (S:=S),uc]
  simp only[K0,exists_eq_or_imp]
  exact or_assoc
theorem sf :q∈Lk h Ws (i+1) k↔(q∈Lk h Ws i k∨∃s∈bX h (Ws.getD i []) k,q∈Lk h Ws i s)∨q=(k,i+1):=by
 rw[Lk,vR,pN,x5 (h:=h) (W:=Ws.getD i [])]
theorem AN (h0:f k≠[])(hn:(f k).Nodup)(hl:∀s,(f s).length<=c):∀{S:List Nat},pN h W f k S≠[]/\(pN h W f k S).Nodup/\(pN h W f k S).length<=c+S.length*c:=by
 intro S
 have:∀(S:List Nat) (l:List (Nat×Nat)),l≠[]->l.Nodup->S.foldl (λacc s=>(f s).foldl ins acc) l≠[]/\(S.foldl (λacc s=>(f s).foldl ins acc) l).Nodup/\(S.foldl (λacc s=>(f s).foldl ins acc) l).length<=l.length+S.length*c:=by
  intro S
  induction S with
  | nil=>intro l a b;exact⟨a,b,by simp⟩
  | cons s S ih=>
   intro l a b
   obtain⟨x,y,z⟩:=ih _ (se (m:=f s) a) (pc (m:=f s) b)
   have:=oP (f s) l
   have:=hl s
   refine⟨x,y,?_⟩
   rw[Y9,Kj,Y2];omega
 obtain⟨x,y,z⟩:=this S (f k) h0 hn
 have:=hl k
 exact⟨x,y,by unfold pN;omega⟩
theorem x6 (h:Nat)(W:List Z2)(k:Nat)(hh:h<=4):(bX h W k).length<=4:=Kz (Xk _ _) (by rw[KW];exact hh)
theorem HI (hh:h<=4):∀(i k:Nat),Lk h Ws i k≠[]/\(Lk h Ws i k).Nodup/\(Lk h Ws i k).length<=6^i
 | 0,k=>⟨by simp[Lk],by simp[Lk],by simp[Lk]⟩
 | i+1,k=>by
  have ih:=HI (Ws:=Ws) hh i
  obtain⟨x,y,z⟩:=AN (h:=h) (W:=Ws.getD i []) (f:=Lk h Ws i) (k:=k) (c:=6^i) (ih k).1 (ih k).2.1 (λs=>(ih s).2.2) (S:=bX h (Ws.getD i []) k)
  refine⟨Ec _ _,ud y,?_⟩
  have h1:=AM (pN h (Ws.getD i []) (Lk h Ws i) k (bX h (Ws.getD i []) k)) (k,i+1)
  have h2:=x6 h (Ws.getD i []) k hh
  have h3:(bX h (Ws.getD i []) k).length*6^i<=4*6^i:=Nat.mul_le_mul_right _ h2
  have h4:0 < 6^i:=Nat.pow_pos (!8)
  rw[Lk,Nat.pow_succ];omega
theorem Eg :∀(i k:Nat),k < h->∀q∈Lk h Ws i k,q.1 < h/\q.2<=i
 | 0,k,hk,q,hq=>by
  rw[Lk,K5] at hq;subst hq;exact⟨hk,K1 _⟩
 | i+1,k,hk,q,hq=>by
  rcases sf.mp hq with(hq | ⟨s,hs,hq⟩) | hq
  ·have:=Eg i k hk q hq;exact⟨this.1,Nat.le_succ_of_le this.2⟩
  ·have:=Eg i s (nM hs) q hq;exact⟨this.1,Nat.le_succ_of_le this.2⟩
  ·subst hq;exact⟨hk,K1 _⟩
theorem AO (hh:h<=4):∀(i:Nat),i<=Ws.length->∀(H:List Nat),(∀k∈H,k < h)->∀(o j:Nat),(∃k∈H,(o,j)∈Lk h Ws i k)↔j<=i/\o∈hs h ((Ws.take i).drop j).reverse H
 | 0,_,H,hH,o,j=>by
  simp only[Lk,K5,Prod.mk.injEq,YV,List.drop_nil,List.reverse_nil,hs]
  constructor
  ·rintro⟨k,hk,rfl,rfl⟩;exact⟨K1 _,hk⟩
  ·rintro⟨hj,ho⟩;exact⟨o,ho,rfl,by omega⟩
 | i+1,hi,H,hH,o,j=>by
  have hi':i < Ws.length:=by omega
  have eW:Ws.getD i []=Ws[i]:=by rw[X8,K3 hi'];rfl
  have ih:=AO (Ws:=Ws) hh i (!1) (jl h Ws[i] H) (xT hH) o j
  have key:(∃k∈H,(o,j)∈Lk h Ws (i+1) k)↔(∃k∈jl h Ws[i] H,(o,j)∈Lk h Ws i k)∨(j=i+1/\o∈H):=by
   constructor
   ·rintro⟨k,hk,hq⟩
    rcases sf.mp hq with(hq | ⟨s,hs',hq⟩) | hq
    ·exact .inl ⟨k,(sd hh hH k).mpr (X9 _ hk),hq⟩
    ·rw[eW] at hs'
     exact .inl ⟨s,(sd hh hH s).mpr (Kx _ (Y5.mpr ⟨k,hk,hs'⟩)),hq⟩
    ·obtain⟨rfl,rfl⟩:=Prod.mk.inj hq
     exact .inr ⟨rfl,hk⟩
   ·rintro(⟨k,hk,hq⟩ | ⟨rfl,ho⟩)
    ·rcases Kk.mp ((sd hh hH k).mp hk) with hk | hk
     ·exact⟨k,hk,sf.mpr (.inl (.inl hq))⟩
     ·obtain⟨k',hk',hs'⟩:=Y5.mp hk
      exact⟨k',hk',sf.mpr (.inl (.inr ⟨k,by rw[eW];exact hs',hq⟩))⟩
    ·exact⟨o,ho,sf.mpr (.inr rfl)⟩
  rw[key,ih]
  have et:Ws.take (i+1)=Ws.take i++[Ws[i]]:=by rw[J7,K3 hi'];rfl
  have el:(Ws.take i).length=i:=by rw[Xx];omega
  by_cases hj:j<=i
  ·have ed:((Ws.take (i+1)).drop j).reverse=Ws[i] :: ((Ws.take i).drop j).reverse:=by
    rw[et,List.drop_append_of_le_length (by rw[el];exact hj),List.reverse_append];rfl
   rw[ed,hs]
   exact⟨λz=>z.elim (λy=>⟨by omega,y.2⟩) λy=>by omega,λz=> .inl ⟨hj,z.2⟩⟩
  ·have ed:((Ws.take (i+1)).drop (i+1)).reverse=[]:=by
    have z:(Ws.take (i+1)).drop (i+1)=[]:=Jy (by rw[Xx];omega)
    rw[z];rfl
   constructor
   ·rintro(y | ⟨rfl,ho⟩)
    ·omega
    ·refine⟨K1 _,?_⟩
     rw[ed];exact ho
   ·rintro⟨hj',ho⟩
    have:j=i+1:=by omega
    subst this
    rw[ed] at ho
    exact .inr ⟨rfl,ho⟩
theorem AQ (hh:h<=4)(hd:hand < h)(o j:Nat):(o,j)∈Lk h Ws Ws.length hand↔j<=Ws.length/\o∈hs h (Ws.drop j).reverse [hand]:=by
 have:=AO (Ws:=Ws) hh Ws.length (K1 _) [hand] (λk hk=>by rw[K5.mp hk];exact hd) o j
 rw[J3] at this
 rw[←this];simp
theorem x8 :∀(R:List (List Z2)) (H:List Nat) (m:Nat) (hm:m < R.length),(rows h R H)[m]? =some (.tuple ((!2).map (cw h R[m] (hs h (R.take m) H))))
 | W :: R,H,0,_=>by rw[rows,List.getElem?_cons_zero,YV,hs];rfl
 | W :: R,H,m+1,hm=>by
  rw[rows,J0,x8 R (jl h W H) m (by simpa using hm)]
  simp only[List.getElem_cons_succ,List.take_succ_cons,hs]
theorem Eh {Ws:List (List Z2)}(hm:m < Ws.length):(rows h Ws.reverse [hand]).reverse[m]? =some (.tuple ((!2).map (cw h Ws[m] (hs h (Ws.drop (m+1)).reverse [hand])))):=by
 have hl:(rows h Ws.reverse [hand]).length=Ws.length:=by rw[nN,UX]
 rw[List.getElem?_reverse (!1),hl,x8 _ _ _ (by rw[UX];omega)]
 have e1:Ws.reverse[Ws.length - 1 - m]'(by rw[UX];omega)=Ws[m]:=by rw[List.getElem_reverse];congr 1;omega
 have e2:Ws.reverse.take (Ws.length - 1 - m)=(Ws.drop (m+1)).reverse:=by
  rw[List.take_reverse];congr 2;omega
 rw[e1,e2]
abbrev Slot:=Option (Bool×Z2)
def kD (h:Nat)(f:Nat->List (Nat×Nat)):List Z2:=(!2).map λk=> .dict (enc (f k))
theorem vT (hk:k < h):pY (kD h f) (k:Int)=some (.dict (enc (f k))):=fR (by unfold kD;rw[KU,UZ hk];rfl)
theorem Ei (o:Nat):gG [fN o]=ah (.fr [],.dict (enc [(o,0)])):=by
 have hk:dy (.tuple [.int (o:Int),.int 0])=true:=rfl
 have n2:ar [PyData.int (o:Int),.int 0]=true:=rfl
 simp(disch:=omega) only[gG,wz,rn,reduceIte,hk,aw n2,and_self]
 rfl
theorem Ej (c0 c1 c2 c4 c5 c6 c7 c9 pO v7 c12:Slot)(h c:Nat)(f:Nat->List (Nat×Nat))(hl:∀s,(f s).length<=c)(S:List Nat)(hS:∀s∈S,s < h)(l0:List (Nat×Nat))(h0:l0≠[])(hz:l0.length+S.length*c<=100000) :
  ∃iE:Slot,aZ (bW 9) gH (S.map nat) [c0,c1,c2,tL (kD h f),c4,c5,c6,c7,tD (enc l0),c9,pO,v7,c12]=
   ah (.nx [c0,c1,c2,tL (kD h f),c4,c5,c6,c7,tD (enc (S.foldl (λacc s=>(f s).foldl ins acc) l0)),iE,pO,v7,c12]):=by
 have len:∀(S:List Nat) (l:List (Nat×Nat)),(S.foldl (λacc s=>(f s).foldl ins acc) l).length<=l.length+S.length*c:=by
  intro S
  induction S with
  | nil=>intro l;simp
  | cons s S ih=>
   intro l
   have:=ih ((f s).foldl ins l)
   have:=oP (f s) l
   have:=hl s
   rw[Y9,Kj,Y2];omega
 have ne:∀(S:List Nat) (l:List (Nat×Nat)),l≠[]->S.foldl (λacc s=>(f s).foldl ins acc) l≠[]:=by
  intro S
  induction S with
  | nil=>intro l a;exact a
  | cons s S ih=>intro l a;exact ih _ (se (m:=f s) a)
 obtain⟨Γ',g1,iE,g2⟩:=bt (g:=bW 9) (b:=gH) (ds:=S.map nat) (Γ:=[c0,c1,c2,tL (kD h f),c4,c5,c6,c7,tD (enc l0),c9,pO,v7,c12])
  (λi Γ=>∃iE:Slot,Γ=[c0,c1,c2,tL (kD h f),c4,c5,c6,c7,tD (enc ((S.take i).foldl (λacc s=>(f s).foldl ins acc) l0)),iE,pO,v7,c12]) ⟨c9,by simp⟩ (by
  rintro i d Γ hd ⟨iE,rfl⟩
  have hi:i < S.length:=by have:=(X1.mp hd).1;simpa using this
  rw[KU,K3 hi] at hd
  have hd':nat S[i]=d:=Option.some.inj hd
  subst hd'
  have hs:=hS _ (UU hi)
  have et:S.take (i+1)=S.take i++[S[i]]:=by rw[J7,K3 hi];rfl
  refine⟨_,[c0,c1,c2,tL (kD h f),c4,c5,c6,c7,tD (enc ((S.take (i+1)).foldl (λacc s=>(f s).foldl ins acc) l0)),tA (nat S[i]),pO,v7,c12],rfl,.inl ?_,_,rfl⟩
  rw[et,List.foldl_append,Y9,List.foldl_nil]
  have hlen:=len (S.take i) l0
  have hmul:(S.take i).length*c+c<=S.length*c:=by
   rw[←Y2];exact Nat.mul_le_mul_right _ (by rw[Xx];omega)
  have hne:=ne (S.take i) l0 h0
  have hfs:=hl S[i]
  generalize (S.take i).foldl (λacc s=>(f s).foldl ins acc) l0=l at*
  generalize S[i]=s at*
  have ek:=vT (f:=f) hs
  have eu:=Ef (l:=l) (m:=f s) hne (Kz (show _<=100000 by omega) (!8))
  simp(disch:=omega) only[gH,tj,rn,reduceIte,nat,ek,eu])
 rw[K6,J3] at g2
 exact⟨iE,by rw[g1,g2]⟩
theorem KA (c0 c1 c9 pO v7 c12:Slot)(h c i j:Nat)(hh:h<=4)(hj:j < h)(hi:i < 5)(W:List Z2)(nW:ar W=true)(hW:lays 60 W=true)(f:Nat->List (Nat×Nat))(hl:∀s,(f s).length<=c)(hc:c<=10000)(h0:∀s,f s≠[])(hn:∀s,(f s).Nodup)(hb:∀s,s < h->∀p∈f s,p.1 < h/\p.2<=i)(MQ:List Z2)(ha:MQ.length < 10) :
  ∃iE:Slot,gI [c0,c1,tN h,tL (kD h f),tN i,tT W,tL MQ,tN j,none,c9,pO,v7,c12]=
   ah (.nx [c0,c1,tN h,tL (kD h f),tN i,tT W,tL (MQ++[.dict (enc (ins (pN h W f j (bX h W j)) (j,i+1)))]),tN j,none,iE,pO,v7,c12]):=by
 have ek:=vT (f:=f) hj
 have gd:=x0 (h0 j) (hn j) λp hp=>⟨by have:=(hb j hj p hp).1;omega,by have:=(hb j hj p hp).2;omega⟩
 have sn:=r_ h j W hh hW
 have nS:ar ((bX h W j).map nat)=true:=aO _ (λ_=>rfl) _
 have sl:=x6 h W j hh
 have QR:=hl j
 have hm:(bX h W j).length*c<=4*c:=Nat.mul_le_mul_right _ sl
 obtain⟨iE,hu⟩:=Ej c0 c1 (tN h) (tN i) (tT W) (tL MQ) (tN j) c9 pO v7 c12 h c f hl (bX h W j) (λs hs=>nM hs) (f j) (h0 j) (!1)
 have e1:((i:Int)+1)=((i+1:Nat):Int):=by omega
 obtain⟨_,_,gl⟩:=AN (h:=h) (W:=W) (f:=f) (k:=j) (c:=c) (h0 j) (hn j) hl (S:=bX h W j)
 have eg:(bX h W j).foldl (λacc s=>(f s).foldl ins acc) (f j)=pN h W f j (bX h W j):=rfl
 rw[eg] at hu
 generalize pN h W f j (bX h W j)=G at*
 have hk:dy (.tuple [.int (j:Int),.int ((i+1:Nat):Int)])=true:=rfl
 have n2:ar [PyData.int (j:Int),.int ((i+1:Nat):Int)]=true:=rfl
 have hp:putK (enc G) (.tuple [.int (j:Int),.int ((i+1:Nat):Int)]) (.bool true)=enc (ins G (j,i+1)):=xX G (j,i+1)
 have hsz:(enc G).length < sizeLine:=by rw[vS];exact Xv (show _<=100000 by omega) (!8)
 have hsz2:MQ.length < sizeLine:=X6 ha (!8)
 have nv:=nV G
 have hom:eK (enc G) (.tuple [.int (j:Int),.int ((i+1:Nat):Int)])=true:=by unfold eK g8;rw[lr,hk];rfl
 refine⟨iE,?_⟩
 simp(disch:=omega) only[gI,tm,qo,hom,rn,reduceIte,ek,gd,sn,aw nW,aw nS,hu,e1,hk,aw n2,nv,hsz,hp,hsz2,and_self,ne_eq,Nat.reduceEqDiff,not_false_eq_true,and_true]
theorem x9 {Ws:List (List Z2)}(h:(eA 0 (Ws.map PyData.tuple))[i]? =some d):∃hi:i < Ws.length,d= .tuple [.int (i:Int),.tuple Ws[i]]:=by
 rw[L2.jJ,KU] at h
 by_cases hi:i < Ws.length
 ·rw[K3 hi] at h
  exact⟨hi,by have:=Option.some.inj h;rw[←this,Nat.zero_add]⟩
 ·rw[XU (!1)] at h;cases h
theorem HJ (c0 c1 c2 c3 c4 c5 c6 c7 c8 c9 pO v7 c12:Slot)(i:Nat)(W:List Z2)(nW:ar W=true) :
  jY [4,5] (cP .base (.tuple [.int (i:Int),.tuple W])) (.tuple [.int (i:Int),.tuple W]) [c0,c1,c2,c3,c4,c5,c6,c7,c8,c9,pO,v7,c12]=some [c0,c1,c2,c3,tN i,tT W,c6,c7,c8,c9,pO,v7,c12]:=by
 have n2:ar [PyData.int (i:Int),.tuple W]=true:=by simp only[ar,lN,cz,nW,XW]
 rw[aw n2]
 simp only[jY,Kj,UQ,if_true,ql,zY,p8,aw nW,jo,List.set_cons_zero,List.set_cons_succ]
theorem Ek (w:pM h b vs Ws)(hh:h<=4)(c0 c1:Slot) :
  ∃c4 c5 c7 c9:Slot,aZ (jY [4,5]) gJ (eA 0 (Ws.map PyData.tuple)) [c0,c1,tN h,tL (kD h (Lk h Ws 0)),none,none,none,none,none,none,none,none,none]=
   ah (.nx [c0,c1,tN h,tL (kD h (Lk h Ws Ws.length)),c4,c5,none,c7,none,c9,none,none,none]):=by
 obtain⟨Γ',g1,c4,c5,c7,c9,g2⟩:=bt (g:=jY [4,5]) (b:=gJ) (ds:=eA 0 (Ws.map PyData.tuple)) (Γ:=[c0,c1,tN h,tL (kD h (Lk h Ws 0)),none,none,none,none,none,none,none,none,none])
  (λi Γ=>∃c4 c5 c7 c9:Slot,Γ=[c0,c1,tN h,tL (kD h (Lk h Ws i)),c4,c5,none,c7,none,c9,none,none,none]) ⟨_,_,_,_,rfl⟩ (by
  rintro i d Γ hd ⟨c4,c5,c7,c9,rfl⟩
  obtain⟨hi,rfl⟩:=x9 hd
  have hr:=w.hr
  have nW:=w.n _ (UU hi)
  have lW:=w.l _ (UU hi)
  have eW:Ws.getD i []=Ws[i]:=by rw[X8,K3 hi];rfl
  have Ox:=HI (Ws:=Ws) hh i
  have h6:6^i<=6^5:=Nat.pow_le_pow_right (!8) (!1)
  obtain⟨Γ',k1,fK,iE,k2⟩:=bt (g:=bW 7) (b:=gI) (ds:=(!2).map λ(i:Nat)=>PyData.int (i:Int)) (Γ:=[c0,c1,tN h,tL (kD h (Lk h Ws i)),tN i,tT Ws[i],tL [],c7,none,c9,none,none,none])
   (λj Γ=>∃c7 c9:Slot,Γ=[c0,c1,tN h,tL (kD h (Lk h Ws i)),tN i,tT Ws[i],tL (kD j (Lk h Ws (i+1))),c7,none,c9,none,none,none]) ⟨_,_,rfl⟩ (by
   rintro j d Γ hd ⟨c7,c9,rfl⟩
   obtain⟨rfl,hj⟩:=bZ hd
   obtain⟨iE,e⟩:=KA c0 c1 c9 none none none h (6^i) i j hh hj (!1) Ws[i] nW lW (Lk h Ws i) (λs=>(Ox s).2.2) (Kz h6 (!8)) (λs=>(Ox s).1) (λs=>(Ox s).2.1) (λs hs=>Eg i s hs) (kD j (Lk h Ws (i+1))) (by unfold kD;rw[K6,KW];omega)
   refine⟨_,_,rfl,.inl e,tN j,iE,?_⟩
   have e2:kD (j+1) (Lk h Ws (i+1))=kD j (Lk h Ws (i+1))++[.dict (enc (ins (pN h Ws[i] (Lk h Ws i) j (bX h Ws[i] j)) (j,i+1)))]:=by
    unfold kD;rw[Yk,X0]
    have:Lk h Ws (i+1) j=ins (pN h Ws[i] (Lk h Ws i) j (bX h Ws[i] j)) (j,i+1):=by rw[Lk,eW]
    rw[KQ,Yx,this]
   rw[e2])
  rw[K6,KW] at k2
  refine⟨_,[c0,c1,tN h,tL (kD h (Lk h Ws (i+1))),tN i,tT Ws[i],none,fK,none,iE,none,none,none],HJ _ _ _ _ _ _ _ _ _ _ _ _ _ i Ws[i] nW,.inl ?_,_,_,_,_,rfl⟩
  simp(disch:=omega) only[gJ,rn,reduceIte,Ku,k1,k2,Nat.reduceEqDiff])
 rw[L2.da,K6] at g2
 exact⟨c4,c5,c7,c9,by rw[g1,g2]⟩
noncomputable def pf (g:Nat->Z2)(i o:Nat):Z2:=if o < i then g o else .none
theorem Em (hg:∀o,br (g o)=true)(i o:Nat):br (pf g i o)=true:=by unfold pf;split;exact hg o;rfl
theorem x_ (g:Nat->Z2)(hi:i < h):((!2).map (pf g i)).set i (g i)=(!2).map (pf g (i+1)):=by
 refine Jx (by simp) λm h1 h2=> ?_
 rw[List.getElem_set,J2,J2,List.getElem_range]
 by_cases hm:i=m
 ·subst hm;rw[JQ rfl,pf,JQ (!1)]
 ·rw[JV hm,pf,pf]
  by_cases hlt:m < i
  ·rw[JQ hlt,JQ (!1)]
  ·rw[JV hlt,JV (!1)]
theorem uf (g:Nat->Z2)(hg:g i= .none):(!2).map (pf g i)=(!2).map (pf g (i+1)):=by
 refine UK λm _=> ?_
 unfold pf
 by_cases hlt:m < i
 ·rw[JQ hlt,JQ (!1)]
 ·rw[JV hlt]
  by_cases hm:m=i
  ·subst hm;rw[JQ (!1),hg]
  ·rw[JV (!1)]
theorem BX (g:Nat->Z2)(h:Nat):(List.replicate h [PyData.none]).flatten=(!2).map (pf g 0):=by
 have:∀h:Nat,(List.replicate h [PyData.none]).flatten=List.replicate h PyData.none:=λh=>by
  induction h with
  | zero=>rfl
  | succ h ih=>rw[Ux,Y6,ih,Ux];rfl
 rw[this]
 refine Jx (by simp) λm h1 h2=> ?_
 rw[List.getElem_replicate,J2,pf,JV (!1)]
theorem ya (g:Nat->Z2)(h:Nat):(!2).map (pf g h)=(!2).map g:=UK λm hm=>by
 unfold pf;rw[JQ (Xy.mp hm)]
theorem qa (h:i < n):Y.oW n (i:Int)=some i:=by
 unfold Y.oW;rw[JQ (!1),JQ (!1)];simp
theorem En (h:ar xs=true/\ -(2^63)<=k/\k < 2^63/\xs.length*k.toNat<=sizeLine):A_ xs (.int k)=ah (.fr [],.list (List.replicate k.toNat xs).flatten):=JQ h
theorem ug (h:Nat)(hh:h<=4)(g:Nat->Z2):A_ [.none] (.int (h:Int))=ah (Kd.fr [],.list ((!2).map (pf g 0))):=by
 rw[←BX,En ⟨rfl,by omega,by omega,Kz (show _<=4 by rw[Ku,X4,Nat.one_mul];exact hh) (!8)⟩,Ku]
theorem BY (w:pM h b vs Ws)(hh:h<=4)(hd:hand < h)(c4 c5 c7 c9:Slot) :
  ∃fK:Slot,aZ (bW 7) eS ((!2).map λ(i:Nat)=>PyData.int (i:Int)) [fA (jt vs Ws),fN hand,tN h,tL (kD h (Lk h Ws Ws.length)),c4,c5,none,c7,none,c9,tL ((!2).map (pf (bI vs (hs h Ws.reverse [hand])) 0)),tL [],none]=
   ah (.nx [fA (jt vs Ws),fN hand,tN h,tL (kD h (Lk h Ws Ws.length)),c4,c5,none,fK,none,c9,tL ((!2).map (bI vs (hs h Ws.reverse [hand]))),tL [],none]):=by
 have nr:=nO (vs:=vs) w.n
 have hv:=w.hv
 have ek:=vT (f:=Lk h Ws Ws.length) hd
 obtain⟨Γ',g1,fK,g2⟩:=bt (g:=bW 7) (b:=eS) (ds:=(!2).map λ(i:Nat)=>PyData.int (i:Int)) (Γ:=[fA (jt vs Ws),fN hand,tN h,tL (kD h (Lk h Ws Ws.length)),c4,c5,none,c7,none,c9,tL ((!2).map (pf (bI vs (hs h Ws.reverse [hand])) 0)),tL [],none])
  (λi Γ=>∃c7:Slot,Γ=[fA (jt vs Ws),fN hand,tN h,tL (kD h (Lk h Ws Ws.length)),c4,c5,none,c7,none,c9,tL ((!2).map (pf (bI vs (hs h Ws.reverse [hand])) i)),tL [],none]) ⟨_,rfl⟩ (by
  rintro i d Γ hd' ⟨c7,rfl⟩
  obtain⟨rfl,hi⟩:=bZ hd'
  refine⟨_,[fA (jt vs Ws),fN hand,tN h,tL (kD h (Lk h Ws Ws.length)),c4,c5,none,tN i,none,c9,tL ((!2).map (pf (bI vs (hs h Ws.reverse [hand])) (i+1))),tL [],none],rfl,.inl ?_,_,rfl⟩
  have gi:wy (.tuple [.int (i:Int),.int 0]) (.dict (enc (Lk h Ws Ws.length hand)))=some (.bool (decide ((i,0)∈Lk h Ws Ws.length hand))):=x4 _ (i,0)
  have n2:ar [PyData.int (i:Int),.int 0]=true:=rfl
  have hm:(i,0)∈Lk h Ws Ws.length hand↔i∈hs h Ws.reverse [hand]:=by rw[AQ hh hd,Y3];exact⟨λz=>z.2,λz=>⟨Xw _,z⟩⟩
  have np:=Em (ll vs (hs h Ws.reverse [hand])) i
  have nl:ar ((!2).map (pf (bI vs (hs h Ws.reverse [hand])) i))=true:=aO _ np _
  have hix:Y.oW ((!2).map (pf (bI vs (hs h Ws.reverse [hand])) i)).length (i:Int)=some i:=qa (by rw[K6,KW];exact hi)
  rw[K6,KW] at hix
  have hk':i < vs.length:=by omega
  have ea:pY (vs.map PyData.int) (i:Int)=some (.int (vs.getD i 0)):=fR (by rw[KU,X8,K3 hk'];rfl)
  by_cases hb:i∈hs h Ws.reverse [hand]
  ·have hb':=hm.mpr hb
   have hg:bI vs (hs h Ws.reverse [hand]) i= .int (vs.getD i 0):=JQ hb
   rw[←x_ _ hi,hg]
   simp(disch:=omega) only[eS,rn,reduceIte,ek,gi,hb',aw n2,Pj,cf (nU w),aw (gx vs),ea,hix,nl,XW]
  ·have hb':¬ (i,0)∈Lk h Ws Ws.length hand:=λz=>hb (hm.mp z)
   rw[←uf _ (JV hb)]
   simp(disch:=omega) only[eS,rn,reduceIte,ek,gi,hb',aw n2])
 rw[K6,KW,ya] at g2
 exact⟨fK,by rw[g1,g2]⟩
theorem Eo (w:pM h b vs Ws)(hh:h<=4)(hd:hand < h)(hm:m < Ws.length)(c0 c7 c9 pO v7:Slot) :
  ∃fK:Slot,aZ (bW 7) eT ((!2).map λ(i:Nat)=>PyData.int (i:Int)) [c0,fN hand,tN h,tL (kD h (Lk h Ws Ws.length)),tN m,tT Ws[m],none,c7,none,c9,pO,v7,tL ((!2).map (pf (cw h Ws[m] (hs h (Ws.drop (m+1)).reverse [hand])) 0))]=
   ah (.nx [c0,fN hand,tN h,tL (kD h (Lk h Ws Ws.length)),tN m,tT Ws[m],none,fK,none,c9,pO,v7,tL ((!2).map (cw h Ws[m] (hs h (Ws.drop (m+1)).reverse [hand])))]):=by
 have ek:=vT (f:=Lk h Ws Ws.length) hd
 have nW:=w.n _ (UU hm)
 have lW:=w.l _ (UU hm)
 have e1:((m:Int)+1)=((m+1:Nat):Int):=by omega
 generalize QT:Ws[m]=W at*
 obtain⟨Γ',g1,fK,g2⟩:=bt (g:=bW 7) (b:=eT) (ds:=(!2).map λ(i:Nat)=>PyData.int (i:Int)) (Γ:=[c0,fN hand,tN h,tL (kD h (Lk h Ws Ws.length)),tN m,tT W,none,c7,none,c9,pO,v7,tL ((!2).map (pf (cw h W (hs h (Ws.drop (m+1)).reverse [hand])) 0))])
  (λi Γ=>∃c7:Slot,Γ=[c0,fN hand,tN h,tL (kD h (Lk h Ws Ws.length)),tN m,tT W,none,c7,none,c9,pO,v7,tL ((!2).map (pf (cw h W (hs h (Ws.drop (m+1)).reverse [hand])) i))]) ⟨_,rfl⟩ (by
  rintro i d Γ hd' ⟨c7,rfl⟩
  obtain⟨rfl,hi⟩:=bZ hd'
  refine⟨_,[c0,fN hand,tN h,tL (kD h (Lk h Ws Ws.length)),tN m,tT W,none,tN i,none,c9,pO,v7,tL ((!2).map (pf (cw h W (hs h (Ws.drop (m+1)).reverse [hand])) (i+1)))],rfl,.inl ?_,_,rfl⟩
  have gi:wy (.tuple [.int (i:Int),.int ((m+1:Nat):Int)]) (.dict (enc (Lk h Ws Ws.length hand)))=some (.bool (decide ((i,m+1)∈Lk h Ws Ws.length hand))):=x4 _ (i,m+1)
  have n2:ar [PyData.int (i:Int),.int ((m+1:Nat):Int)]=true:=rfl
  have hmm:(i,m+1)∈Lk h Ws Ws.length hand↔i∈hs h (Ws.drop (m+1)).reverse [hand]:=by rw[AQ hh hd];exact⟨λz=>z.2,λz=>⟨by omega,z⟩⟩
  have nl:ar ((!2).map (pf (cw h W (hs h (Ws.drop (m+1)).reverse [hand])) i))=true:=aO _ (Em (kr h W _) i) _
  have hix:Y.oW h (i:Int)=some i:=qa hi
  have sn:=r_ h i W hh lW
  have nS:ar ((bX h W i).map nat)=true:=aO _ (λ_=>rfl) _
  by_cases hb:i∈hs h (Ws.drop (m+1)).reverse [hand]
  ·have hb':=hmm.mpr hb
   have hg:cw h W (hs h (Ws.drop (m+1)).reverse [hand]) i= .tuple ((bX h W i).map nat):=JQ hb
   rw[←x_ _ hi,hg]
   simp(disch:=omega) only[eT,rn,reduceIte,e1,ek,gi,hb',aw n2,aw nW,sn,aw nS,nS,hix,nl,XW]
  ·have hb':¬ (i,m+1)∈Lk h Ws Ws.length hand:=λz=>hb (hmm.mp z)
   rw[←uf _ (JV hb)]
   simp(disch:=omega) only[eT,rn,reduceIte,e1,ek,gi,hb',aw n2])
 rw[K6,KW,ya] at g2
 exact⟨fK,by rw[g1,g2]⟩
theorem BZ (w:pM h b vs Ws)(hh:h<=4)(hd:hand < h)(c0 c4 c5 c7 c9 pO:Slot) :
  ∃mM kE fK KC:Slot,aZ (jY [4,5]) gK (eA 0 (Ws.map PyData.tuple)) [c0,fN hand,tN h,tL (kD h (Lk h Ws Ws.length)),c4,c5,none,c7,none,c9,pO,tL [],none]=
   ah (.nx [c0,fN hand,tN h,tL (kD h (Lk h Ws Ws.length)),mM,kE,none,fK,none,c9,pO,tL (rows h Ws.reverse [hand]).reverse,KC]):=by
 have hr:=w.hr
 obtain⟨Γ',g1,mM,kE,fK,KC,g2⟩:=bt (g:=jY [4,5]) (b:=gK) (ds:=eA 0 (Ws.map PyData.tuple)) (Γ:=[c0,fN hand,tN h,tL (kD h (Lk h Ws Ws.length)),c4,c5,none,c7,none,c9,pO,tL [],none])
  (λi Γ=>∃c4 c5 c7 c12:Slot,Γ=[c0,fN hand,tN h,tL (kD h (Lk h Ws Ws.length)),c4,c5,none,c7,none,c9,pO,tL ((rows h Ws.reverse [hand]).reverse.take i),c12]) ⟨_,_,_,_,rfl⟩ (by
  rintro i d Γ hd' ⟨c4,c5,c7,c12,rfl⟩
  obtain⟨hi,rfl⟩:=x9 hd'
  have nW:=w.n _ (UU hi)
  obtain⟨fK,e⟩:=Eo w hh hd hi c0 c7 c9 pO (tL ((rows h Ws.reverse [hand]).reverse.take i))
  have er:=Eh (h:=h) (hand:=hand) hi
  have et:(rows h Ws.reverse [hand]).reverse.take (i+1)=(rows h Ws.reverse [hand]).reverse.take i++[.tuple ((!2).map (cw h Ws[i] (hs h (Ws.drop (i+1)).reverse [hand])))]:=by rw[J7,er];rfl
  refine⟨_,[c0,fN hand,tN h,tL (kD h (Lk h Ws Ws.length)),tN i,tT Ws[i],none,fK,none,c9,pO,tL ((rows h Ws.reverse [hand]).reverse.take (i+1)),tL ((!2).map (cw h Ws[i] (hs h (Ws.drop (i+1)).reverse [hand])))],HJ _ _ _ _ _ _ _ _ _ _ _ _ _ i Ws[i] nW,.inl ?_,_,_,_,_,rfl⟩
  rw[et]
  have hsz:((rows h Ws.reverse [hand]).reverse.take i).length < sizeLine:=Xv (show _<=5 by rw[Xx];omega) (!8)
  generalize Ws[i]=W at*
  have rp:=ug h hh (cw h W (hs h (Ws.drop (i+1)).reverse [hand]))
  have nR:ar ((!2).map (cw h W (hs h (Ws.drop (i+1)).reverse [hand])))=true:=aO _ (kr h W _) _
  simp(disch:=omega) only[gK,rn,reduceIte,Ba,isNew,rp,Ku,e,cg nR,aw nR,hsz])
 rw[L2.da,K6,U7 (by rw[UX,nN,UX];exact K1 _)] at g2
 exact⟨mM,kE,fK,KC,by rw[g1,g2]⟩
theorem sg (w:pM h b vs Ws)(hh:h<=4)(hd:hand < h):dM [jt vs Ws,.int (hand:Int)]=ah (true,cL vs Ws hand):=by
 have hv:=w.hv
 have hr:=w.hr
 have nr:=nU w
 have nw:=AL w
 have hml:(vs.map PyData.int).length=h:=by rw[K6];exact hv
 have hc:=jL (fe:=gG) (cap:=[]) ((!2).map λ(i:Nat)=>PyData.int (i:Int))
  (λd=>match d with | .int k=>(.fr [],.dict (enc [(k.toNat,0)])) | _=>(.fr [],.none)) (λd hd=>by
   obtain⟨k,hk,rfl⟩:=Kv.mp hd
   rw[Ei];simp only[Ku])
 have e1:(((!2).map λ(i:Nat)=>PyData.int (i:Int)).map λd=>match d with | .int k=>(Kd.fr [],PyData.dict (enc [(k.toNat,0)])) | _=>(Kd.fr [],PyData.none))=(!2).map λk=>(Kd.fr [],PyData.dict (enc (Lk h Ws 0 k))):=by
  rw[KZ];refine UK λk _=> ?_;simp only[Function.comp,Ku,Lk]
 rw[e1] at hc
 have k1:=cS (!2) λk=>PyData.dict (enc (Lk h Ws 0 k))
 have e2:((!2).map λk=>(Kd.fr [],PyData.dict (enc (Lk h Ws 0 k)))).map Prod.snd=kD h (Lk h Ws 0):=by rw[KZ];rfl
 have hle:h<=100000:=by omega
 obtain⟨c4,c5,c7,c9,l1⟩:=Ek w hh (fA (jt vs Ws)) (fN hand)
 have rp:=ug h hh (bI vs (hs h Ws.reverse [hand]))
 obtain⟨fK,l2⟩:=BY w hh hd c4 c5 c7 c9
 obtain⟨d4,d5,d7,kK,l3⟩:=BZ w hh hd (fA (jt vs Ws)) c4 c5 fK c9 (tL ((!2).map (bI vs (hs h Ws.reverse [hand]))))
 have n1:ar ((!2).map (bI vs (hs h Ws.reverse [hand])))=true:=aO _ (ll _ _) _
 have n2:ar (rows h Ws.reverse [hand]).reverse=true:=aT.mpr λx hx=>aT.mp (lj (h:=h) (R:=Ws.reverse) (H:=[hand])) x (Uw.mp hx)
 have n4:ar [PyData.int (hand:Int),.tuple ((!2).map (bI vs (hs h Ws.reverse [hand]))),.tuple (rows h Ws.reverse [hand]).reverse]=true:=by simp only[ar,lN,cz,n1,n2,XW]
 simp(disch:=omega) only[dM,k7,a7,uK,Fq,Ba,isNew,rn,reduceIte,Pj,Qu,cf nr,aw nw,aw (gx vs),hv,hml,Ku,hc,k1,e2,hle,l1,rp,l2,l3,cg n1,cg n2,aw n1,aw n2,aw n4,cL]
theorem B5 (i:Int):cq [.int i]=ah (true,.bool true):=by
 simp(disch:=omega) only[cq,kn,rn,i9,oh,bV,reduceCtorEq,reduceIte,String.reduceBEq]
mutual
theorem lR:∀(n:Nat) (d:Z2),lay n d=true->PyData.eqv d d=true
 | _,.none,_=>by simp[PyData.eqv]
 | _,.bool _,_=>by simp[PyData.eqv]
 | _,.int _,_=>by simp[PyData.eqv]
 | _,.str _,_=>by simp[PyData.eqv]
 | 0,.list xs,h=>by simp[lay] at h
 | 0,.tuple xs,h=>by simp[lay] at h
 | n+1,.list xs,h=>by rw[lay] at h;simp only[PyData.eqv];exact sh n xs h
 | n+1,.tuple xs,h=>by rw[lay] at h;simp only[PyData.eqv];exact sh n xs h
 | 0,.dict _,h=>by simp[lay] at h
 | n+1,.dict _,h=>by simp[lay] at h
theorem sh:∀(n:Nat) (ds:List Z2),lays n ds=true->PyData.eqvAll ds ds=true
 | _,[],_=>by simp[PyData.eqvAll]
 | n,d :: ds,h=>by
  rw[lays,X7] at h
  simp only[PyData.eqvAll,lR n d h.1,sh n ds h.2,XW]
end
theorem yb (h1:lays n xs=true)(h2:lays n ys=true):lays n (xs++ys)=true:=gN.mpr λx hx=>by
 rcases Kk.mp hx with h | h
 ·exact gN.mp h1 x h
 ·exact gN.mp h2 x h
structure Good (xs:List Z2):Prop where
 u:∀(d:Nat) (x:Z2),xs[d]? =some x->sL x xs=some d
 n:ar xs=true
 l:∀n,lays (n+3) xs=true
theorem uh :∀{xs:List Z2} {d:Nat} (zs:List Z2),sL x xs=some d->sL x (xs++zs)=some d
 | [],d,zs,h=>by cases h
 | y :: ys,d,zs,h=>by
  rw[U5,sL]
  rw[sL] at h
  by_cases hy:PyData.eqv y x=true
  ·rw[JQ hy] at h⊢;exact h
  ·rw[JV hy] at h⊢
   cases e:sL x ys with
   | none=>rw[e] at h;cases h
   | some k=>rw[e] at h;rw[uh zs e];exact h
theorem sj (hx:PyData.eqv x x=true):∀{xs:List Z2},cV xs x=false->sL x (xs++[x])=some xs.length
 | [],_=>by simp[sL,hx]
 | y :: ys,h=>by
  rw[cV,YW,Bool.or_eq_false_iff] at h
  rw[U5,sL,JV (by rw[h.1];exact K4),sj hx h.2];rfl
theorem Good.snoc (g:Good xs)(hn:br x=true)(hl:∀n,lay (n+3) x=true)(hx:cV xs x=false):Good (xs++[x]) where
 u:=λd y h=>by
  by_cases hd:d < xs.length
  ·rw[Xu hd] at h
   exact uh _ (g.u d y h)
  ·rw[Xj (!1)] at h
   have h0:d - xs.length=0:=by
    have:=(X1.mp h).1
    simp at this;omega
   rw[h0] at h
   have:x=y:=by simpa using h
   subst this
   rw[sj (lR _ _ (hl 0)) hx]
   congr 1;omega
 n:=by rw[fF,g.n,ar,ar,hn];rfl
 l:=λn=>yb (g.l n) (by rw[lays,lays,hl n];rfl)
theorem sk:Good []:=⟨λd x h=>by simp at h,rfl,λ_=>rfl⟩
theorem Good.br (g:Good xs)(h:x∈xs):br x=true:=aT.mp g.n x h
theorem Good.lay (g:Good xs)(h:x∈xs)(n:Nat):Y.lay (n+3) x=true:=gN.mp (g.l n) x h
theorem Good.cV (g:Good xs)(h:x∈xs):Y.cV xs x=true:=List.any_eq_true.mpr ⟨x,h,lR _ _ (g.lay h 0)⟩
theorem AR (xs:List Z2)(n:Nat)(hx:xs.length<=1000)(hn:n<=100):gY [.list xs,.int (n:Int)]=ah (true,.int ((xs.length^n:Nat):Int)):=by
 obtain⟨Γ',h1,c3,h2⟩:=bt (g:=bW 3) (b:=jr) (ds:=(List.range n).map λ(i:Nat)=>PyData.int (i:Int)) (Γ:=[fL xs,fN n,tI 1,none])
  (λi Γ=>∃c3:Option (Bool×Z2),Γ=[fL xs,fN n,tI ((xs.length^i:Nat):Int),c3]) ⟨none,by simp⟩ (by
  rintro i d Γ hd ⟨c3,rfl⟩
  obtain⟨rfl,hi⟩:=bZ hd
  refine⟨_,[fL xs,fN n,tI ((xs.length^(i+1):Nat):Int),tN i],rfl,.inl ?_,_,rfl⟩
  simp(disch:=omega) only[jr,rn,reduceIte,Nat.pow_succ,Int.natCast_mul])
 simp(disch:=omega) only[gY,k9,rn,reduceIte,h1,h2,Ku]
noncomputable def dig (L n:Nat):Nat->List Nat
 | 0=> []
 | k+1=>dig L n k++[n / L^k % L]
theorem GQ (L n k:Nat):(dig L n k).length=k:=by
 induction k with
 | zero=>rfl
 | succ k ih=>rw[dig,K2,ih];rfl
theorem Ep (hL:0 < L)(h:d∈dig L n k):d < L:=by
 induction k with
 | zero=>cases h
 | succ k ih=>
  rw[dig] at h
  rcases Kk.mp h with h | h
  ·exact ih h
  ·rw[K5.mp h];exact Nat.mod_lt _ hL
noncomputable def oQ (xs:List Z2)(n k:Nat):List Z2:=(dig xs.length n k).reverse.map λd=>xs.getD d .none
theorem getD_at {xs:List Z2}(h:d < xs.length):xs[d]? =some (xs.getD d .none):=by rw[X8,K3 h];rfl
theorem getD_mem {xs:List Z2}(h:d < xs.length):xs.getD d .none∈xs:=UY (getD_at h)
theorem Er (hv:1<=xs.length)(h:x∈oQ xs n k):x∈xs:=by
 obtain⟨d,hd,rfl⟩:=Kv.mp h
 exact getD_mem (Ep hv (Uw.mp hd))
theorem Es (xs:List Z2)(n k:Nat)(g:Good xs)(hv:1<=xs.length)(Ht:xs.length<=1000)(hk:k<=100):nC [.list xs,.int (k:Int),.int (n:Int)]=ah (true,.tuple (oQ xs n k)):=by
 obtain⟨Γ',h1,c5,h2⟩:=bt (g:=bW 5) (b:=mH) (ds:=(List.range k).map λ(i:Nat)=>PyData.int (i:Int)) (Γ:=[fL xs,fN k,fN n,tL [],tN n,none])
  (λi Γ=>∃c5:Option (Bool×Z2),Γ=[fL xs,fN k,fN n,tL ((dig xs.length n i).map λd=>xs.getD d .none),tI ((n / xs.length^i:Nat):Int),c5]) ⟨none,by simp[dig]⟩ (by
  rintro i d Γ hd ⟨c5,rfl⟩
  obtain⟨rfl,hi⟩:=bZ hd
  refine⟨_,[fL xs,fN k,fN n,tL ((dig xs.length n (i+1)).map λd=>xs.getD d .none),tI ((n / xs.length^(i+1):Nat):Int),tN i],rfl,.inl ?_,_,rfl⟩
  have hlt:n / xs.length^i % xs.length < xs.length:=Nat.mod_lt _ hv
  have e1:((n / xs.length^i:Nat):Int) % (xs.length:Int)=((n / xs.length^i % xs.length:Nat):Int):=(Int.natCast_emod _ _).symm
  have e2:pY xs ((n / xs.length^i % xs.length:Nat):Int)=some (xs.getD (n / xs.length^i % xs.length) .none):=fR (getD_at hlt)
  have e3:((n / xs.length^i:Nat):Int) / (xs.length:Int)=((n / xs.length^(i+1):Nat):Int):=by
   rw[Nat.pow_succ,←Nat.div_div_eq_div_mul];exact(Int.natCast_ediv _ _).symm
  have hsz:(dig xs.length n i).length < sizeLine:=Xv (show _<=100 by rw[GQ];omega) (!8)
  have e4:br (xs.getD (n / xs.length^i % xs.length) .none)=true:=g.br (getD_mem hlt)
  simp(disch:=omega) only[mH,rn,reduceIte,e1,e2,e3,hsz,dig,X0,cf e4])
 have hn:ar ((dig xs.length n k).map λd=>xs.getD d .none)=true:=aT.mpr λx hx=>by
  obtain⟨d,hd,rfl⟩:=Kv.mp hx
  exact g.br (getD_mem (Ep hv hd))
 rw[K6,KW] at h2
 simp(disch:=omega) only[nC,rD,rn,reduceIte,h1,h2,Ku,qZ hn,oQ,←List.map_reverse]
theorem Et (ws ss:List Z2)(k N:Nat)(gw:Good ws)(gs:Good ss)(hv:1<=ws.length)(Ht:ws.length<=8)(hk:k<=5)(hN:N < ss.length*ws.length^k) :
  nD [.list ws,.int (k:Int),.list ss,.int (N:Int)]=ah (true,.tuple [ss.getD (N / ws.length^k) .none,.tuple (oQ ws (N % ws.length^k) k)]):=by
 have hp:0 < ws.length^k:=Nat.pow_pos hv
 have hp2:ws.length^k<=32768:=Kz (Nat.pow_le_pow_left Ht k) (Kz (Nat.pow_le_pow_right (!8) hk) (!8))
 have hq:N / ws.length^k < ss.length:=Nat.div_lt_of_lt_mul (by rw[Ju];exact hN)
 have hm:=AR ws k (!1) (!1)
 have hr:=Es ws (N % ws.length^k) k gw hv (!1) (!1)
 have e1:((N:Nat):Int) / ((ws.length^k:Nat):Int)=((N / ws.length^k:Nat):Int):=(Int.natCast_ediv _ _).symm
 have e2:((N:Nat):Int) % ((ws.length^k:Nat):Int)=((N % ws.length^k:Nat):Int):=(Int.natCast_emod _ _).symm
 have e3:=fR (getD_at hq)
 have ns:br (ss.getD (N / ws.length^k) .none)=true:=gs.br (getD_mem hq)
 have nr:ar (oQ ws (N % ws.length^k) k)=true:=aT.mpr λx hx=>gw.br (Er hv hx)
 have hT:ar [ss.getD (N / ws.length^k) .none,.tuple (oQ ws (N % ws.length^k) k)]=true:=by simp only[ar,ns,cz,nr,XW]
 generalize ws.length^k=L at*
 simp(disch:=omega) only[nD,rE,rn,reduceIte,hm,hr,e1,e2,e3,cf ns,aw nr,aw hT]
theorem GR (ws ss:List Z2)(k:Nat)(Ht:ws.length<=8)(hs:ss.length<=81)(hk:k<=5) :
  gZ [.list ws,.int (k:Int),.list ss]=ah (true,.int ((ss.length*ws.length^k:Nat):Int)):=by
 have hm:=AR ws k (!1) (!1)
 simp(disch:=omega) only[gZ,k_,rn,reduceIte,hm,Int.natCast_mul]
theorem Eu (h1:ar xs=true)(h2:ar ys=true)(h3:xs.length+ys.length<=sizeLine):lZ (.tuple xs) (.tuple ys)=some (.tuple (xs++ys)):=by
 simp only[lZ,h1,h2,XW,J4,Z9 h3,if_true]
theorem yc (L m:Nat):∀k:Nat,dig L m (k+1)=(m % L) :: dig L (m / L) k
 | 0=>by simp[dig]
 | k+1=>by
  rw[dig,yc L m k,dig,U5,Nat.pow_succ,Ju (L^k) L,←Nat.div_div_eq_div_mul]
theorem B6 (xs:List Z2)(n d k:Nat)(hd:d < xs.length):oQ xs (n*xs.length+d) (k+1)=oQ xs n k++[xs.getD d .none]:=by
 have e1:(n*xs.length+d) % xs.length=d:=by rw[Ju,Nat.mul_add_mod,Nat.mod_eq_of_lt hd]
 have e2:(n*xs.length+d) / xs.length=n:=by rw[Ju,Nat.mul_add_div (!1),Nat.div_eq_of_lt hd,Nat.add_zero]
 unfold oQ
 rw[yc,e1,e2,J6,X0]
 rfl
theorem uk (a b:Nat):List.range (a*b)=(List.range a).flatMap λn=>(List.range b).map λd=>n*b+d:=by
 induction a with
 | zero=>simp
 | succ a ih=>
  rw[Y2,List.range_add,ih,Yk,List.flatMap_append]
  simp
theorem map_getD (xs:List Z2):(List.range xs.length).map (λd=>xs.getD d .none)=xs:=by
 refine Jx (by simp) λi h1 h2=> ?_
 simp[X8,K3 h2]
theorem KD {α:Type}(xs:List Z2)(f:Z2->α):xs.map f=(List.range xs.length).map λd=>f (xs.getD d .none):=(congrArg (List.map f) (map_getD xs)).symm.trans (KZ ..)
theorem GS {α:Type}(xs:List Z2)(f:Z2->List α):xs.flatMap f=(List.range xs.length).flatMap λd=>f (xs.getD d .none):=(congrArg (List.flatMap f) (map_getD xs)).symm.trans (List.flatMap_map ..)
noncomputable def rws (ws:List Z2):Nat->List (List Z2)
 | 0=> [[]]
 | k+1=>(rws ws k).flatMap λr=>ws.map λw=>r++[w]
theorem zx (ws:List Z2):∀k:Nat,rws ws k=(List.range (ws.length^k)).map λn=>oQ ws n k
 | 0=>by simp[rws,oQ,dig]
 | k+1=>by
  rw[rws,zx ws k,Nat.pow_succ,uk,List.map_flatMap,List.flatMap_map]
  refine congrArg (λf=>List.flatMap f (List.range (ws.length^k))) (funext λn=> ?_)
  rw[KZ,KD ws]
  refine UK λd hd=> ?_
  exact(B6 ws n d k (Xy.mp hd)).symm
def yd (ws ss:List Z2)(k N:Nat):Z2:=.tuple [ss.getD (N / ws.length^k) .none,.tuple (oQ ws (N % ws.length^k) k)]
def Ey (ws ss:List Z2)(k:Nat):List Z2:=(List.range (ss.length*ws.length^k)).map (yd ws ss k)
theorem GU (ws ss:List Z2)(k:Nat):(ss.flatMap λs=>(rws ws k).map λr=>PyData.tuple [s,.tuple r])=Ey ws ss k:=by
 unfold Ey
 rw[uk,List.map_flatMap]
 rw[GS ss]
 refine congrArg (λf=>List.flatMap f (List.range ss.length)) (funext λm=> ?_)
 rw[zx,KZ,KZ]
 refine UK λn hn=> ?_
 have hn':n < ws.length^k:=Xy.mp hn
 show PyData.tuple [ss.getD m .none,.tuple (oQ ws n k)]=yd ws ss k (m*ws.length^k+n)
 unfold yd
 rw[Ju,Nat.mul_add_div (!1),Nat.div_eq_of_lt hn',Nat.add_zero,Nat.mul_add_mod,Nat.mod_eq_of_lt hn']
theorem AS (ws:List Z2)(k:Nat):(rws ws k).length=ws.length^k:=by rw[zx];simp
theorem qb :∀{k:Nat} {r:List Z2},r∈rws ws k->r.length=k/\∀x∈r,x∈ws
 | 0,r,h=>by rw[K5.mp h];exact⟨rfl,λx hx=>by cases hx⟩
 | k+1,r,h=>by
  obtain⟨r',h1,h2⟩:=Y5.mp h
  obtain⟨w,h3,rfl⟩:=Kv.mp h2
  obtain⟨h4,h5⟩:=qb h1
  refine⟨by rw[K2,h4];rfl,λx hx=> ?_⟩
  rcases Kk.mp hx with hx | hx
  ·exact h5 x hx
  ·rw[K5.mp hx];exact h3
theorem Ez (g:Good ws)(h:r∈rws ws k):ar r=true:=aT.mpr λx hx=>g.br ((qb h).2 x hx)
def tups (l:List (List Z2)):List Z2:=l.map PyData.tuple
theorem ye (a b:List (List Z2)):tups (a++b)=tups a++tups b:=by simp[tups]
noncomputable def pairD (s:Z2)(l:List (List Z2)):List Z2:=l.map λr=>PyData.tuple [s,.tuple r]
theorem KE (ws ss:List Z2)(k:Nat)(g:Good ws)(gs:Good ss)(hw1:1<=ws.length)(hw:ws.length<=8)(hk:k<=5)(hs:ss.length<=81)(hm:ss.length*ws.length^k<=3000) :
  ki [.list ws,.int (k:Int),.list ss]=ah (true,.list (Ey ws ss k)):=by
 have hr:gZ [.list ws,.int (k:Int),.list ss]=ah (true,.int ((ss.length*ws.length^k:Nat):Int)):=GR ws ss k hw hs hk
 have hgt:decide ((3000:Int) < ((ss.length*ws.length^k:Nat):Int))=false:=Z8 (!1)
 have hc:cb bT im [fL ws,fN k,fL ss] ((List.range (ss.length*ws.length^k)).map λ(i:Nat)=>PyData.int (i:Int))=some (((List.range (ss.length*ws.length^k)).map λ(i:Nat)=>PyData.int (i:Int)).map λd=>(Kd.fr [],match d with | .int i=>yd ws ss k i.toNat | _=> .none)):=jL _ _ λd hd=>by
  obtain⟨N,hN,rfl⟩:=Kv.mp hd
  have e:=Et ws ss k N g gs hw1 hw hk (Xy.mp hN)
  simp(disch:=omega) only[im,rn,reduceIte,e,xg (nj _),Ku,yd]
  unfold cP;split <;> rfl
 rw[KZ] at hc
 have k1:=cS (List.range (ss.length*ws.length^k)) (yd ws ss k)
 have m1:((List.range (ss.length*ws.length^k)).map λa=>(Kd.fr [],yd ws ss k a)).map Prod.snd=Ey ws ss k:=by rw[KZ];rfl
 have hc':cb bT im [fL ws,fN k,fL ss] ((List.range (ss.length*ws.length^k)).map λ(i:Nat)=>PyData.int (i:Int))=some ((List.range (ss.length*ws.length^k)).map λa=>(Kd.fr [],yd ws ss k a)):=hc
 have hl:ss.length*ws.length^k<=100000:=by omega
 generalize hM:ss.length*ws.length^k=Mm at*
 simp(disch:=omega) only[ki,mI,a7,rn,reduceIte,hr,hgt,Ku,hc',k1,m1,hl,xg (nj _)]
end K52
namespace Y
open PySem
section
--
theorem aB (h:a Γ=ah (.nx Γ')):aC a b Γ=b Γ':=by unfold aC;rw[h];rfl
theorem HK (h:t Γ=ah true):l4 t a b Γ=a Γ:=by unfold l4;rw[h];rfl
theorem EA (h:t Γ=ah false):l4 t a b Γ=b Γ:=by unfold l4;rw[h];rfl
theorem GV (Γ:aX):fH Γ=ah (.nx Γ):=rfl
theorem dZ (h:a (cD n ds)=ah (.rt o d)):cM n a ds=ah (o,d):=by unfold cM;rw[h];rfl
theorem nX (h:t Γ=ah true)(h2:b Γ=ah (.nx Γ')):fy (n+1) t b Γ=fy n t b Γ':=by rw[fy,h,au,JQ rfl,h2,au]
theorem sm (h:t Γ=ah false):fy (n+1) t b Γ=ah (.nx Γ):=by rw[fy,h,au,JV K4]
end
end Y
namespace K52
open PySem Y
noncomputable def sq (ns:List Int)(k:Int):Int:=if k < ns.length then (ns[k.toNat]?).getD 0 else 0
theorem vU (ns:List Int)(k:Int)(hk:0<=k):bh [.list (ns.map PyData.int),.int k]=ah (true,.int (sq ns k)):=by
 by_cases h:k < ns.length
 ·have e:(ns.map PyData.int)[k.toNat]? =some (.int (sq ns k)):=by
   rw[KU,K3 (!1),sq,JQ h,K3 (!1)];rfl
  simp(disch:=omega) only[bh,fU,rn,reduceIte,h,Gc hk e]
 ·have e:sq ns k=0:=JV h
  simp(disch:=omega) only[bh,fU,rn,reduceIte,h,e]
theorem KG (n k:Int)(h0:0<=k)(h1:k < 1000):∃z:Nat,z < 2147483648/\gy [.int n,.int k]=ah (true,.int (z:Int)):=by
 by_cases hn:1000000000000<=n
 ·have b1:=Yq k (show(61:Int)≠0 by decide)
  have b2:=Y0 k (show(0:Int) < 61 by decide)
  obtain⟨Γ',g1,z,c2,g2⟩:=bt (g:=bW 2) (b:=j_) (ds:=(List.range (k % 61).toNat).map λ(i:Nat)=>PyData.int (i:Int)) (Γ:=[tI (n / 1000000000000 - 1),fI k,none,none])
   (λi Γ=>∃(z:Int) (c2:Option (Bool×Z2)),Γ=[tI z,fI k,c2,none]) ⟨_,none,rfl⟩ (by
   rintro i d Γ hd ⟨z,c2,rfl⟩
   obtain⟨rfl,hi⟩:=bZ hd
   refine⟨_,[tI (z / 2147483648),fI k,tN i,none],rfl,.inl ?_,_,_,rfl⟩
   simp(disch:=omega) only[j_,rn,reduceIte])
  refine⟨(z % 2147483648).toNat,by omega,?_⟩
  have ez:((z % 2147483648).toNat:Int)=z % 2147483648:=by omega
  rw[ez]
  simp(disch:=omega) only[gy,ka,rn,reduceIte,Ak,Int.reduceToNat,Int.reducePow,hn,g1,g2]
 ·have b1:=Yq n (show(1000003:Int)≠0 by decide)
  have b2:=Y0 n (show(0:Int) < 1000003 by decide)
  have b3:=Yq ((n % 1000003+k*k*7919+k)*48271) (show(2147483629:Int)≠0 by decide)
  have b4:=Y0 ((n % 1000003+k*k*7919+k)*48271) (show(0:Int) < 2147483629 by decide)
  generalize ha:(n % 1000003+k*k*7919+k)*48271 % 2147483629=a at b3 b4
  have b5:=Yq (a*a) (show(2147483587:Int)≠0 by decide)
  have b6:=Y0 (a*a) (show(0:Int) < 2147483587 by decide)
  generalize hb:a*a % 2147483587=b at b5 b6
  have b7:=Yq (b*(b+2)) (show(2147483579:Int)≠0 by decide)
  have b8:=Y0 (b*(b+2)) (show(0:Int) < 2147483579 by decide)
  generalize hc:b*(b+2) % 2147483579=c at b7 b8
  refine⟨(c / 7).toNat,by omega,?_⟩
  have ez:((c / 7).toNat:Int)=c / 7:=by omega
  rw[ez]
  simp(disch:=omega) only[gy,ka,rn,reduceIte,Ak,Int.reduceToNat,Int.reducePow,hn,ha,hb,hc]
noncomputable def prs (ls:List (Int×Int)):List Z2:=ls.map λp=> .tuple [.int p.1,.int p.2]
theorem EB (h:Nat)(h2:2<=h)(h4:h<=4):∃ls:List (Int×Int),kb [.int (h:Int)]=ah (true,.list (prs ls))/\2<=ls.length/\ls.length<=12:=by
 have hc:h=2∨h=3∨h=4:=by omega
 rcases hc with rfl | rfl | rfl
 ·exact⟨[(0,1),(1,0)],by rfl,by decide,by decide⟩
 ·exact⟨[(0,1),(0,2),(1,0),(1,2),(2,0),(2,1)],by rfl,by decide,by decide⟩
 ·exact⟨[(0,1),(0,2),(0,3),(1,0),(1,2),(1,3),(2,0),(2,1),(2,3),(3,0),(3,1),(3,2)],by rfl,by decide,by decide⟩
def B7 (W:List Z2):Prop:=∀x∈W,∃i j:Int,x= .tuple [.int i,.int j]
theorem B7.n (h:B7 W):ar W=true:=aT.mpr λx hx=>by
 obtain⟨i,j,rfl⟩:=h x hx;rfl
theorem B7.l (h:B7 W)(n:Nat):lays (n+2) W=true:=gN.mpr λx hx=>by
 obtain⟨i,j,rfl⟩:=h x hx;rfl
theorem B7.snoc (h:B7 W)(hx:∃i j:Int,x= .tuple [.int i,.int j]):B7 (W++[x]):=λy hy=>by
 rcases Kk.mp hy with hy | hy
 ·exact h y hy
 ·rw[K5.mp hy];exact hx
theorem GW (ls:List (Int×Int)):B7 (prs ls):=λx hx=>by
 obtain⟨p,_,rfl⟩:=Kv.mp hx;exact⟨_,_,rfl⟩
theorem zy (z:Int)(h:Nat)(h2:2<=h)(h4:h<=4):∃W:List Z2,B7 W/\W.length<=12/\dH [.int z,.int (h:Int)]=ah (true,.tuple W):=by
 obtain⟨ls,hp,l1,l2⟩:=EB h h2 h4
 obtain⟨Γ',g1,W,y,o,c3,g2,g3,g4⟩:=bt (g:=bW 3) (b:=dS) (ds:=prs ls) (Γ:=[fI z,fN h,tL [],none])
  (λi Γ=>∃(W:List Z2) (y:Int) (o:Bool) (c3:Option (Bool×Z2)),Γ=[some (o,.int y),fN h,tL W,c3]/\B7 W/\W.length<=i) ⟨[],z,false,none,rfl,(λx hx=>by cases hx),K1 _⟩ (by
  rintro i d Γ hd ⟨W,y,o,c3,rfl,hW,hl⟩
  have hi:i < ls.length:=by have:=(X1.mp hd).1;simpa [prs] using this
  obtain⟨a,b,rfl⟩:=GW ls d (UY hd)
  have hsz:W.length < sizeLine:=Xv (show _<=12 by omega) (!8)
  have nT:ar [PyData.int a,.int b]=true:=rfl
  cases hb:(y % 3==0) with
  | true=>
   refine⟨_,[tI (y / 3),fN h,tL (W++[.tuple [.int a,.int b]]),tT [.int a,.int b]],by rw[aw nT];rfl,.inl ?_,_,_,_,_,rfl,hW.snoc ⟨a,b,rfl⟩,by rw[K2,X4];omega⟩
   simp(disch:=omega) only[dS,rn,reduceIte,hb,aw nT,hsz]
  | false=>
   refine⟨_,[tI (y / 3),fN h,tL W,tT [.int a,.int b]],by rw[aw nT];rfl,.inl ?_,_,_,_,_,rfl,hW,by omega⟩
   simp(disch:=omega) only[dS,rn,reduceIte,hb,aw nT,hsz])
 have gl:(prs ls).length=ls.length:=K6 _
 refine⟨W,g3,by omega,?_⟩
 simp(disch:=omega) only[dH,iQ,rn,reduceIte,hp,g1,g2,cg g3.n,aw g3.n]
abbrev Sl:=Option (Bool×Z2)
def B8 (x:Z2):Prop:=∃W:List Z2,x= .tuple W/\B7 W/\W.length<=12
theorem B8.br (h:B8 x):br x=true:=by
 obtain⟨W,rfl,p,_⟩:=h
 exact p.n
theorem B8.lay (h:B8 x)(n:Nat):lay (n+3) x=true:=by
 obtain⟨W,rfl,p,_⟩:=h
 rw[Y.lay];exact p.l n
theorem KH (hx:lay 60 x=true)(hw:lays 60 ws=true):g7 x (.list ws)=some (.bool (!cV ws x)):=xh hx hw
def r5:SF:=aH 5 (aN gy [(aN bh [(eV 0),(bR lZ (eC (.int 2)) (eV 4))]),(bR lZ (eC (.int 20)) (eV 4))])
def r6:SF:=aH 6 (aN dH [(eV 5),(eV 1)])
def rT:TF:=tE (bR yE (bR kF (bR ku (eV 5) (eC (.int 600000))) (eC (.int 3))) (eC (.int 1)))
def rX:SF:=aH 6 (M7 (eV 6) none (some (eC (.int 1))))
def Nj:TF:=tf (tE (bR g7 (eV 6) (eV 3))) (tE (bR Ll (kJ kO [(eV 3)]) (eV 2)))
def Oy:SF:=iI 3 (eV 6)
theorem EC:de=aC r5 (aC r6 (aC (l4 rT rX fH) (l4 Nj Oy fH))):=rfl
theorem B9 (ns:List Int)(h:Nat)(h2:2<=h)(h4:h<=4)(m k:Nat)(hm:m<=3)(hm1:1<=m)(hk:k < 3)(ws:List Z2)(g:Good ws)(hw:∀x∈ws,B8 x)(hl:ws.length<=m)(c5 c6:Sl) :
  ∃(ws':List Z2) (kE pP:Sl),Good ws'/\(∀x∈ws',B8 x)/\ws'.length<=m/\1<=ws'.length/\de [fL (ns.map PyData.int),fN h,fN m,tL ws,tN k,c5,c6]=ah (.nx [fL (ns.map PyData.int),fN h,fN m,tL ws',tN k,kE,pP]):=by
 have c1:=vU ns (2+(k:Int)) (!1)
 obtain⟨z,_,m1⟩:=KG (sq ns (2+(k:Int))) (20+(k:Int)) (!1) (!1)
 obtain⟨W,w1,w2,w3⟩:=zy (z:Int) h h2 h4
 have nW:=w1.n
 have s1:r5 [fL (ns.map PyData.int),fN h,fN m,tL ws,tN k,c5,c6]=ah (.nx [fL (ns.map PyData.int),fN h,fN m,tL ws,tN k,tN z,c6]):=by
  simp(disch:=omega) only[r5,rn,reduceIte,c1,m1]
 have s2:r6 [fL (ns.map PyData.int),fN h,fN m,tL ws,tN k,tN z,c6]=ah (.nx [fL (ns.map PyData.int),fN h,fN m,tL ws,tN k,tN z,tT W]):=by
  simp(disch:=omega) only[r6,rn,reduceIte,w3,aw nW]
 have t1:rT [fL (ns.map PyData.int),fN h,fN m,tL ws,tN k,tN z,tT W]=ah ((z:Int) / 600000 % 3==1):=by
  simp(disch:=omega) only[rT,rn,reduceIte]
 have s3:∃W':List Z2,B7 W'/\W'.length<=12/\(l4 rT rX fH) [fL (ns.map PyData.int),fN h,fN m,tL ws,tN k,tN z,tT W]=ah (.nx [fL (ns.map PyData.int),fN h,fN m,tL ws,tN k,tN z,tT W']):=by
  cases hb:((z:Int) / 600000 % 3==1) with
  | false=>
   rw[hb] at t1
   exact⟨W,w1,w2,(EA t1).trans rfl⟩
  | true=>
   rw[hb] at t1
   have gs:=GN (lo:=none) (hi:=some 1) nW
   refine⟨cutD W none (some 1),λx hx=> ?_,?_,(HK t1).trans ?_⟩
   ·unfold cutD at hx
    exact w1 x (U0 (U1 hx))
   ·unfold cutD
    rw[Xx,U8];omega
   ·simp(disch:=omega) only[rX,rn,reduceIte,M7,oE,oI,aw nW,gs]
 obtain⟨W',v1,v2,s3⟩:=s3
 have iw:B8 (.tuple W'):=⟨W',rfl,v1,v2⟩
 have nI:=KH (x:=.tuple W') (ws:=ws) (iw.lay 57) (g.l 57)
 have Pl:=v1.n
 have t2:Nj [fL (ns.map PyData.int),fN h,fN m,tL ws,tN k,tN z,tT W']=ah (!cV ws (.tuple W') && decide ((ws.length:Int) < (m:Int))):=by
  cases hb:cV ws (.tuple W') <;> rw[hb] at nI <;> simp(disch:=omega) only[Nj,rn,reduceIte,aw Pl,nI,Bool.not_true,Bool.not_false,J4,J9]
 have pre:∀o,(l4 Nj Oy fH) [fL (ns.map PyData.int),fN h,fN m,tL ws,tN k,tN z,tT W']=o->de [fL (ns.map PyData.int),fN h,fN m,tL ws,tN k,c5,c6]=o:=λo q=>by
  rw[EC,aB s1,aB s2,aB s3];exact q
 cases hb:(!cV ws (.tuple W') && decide ((ws.length:Int) < (m:Int))) with
 | true=>
  rw[hb] at t2
  rw[X7,Bool.not_eq_true',JJ] at hb
  have hz:ws.length < sizeLine:=X6 (show ws.length < 100 by omega) (!8)
  refine⟨ws++[.tuple W'],tN z,tT W',g.snoc iw.br iw.lay hb.1,λx hx=> ?_,by rw[K2,X4];omega,by simp,pre _ ((HK t2).trans ?_)⟩
  ·rcases Kk.mp hx with hx | hx
   ·exact hw x hx
   ·rw[K5.mp hx];exact iw
  ·simp(disch:=omega) only[Oy,rn,reduceIte,aw Pl,hz]
 | false=>
  rw[hb] at t2
  refine⟨ws,tN z,tT W',g,hw,hl,?_,pre _ ((EA t2).trans rfl)⟩
  cases ws with
  | nil=>
   have:(!cV [] (PyData.tuple W') && decide ((([]:List Z2).length:Int) < (m:Int)))=true:=by
    rw[Z9 (show((([]:List Z2).length:Nat):Int) < (m:Int) by simp;omega)];rfl
   rw[hb] at this
   cases this
  | cons a b=>simp
theorem GX (ns:List Int)(h:Nat)(h2:2<=h)(h4:h<=4)(m:Nat)(hm:m<=3)(hm1:1<=m):∃ws:List Z2,kZ [.list (ns.map PyData.int),.int (h:Int),.int (m:Int)]=ah (true,.list ws)/\Good ws/\(∀x∈ws,B8 x)/\1<=ws.length/\ws.length<=m:=by
 have c1:=vU ns 1 (!8)
 obtain⟨w0,g0,i0,l0,e0⟩:∃w0:List Z2,Good w0/\(∀x∈w0,B8 x)/\w0.length<=1/\(l4 (tE (bR yE (bR kF (aN bh [(eV 0),(eC (.int 1))]) (eC (.int 2))) (eC (.int 1)))) (iI 3 (fM [])) fH) [fL (ns.map PyData.int),fN h,fN m,tL [],none,none,none]=ah (.nx [fL (ns.map PyData.int),fN h,fN m,tL w0,none,none,none]):=by
  cases hb:(sq ns 1 % 2==1) with
  | false=>exact⟨[],sk,(λx hx=>by cases hx),by simp,by simp(disch:=omega) only[rn,reduceIte,c1,hb]⟩
  | true=>
   have e:cP (Kd.fr []) (.tuple [])= .fr []:=rfl
   have hz:0 < sizeLine:=by decide
   exact⟨[.tuple []],sk.snoc (x:=.tuple []) rfl (λ_=>rfl) rfl,λx hx=>by rw[K5.mp hx];exact⟨[],rfl,(λy hy=>by cases hy),by simp⟩,by simp,by simp(disch:=omega) only[rn,reduceIte,c1,hb,e,hz]⟩
 obtain⟨Γ',k1,ws,c4,c5,c6,rfl,k2,k3,k4,k5⟩:=bt (g:=bW 4) (b:=de) (ds:=(List.range m).map λ(i:Nat)=>PyData.int (i:Int)) (Γ:=[fL (ns.map PyData.int),fN h,fN m,tL w0,none,none,none])
  (λi Γ=>∃(ws:List Z2) (c4 c5 c6:Sl),Γ=[fL (ns.map PyData.int),fN h,fN m,tL ws,c4,c5,c6]/\Good ws/\(∀x∈ws,B8 x)/\ws.length<=m/\(0 < i->1<=ws.length))
  ⟨w0,none,none,none,rfl,g0,i0,by omega,λz=>absurd z (U2 _)⟩ (by
  rintro i d Γ hd ⟨ws,c4,c5,c6,rfl,q1,q2,q3,q4⟩
  obtain⟨rfl,hi⟩:=bZ hd
  obtain⟨ws',kE,pP,r1,r2,r3,r4,r5⟩:=B9 ns h h2 h4 m i hm hm1 (!1) ws q1 q2 q3 c5 c6
  exact⟨_,_,rfl,.inl r5,ws',_,kE,pP,rfl,r1,r2,r3,λ_=>r4⟩)
 rw[K6,KW] at k5
 refine⟨ws,?_,k2,k3,k5 (!1),k4⟩
 have hmt:(m:Int).toNat=m:=Ku m
 have s1:(aH 3 (dh [])) (cD 7 [.list (ns.map PyData.int),.int (h:Int),.int (m:Int)])=ah (.nx [fL (ns.map PyData.int),fN h,fN m,tL [],none,none,none]):=rfl
 have s3:(bA (eE (eV 2)) (bW 4) de) [fL (ns.map PyData.int),fN h,fN m,tL w0,none,none,none]=ah (.nx [fL (ns.map PyData.int),fN h,fN m,tL ws,c4,c5,c6]):=by
  simp(disch:=omega) only[rn,reduceIte,hmt,k1]
 refine dZ ?_
 unfold kY
 rw[aB s1,aB e0,aB s3]
 rfl
def MR (h:Nat)(x:Z2):Prop:=∃vs:List Int,x= .tuple (vs.map PyData.int)/\vs.length=h
theorem MR.br (i:MR h x):br x=true:=by
 obtain⟨vs,rfl,_⟩:=i
 exact gx vs
theorem MR.lay (i:MR h x)(n:Nat):lay (n+3) x=true:=by
 obtain⟨vs,rfl,_⟩:=i
 rw[Y.lay];exact BH vs
theorem GY (ns:List Int):∃(h:Nat) (ws:List Z2) (k:Nat),2<=h/\h<=4/\Good ws/\(∀x∈ws,B8 x)/\1<=ws.length/\ws.length<=3/\k<=4/\bz [.list (ns.map PyData.int)]=ah (false,.tuple [.int (h:Int),.list ws,.int (k:Int)]):=by
 have c0:=vU ns 0 (!8)
 generalize sq ns 0=z at c0
 have b1:=Yq z (show(3:Int)≠0 by decide)
 have b2:=Y0 z (show(0:Int) < 3 by decide)
 obtain⟨h,m,q,hh,h2,h4,m1,m3,q1,q4,e1,e2⟩:∃(h m q:Nat),2+z % 3=(h:Int)/\2<=h/\h<=4/\1<=m/\m<=3/\1<=q/\q<=5/\pY [PyData.int 3,.int 3,.int 2] ((h:Int) - 2)=some (.int (m:Int))/\pY [PyData.int 5,.int 4,.int 3] ((h:Int) - 2)=some (.int (q:Int)):=by
  have hc:z % 3=0∨z % 3=1∨z % 3=2:=by omega
  rcases hc with e | e | e <;> rw[e]
  ·exact⟨2,3,5,rfl,by decide,by decide,by decide,by decide,by decide,by decide,rfl,rfl⟩
  ·exact⟨3,3,4,rfl,by decide,by decide,by decide,by decide,by decide,by decide,rfl,rfl⟩
  ·exact⟨4,2,3,rfl,by decide,by decide,by decide,by decide,by decide,by decide,rfl,rfl⟩
 have q0:(0:Int) < (q:Int):=by omega
 have d1:=Yq (z / 3) (show(q:Int)≠0 by omega)
 have d2:=Y0 (z / 3) q0
 obtain⟨k,hk⟩:=Int.eq_ofNat_of_zero_le d1
 have hk:z / 3 % (q:Int)=(k:Int):=hk
 obtain⟨ws,w1,w2,w3,w4,w5⟩:=GX ns h h2 h4 m m3 m1
 refine⟨h,ws,k,h2,h4,w2,w3,w4,by omega,by omega,?_⟩
 have nt:∀kk,cP kk (.tuple [.int (h:Int),.list ws,.int (k:Int)])=kk:=λkk=>rfl
 simp(disch:=omega) only[bz,gz,rn,i9,oh,bV,reduceIte,c0,hh,e1,e2,hk,w1,nt]
theorem yf (d0 d1 d2 d3:Sl)(r:List Z2)(hr:ar r=true)(hrl:r.length<=10):∀(l acc:List Z2) (c7:Sl),ar l=true->acc.length+l.length<=10000->∃fK:Sl,aZ (bW 6) gF l [d0,d1,d2,d3,tL acc,tT r,c7]=
  ah (.nx [d0,d1,d2,d3,tL (acc++l.map λw=> .tuple (r++[w])),tT r,fK])
 | [],acc,c7,_,_=>⟨c7,by simp[aZ]⟩
 | w :: l,acc,c7,hn,hl=>by
  simp only[ar,X7] at hn
  rw[Kj] at hl
  obtain⟨fK,ih⟩:=yf d0 d1 d2 d3 r hr hrl l (acc++[.tuple (r++[w])]) (tA w) hn.2 (by rw[K2,X4];omega)
  refine⟨fK,?_⟩
  have hs:bW 6 (cP .base w) w [d0,d1,d2,d3,tL acc,tT r,c7]=some [d0,d1,d2,d3,tL acc,tT r,tA w]:=by rw[cf hn.1];rfl
  have nw:ar [w]=true:=by simp only[ar,hn.1,XW]
  have ga:=Eu hr nw (Kz (show r.length+[w].length<=100 by simp;omega) (!8))
  have hz:acc.length < sizeLine:=X6 (show acc.length < 100000 by omega) (!8)
  have hb:gF [d0,d1,d2,d3,tL acc,tT r,tA w]=ah (.nx [d0,d1,d2,d3,tL (acc++[.tuple (r++[w])]),tT r,tA w]):=by
   simp only[gF,rn,reduceIte,aw hr,cf hn.1,aw nw,ga,hz]
  rw[aZ,hs,bw,au,hb,au]
  refine ih.trans ?_
  rw[KQ,X5];rfl
theorem yg (ws:List Z2)(g:Good ws)(hw:ws.length<=8)(d1 d2 d3:Sl):∀(l:List (List Z2)) (acc:List Z2) (c6 c7:Sl),(∀r∈l,ar r=true/\r.length<=10)->acc.length+l.length*ws.length<=9000->∃pP fK:Sl,aZ (bW 5) df (tups l) [fL ws,d1,d2,d3,tL acc,c6,c7]=
  ah (.nx [fL ws,d1,d2,d3,tL (acc++tups (l.flatMap λr=>ws.map λw=>r++[w])),pP,fK])
 | [],acc,c6,c7,_,_=>⟨c6,c7,by simp[aZ,tups]⟩
 | r :: l,acc,c6,c7,hl,hb=>by
  obtain⟨h1,h2⟩:=hl r K7
  have em:(r :: l).length*ws.length=l.length*ws.length+ws.length:=by rw[Kj,Y2]
  rw[em] at hb
  obtain⟨fK,e⟩:=yf (fL ws) d1 d2 d3 r h1 h2 ws acc c7 g.n (!1)
  obtain⟨zA,vV,ih⟩:=yg ws g hw d1 d2 d3 l (acc++ws.map λw=> .tuple (r++[w])) (tT r) fK (λx hx=>hl x (K9 _ hx)) (by rw[K2,K6];omega)
  refine⟨zA,vV,?_⟩
  have hs:bW 5 (cP .base (.tuple r)) (.tuple r) [fL ws,d1,d2,d3,tL acc,c6,c7]=some [fL ws,d1,d2,d3,tL acc,tT r,c7]:=by rw[aw h1];rfl
  have hb2:df [fL ws,d1,d2,d3,tL acc,tT r,c7]=ah (.nx [fL ws,d1,d2,d3,tL (acc++ws.map λw=> .tuple (r++[w])),tT r,fK]):=by
   simp only[df,rn,reduceIte,e]
  show aZ (bW 5) df (.tuple r :: tups l) _=_
  rw[aZ,hs,bw,au,hb2,au]
  refine ih.trans ?_
  rw[List.flatMap_cons,ye,X5]
  congr 8
  simp[tups]
theorem B_ (g:Good ws)(hk:k<=5):∀r∈rws ws k,ar r=true/\r.length<=10:=λr hr=>⟨Ez g hr,by have:=(qb hr).1;omega⟩
theorem zB (ws:List Z2)(k:Nat)(g:Good ws)(hw1:1<=ws.length)(hw:ws.length<=3)(hk:k<=4):gX [.list ws,.int (k:Int)]=ah (true,.list (tups (rws ws k))):=by
 have hp:∀i,i<=4->ws.length^i<=81:=λi hi=>Kz (Nat.pow_le_pow_left hw i) (Kz (Nat.pow_le_pow_right (!8) hi) (!8))
 have hlen:∀i,(rws ws i).length=ws.length^i:=AS ws
 obtain⟨Γ',k1,c4,c5,c6,c7,rfl⟩:=bt (g:=bW 3) (b:=eQ) (ds:=(List.range k).map λ(i:Nat)=>PyData.int (i:Int)) (Γ:=[fL ws,fN k,tL (tups (rws ws 0)),none,none,none,none])
  (λi Γ=>∃c4 c5 c6 c7:Sl,Γ=[fL ws,fN k,tL (tups (rws ws i)),c4,c5,c6,c7]) ⟨none,none,none,none,rfl⟩ (by
  rintro i d Γ hd ⟨c4,c5,c6,c7,rfl⟩
  obtain⟨rfl,hi⟩:=bZ hd
  have hl1:=hlen i
  have hp1:=hp i (!1)
  have hm:(rws ws i).length*ws.length<=243:=by rw[hl1];exact Kz (Nat.mul_le_mul hp1 hw) (!8)
  obtain⟨pP,fK,e⟩:=yg ws g (!1) (fN k) (fL (tups (rws ws i))) (tN i) (rws ws i) [] c6 c7 (B_ g (!1)) (by rw[UQ];omega)
  have el:tups ((rws ws i).flatMap λr=>ws.map λw=>r++[w])=tups (rws ws (i+1)):=rfl
  rw[Yv,el] at e
  have hs3:eQ [fL ws,fN k,tL (tups (rws ws i)),tN i,c5,c6,c7]=ah (.nx [fL ws,fN k,tL (tups (rws ws (i+1))),tN i,none,pP,fK]):=by
   have e2:(bA (i6 (eV 2)) (bW 5) df) [fL ws,fN k,tL (tups (rws ws i)),tN i,tL [],c6,c7]=ah (.nx [fL ws,fN k,fL (tups (rws ws i)),tN i,tL (tups (rws ws (i+1))),pP,fK]):=e
   unfold eQ
   rw[aB (show(aH 4 (dh [])) _=ah (.nx [fL ws,fN k,tL (tups (rws ws i)),tN i,tL [],c6,c7]) from rfl),aB e2]
   rfl
  exact⟨_,_,rfl,.inl hs3,tN i,none,pP,fK,rfl⟩)
 rw[K6,KW] at k1
 have hkt:(k:Int).toNat=k:=Ku k
 have s1:(aH 2 (dh [(fM [])])) (cD 7 [.list ws,.int (k:Int)])=ah (.nx [fL ws,fN k,tL (tups (rws ws 0)),none,none,none,none]):=rfl
 have s2:(bA (eE (eV 1)) (bW 3) eQ) [fL ws,fN k,tL (tups (rws ws 0)),none,none,none,none]=ah (.nx [fL ws,fN k,tL (tups (rws ws k)),c4,c5,c6,c7]):=by
  simp(disch:=omega) only[rn,reduceIte,hkt,k1]
 refine dZ ?_
 unfold k6
 rw[aB s1,aB s2]
 rfl
abbrev Rn:=List Int×List (List Z2)
def HL (p:Rn):Z2:=jt p.1 p.2
theorem yh {ws:List Z2}(hw:∀x∈ws,B8 x):∀(l:List Z2),(∀x∈l,x∈ws)->∃Ws:List (List Z2),l=Ws.map PyData.tuple/\∀W∈Ws,B7 W/\W.length<=12
 | [],_=>⟨[],rfl,λW hW=>by cases hW⟩
 | x :: l,h=>by
  obtain⟨Ws,rfl,h2⟩:=yh hw l λy hy=>h y (K9 _ hy)
  obtain⟨W,rfl,p1,p2⟩:=hw x (h x K7)
  refine⟨W :: Ws,rfl,λV hV=> ?_⟩
  rcases K0.mp hV with rfl | hV
  ·exact⟨p1,p2⟩
  ·exact h2 V hV
def ul (h:Nat):List Int:=List.replicate h 0
def cN (p:Rn):Z2:=.tuple (p.2.map PyData.tuple)
theorem um (hw:∀x∈ws,B8 x)(hk:k<=5):∀(l:List (List Z2)),(∀r∈l,r∈rws ws k)->∃L:List Rn,tups l=L.map cN/\pairD (.tuple ((ul h).map PyData.int)) l=L.map HL/\L.length=l.length/\∀p∈L,p.1=ul h/\pM h 12 p.1 p.2
 | [],_=>⟨[],rfl,rfl,rfl,λp hp=>by cases hp⟩
 | r :: l,hr=>by
  obtain⟨L,e1,e0,e2,e3⟩:=um hw hk l λM hM=>hr M (K9 _ hM)
  obtain⟨r1,r2⟩:=qb (hr r K7)
  obtain⟨Ws,eW,pW⟩:=yh hw r r2
  have Qv:Ws.length=k:=by
   have:=congrArg List.length eW
   rw[r1,K6] at this
   exact this.symm
  refine⟨(ul h,Ws) :: L,?_,?_,by rw[Kj,Kj,e2],λp hp=> ?_⟩
  ·rw[KQ,←e1,eW];rfl
  ·rw[KQ,←e0,eW];rfl
  ·rcases K0.mp hp with rfl | hp
   ·exact⟨rfl,Uy,by rw[Qv];exact hk,λW hW=>pW W hW⟩
   ·exact e3 p hp
abbrev Gp:=List (Z2×List Nat)
def aK (G:Gp):l5:=G.map λp=>(p.1,.list (p.2.map nat))
noncomputable def jT:Gp->Z2->Nat->Gp
 | [],x,i=> [(x,[i])]
 | p :: r,x,i=>if PyData.eqv p.1 x=true then (p.1,p.2++[i]) :: r else p :: jT r x i
theorem AT:∀(G:Gp) (x:Z2) (i:Nat),(∀p∈G,p.2.length < sizeLine)->zZ (aK G) x (.int (i:Int))=some (aK (jT G x i))
 | [],x,i,_=>rfl
 | p :: r,x,i,h=>by
  have h1:=h p K7
  show zZ ((p.1,.list (p.2.map nat)) :: aK r) x _=_
  rw[zZ,jT]
  by_cases e:PyData.eqv p.1 x=true
  ·rw[JQ e,JQ e]
   have hn:ar (p.2.map nat)=true:=aO _ (λ_=>rfl) _
   have hl:(p.2.map nat).length < sizeLine:=by rw[K6];exact h1
   simp only[hn,hl,and_self,if_true]
   simp[aK,nat]
  ·rw[JV e,JV e,AT r x i λq hq=>h q (K9 _ hq)]
   rfl
theorem yi :∀{G:Gp} {q:Z2×List Nat},q∈jT G x i->q∈G∨q=(x,[i])∨∃p∈G,q=(p.1,p.2++[i])
 | [],q,h=>by rw[jT] at h;exact .inr (.inl (K5.mp h))
 | p :: r,q,h=>by
  rw[jT] at h
  split at h
  ·rcases K0.mp h with h | h
   ·exact .inr (.inr ⟨p,K7,h⟩)
   ·exact .inl (K9 _ h)
  ·rcases K0.mp h with h | h
   ·exact .inl (h ▸ K7)
   ·rcases yi h with h | h | ⟨p',h1,h2⟩
    ·exact .inl (K9 _ h)
    ·exact .inr (.inl h)
    ·exact .inr (.inr ⟨p',K9 _ h1,h2⟩)
theorem yj :∀{G:Gp},(jT G x i).length<=G.length+1
 | []=>by simp[jT]
 | p :: r=>by
  rw[jT]
  split
  ·simp
  ·have:=yj (x:=x) (i:=i) (G:=r);simp only[Kj];omega
structure uo (G:Gp)(b:Nat):Prop where
 k:∀p∈G,dy p.1=true/\p.2.length<=b
 l:G.length<=b
theorem uo.add (g:uo G b)(hx:dy x=true)(i:Nat):uo (jT G x i) (b+1) where
 k:=λq hq=>by
  rcases yi hq with h | rfl | ⟨p,hp,rfl⟩
  ·have:=g.k q h;exact⟨this.1,by omega⟩
  ·exact⟨hx,by simp⟩
  ·have:=g.k p hp;exact⟨this.1,by rw[K2,X4];omega⟩
 l:=by have:=yj (x:=x) (i:=i) (G:=G);have:=g.l;omega
theorem uo.mono (g:uo G b)(h:b<=c):uo G c:=⟨λp hp=>⟨(g.k p hp).1,Kz (g.k p hp).2 h⟩,Kz g.l h⟩
theorem uo.g8 (g:uo G b):g8 (aK G)=true:=Uv.mpr λp hp=>by
 obtain⟨q,hq,rfl⟩:=Kv.mp hp
 exact(g.k q hq).1
theorem ED (G:Gp):(aK G).length=G.length:=K6 _
theorem sr (hx:pl x=true):∀{G:Gp},(∀p∈G,pl p.1=true)->(x∉G.map (·.1)/\jT G x i=G++[(x,[i])])∨∃A l B,G=A++(x,l) :: B/\jT G x i=A++(x,l++[i]) :: B
 | [],_=> .inl ⟨by simp,rfl⟩
 | p :: r,h=>by
  have hp:=h p K7
  rw[jT]
  by_cases e:PyData.eqv p.1 x=true
  ·have e':=(nQ hp hx).mp e
   rw[JQ e]
   exact .inr ⟨[],p.2,r,by rw[←e'];rfl,by rw[←e'];rfl⟩
  ·have e':p.1≠x:=λz=>e ((nQ hp hx).mpr z)
   rw[JV e]
   rcases sr hx (G:=r) λq hq=>h q (K9 _ hq) with⟨h1,h2⟩ | ⟨A,l,B,h1,h2⟩
   ·refine .inl ⟨?_,by rw[h2];rfl⟩
    rw[KQ,K0]
    rintro(z | z)
    ·exact e' z.symm
    ·exact h1 z
   ·exact .inr ⟨p :: A,l,B,by rw[h1];rfl,by rw[h2];rfl⟩
structure GI (E:List (Z2×Nat))(G:Gp):Prop where
 nd:(G.map (·.1)).Nodup
 p:∀p∈G,pl p.1=true
 ne:∀p∈G,p.2≠[]
 mem:∀p∈G,∀i,i∈p.2↔(p.1,i)∈E
 key:∀e∈E,∃l,(e.1,l)∈G
theorem GI.add (g:GI E G)(hx:pl x=true)(i:Nat):GI (E++[(x,i)]) (jT G x i):=by
 rcases sr (i:=i) hx g.p with⟨h1,h2⟩ | ⟨A,l,B,rfl,h2⟩
 ·rw[h2]
  have hne:∀p∈G,p.1≠x:=λp hp z=>h1 (z ▸ Kv.mpr ⟨p,hp,rfl⟩)
  refine⟨?_,?_,?_,?_,?_⟩
  ·rw[X0]
   refine XX.mpr ⟨g.nd,by simp,?_⟩
   intro a ha b hb
   rw[KQ,Yx,K5] at hb
   intro z;exact h1 (by rw[←show a=x from z.trans hb];exact ha)
  ·intro p hp
   rcases Kk.mp hp with h | h
   ·exact g.p p h
   ·rw[K5.mp h];exact hx
  ·intro p hp
   rcases Kk.mp hp with h | h
   ·exact g.ne p h
   ·rw[K5.mp h];simp
  ·intro p hp j
   rcases Kk.mp hp with h | h
   ·rw[g.mem p h j,Kk,K5]
    exact⟨.inl,λz=>z.elim id λz=>absurd (congrArg Prod.fst z) (hne p h)⟩
   ·rw[K5.mp h,Kk,K5,K5]
    constructor
    ·rintro rfl;exact .inr rfl
    ·rintro(z | z)
     ·obtain⟨l,hl⟩:=g.key _ z
      exact absurd rfl (hne _ hl)
     ·exact congrArg Prod.snd z
  ·intro e he
   rcases Kk.mp he with h | h
   ·obtain⟨l,hl⟩:=g.key e h
    exact⟨l,X9 _ hl⟩
   ·rw[K5.mp h];exact⟨[i],Kx _ (K5.mpr rfl)⟩
 ·rw[h2]
  have nd:=g.nd
  rw[X0,KQ] at nd
  have hA:∀p∈A,p.1≠x:=λp hp=>(XX.mp nd).2.2 _ (Kv.mpr ⟨p,hp,rfl⟩) _ K7
  have hB:∀p∈B,p.1≠x:=λp hp z=>(KJ.mp (XX.mp nd).2.1).1 (Kv.mpr ⟨p,hp,z⟩)
  have old:∀p,p∈A∨p∈B->p∈A++(x,l) :: B/\p.1≠x:=λp hp=>hp.elim (λh=>⟨X9 _ h,hA p h⟩) λh=>⟨Kx _ (K9 _ h),hB p h⟩
  have cs:∀p,p∈A++(x,l++[i]) :: B->(p∈A∨p∈B)∨p=(x,l++[i]):=λp hp=>by
   rcases Kk.mp hp with h | h
   ·exact .inl (.inl h)
   ·rcases K0.mp h with h | h
    ·exact .inr h
    ·exact .inl (.inr h)
  have xl:(x,l)∈A++(x,l) :: B:=Kx _ K7
  refine⟨?_,?_,?_,?_,?_⟩
  ·rw[X0,KQ];exact nd
  ·intro p hp
   rcases cs p hp with h | rfl
   ·exact g.p p (old p h).1
   ·exact hx
  ·intro p hp
   rcases cs p hp with h | rfl
   ·exact g.ne p (old p h).1
   ·simp
  ·intro p hp j
   rcases cs p hp with h | rfl
   ·rw[g.mem p (old p h).1 j,Kk,K5]
    exact⟨.inl,λz=>z.elim id λz=>absurd (congrArg Prod.fst z) (old p h).2⟩
   ·rw[Kk,Kk,K5,K5,g.mem _ xl j]
    exact⟨λz=>z.elim .inl λz=> .inr (by rw[z]),λz=>z.elim .inl λz=> .inr (congrArg Prod.snd z)⟩
  ·intro e he
   rcases Kk.mp he with h | h
   ·obtain⟨l',hl⟩:=g.key e h
    rcases Kk.mp hl with h | h
    ·exact⟨l',X9 _ h⟩
    ·rcases K0.mp h with h | h
     ·rw[show e.1=x from congrArg Prod.fst h];exact⟨_,Kx _ K7⟩
     ·exact⟨l',Kx _ (K9 _ h)⟩
   ·rw[K5.mp h];exact⟨_,Kx _ K7⟩
def ju (vs:List Int)(Ws:List (List Z2))(hand:Nat):Z2:=.tuple [.int (hand:Int),.tuple (rows vs.length Ws.reverse [hand]).reverse]
theorem zC (vs:List Int)(Ws:List (List Z2))(hand:Nat):pl (ju vs Ws hand)=true:=by
 unfold ju
 rw[pl]
 refine nP.mpr λx hx=> ?_
 simp only[K0,List.not_mem_nil,or_false] at hx
 rcases hx with rfl | rfl
 ·rfl
 ·rw[pl];exact nP.mpr λy hy=>AJ y (Uw.mp hy)
theorem vW (vs:List Int)(Ws:List (List Z2))(hand:Nat):ar (rows vs.length Ws.reverse [hand]).reverse=true:=aT.mpr λx hx=>aT.mp lj x (Uw.mp hx)
theorem qc (vs:List Int)(Ws:List (List Z2))(hand:Nat):br (ju vs Ws hand)=true:=by
 unfold ju
 rw[cz]
 simp only[ar,lN,cz,vW,XW]
def nY (h:Nat)(p:Rn):List Z2:=(!2).map (ju p.1 p.2)
def oR (i:Nat)(xs:List Z2)(G:Gp):Gp:=xs.foldl (λG x=>jT G x i) G
def pQ (h:Nat):Nat->List Rn->Gp->Gp
 | _,[],G=>G
 | i,p :: L,G=>pQ h (i+1) L (oR i (nY h p) G)
def KI (h:Nat):Nat->List Rn->List (Z2×Nat)
 | _,[]=> []
 | i,p :: L=>(nY h p).map (λx=>(x,i))++KI h (i+1) L
theorem GI.oR :∀{xs:List Z2} {E:List (Z2×Nat)} {G:Gp},GI E G->(∀x∈xs,pl x=true)->GI (E++xs.map λx=>(x,i)) (oR i xs G)
 | [],E,G,g,_=>by simpa [K52.oR] using g
 | x :: xs,E,G,g,h=>by
  have:=GI.oR (i:=i) (g.add (h x K7) i) λy hy=>h y (K9 _ hy)
  rw[X5] at this
  exact this
theorem KL :∀x∈nY h p,pl x=true:=λx hx=>by
 obtain⟨k,_,rfl⟩:=Kv.mp hx
 exact zC _ _ _
theorem GI.grp :∀{L:List Rn} {i:Nat} {E:List (Z2×Nat)} {G:Gp},GI E G->GI (E++KI h i L) (pQ h i L G)
 | [],i,E,G,g=>by simpa [KI,pQ] using g
 | p :: L,i,E,G,g=>by
  have:=GI.grp (L:=L) (i:=i+1) (h:=h) (g.oR (i:=i) (KL (h:=h) (p:=p)))
  rw[X5] at this
  exact this
theorem KN:GI [] []:=⟨by simp,(λp hp=>by cases hp),(λp hp=>by cases hp),(λp hp=>by cases hp),(λp hp=>by cases hp)⟩
theorem AU :∀{L:List Rn} {i:Nat},(x,j)∈KI h i L↔∃m p,L[m]? =some p/\j=i+m/\∃k,k < h/\x=ju p.1 p.2 k
 | [],i=>by simp[KI]
 | p :: L,i=>by
  rw[KI,Kk,AU (L:=L) (i:=i+1)]
  constructor
  ·rintro(z | ⟨m,q,h1,h2,h3⟩)
   ·obtain⟨y,hy,e⟩:=Kv.mp z
    obtain⟨k,hk,rfl⟩:=Kv.mp hy
    exact⟨0,p,rfl,(congrArg Prod.snd e).symm,k,Xy.mp hk,(congrArg Prod.fst e).symm⟩
   ·exact⟨m+1,q,by simpa using h1,by omega,h3⟩
  ·rintro⟨m,q,h1,h2,k,hk,rfl⟩
   cases m with
   | zero=>
    have:p=q:=by simpa using h1
    subst this
    refine .inl (Kv.mpr ⟨_,Kv.mpr ⟨k,Xy.mpr hk,rfl⟩,?_⟩)
    rw[h2];rfl
   | succ m=>exact .inr ⟨m,q,by simpa using h1,by omega,k,hk,rfl⟩
theorem jU :∀{xs:List Z2},nests n xs=true↔∀x∈xs,nest n x=true
 | []=>by simp[nests]
 | x :: xs=>by rw[nests,X7,jU (xs:=xs)];simp
theorem EE (h:Nat)(W:List Z2)(H:List Nat)(k n:Nat):nest (n+1) (cw h W H k)=true:=by
 unfold cw
 split
 ·rw[nest];exact jU.mpr λx hx=>by obtain⟨o,_,rfl⟩:=Kv.mp hx;cases n <;> rfl
 ·rfl
theorem uq :∀{R:List (List Z2)} {H:List Nat},∀x∈rows h R H,nest (n+2) x=true
 | [],H,x,hx=>by cases hx
 | W :: R,H,x,hx=>by
  rw[rows] at hx
  rcases K0.mp hx with rfl | hx
  ·rw[nest];exact jU.mpr λy hy=>by obtain⟨o,_,rfl⟩:=Kv.mp hy;exact EE _ _ _ _ _
  ·exact uq x hx
theorem nZ (vs:List Int)(Ws:List (List Z2))(hand:Nat):dy (ju vs Ws hand)=true:=by
 unfold ju
 rw[dy]
 refine jU.mpr λx hx=> ?_
 rcases K0.mp hx with rfl | hx
 ·rfl
 ·rw[K5.mp hx,nest]
  exact jU.mpr λy hy=>uq y (Uw.mp hy)
theorem ur (e:ju vs Ws k=ju vs' Qw k'):k=k':=by
 unfold ju at e
 injection e with e
 injection e with e _
 injection e with e
 omega
theorem qd :∀{xs:List Z2} {G:Gp} {b:Nat},uo G b->(∀x∈xs,dy x=true)->uo (oR i xs G) (b+xs.length)
 | [],G,b,g,_=>g
 | x :: xs,G,b,g,h=>by
  have:=qd (i:=i) (g.add (h x K7) i) λy hy=>h y (K9 _ hy)
  rw[Kj,show b+(xs.length+1)=b+1+xs.length by omega]
  exact this
theorem n5 :∀x∈nY h p,dy x=true:=λx hx=>by
 obtain⟨k,_,rfl⟩:=Kv.mp hx
 exact nZ _ _ _
theorem vX (h:Nat)(p:Rn):(nY h p).length=h:=by unfold nY;rw[K6,KW]
theorem AV :∀{L:List Rn} {i:Nat} {G:Gp} {b:Nat},uo G b->uo (pQ h i L G) (b+L.length*h)
 | [],i,G,b,g=>by simpa [pQ] using g
 | p :: L,i,G,b,g=>by
  have:=AV (L:=L) (i:=i+1) (h:=h) (qd (i:=i) g (n5 (h:=h) (p:=p)))
  rw[vX] at this
  rw[Kj,Y2,show b+(L.length*h+h)=b+h+L.length*h by omega]
  exact this
def vw (L:List Rn)(i k:Nat):Z2:=ju (L.getD i ([],[])).1 (L.getD i ([],[])).2 k
structure E2 (n h:Nat)(vw:Nat->Nat->Z2)(G:Gp):Prop where
 g:∀p∈G,∃k,k < h/\∀i,i∈p.2↔i < n/\vw i k=p.1
 ne:∀p∈G,p.2≠[]
 get:∀i k,i < n->k < h->∃l,j0 (aK G) (vw i k)=some (.list (l.map nat))/\(vw i k,l)∈G
 ok:uo G 1000
 hand:∀i j k k',vw i k=vw j k'->k=k'
theorem E2.mem_of {vw:Nat->Nat->Z2}(g:E2 n h vw G)(hl:(vw a k,l)∈G)(b:Nat):b∈l↔b < n/\vw b k=vw a k:=by
 obtain⟨k',hk',hm⟩:=g.g _ hl
 obtain⟨i0,hi0⟩:=List.exists_mem_of_ne_nil _ (g.ne _ hl)
 have:k'=k:=g.hand _ _ _ _ ((hm i0).mp hi0).2
 subst this
 exact hm b
theorem yk (hx:pl x=true):∀{G:Gp},(∀p∈G,pl p.1=true)->(∃l,(x,l)∈G)->∃l,j0 (aK G) x=some (.list (l.map nat))/\(x,l)∈G
 | [],_,⟨l,h⟩=>by cases h
 | p :: r,hp,⟨l,h⟩=>by
  have h1:=hp p K7
  by_cases e:PyData.eqv p.1 x=true
  ·have e':=(nQ h1 hx).mp e
   refine⟨p.2,?_,by rw[←e'];exact K7⟩
   show(List.find? _ ((p.1,PyData.list (p.2.map nat)) :: aK r)).map _=_
   rw[U3,e];rfl
  ·have:(x,l)∈r:=by
    rcases K0.mp h with h | h
    ·exact absurd ((nQ h1 hx).mpr (by rw[←h])) e
    ·exact h
   obtain⟨l',h3,h4⟩:=yk hx (G:=r) (λq hq=>hp q (K9 _ hq)) ⟨l,this⟩
   refine⟨l',?_,K9 _ h4⟩
   show(List.find? _ ((p.1,PyData.list (p.2.map nat)) :: aK r)).map _=_
   rw[U3,Bool.eq_false_iff.mpr e];exact h3
theorem EG (L:List Rn)(hb:L.length*h<=1000):E2 L.length h (vw L) (pQ h 0 L []):=by
 have gi:=GI.grp (L:=L) (i:=0) (h:=h) KN
 rw[Yv] at gi
 have ok:uo (pQ h 0 L []) 1000:=(AV (L:=L) (i:=0) (h:=h) (G:=[]) (b:=0) ⟨(λp hp=>by cases hp),by simp⟩).mono (!1)
 have ev:∀{x:Z2} {j:Nat},(x,j)∈KI h 0 L↔j < L.length/\∃k,k < h/\x=vw L j k:=by
  intro x j
  rw[AU]
  constructor
  ·rintro⟨m,p,h1,h2,k,hk,rfl⟩
   obtain rfl:j=m:=by omega
   obtain⟨hm,e⟩:=X1.mp h1
   refine⟨hm,k,hk,?_⟩
   unfold vw
   rw[X8,h1];rfl
  ·rintro⟨hj,k,hk,rfl⟩
   refine⟨j,L[j],K3 hj,by omega,k,hk,?_⟩
   unfold vw
   rw[X8,K3 hj];rfl
 refine⟨?_,gi.ne,?_,ok,λi j k k' e=>ur e⟩
 ·intro p hp
  obtain⟨i0,hi0⟩:=List.exists_mem_of_ne_nil _ (gi.ne p hp)
  obtain⟨h1,k,hk,e⟩:=ev.mp ((gi.mem p hp i0).mp hi0)
  refine⟨k,hk,λi=> ?_⟩
  rw[gi.mem p hp i,ev]
  constructor
  ·rintro⟨h2,k',hk',e'⟩
   have:k=k':=ur (e.symm.trans e')
   subst this
   exact⟨h2,e'.symm⟩
  ·rintro⟨h2,e'⟩;exact⟨h2,k,hk,e'.symm⟩
 ·intro i k hi hk
  exact yk (zC _ _ _) gi.p (gi.key (vw L i k,i) (ev.mpr ⟨hi,k,hk,rfl⟩))
def Co (h:Nat)(L:List Rn):Prop:=∀p∈L,pM h 12 p.1 p.2
theorem EH (r:Co h (p :: L)):Co h L:=λq hq=>r q (K9 _ hq)
theorem GZ (w:pM h b p.1 p.2):br (HL p)=true:=nU w
def n6 (h:Nat)(p:Rn):List Z2:=(!2).map (cL p.1 p.2)
theorem zD (hh:h<=4)(w:pM h 12 p.1 p.2):kh [.int (h:Int),HL p]=ah (true,.list (n6 h p)):=by
 have hc:=jL (fe:=kg) (cap:=[fA (HL p)]) ((!2).map λ(i:Nat)=>PyData.int (i:Int))
  (λd=>match d with | .int k=>(.fr [],cL p.1 p.2 k.toNat) | _=>(.fr [],.none)) (λd hd=>by
   obtain⟨k,hk,rfl⟩:=Kv.mp hd
   have hk:=Xy.mp hk
   have e:=w.view hh hk
   simp(disch:=omega) only[kg,rn,reduceIte,HL,e,cf (nU w),cf (lq p.1 p.2 k),Ku])
 have e1:(((!2).map λ(i:Nat)=>PyData.int (i:Int)).map λd=>match d with | .int k=>(Kd.fr [],cL p.1 p.2 k.toNat) | _=>(Kd.fr [],PyData.none))=(!2).map λk=>(Kd.fr [],cL p.1 p.2 k):=by
  rw[KZ];refine UK λk _=> ?_;simp only[Function.comp,Ku]
 rw[e1] at hc
 have k1:=cS (!2) λk=>cL p.1 p.2 k
 have e2:((!2).map λk=>(Kd.fr [],cL p.1 p.2 k)).map Prod.snd=n6 h p:=by rw[KZ];rfl
 have hle:h<=100000:=by omega
 simp(disch:=omega) only[kh,mG,rn,reduceIte,a7,hc,k1,e2,hle,Ku]
theorem jV {α:Type}(f:α->Z2)(g:α->Kd×Z2):∀(l:List α),(∀a∈l,ft (fA (f a) :: cap)=ah true/\fe (fA (f a) :: cap)=ah (g a))->cb ft fe cap (l.map f)=some (l.map g)
 | [],_=>rfl
 | a :: l,h=>by
  obtain⟨h0,h1⟩:=h a K7
  rw[KQ,cb]
  simp only[ah] at h0 h1⊢
  rw[h0,h1]
  simp only
  rw[jV f g l λb hb=>h b (K9 _ hb)]
  rfl
theorem su {α:Type}(f:α->Z2)(g:α->Kd×Z2)(l:List α)(h:∀a∈l,fe (fA (f a) :: cap)=ah (g a)):cb bT fe cap (l.map f)=some (l.map g):=jV f g l λa ha=>⟨rfl,h a ha⟩
def cr (h:Nat)(L:List Rn):List Z2:=L.map λp=> .list (n6 h p)
theorem ym (hh:h<=4)(r:Co h L)(hl:L.length<=1000):fY [.int (h:Int),.list (L.map HL)]=ah (true,.list (cr h L)):=by
 have hc:=jV (ft:=bT) (fe:=gA) (cap:=[fN h]) HL (λp=>(Kd.fr [],PyData.list (n6 h p))) L (λp hp=>by
  have w:=r p hp
  have e:=zD hh w
  refine⟨rfl,?_⟩
  simp(disch:=omega) only[gA,rn,reduceIte,e,cf (GZ w)])
 have k1:=cS L λp=>PyData.list (n6 h p)
 have e2:(L.map λp=>(Kd.fr [],PyData.list (n6 h p))).map Prod.snd=cr h L:=by rw[KZ];rfl
 have hle:L.length<=100000:=by omega
 simp(disch:=omega) only[fY,iV,rn,reduceIte,a7,hc,k1,e2,hle]
theorem EI (h:Nat)(p:Rn)(hh:h<=4):ip [.list (n6 h p)]=ah (true,.list (nY h p)):=by
 have hc:=jV (ft:=kX HC bT) (fe:=kX HC f9) (cap:=[]) (cL p.1 p.2) (λk=>(Kd.fr [],ju p.1 p.2 k)) (!2) (λk hk=>by
  have n:=vW p.1 p.2 k
  refine⟨rfl,?_⟩
  show f9 [fN k,_,fT (rows p.1.length p.2.reverse [k]).reverse]=_
  have nk:=qc p.1 p.2 k
  unfold ju at nk⊢
  simp(disch:=omega) only[f9,rn,reduceIte,aw n,cf nk])
 have k1:=cS (!2) λk=>ju p.1 p.2 k
 have e2:((!2).map λk=>(Kd.fr [],ju p.1 p.2 k)).map Prod.snd=nY h p:=by rw[KZ];rfl
 have hv:(!2).map (cL p.1 p.2)=n6 h p:=rfl
 rw[hv] at hc
 have hle:(n6 h p).length<=100000:=by unfold n6;rw[K6,KW];omega
 simp(disch:=omega) only[ip,km,rn,reduceIte,a7,hc,k1,e2,hle]
def dP (h:Nat)(L:List Rn):List Z2:=L.map λp=> .list (nY h p)
theorem Ca (hh:h<=4)(hl:L.length<=1000)(Γ:aX):a7 (i6 (eV 0)) [] bT cp (fL (cr h L) :: Γ)=ah (.fr [],.list (dP h L)):=by
 have hc:=jV (ft:=bT) (fe:=cp) (cap:=[]) (λp=>PyData.list (n6 h p)) (λp=>(Kd.fr [],PyData.list (nY h p))) L (λp hp=>by
  have e:=EI h p hh
  refine⟨rfl,?_⟩
  simp(disch:=omega) only[cp,rn,reduceIte,e])
 have k1:=cS L λp=>PyData.list (nY h p)
 have e2:(L.map λp=>(Kd.fr [],PyData.list (nY h p))).map Prod.snd=dP h L:=by rw[KZ];rfl
 have hv:(L.map λp=>PyData.list (n6 h p))=cr h L:=rfl
 rw[hv] at hc
 have hle:(cr h L).length<=100000:=by unfold cr;rw[K6];omega
 simp(disch:=omega) only[rn,reduceIte,a7,hc,k1,e2,hle]
theorem EJ (h:Nat)(hh:h<=4)(Γ:aX):a7 (eE (eV 0)) [] bT ck (fN h :: Γ)=ah (.fr [],.list ((ul h).map PyData.int)):=by
 have hc:=jV (ft:=bT) (fe:=ck) (cap:=[]) (λ(i:Nat)=>PyData.int (i:Int)) (λ_=>(Kd.fr [],PyData.int 0)) (!2) (λk hk=>⟨rfl,rfl⟩)
 have k1:=cS (!2) λ_=>PyData.int 0
 have e2:((!2).map λ_=>(Kd.fr [],PyData.int 0)).map Prod.snd=(ul h).map PyData.int:=by
  rw[KZ];unfold ul;rw[List.map_replicate]
  exact(List.map_const' ..).trans (by rw[KW])
 have hle:h<=100000:=by omega
 simp(disch:=omega) only[rn,reduceIte,a7,hc,k1,e2,hle,Ku]
theorem EK (h1:Γ[i]? =some (tD (aK G)))(h2:Γ[j]? =some (some (o,.int (n:Int))))(h3:fk Γ=ah (kd,x))(hx:dy x=true)(g:uo G b)(hb:b<=1000) :
  Bp i fk j Γ=ah (.nx (Γ.set i (tD (aK (jT G x n))))):=by
 have hs:(1000:Nat) < sizeLine:=by decide
 unfold Bp
 rw[h1]
 simp only[h3,au,h2]
 rw[JQ ⟨hx,g.g8,by rw[ED];have:=g.l;omega⟩,AT G x n λp hp=>by have:=(g.k p hp).2;omega]
theorem AW (d0 d3:Sl)(i:Nat)(o:Bool):∀(xs:List Z2) (G:Gp) (b:Nat) (c4:Sl),(∀x∈xs,dy x=true/\br x=true)->uo G b->b+xs.length<=1000->∃mM:Sl,aZ (bW 4) gB xs [d0,tD (aK G),some (o,.int (i:Int)),d3,c4]=
  ah (.nx [d0,tD (aK (oR i xs G)),some (o,.int (i:Int)),d3,mM])
 | [],G,b,c4,_,_,_=>⟨c4,rfl⟩
 | x :: xs,G,b,c4,hx,g,hb=>by
  obtain⟨k1,k2⟩:=hx x K7
  rw[Kj] at hb
  obtain⟨mM,ih⟩:=AW d0 d3 i o xs (jT G x i) (b+1) (tA x) (λy hy=>hx y (K9 _ hy)) (g.add k1 i) (!1)
  refine⟨mM,?_⟩
  have hs:bW 4 (cP .base x) x [d0,tD (aK G),some (o,.int (i:Int)),d3,c4]=some [d0,tD (aK G),some (o,.int (i:Int)),d3,tA x]:=by rw[cf k2];rfl
  have e4:eV 4 [d0,tD (aK G),some (o,.int (i:Int)),d3,tA x]=ah (.fr [],x):=by
   show ah (cP _ x,x)=_
   rw[cf k2]
  have hb2:gB [d0,tD (aK G),some (o,.int (i:Int)),d3,tA x]=ah (.nx [d0,tD (aK (jT G x i)),some (o,.int (i:Int)),d3,tA x]) :=
   EK (i:=1) (j:=2) (Γ:=[d0,tD (aK G),some (o,.int (i:Int)),d3,tA x]) rfl rfl e4 k1 g (!1)
  rw[aZ,hs,bw,au,hb2,au]
  exact ih
theorem KO :∀x∈nY h p,dy x=true/\br x=true:=λx hx=>⟨n5 x hx,by
 obtain⟨k,_,rfl⟩:=Kv.mp hx
 exact qc _ _ _⟩
theorem AX (d0:Sl)(h:Nat):∀(L:List Rn) (i:Nat) (G:Gp) (b:Nat) (c2 c3 c4:Sl),uo G b->b+L.length*h<=1000->∃c2' Oz mM:Sl,aZ (jY [2,3]) cK (eA i (dP h L)) [d0,tD (aK G),c2,c3,c4]=
  ah (.nx [d0,tD (aK (pQ h i L G)),c2',Oz,mM])
 | [],i,G,b,c2,c3,c4,_,_=>⟨c2,c3,c4,rfl⟩
 | p :: L,i,G,b,c2,c3,c4,g,hb=>by
  rw[Kj,Y2] at hb
  have vl:=vX h p
  obtain⟨mM,e⟩:=AW d0 (fL (nY h p)) i true (nY h p) G b c4 KO g (!1)
  have g2:=qd (i:=i) g (n5 (h:=h) (p:=p))
  obtain⟨OA,KP,zE,ih⟩:=AX d0 h L (i+1) (oR i (nY h p) G) (b+(nY h p).length) (tN i) (fL (nY h p)) mM g2 (!1)
  refine⟨OA,KP,zE,?_⟩
  show aZ (jY [2,3]) cK (.tuple [.int (i:Int),.list (nY h p)] :: eA (i+1) (dP h L)) _=_
  have hs:jY [2,3] (cP .base (.tuple [.int (i:Int),.list (nY h p)])) (.tuple [.int (i:Int),.list (nY h p)]) [d0,tD (aK G),c2,c3,c4]=some [d0,tD (aK G),tN i,fL (nY h p),c4]:=rfl
  have hb2:cK [d0,tD (aK G),tN i,fL (nY h p),c4]=ah (.nx [d0,tD (aK (oR i (nY h p) G)),tN i,fL (nY h p),mM]):=e
  rw[aZ,hs,bw,au,hb2,au]
  exact ih
theorem Cb (hb:L.length*h<=1000):f6 [.list (dP h L)]=ah (true,.dict (aK (pQ h 0 L []))):=by
 obtain⟨c2,c3,c4,e⟩:=AX (fL (dP h L)) h L 0 [] 0 none none none ⟨(λp hp=>by cases hp),by simp⟩ (!1)
 refine dZ ?_
 unfold iW
 rw[aB (show(aH 1 mS) (cD 5 [.list (dP h L)])=ah (.nx [fL (dP h L),tD (aK []),none,none,none]) from rfl)]
 rw[aB (show(bA (j8 (eV 0)) (jY [2,3]) cK) [fL (dP h L),tD (aK []),none,none,none]=_ from e)]
 rfl
theorem n8 (w:pM h b p.1 p.2):br (cN p)=true:=AL w
theorem OB (h:Nat)(h2:2<=h)(hh:h<=4):xr (.tuple [.int 0]) (.int (h:Int))=some (.tuple ((ul h).map PyData.int)):=by
 obtain rfl | rfl | rfl:h=2∨h=3∨h=4:=by omega
 all_goals rfl
theorem Qx (vs:List Int)(Ws:List (List Z2))(k:Nat):iH (cL vs Ws k) (.int 2)=some (.tuple (rows vs.length Ws.reverse [k]).reverse):=rfl
theorem Pm (d1:Sl)(h2:2<=h)(hh:h<=4)(w:pM h 12 p.1 p.2)(hz:p.1=ul h)(i:Nat):∀(ks:List Nat) (G:Gp) (b:Nat) (c5:Sl),(∀k∈ks,k < h)->uo G b->b+ks.length<=1000->∃kE:Sl,aZ (bW 5) cA (ks.map λ(k:Nat)=>PyData.int (k:Int)) [fN h,d1,tD (aK G),tN i,tA (cN p),c5]=
  ah (.nx [fN h,d1,tD (aK (oR i (ks.map (ju p.1 p.2)) G)),tN i,tA (cN p),kE])
 | [],G,b,c5,_,_,_=>⟨c5,rfl⟩
 | k :: ks,G,b,c5,hk,g,hb=>by
  rw[Kj] at hb
  have hk1:=hk k K7
  have e:=sg w hh hk1
  obtain⟨kE,ih⟩:=Pm d1 h2 hh w hz i ks (jT G (ju p.1 p.2 k) i) (b+1) (tN k) (λy hy=>hk y (K9 _ hy)) (g.add (nZ _ _ _) i) (!1)
  refine⟨kE,?_⟩
  have nz:ar [PyData.tuple ((ul h).map PyData.int),cN p]=true:=by rw[←hz];exact nO w.n
  have eR:PyData.tuple [PyData.tuple ((ul h).map PyData.int),cN p]=jt p.1 p.2:=by rw[←hz];rfl
  have hf:(fM [(eV 5),(kI iH (aN dM [(fM [(bR xr (fM [(eC (.int 0))]) (eV 0)),(eV 4)]),(eV 5)]) (eC (.int 2)))]) [fN h,d1,tD (aK G),tN i,tA (cN p),tN k]=ah (.fr [],ju p.1 p.2 k):=by
   have nk:=qc p.1 p.2 k
   unfold ju at nk⊢
   simp(disch:=omega) only[rn,reduceIte,OB h h2 hh,cf (n8 w),aw nz,eR,e,cf (lq p.1 p.2 k),Qx,aw (vW p.1 p.2 k),cf nk]
  have hb2:cA [fN h,d1,tD (aK G),tN i,tA (cN p),tN k]=ah (.nx [fN h,d1,tD (aK (jT G (ju p.1 p.2 k) i)),tN i,tA (cN p),tN k]) :=
   EK (i:=2) (j:=3) (Γ:=[fN h,d1,tD (aK G),tN i,tA (cN p),tN k]) rfl rfl hf (nZ _ _ _) g (!1)
  show aZ (bW 5) cA (.int (k:Int) :: ks.map λ(k:Nat)=>PyData.int (k:Int)) _=_
  rw[aZ,show bW 5 (cP .base (.int (k:Int))) (.int (k:Int)) [fN h,d1,tD (aK G),tN i,tA (cN p),c5]=some [fN h,d1,tD (aK G),tN i,tA (cN p),tN k] from rfl,bw,au,hb2,au]
  exact ih
theorem Pn (d1:Sl)(h2:2<=h)(hh:h<=4):∀(L:List Rn) (i:Nat) (G:Gp) (b:Nat) (c3 c4 c5:Sl),Co h L->(∀p∈L,p.1=ul h)->uo G b->b+L.length*h<=1000->∃Oz mM kE:Sl,aZ (jY [3,4]) bu (eA i (L.map cN)) [fN h,d1,tD (aK G),c3,c4,c5]=
  ah (.nx [fN h,d1,tD (aK (pQ h i L G)),Oz,mM,kE])
 | [],i,G,b,c3,c4,c5,_,_,_,_=>⟨c3,c4,c5,rfl⟩
 | p :: L,i,G,b,c3,c4,c5,r,z,g,hb=>by
  rw[Kj,Y2] at hb
  have w:=r p K7
  have hz:=z p K7
  have vl:=vX h p
  obtain⟨kE,e⟩:=Pm d1 h2 hh w hz i (!2) G b c5 (λk hk=>Xy.mp hk) g (by rw[KW];omega)
  have g2:=qd (i:=i) g (n5 (h:=h) (p:=p))
  obtain⟨KP,zE,EL,ih⟩:=Pn d1 h2 hh L (i+1) (oR i (nY h p) G) (b+(nY h p).length) (tN i) (tA (cN p)) kE (EH r) (λq hq=>z q (K9 _ hq)) g2 (!1)
  refine⟨KP,zE,EL,?_⟩
  show aZ (jY [3,4]) bu (.tuple [.int (i:Int),cN p] :: eA (i+1) (L.map cN)) _=_
  have nt:br (.tuple [.int (i:Int),cN p])=true:=by rw[cz,ar,ar,n8 w];rfl
  have hs:jY [3,4] (cP .base (.tuple [.int (i:Int),cN p])) (.tuple [.int (i:Int),cN p]) [fN h,d1,tD (aK G),c3,c4,c5]=some [fN h,d1,tD (aK G),tN i,tA (cN p),c5]:=by
   rw[cf nt]
   show some (jo (jo _ 3 (cP (.fr []) (.int (i:Int))) (.int (i:Int))) 4 (cP (.fr []) (cN p)) (cN p))=_
   rw[p8,cf (n8 w)];rfl
  have hb2:bu [fN h,d1,tD (aK G),tN i,tA (cN p),c5]=ah (.nx [fN h,d1,tD (aK (oR i (nY h p) G)),tN i,tA (cN p),kE]):=by
   unfold bu
   simp(disch:=omega) only[rn,reduceIte,Ku]
   exact e
  rw[aZ,hs,bw,au,hb2,au]
  exact ih
theorem yn (h2:2<=h)(hh:h<=4)(r:Co h L)(z:∀p∈L,p.1=ul h)(hb:L.length*h<=1000)(ep:il [.int (L.length:Int),.dict (aK (pQ h 0 L []))]=ah (true,.list d')):cj [.int (h:Int),.list (L.map cN)]=ah (true,.list d'):=by
 obtain⟨c3,c4,c5,e⟩:=Pn (fL (L.map cN)) h2 hh L 0 [] 0 none none none r z ⟨(λp hp=>by cases hp),by simp⟩ (!1)
 refine dZ ?_
 unfold fX
 rw[aB (show(aH 2 mS) (cD 6 [.int (h:Int),.list (L.map cN)])=ah (.nx [fN h,fL (L.map cN),tD (aK []),none,none,none]) from rfl)]
 rw[aB (show(bA (j8 (eV 1)) (jY [3,4]) bu) [fN h,fL (L.map cN),tD (aK []),none,none,none]=_ from e)]
 have hll:((L.map cN).length:Int)=(L.length:Int):=by rw[K6]
 simp(disch:=omega) only[rn,reduceIte,hll,ep]
inductive Cn (n h:Nat)(vw:Nat->Nat->Z2):Nat->Nat->Prop
 | rel {a b k:Nat}:a < n->b < n->k < h->vw a k=vw b k->Cn n h vw a b
 | refl (a:Nat):Cn n h vw a a
 | symm {a b:Nat}:Cn n h vw a b->Cn n h vw b a
 | trans {a b c:Nat}:Cn n h vw a b->Cn n h vw b c->Cn n h vw a c
theorem Cn.closed {vw:Nat->Nat->Z2}(S:Nat->Prop)(hS:∀a b k,a < n->b < n->k < h->vw a k=vw b k->S a->S b)(c:Cn n h vw a b):S a↔S b:=by
 induction c with
 | rel h1 h2 h3 h4=>exact⟨hS _ _ _ h1 h2 h3 h4,hS _ _ _ h2 h1 h3 h4.symm⟩
 | refl a=>exact Iff.rfl
 | symm _ ih=>exact ih.symm
 | trans _ _ i1 i2=>exact i1.trans i2
theorem Cn.const {vw:Nat->Nat->Z2}(f:Nat->Nat)(hf:∀a b k,a < n->b < n->k < h->vw a k=vw b k->f a=f b)(c:Cn n h vw a b):f a=f b:=by
 induction c with
 | rel h1 h2 h3 h4=>exact hf _ _ _ h1 h2 h3 h4
 | refl a=>rfl
 | symm _ ih=>exact ih.symm
 | trans _ _ i1 i2=>exact i1.trans i2
noncomputable def jm (n:Nat)(f:Nat->Nat):List Z2:=(List.range n).map λi=> .int ((f i:Nat):Int)
noncomputable def upd (f:Nat->Nat)(i m:Nat):Nat->Nat:=λj=>if j=i then m else f j
theorem G0 (f:Nat->Nat)(m:Nat):(jm n f).set i (.int (m:Int))=jm n (upd f i m):=by
 unfold jm upd
 refine Jx (by simp) λj h1 h2=> ?_
 rw[List.getElem_set]
 simp only[J2,List.getElem_range]
 by_cases e:i=j
 ·rw[JQ e,JQ e.symm]
 ·rw[JV e,JV (λz=>e z.symm)]
theorem vY (f:Nat->Nat)(h:i < n):pY (jm n f) (i:Int)=some (.int ((f i:Nat):Int)):=fR (by unfold jm;rw[KU,UZ h];rfl)
theorem G1 (n:Nat)(f:Nat->Nat):(jm n f).length=n:=by unfold jm;rw[K6,KW]
theorem G2 (n:Nat)(f:Nat->Nat):ar (jm n f)=true:=aO _ (λ_=>rfl) _
def Q2 (n m:Nat)(l:List Nat)(f:Nat->Nat)(b:Bool)(f':Nat->Nat)(b':Bool):Prop :=
 (∀i,f' i=f i∨(f' i=m/\m < f i/\i∈l))/\(b'=true->b=true∨∃i,i < n/\f' i < f i)/\(b'=false->b=false/\f'=f/\∀i∈l,f i<=m)
theorem zF (d0 d1 d4 d5 d8 d9:Sl)(n m:Nat):∀(l:List Nat) (f:Nat->Nat) (b:Bool) (c7:Sl),(∀i∈l,i < n)->∃(f':Nat->Nat) (b':Bool) (fK:Sl),aZ (bW 7) bC (l.map nat) [d0,d1,tL (jm n f),tB b,d4,d5,tN m,c7,d8,d9]=
  ah (.nx [d0,d1,tL (jm n f'),tB b',d4,d5,tN m,fK,d8,d9])/\Q2 n m l f b f' b'
 | [],f,b,c7,_=>⟨f,b,c7,rfl,λi=> .inl rfl,λh=> .inl h,λh=>⟨h,rfl,λi hi=>by cases hi⟩⟩
 | i :: l,f,b,c7,hl=>by
  have hi:=hl i K7
  have ea:=vY f hi
  have nn:=G2 n f
  have el:=G1 n f
  have ei:=qa hi
  have es:=G0 (n:=n) (i:=i) f m
  by_cases hc:m < f i
  ·obtain⟨f',b',fK,e,q1,q2,q3⟩:=zF d0 d1 d4 d5 d8 d9 n m l (upd f i m) true (tN i) λj hj=>hl j (K9 _ hj)
   have hb2:bC [d0,d1,tL (jm n f),tB b,d4,d5,tN m,tN i,d8,d9]=ah (.nx [d0,d1,tL (jm n (upd f i m)),tB true,d4,d5,tN m,tN i,d8,d9]):=by
    have hd:decide ((m:Int) < ((f i:Nat):Int))=true:=Z9 (!1)
    simp(disch:=omega) only[bC,rn,reduceIte,ea,hd,el,ei,nn,es,XW]
   have ui:upd f i m i=m:=JQ rfl
   have uj:∀j,j≠i->upd f i m j=f j:=λj hj=>JV hj
   have fi:f' i=m:=by rcases q1 i with z | z;exact z.trans ui;exact z.1
   refine⟨f',b',fK,?_,?_,?_,?_⟩
   ·show aZ (bW 7) bC (.int (i:Int) :: l.map nat) _=_
    rw[aZ,show bW 7 (cP .base (.int (i:Int))) (.int (i:Int)) [d0,d1,tL (jm n f),tB b,d4,d5,tN m,c7,d8,d9]=some [d0,d1,tL (jm n f),tB b,d4,d5,tN m,tN i,d8,d9] from rfl,bw,au,hb2,au]
    exact e
   ·intro j
    by_cases hj:j=i
    ·subst hj;exact .inr ⟨fi,hc,K7⟩
    ·rcases q1 j with z | z
     ·exact .inl (z.trans (uj j hj))
     ·exact .inr ⟨z.1,by have:=z.2.1;rw[uj j hj] at this;exact this,K9 _ z.2.2⟩
   ·intro _;exact .inr ⟨i,hi,by rw[fi];exact hc⟩
   ·intro z;cases(q3 z).1
  ·obtain⟨f',b',fK,e,q1,q2,q3⟩:=zF d0 d1 d4 d5 d8 d9 n m l f b (tN i) λj hj=>hl j (K9 _ hj)
   have hb2:bC [d0,d1,tL (jm n f),tB b,d4,d5,tN m,tN i,d8,d9]=ah (.nx [d0,d1,tL (jm n f),tB b,d4,d5,tN m,tN i,d8,d9]):=by
    have hd:decide ((m:Int) < ((f i:Nat):Int))=false:=Z8 (!1)
    simp(disch:=omega) only[bC,rn,reduceIte,ea,hd]
   refine⟨f',b',fK,?_,?_,q2,?_⟩
   ·show aZ (bW 7) bC (.int (i:Int) :: l.map nat) _=_
    rw[aZ,show bW 7 (cP .base (.int (i:Int))) (.int (i:Int)) [d0,d1,tL (jm n f),tB b,d4,d5,tN m,c7,d8,d9]=some [d0,d1,tL (jm n f),tB b,d4,d5,tN m,tN i,d8,d9] from rfl,bw,au,hb2,au]
    exact e
   ·intro j
    rcases q1 j with z | z
    ·exact .inl z
    ·exact .inr ⟨z.1,z.2.1,K9 _ z.2.2⟩
   ·intro z
    obtain⟨z1,z2,z3⟩:=q3 z
    refine⟨z1,z2,λj hj=> ?_⟩
    rcases K0.mp hj with rfl | hj
    ·omega
    ·exact z3 j hj
theorem foldl_min:∀(l:List Nat) (a:Nat),∃m:Nat,(l.map λ(x:Nat)=>(x:Int)).foldl (λa b=>if b < a then b else a) (a:Int)=(m:Int)/\(m=a∨m∈l)/\m<=a/\∀x∈l,m<=x
 | [],a=>⟨a,rfl,.inl rfl,K1 _,λx hx=>by cases hx⟩
 | x :: l,a=>by
  rw[KQ,Y9]
  by_cases hc:x < a
  ·rw[JQ (!1)]
   obtain⟨m,h1,h2,h3,h4⟩:=foldl_min l x
   refine⟨m,h1,?_,by omega,λy hy=> ?_⟩
   ·exact h2.elim (λz=> .inr (z ▸ K7)) λz=> .inr (K9 _ z)
   ·rcases K0.mp hy with rfl | hy
    ·exact h3
    ·exact h4 y hy
  ·rw[JV (!1)]
   obtain⟨m,h1,h2,h3,h4⟩:=foldl_min l a
   refine⟨m,h1,?_,h3,λy hy=> ?_⟩
   ·exact h2.elim .inl λz=> .inr (K9 _ z)
   ·rcases K0.mp hy with rfl | hy
    ·omega
    ·exact h4 y hy
theorem yo:∀l:List Nat,(l.map nat).mapM intOf=some (l.map λ(x:Nat)=>(x:Int))
 | []=>rfl
 | x :: l=>by
  rw[KQ,List.mapM_cons,yo l];rfl
theorem Cc (l:List Nat)(h:l≠[]):∃m:Nat,tX [.list (l.map nat)]=some (.int (m:Int))/\m∈l/\∀x∈l,m<=x:=by
 cases l with
 | nil=>exact absurd rfl h
 | cons a l=>
  obtain⟨m,h1,h2,h3,h4⟩:=foldl_min l a
  refine⟨m,?_,?_,λx hx=> ?_⟩
  ·rw[tX,yo]
   show some (PyData.int (vg ((a:Int) :: l.map λ(x:Nat)=>(x:Int))))=_
   rw[vg,h1]
  ·rcases h2 with rfl | z
   ·exact K7
   ·exact K9 _ z
  ·rcases K0.mp hx with rfl | hx
   ·exact h3
   ·exact h4 x hx
def PS (n h:Nat)(vw:Nat->Nat->Z2)(f:Nat->Nat):Prop:=∀i,i < n->f i<=i/\Cn n h vw i (f i)
theorem KR (d0 d1 d4 d8 d9:Sl){vw:Nat->Nat->Z2}(hn:n<=1000)(l:List Nat)(hne:l≠[])(hl:∀i∈l,i < n)(hcn:∀i∈l,∀j∈l,Cn n h vw i j)(hll:l.length<=1000)(f:Nat->Nat)(ps:PS n h vw f)(b:Bool)(c6 c7:Sl):∃(f':Nat->Nat) (b':Bool) (pP fK:Sl),dI [d0,d1,tL (jm n f),tB b,d4,fL (l.map nat),c6,c7,d8,d9]=
  ah (.nx [d0,d1,tL (jm n f'),tB b',d4,fL (l.map nat),pP,fK,d8,d9])/\PS n h vw f'/\(∀i,f' i<=f i)/\(b'=true->b=true∨∃i,i < n/\f' i < f i)/\(b'=false->b=false/\f'=f/\∀i∈l,∀j∈l,f i=f j):=by
 have hc:=su (fe:=fV) (cap:=[fL (jm n f)]) nat (λi=>(Kd.fr [],nat (f i))) l (λi hi=>by
  have ea:=vY f (hl i hi)
  simp(disch:=omega) only[fV,rn,reduceIte,nat,ea])
 have k1:=cS l λi=>nat (f i)
 have e2:(l.map λi=>(Kd.fr [],nat (f i))).map Prod.snd=(l.map f).map nat:=by rw[KZ,KZ];rfl
 obtain⟨m,hm1,hm2,Qy⟩:=Cc (l.map f) (by simpa using hne)
 have hle:l.length<=100000:=by omega
 have s1:(aH 6 (kJ tX [(a7 (i6 (eV 5)) [2] bT fV)])) [d0,d1,tL (jm n f),tB b,d4,fL (l.map nat),c6,c7,d8,d9]=ah (.nx [d0,d1,tL (jm n f),tB b,d4,fL (l.map nat),tN m,c7,d8,d9]):=by
  simp(disch:=omega) only[rn,reduceIte,a7,hc,k1,e2,hle,hm1]
 obtain⟨f',b',fK,e,q1,q2,q3⟩:=zF d0 d1 d4 (fL (l.map nat)) d8 d9 n m l f b c7 hl
 obtain⟨j,hj,rfl⟩:=Kv.mp hm2
 refine⟨f',b',tI ((f j:Nat):Int),fK,?_,?_,?_,q2,?_⟩
 ·unfold dI
  rw[aB s1];exact e
 ·intro i hi
  obtain⟨p1,p2⟩:=ps i hi
  rcases q1 i with z | ⟨z1,z2,z3⟩
  ·rw[z];exact⟨p1,p2⟩
  ·rw[z1];exact⟨by omega,(hcn i z3 j hj).trans (ps j (hl j hj)).2⟩
 ·intro i
  rcases q1 i with z | z
  ·omega
  ·omega
 ·intro z
  obtain⟨z1,z2,z3⟩:=q3 z
  have ea:∀i∈l,f i=f j:=λi hi=>Jz (z3 i hi) (Qy _ (Kv.mpr ⟨i,hi,rfl⟩))
  exact⟨z1,z2,λi hi i' hi'=>(ea i hi).trans (ea i' hi').symm⟩
def KS (G:Gp):List Z2:=(aK G).map λp=> .tuple [p.1,p.2]
theorem EM (d0 d1 d8 d9:Sl){vw:Nat->Nat->Z2}(hn:n<=1000):∀(G:Gp),(∀p∈G,p.2≠[]/\(∀i∈p.2,i < n)/\(∀i∈p.2,∀j∈p.2,Cn n h vw i j)/\p.2.length<=1000)->∀(f:Nat->Nat) (b:Bool) (c4 c5 c6 c7:Sl),PS n h vw f->
  ∃(f':Nat->Nat) (b':Bool) (mM kE pP fK:Sl),aZ (jY [4,5]) dI (KS G) [d0,d1,tL (jm n f),tB b,c4,c5,c6,c7,d8,d9]=
  ah (.nx [d0,d1,tL (jm n f'),tB b',mM,kE,pP,fK,d8,d9])/\PS n h vw f'/\(∀i,f' i<=f i)/\(b'=true->b=true∨∃i,i < n/\f' i < f i)/\(b'=false->b=false/\f'=f/\∀p∈G,∀i∈p.2,∀j∈p.2,f i=f j)
 | [],_,f,b,c4,c5,c6,c7,ps=>⟨f,b,c4,c5,c6,c7,rfl,ps,λi=>K1 _,λz=> .inl z,λz=>⟨z,rfl,λp hp=>by cases hp⟩⟩
 | p :: G,hG,f,b,c4,c5,c6,c7,ps=>by
  obtain⟨a1,a2,a3,a4⟩:=hG p K7
  have hs:∃mM:Sl,jY [4,5] (cP .base (.tuple [p.1,.list (p.2.map nat)])) (.tuple [p.1,.list (p.2.map nat)]) [d0,d1,tL (jm n f),tB b,c4,c5,c6,c7,d8,d9]=some [d0,d1,tL (jm n f),tB b,mM,fL (p.2.map nat),c6,c7,d8,d9]:=by
   have nt:br (.tuple [p.1,.list (p.2.map nat)])=false:=by
    rw[cz,ar,ar,nj,J9,Bool.and_false]
   rw[xg nt]
   show∃mM:Sl,some (jo (jo _ 4 (cP .base p.1) p.1) 5 .base (.list (p.2.map nat)))=_
   cases e:br p.1 with
   | true=>rw[cf e];exact⟨_,rfl⟩
   | false=>rw[xg e];exact⟨_,rfl⟩
  obtain⟨mM,hs⟩:=hs
  obtain⟨f1,b1,pP,fK,e1,p1,p2,p3,p4⟩:=KR d0 d1 mM d8 d9 hn p.2 a1 a2 a3 a4 f ps b c6 c7
  obtain⟨f',b',zE,EL,zA,vV,e,q1,q2,q3,q4⟩:=EM d0 d1 d8 d9 hn G (λq hq=>hG q (K9 _ hq)) f1 b1 mM (fL (p.2.map nat)) pP fK p1
  refine⟨f',b',zE,EL,zA,vV,?_,q1,λi=>Kz (q2 i) (p2 i),?_,?_⟩
  ·show aZ (jY [4,5]) dI (.tuple [p.1,.list (p.2.map nat)] :: KS G) _=_
   rw[aZ,hs,bw,au,e1,au]
   exact e
  ·intro z
   rcases q3 z with z | ⟨i,z1,z2⟩
   ·rcases p3 z with z | ⟨i,z1,z2⟩
    ·exact .inl z
    ·exact .inr ⟨i,z1,Xv (q2 i) z2⟩
   ·exact .inr ⟨i,z1,X6 z2 (p2 i)⟩
  ·intro z
   obtain⟨z1,z2,z3⟩:=q4 z
   obtain⟨y1,y2,y3⟩:=p4 z1
   subst z2
   refine⟨y1,y2,λq hq=> ?_⟩
   rcases K0.mp hq with rfl | hq
   ·exact y3
   ·rw[←y2];exact z3 q hq
noncomputable def wt (n:Nat)(f:Nat->Nat):Nat:=((List.range n).map f).sum
theorem n9 (n:Nat)(f:Nat->Nat):wt (n+1) f=wt n f+f n:=by
 unfold wt;rw[Yk,X0,List.sum_append];simp
theorem HM (h:∀i,f i<=g i):∀n,wt n f<=wt n g
 | 0=>K1 _
 | n+1=>by rw[n9,n9];have:=HM h n;have:=h n;omega
theorem HN (h:∀i,f i<=g i)(hi:f i < g i):∀{n},i < n->wt n f < wt n g
 | n+1,hn=>by
  rw[n9,n9]
  by_cases e:i=n
  ·subst e;have:=HM h i;omega
  ·have:=HN h hi (n:=n) (!1);have:=h n;omega
theorem yp :∀(n:Nat),(∀i,i < n->f i<=b)->wt n f<=n*b
 | 0,_=>by simp[wt]
 | n+1,h=>by
  rw[n9,Y2]
  have:=yp n λi hi=>h i (!1)
  have:=h n (!1)
  omega
theorem K_ (d0 d8 d9:Sl){vw:Nat->Nat->Z2}(hn:n<=1000)(g:uo G 1000)(hG:∀p∈G,p.2≠[]/\(∀i∈p.2,i < n)/\(∀i∈p.2,∀j∈p.2,Cn n h vw i j)/\p.2.length<=1000):∀(w fuel:Nat) (f:Nat->Nat) (c4 c5 c6 c7:Sl),PS n h vw f->wt n f < w->w+1<=fuel->
  ∃(f':Nat->Nat) (mM kE pP fK:Sl),fy fuel iR dJ [d0,fD (aK G),tL (jm n f),tB true,c4,c5,c6,c7,d8,d9]=
  ah (.nx [d0,fD (aK G),tL (jm n f'),tB false,mM,kE,pP,fK,d8,d9])/\PS n h vw f'/\∀p∈G,∀i∈p.2,∀j∈p.2,f' i=f' j:=by
 intro w
 induction w with
 | zero=>
  intro fuel f c4 c5 c6 c7 ps hw hf
  omega
 | succ w ih=>
  intro fuel f c4 c5 c6 c7 ps hw hf
  obtain⟨fuel,rfl⟩:∃k,fuel=k+2:=⟨fuel - 2,by omega⟩
  obtain⟨f',b',mM,kE,pP,fK,e,q1,q2,q3,q4⟩:=EM d0 (fD (aK G)) d8 d9 hn G hG f false c4 c5 c6 c7 ps
  have hb:dJ [d0,fD (aK G),tL (jm n f),tB true,c4,c5,c6,c7,d8,d9]=ah (.nx [d0,fD (aK G),tL (jm n f'),tB b',mM,kE,pP,fK,d8,d9]):=by
   unfold dJ
   rw[aB (show(aH 3 (eC (.bool false))) _=ah (.nx [d0,fD (aK G),tL (jm n f),tB false,c4,c5,c6,c7,d8,d9]) from rfl)]
   have hi:vf (eV 1) [d0,fD (aK G),tL (jm n f),tB false,c4,c5,c6,c7,d8,d9]=ah (.base,KS G):=by
    show Bq .base (.dict (aK G))=_
    rw[Bq,JQ g.g8];rfl
   unfold bA
   rw[hi,au];exact e
  cases b' with
  | true=>
   rcases q3 rfl with z | ⟨i,z1,z2⟩
   ·cases z
   ·have hlt:=HN q2 z2 z1
    obtain⟨f'',d4,d5,d6,d7,e',r1,r2⟩:=ih (fuel+1) f' mM kE pP fK q1 (!1) (!1)
    exact⟨f'',d4,d5,d6,d7,by rw[nX rfl hb];exact e',r1,r2⟩
  | false=>
   obtain⟨_,rfl,z3⟩:=q4 rfl
   exact⟨f',mM,kE,pP,fK,by rw[nX rfl hb,sm rfl],q1,z3⟩
theorem oS {α:Type}(f:α->Z2)(p:α->Bool)(g:α->Kd×Z2):∀(l:List α),(∀a∈l,ft (fA (f a) :: cap)=ah (p a))->(∀a∈l,p a=true->fe (fA (f a) :: cap)=ah (g a))->cb ft fe cap (l.map f)=some ((l.filter p).map g)
 | [],_,_=>rfl
 | a :: l,ht,h=>by
  have h0:=ht a K7
  have ih:=oS f p g l (λb hb=>ht b (K9 _ hb)) λb hb=>h b (K9 _ hb)
  rw[KQ,cb]
  cases hp:p a with
  | true=>
   have h1:=h a K7 hp
   rw[hp] at h0
   simp only[ah] at h0 h1⊢
   rw[h0,h1]
   simp only
   rw[ih,List.filter_cons_of_pos hp];rfl
  | false=>
   rw[hp] at h0
   simp only[ah] at h0⊢
   rw[h0]
   simp only
   rw[ih,List.filter_cons_of_neg (by rw[hp];exact K4)]
theorem qe (a b:Nat):((a:Int)==(b:Int))=decide (a=b):=by
 by_cases e:a=b
 ·subst e;simp
 ·rw[Z8 e];exact beq_eq_false_iff_ne.mpr λz=>e (!1)
noncomputable def lot (n:Nat)(f:Nat->Nat)(a:Nat):List Nat:=(List.range n).filter λj=>decide (f j=a)
def lots (n:Nat)(f:Nat->Nat)(i:Nat):List Z2:=((List.range i).filter λa=>decide (f a=a)).map λa=> .list ((lot n f a).map nat)
theorem ut (n:Nat)(f:Nat->Nat)(i:Nat):lots n f (i+1)=lots n f i++(if f i=i then [.list ((lot n f i).map nat)] else []):=by
 unfold lots
 rw[Yk,List.filter_append,X0]
 by_cases e:f i=i
 ·rw[JQ e,List.filter_cons_of_pos (by simpa using e)];rfl
 ·rw[JV e,List.filter_cons_of_neg (by simpa using e)];rfl
theorem yq (n:Nat)(f:Nat->Nat)(i:Nat):(lots n f i).length<=i:=by
 unfold lots;rw[K6];exact Kz (Xk _ _) (by rw[KW];exact K1 _)
theorem La (d1 c3 c4 c5 c6 c7:Sl)(hn:n<=1000)(f:Nat->Nat)(hf:∀i,i < n->f i < n):∃iE:Sl,aZ (bW 9) cH ((List.range n).map λ(i:Nat)=>PyData.int (i:Int)) [fN n,d1,tL (jm n f),c3,c4,c5,c6,c7,tL [],none]=
  ah (.nx [fN n,d1,tL (jm n f),c3,c4,c5,c6,c7,tL (lots n f n),iE]):=by
 obtain⟨Γ',k1,iE,rfl⟩:=bt (g:=bW 9) (b:=cH) (ds:=(List.range n).map λ(i:Nat)=>PyData.int (i:Int)) (Γ:=[fN n,d1,tL (jm n f),c3,c4,c5,c6,c7,tL [],none])
  (λi Γ=>∃c9:Sl,Γ=[fN n,d1,tL (jm n f),c3,c4,c5,c6,c7,tL (lots n f i),c9]) ⟨none,rfl⟩ (by
  rintro i d Γ hd ⟨c9,rfl⟩
  obtain⟨rfl,hi⟩:=bZ hd
  have ea:=vY f hi
  have hz:(lots n f i).length < sizeLine:=Xv (Kz (yq n f i) (show i<=1000 by omega)) (!8)
  refine⟨_,[fN n,d1,tL (jm n f),c3,c4,c5,c6,c7,tL (lots n f (i+1)),tN i],rfl,.inl ?_,_,rfl⟩
  have hc:=oS (ft:=iS) (fe:=iT) (cap:=[fN i,fL (jm n f)]) (λ(j:Nat)=>PyData.int (j:Int)) (λj=>decide (f j=i)) (λj=>(Kd.fr [],nat j)) (List.range n) (λj hj=>by
   have eb:=vY f (Xy.mp hj)
   simp(disch:=omega) only[iS,rn,reduceIte,eb,qe]) (λj hj _=>by
   simp(disch:=omega) only[iT,rn,reduceIte,nat])
  have k1:=cS ((List.range n).filter λj=>decide (f j=i)) nat
  have e2:(((List.range n).filter λj=>decide (f j=i)).map λj=>(Kd.fr [],nat j)).map Prod.snd=(lot n f i).map nat:=by rw[KZ];rfl
  have hle:n<=100000:=by omega
  rw[ut]
  by_cases e:f i=i
  ·rw[JQ e]
   have hd:decide (f i=i)=true:=Z9 e
   simp(disch:=omega) only[cH,rn,reduceIte,ea,qe,hd,a7,hc,k1,e2,hle,hz,Ku]
  ·rw[JV e,Xz]
   have hd:decide (f i=i)=false:=Z8 e
   simp(disch:=omega) only[cH,rn,reduceIte,ea,qe,hd])
 rw[K6,KW] at k1
 exact⟨iE,k1⟩
theorem EN {vw:Nat->Nat->Z2}(hn:n<=900)(gr:E2 n h vw G):∃f:Nat->Nat,il [.int (n:Int),.dict (aK G)]=ah (true,.list (lots n f n))/\(∀i,i < n->f i<=i/\f (f i)=f i)/\∀i j,i < n->j < n->(f i=f j↔Cn n h vw i j):=by
 have hG:∀p∈G,p.2≠[]/\(∀i∈p.2,i < n)/\(∀i∈p.2,∀j∈p.2,Cn n h vw i j)/\p.2.length<=1000:=λp hp=>by
  obtain⟨k,hk,hm⟩:=gr.g p hp
  exact⟨gr.ne p hp,λi hi=>((hm i).mp hi).1,λi hi j hj=> .rel ((hm i).mp hi).1 ((hm j).mp hj).1 hk (((hm i).mp hi).2.trans ((hm j).mp hj).2.symm),(gr.ok.k p hp).2⟩
 have hw:wt n id<=900*900:=Kz (yp (b:=900) n λi hi=>by show i<=900;omega) (Nat.mul_le_mul_right _ hn)
 obtain⟨f,c4,c5,c6,c7,e,p1,p2⟩:=K_ (fN n) none none (!1) gr.ok hG (900*900+1) wu id none none none none (λi hi=>⟨K1 _,.refl _⟩) (Nat.lt_succ_of_le hw) (!8)
 have hc:∀a b k,a < n->b < n->k < h->vw a k=vw b k->f a=f b:=λa b k ha hb hk ev=>by
  obtain⟨l,_,hl⟩:=gr.get a k ha hk
  refine p2 _ hl a ?_ b ?_
  ·exact(gr.mem_of hl a).mpr ⟨ha,rfl⟩
  ·exact(gr.mem_of hl b).mpr ⟨hb,ev.symm⟩
 obtain⟨c9,e8⟩:=La (fD (aK G)) (tB false) c4 c5 c6 c7 (!1) f λi hi=>Xv (p1 i hi).1 hi
 refine⟨f,?_,λi hi=>⟨(p1 i hi).1,((p1 i hi).2.const f hc).symm⟩,λi j hi hj=>⟨λz=> ?_,λz=>z.const f hc⟩⟩
 ·have hn2:(0:Int)<=(n:Int)/\(n:Int)<=100000:=by omega
  have s1:(aH 2 (v6 g9 (eV 0))) (cD 10 [.int (n:Int),.dict (aK G)])=ah (.nx [fN n,fD (aK G),tL (jm n id),none,none,none,none,none,none,none]):=by
   simp(disch:=omega) only[rn,reduceIte,g9,hn2,and_self,Ku];rfl
  refine dZ ?_
  unfold kc
  rw[aB s1]
  rw[aB (show(aH 3 (eC (.bool true))) _=ah (.nx [fN n,fD (aK G),tL (jm n id),tB true,none,none,none,none,none,none]) from rfl)]
  rw[aB (show(qm wu iR dJ) _=_ from e)]
  rw[aB (show(aH 8 (dh [])) _=ah (.nx [fN n,fD (aK G),tL (jm n f),tB false,c4,c5,c6,c7,tL [],none]) from rfl)]
  have s8:(bA (eE (eV 0)) (bW 9) cH) [fN n,fD (aK G),tL (jm n f),tB false,c4,c5,c6,c7,tL [],none]=ah (.nx [fN n,fD (aK G),tL (jm n f),tB false,c4,c5,c6,c7,tL (lots n f n),c9]):=by
   simp(disch:=omega) only[rn,reduceIte,Ku,e8]
  rw[aB s8]
  rfl
 ·have h1:=(p1 i hi).2
  have h2:=(p1 j hj).2
  rw[←z] at h2
  exact h1.trans h2.symm
noncomputable def encV (V:List Z2):l5:=V.map λx=>(x,.bool true)
noncomputable def sw (S:List (Nat×Nat)):List Z2:=S.map λp=> .tuple [.int ((p.1:Nat):Int),.int ((p.2:Nat):Int)]
theorem G3 (S:List (Nat×Nat)):ar (sw S)=true:=aO _ (λ_=>rfl) _
theorem AY (S:List (Nat×Nat)):(sw S).length=S.length:=K6 _
def Lb (V:List Z2):Prop:=∀x∈V,pl x=true/\dy x=true
theorem oT (hx:pl x=true):∀{V:List Z2},Lb V->(mj (encV V) x=true↔x∈V)
 | [],_=>by simp[mj,encV]
 | y :: V,h=>by
  have ih:=oT hx (V:=V) λz hz=>h z (K9 _ hz)
  show((PyData.eqv y x || mj (encV V) x)=true)↔_
  rw[Bool.or_eq_true,ih,nQ (h y K7).1 hx,K0]
  exact⟨λz=>z.elim (λz=> .inl z.symm) .inr,λz=>z.elim (λz=> .inl z.symm) .inr⟩
theorem Cd (h:Lb V):g8 (encV V)=true:=Uv.mpr λp hp=>by
 obtain⟨q,hq,rfl⟩:=Kv.mp hp
 exact(h q hq).2
theorem Ce (V:List Z2):eM (encV V)=true:=aT.mpr λx hx=>by
 obtain⟨p,hp,rfl⟩:=Kv.mp hx
 obtain⟨y,_,rfl⟩:=Kv.mp hp
 rfl
theorem Lc (h:Lb V)(hx:dy x=true):eK (encV V) x=true:=by unfold eK;rw[hx,Cd h];rfl
structure SI (n h:Nat)(vw:Nat->Nat->Z2)(a:Nat)(V:List Z2)(j:Nat)(V':List Z2)(S:List (Nat×Nat)):Prop where
 v:Lb V'
 l:V'.length<=V.length+j
 sl:S.length<=j*1000
 up:∀x∈V,x∈V'
 dn:∀k,k < j->vw a k∈V'
 no:∀x∈V',x∈V∨∃k,k < j/\x=vw a k
 s:∀s∈S,s.1 < h/\s.2 < n/\vw s.2 s.1=vw a s.1
 c:∀k,k < j->vw a k∈V∨∀i,i < n->vw i k=vw a k->∃k',(k',i)∈S
theorem Ld {vw:Nat->Nat->Z2}(gr:E2 n h vw G)(hh:h<=4)(hp:∀i k,pl (vw i k)=true/\dy (vw i k)=true/\br (vw i k)=true)(a:Nat)(ha:a < n)(V:List Z2)(hV:Lb V)(hl:V.length<=10000)(d0:Sl) :
  ∃(V':List Z2) (S:List (Nat×Nat)) (c4 c5:Sl),aZ (jY [4,5]) ba (eA 0 ((!2).map (vw a))) [d0,fD (aK G),tD (encV V),tL (sw []),none,none]=
  ah (.nx [d0,fD (aK G),tD (encV V'),tL (sw S),c4,c5])/\SI n h vw a V h V' S:=by
 obtain⟨Γ',k1,V',S,c4,c5,rfl,si⟩:=bt (g:=jY [4,5]) (b:=ba) (ds:=eA 0 ((!2).map (vw a))) (Γ:=[d0,fD (aK G),tD (encV V),tL (sw []),none,none])
  (λj Γ=>∃(V':List Z2) (S:List (Nat×Nat)) (c4 c5:Sl),Γ=[d0,fD (aK G),tD (encV V'),tL (sw S),c4,c5]/\SI n h vw a V j V' S)
  ⟨V,[],none,none,rfl,hV,by omega,by simp,λx hx=>hx,(λk hk=>by omega),(λx hx=> .inl hx),(λs hs=>by cases hs),(λk hk=>by omega)⟩ (by
  rintro j d Γ hd ⟨V',S,c4,c5,rfl,si⟩
  rw[L2.jJ,KU] at hd
  have hj:j < h:=by
   apply Classical.byContradiction;intro z
   rw[XU (by rw[KW];omega)] at hd;cases hd
  rw[UZ hj,Nat.zero_add] at hd
  have hd:PyData.tuple [.int (j:Int),vw a j]=d:=by simpa using hd
  subst hd
  obtain⟨p1,p2,p3⟩:=hp a j
  have nt:br (.tuple [.int (j:Int),vw a j])=true:=by rw[cz,ar,ar,p3];rfl
  have hs:jY [4,5] (cP .base (.tuple [.int (j:Int),vw a j])) (.tuple [.int (j:Int),vw a j]) [d0,fD (aK G),tD (encV V'),tL (sw S),c4,c5]=some [d0,fD (aK G),tD (encV V'),tL (sw S),tN j,tA (vw a j)]:=by
   rw[cf nt]
   show some (jo (jo _ 4 (cP (.fr []) (.int (j:Int))) (.int (j:Int))) 5 (cP (.fr []) (vw a j)) (vw a j))=_
   rw[p8,cf p3];rfl
  have hK:=Lc si.v p2
  by_cases hin:vw a j∈V'
  ·have hk:=(oT p1 si.v).mpr hin
   refine⟨_,_,hs,.inl ?_,V',S,tN j,tA (vw a j),rfl,?_⟩
   ·simp(disch:=omega) only[ba,rn,reduceIte,cf p3,fO,hK,hk]
   ·refine⟨si.v,by have:=si.l;omega,by have:=si.sl;omega,si.up,λk hk=> ?_,λx hx=> ?_,si.s,λk hk=> ?_⟩
    ·by_cases e:k=j
     ·subst e;exact hin
     ·exact si.dn k (!1)
    ·rcases si.no x hx with z | ⟨k,z1,z2⟩
     ·exact .inl z
     ·exact .inr ⟨k,by omega,z2⟩
    ·by_cases e:k=j
     ·subst e
      rcases si.no _ hin with z | ⟨k',z1,z2⟩
      ·exact .inl z
      ·have:=gr.hand _ _ _ _ z2;omega
     ·exact si.c k (!1)
  ·have hk:mj (encV V') (vw a j)=false:=Bool.eq_false_iff.mpr λz=>hin ((oT p1 si.v).mp z)
   obtain⟨l,g1,g2⟩:=gr.get a j ha hj
   have hll:l.length<=1000:=(gr.ok.k _ g2).2
   have Qz:eK (aK G) (vw a j)=true:=by unfold eK;rw[p2,gr.ok.g8];rfl
   have hc:=su (fe:=cT) (cap:=[fN j]) nat (λi=>(Kd.fr [],.tuple [.int (j:Int),nat i])) l (λi hi=>by
    have nn:ar [PyData.int (j:Int),.int (i:Int)]=true:=rfl
    simp(disch:=omega) only[cT,rn,reduceIte,nat,aw nn])
   have k1:=cS l λi=>PyData.tuple [.int (j:Int),nat i]
   have e2:(l.map λi=>(Kd.fr [],PyData.tuple [.int (j:Int),nat i])).map Prod.snd=sw (l.map λi=>(j,i)):=by unfold sw;rw[KZ,KZ];rfl
   have hle:l.length<=100000:=by omega
   have nn:=G3 (l.map λi=>(j,i))
   have hsz:(sw S).length+(sw (l.map λi=>(j,i))).length<=sizeLine:=Kz (show _<=10000 by rw[AY,AY,K6];have:=si.sl;omega) (!8)
   have hvl:(encV V').length < sizeLine:=Xv (show _<=20000 by unfold encV;rw[K6];have:=si.l;omega) (!8)
   have nv:=Ce V'
   have ep:putK (encV V') (vw a j) (.bool true)=encV (V'++[vw a j]):=by
    unfold putK;rw[hk,JV K4];unfold encV;rw[X0];rfl
   have ea:sw S++sw (l.map λi=>(j,i))=sw (S++l.map λi=>(j,i)):=by unfold sw;rw[X0]
   refine⟨_,_,hs,.inl ?_,V'++[vw a j],S++l.map (λi=>(j,i)),tN j,tA (vw a j),rfl,?_⟩
   ·simp(disch:=omega) only[ba,rn,reduceIte,cf p3,fO,hK,hk,qo,nv,hvl,and_self,ep,Fo,Qz,g1,a7,hc,k1,e2,hle,yI,Hn,nn,hsz,ea]
   ·refine⟨λx hx=> ?_,by rw[K2,X4];have:=si.l;omega,by rw[K2,K6];have:=si.sl;omega,λx hx=>X9 _ (si.up x hx),λk hk=> ?_,λx hx=> ?_,λs hs=> ?_,λk hk=> ?_⟩
    ·rcases Kk.mp hx with z | z
     ·exact si.v x z
     ·rw[K5.mp z];exact⟨p1,p2⟩
    ·by_cases e:k=j
     ·subst e;exact Kx _ (K5.mpr rfl)
     ·exact X9 _ (si.dn k (!1))
    ·rcases Kk.mp hx with z | z
     ·rcases si.no x z with z | ⟨k,z1,z2⟩
      ·exact .inl z
      ·exact .inr ⟨k,by omega,z2⟩
     ·exact .inr ⟨j,by omega,K5.mp z⟩
    ·rcases Kk.mp hs with z | z
     ·exact si.s s z
     ·obtain⟨i,hi,rfl⟩:=Kv.mp z
      have:=(gr.mem_of g2 i).mp hi
      exact⟨hj,this.1,this.2⟩
    ·by_cases e:k=j
     ·subst e
      exact .inr λi hi ev=>⟨k,Kx _ (Kv.mpr ⟨i,(gr.mem_of g2 i).mpr ⟨hi,ev⟩,rfl⟩)⟩
     ·rcases si.c k (!1) with z | z
      ·exact .inl z
      ·exact .inr λi hi ev=>by
        obtain⟨k',hk'⟩:=z i hi ev
        exact⟨k',X9 _ hk'⟩)
 rw[L2.da,K6,KW] at si
 exact⟨V',S,c4,c5,k1,si⟩
theorem EO {vw:Nat->Nat->Z2}(gr:E2 n h vw G)(hh:h<=4)(hp:∀i k,pl (vw i k)=true/\dy (vw i k)=true/\br (vw i k)=true)(a:Nat)(ha:a < n)(V:List Z2)(hV:Lb V)(hl:V.length<=10000) :
  ∃(V':List Z2) (S:List (Nat×Nat)),cn [.list ((!2).map (vw a)),.dict (aK G)] (.dict (encV V))=ah (.list (sw S),.dict (encV V'))/\SI n h vw a V h V' S:=by
 obtain⟨V',S,c4,c5,e,si⟩:=Ld gr hh hp a ha V hV hl (fL ((!2).map (vw a)))
 refine⟨V',S,?_,si⟩
 have e0:cm (kT 6 [.list ((!2).map (vw a)),.dict (aK G)] (.dict (encV V)))=ah (.nx [fL ((!2).map (vw a)),fD (aK G),tD (encV V'),tL (sw S),c4,c5]):=by
  unfold cm
  rw[aB (show(aH 3 (dh [])) (kT 6 [.list ((!2).map (vw a)),.dict (aK G)] (.dict (encV V)))=ah (.nx [fL ((!2).map (vw a)),fD (aK G),tD (encV V),tL (sw []),none,none]) from rfl)]
  rw[aB (show(bA (j8 (eV 0)) (jY [4,5]) ba) [fL ((!2).map (vw a)),fD (aK G),tD (encV V),tL (sw []),none,none]=_ from e)]
  rfl
 unfold cn runIO
 rw[e0];rfl
abbrev Wy:=List (Nat×Option (Nat×Nat))
noncomputable def G4:Option (Nat×Nat)->Z2
 | none=> .none
 | some p=> .tuple [.int ((p.1:Nat):Int),.int ((p.2:Nat):Int)]
def bn (W:Wy):l5:=W.map λp=>(.int ((p.1:Nat):Int),G4 p.2)
noncomputable def kW (W:Wy):List Nat:=W.map (·.1)
theorem G5 (a b:Nat):PyData.eqv (.int (a:Int)) (.int (b:Int))=decide (a=b):=qe a b
theorem lS (x:Nat):∀W:Wy,mj (bn W) (.int (x:Int))=decide (x∈kW W)
 | []=>rfl
 | p :: W=>by
  show(PyData.eqv (.int ((p.1:Nat):Int)) (.int (x:Int)) || mj (bn W) (.int (x:Int)))=_
  rw[lS x W,G5]
  unfold kW
  rw[KQ,YK]
  simp only[Bool.or_eq_true,JJ,K0]
  exact⟨λz=>z.elim (λz=> .inl z.symm) .inr,λz=>z.elim (λz=> .inl z.symm) .inr⟩
theorem lU (W:Wy):allI (bn W)=true:=Uv.mpr λp hp=>by
 obtain⟨q,hq,rfl⟩:=Kv.mp hp;rfl
theorem ER (W:Wy)(x:Nat):eK (bn W) (.int (x:Int))=true:=by unfold eK;rw[lU];rfl
theorem oU (W:Wy):eM (bn W)=true:=aT.mpr λx hx=>by
 obtain⟨p,hp,rfl⟩:=Kv.mp hx
 obtain⟨y,_,rfl⟩:=Kv.mp hp
 show br (G4 y.2)=true
 cases y.2 <;> rfl
inductive Cp (n h:Nat)(vw:Nat->Nat->Z2)(first:Nat):Wy->Prop
 | one:first < n->Cp n h vw first [(first,none)]
 | snoc {W:Wy} {i k a:Nat}:Cp n h vw first W->a∈kW W->i∉kW W->i < n->k < h->vw i k=vw a k->Cp n h vw first (W++[(i,some (k,a))])
theorem vZ (W:Wy)(e:Nat×Option (Nat×Nat)):kW (W++[e])=kW W++[e.1]:=by unfold kW;rw[X0];rfl
theorem Cp.nd {vw:Nat->Nat->Z2}(o:Cp n h vw first W):(kW W).Nodup/\(∀i∈kW W,i < n/\Cn n h vw first i)/\first∈kW W:=by
 induction o with
 | one h1=>exact⟨by simp[kW],λi hi=>by rw[show i=first from K5.mp hi];exact⟨h1,.refl _⟩,K5.mpr rfl⟩
 | snoc _ h1 h2 h3 h4 h5 ih=>
  obtain⟨i1,i2,i3⟩:=ih
  rw[vZ]
  refine⟨XX.mpr ⟨i1,by simp,λx hx y hy z=> ?_⟩,λx hx=> ?_,X9 _ i3⟩
  ·have zz:=z.trans (K5.mp hy)
   dsimp only at zz
   subst zz;exact h2 hx
  ·rcases Kk.mp hx with z | z
   ·exact i2 x z
   ·rw[K5.mp z]
    exact⟨h3,(i2 _ h1).2.trans (.rel (i2 _ h1).1 h3 h4 h5.symm)⟩
theorem sC:∀(n:Nat) (l:List Nat),l.Nodup->(∀i∈l,i < n)->l.length<=n
 | 0,l,_,h=>by
  cases l with
  | nil=>simp
  | cons a l=>exact absurd (h a K7) (!1)
 | n+1,l,nd,h=>by
  have ih:=sC n (l.erase n) (nd.erase n) λi hi=>by
   have h1:=(List.Nodup.mem_erase_iff nd).mp hi
   have:=h i h1.2
   have:=h1.1
   omega
  by_cases hm:n∈l
  ·rw[List.length_erase_of_mem hm] at ih;omega
  ·rw[List.erase_of_not_mem hm] at ih;omega
theorem Cp.len {vw:Nat->Nat->Z2}(o:Cp n h vw first W):W.length<=n:=by
 have:=sC n (kW W) o.nd.1 λi hi=>(o.nd.2.1 i hi).1
 unfold kW at this;rw[K6] at this;exact this
theorem ES (d0 d1 d2 d4 d5:Sl){vw:Nat->Nat->Z2}(hn:n<=1000)(o7:Bool):∀(S:List (Nat×Nat)) (W:Wy) (Fu:List Nat) (c8 c9:Sl),(∀s∈S,s.1 < h/\s.2 < n/\vw s.2 s.1=vw a s.1)->Cp n h vw first W->a∈kW W->Fu.length<=W.length->
  ∃(W':Wy) (N:List Nat) (pR iE:Sl),aZ (jY [8,9]) bL (sw S) [d0,d1,d2,tD (bn W),d4,d5,tL (Fu.map nat),some (o7,.int (a:Int)),c8,c9]=
  ah (.nx [d0,d1,d2,tD (bn W'),d4,d5,tL ((Fu++N).map nat),some (o7,.int (a:Int)),pR,iE])/\Cp n h vw first W'/\kW W'=kW W++N/\∀s∈S,s.2∈kW W'
 | [],W,Fu,c8,c9,_,o,_,_=>⟨W,[],c8,c9,by rw[Xz];rfl,o,by rw[Xz],λs hs=>by cases hs⟩
 | s :: S,W,Fu,c8,c9,hS,o,ha,hF=>by
  obtain⟨s1,s2,s3⟩:=hS s K7
  have hK:=ER W s.2
  have hk:=lS s.2 W
  have QA:=o.len
  have hs:jY [8,9] (cP .base (.tuple [.int ((s.1:Nat):Int),.int ((s.2:Nat):Int)])) (.tuple [.int ((s.1:Nat):Int),.int ((s.2:Nat):Int)]) [d0,d1,d2,tD (bn W),d4,d5,tL (Fu.map nat),some (o7,.int (a:Int)),c8,c9]=some [d0,d1,d2,tD (bn W),d4,d5,tL (Fu.map nat),some (o7,.int (a:Int)),tN s.1,tN s.2]:=rfl
  show∃(W':Wy) (N:List Nat) (pR iE:Sl),aZ (jY [8,9]) bL (.tuple [.int ((s.1:Nat):Int),.int ((s.2:Nat):Int)] :: sw S) _=_/\_
  by_cases hin:s.2∈kW W
  ·obtain⟨W',N,pR,iE,e,r1,r2,r3⟩:=ES d0 d1 d2 d4 d5 hn o7 S W Fu (tN s.1) (tN s.2) (λt ht=>hS t (K9 _ ht)) o ha hF
   refine⟨W',N,pR,iE,?_,r1,r2,λt ht=> ?_⟩
   ·rw[Z9 hin] at hk
    have hb:bL [d0,d1,d2,tD (bn W),d4,d5,tL (Fu.map nat),some (o7,.int (a:Int)),tN s.1,tN s.2]=ah (.nx [d0,d1,d2,tD (bn W),d4,d5,tL (Fu.map nat),some (o7,.int (a:Int)),tN s.1,tN s.2]):=by
     simp(disch:=omega) only[bL,rn,reduceIte,fO,hK,hk]
    rw[aZ,hs,bw,au,hb,au];exact e
   ·rcases K0.mp ht with rfl | ht
    ·rw[r2];exact X9 _ hin
    ·exact r3 t ht
  ·have o2:Cp n h vw first (W++[(s.2,some (s.1,a))]):=.snoc o ha hin s2 s1 s3
   have k2:kW (W++[(s.2,some (s.1,a))])=kW W++[s.2]:=vZ _ _
   obtain⟨W',N,pR,iE,e,r1,r2,r3⟩:=ES d0 d1 d2 d4 d5 hn o7 S (W++[(s.2,some (s.1,a))]) (Fu++[s.2]) (tN s.1) (tN s.2) (λt ht=>hS t (K9 _ ht)) o2 (by rw[k2];exact X9 _ ha) (by simp only[K2,X4];omega)
   rw[k2] at r2
   refine⟨W',s.2 :: N,pR,iE,?_,r1,by rw[r2,X5];rfl,λt ht=> ?_⟩
   ·rw[Z8 hin] at hk
    have hwl:(bn W).length < sizeLine:=Xv (show _<=1000 by unfold bn;rw[K6];omega) (!8)
    have hfl:Fu.length < sizeLine:=Xv (show _<=1000 by omega) (!8)
    have nv:=oU W
    have nt:ar [PyData.int ((s.1:Nat):Int),.int (a:Int)]=true:=rfl
    have ep:putK (bn W) (.int ((s.2:Nat):Int)) (.tuple [.int ((s.1:Nat):Int),.int (a:Int)])=bn (W++[(s.2,some (s.1,a))]):=by
     unfold putK;rw[hk,JV K4];unfold bn;rw[X0];rfl
    have ef:Fu.map nat++[.int ((s.2:Nat):Int)]=(Fu++[s.2]).map nat:=by rw[X0];rfl
    have hb:bL [d0,d1,d2,tD (bn W),d4,d5,tL (Fu.map nat),some (o7,.int (a:Int)),tN s.1,tN s.2]=ah (.nx [d0,d1,d2,tD (bn (W++[(s.2,some (s.1,a))])),d4,d5,tL ((Fu++[s.2]).map nat),some (o7,.int (a:Int)),tN s.1,tN s.2]):=by
     simp(disch:=omega) only[bL,rn,reduceIte,fO,hK,hk,tm,qo,aw nt,nt,nv,hwl,hfl,and_self,ep,ef]
    rw[aZ,hs,bw,au,hb,au]
    rw[show Fu++s.2 :: N=Fu++[s.2]++N by rw[X5];rfl]
    exact e
   ·rcases K0.mp ht with rfl | ht
    ·rw[r2];exact X9 _ (Kx _ (K5.mpr rfl))
    ·exact r3 t ht
structure BI (n h:Nat)(vw:Nat->Nat->Z2)(first:Nat)(W:Wy)(V:List Z2)(R Fu:List Nat):Prop where
 o:Cp n h vw first W
 v:Lb V
 l:V.length+h*(R.length+Fu.length)<=h*W.length
 f:Fu.length<=W.length
 a:∀x∈V,∀i k,i < n->k < h->vw i k=x->i∈kW W
 b:∀i∈kW W,i∈R∨i∈Fu∨∀k,k < h->vw i k∈V
 c:∀i,i∈R∨i∈Fu->i∈kW W
theorem HP {vw:Nat->Nat->Z2}(gr:E2 n h vw G)(hh:h<=4)(hp:∀i k,pl (vw i k)=true/\dy (vw i k)=true/\br (vw i k)=true)(hn:n<=1000)(d2 d5:Sl):∀(R:List Nat) (W:Wy) (V:List Z2) (Fu:List Nat) (c7 c8 c9:Sl),BI n h vw first W V R Fu->
  ∃(W':Wy) (V':List Z2) (G6:List Nat) (fK pR iE:Sl),aZ (bW 7) dg (R.map nat) [fL ((List.range n).map λi=> .list ((!2).map (vw i))),fD (aK G),d2,tD (bn W),tD (encV V),d5,tL (Fu.map nat),c7,c8,c9]=
  ah (.nx [fL ((List.range n).map λi=> .list ((!2).map (vw i))),fD (aK G),d2,tD (bn W'),tD (encV V'),d5,tL (G6.map nat),fK,pR,iE])/\BI n h vw first W' V' [] G6/\W'.length+Fu.length=W.length+G6.length
 | [],W,V,Fu,c7,c8,c9,bi=>⟨W,V,Fu,c7,c8,c9,rfl,bi,rfl⟩
 | a :: R,W,V,Fu,c7,c8,c9,bi=>by
  have Nk:=bi.c a (.inl K7)
  have han:=(bi.o.nd.2.1 a Nk).1
  have QA:=bi.o.len
  have hVl:V.length<=10000:=by
   have h1:=bi.l
   have h2:h*W.length<=4*1000:=Nat.mul_le_mul hh (!1)
   omega
  obtain⟨V',S,e1,si⟩:=EO gr hh hp a han V bi.v hVl
  obtain⟨W',N,pR,iE,e2,r1,r2,r3⟩:=ES (fL ((List.range n).map λi=> .list ((!2).map (vw i)))) (fD (aK G)) d2 (tD (encV V')) d5 hn true S W Fu c8 c9 si.s bi.o Nk bi.f
  have wl:W'.length=W.length+N.length:=by
   have:=congrArg List.length r2
   unfold kW at this
   rw[K2,K6,K6] at this;exact this
  have QB:BI n h vw first W' V' R (Fu++N):=by
   refine⟨r1,si.v,?_,by rw[K2,wl];have:=bi.f;omega,λx hx i k hi hk ev=> ?_,λi hi=> ?_,λi hi=> ?_⟩
   ·have h1:=bi.l
    have h2:=si.l
    rw[Kj] at h1
    rw[K2,wl]
    have e1:h*(R.length+1+Fu.length)=h*R.length+h+h*Fu.length:=by rw[Nat.mul_add,Nat.mul_add,Nat.mul_one]
    have e2:h*(R.length+(Fu.length+N.length))=h*R.length+(h*Fu.length+h*N.length):=by rw[Nat.mul_add,Nat.mul_add]
    have e3:h*(W.length+N.length)=h*W.length+h*N.length:=Nat.mul_add ..
    rw[e1] at h1
    rw[e2,e3]
    omega
   ·have old:∀i,i∈kW W->i∈kW W':=λi hi=>by rw[r2];exact X9 _ hi
    rcases si.no x hx with z | ⟨k',z1,z2⟩
    ·exact old i (bi.a x z i k hi hk ev)
    ·have:k=k':=gr.hand _ _ _ _ (ev.trans z2)
     subst this
     rcases si.c k z1 with z | z
     ·exact old i (bi.a _ z i k hi hk (ev.trans z2))
     ·obtain⟨k',hk'⟩:=z i hi (ev.trans z2)
      exact r3 _ hk'
   ·rw[r2] at hi
    rcases Kk.mp hi with z | z
    ·rcases bi.b i z with z | z | z
     ·rcases K0.mp z with rfl | z
      ·exact .inr (.inr si.dn)
      ·exact .inl z
     ·exact .inr (.inl (X9 _ z))
     ·exact .inr (.inr λk hk=>si.up _ (z k hk))
    ·exact .inr (.inl (Kx _ z))
   ·rw[r2]
    rcases hi with z | z
    ·exact X9 _ (bi.c i (.inl (K9 _ z)))
    ·rcases Kk.mp z with z | z
     ·exact X9 _ (bi.c i (.inr z))
     ·exact Kx _ z
  obtain⟨OC,OD,OE,vV,zG,zH,e,q1,q2⟩:=HP gr hh hp hn d2 d5 R W' V' (Fu++N) (tN a) pR iE QB
  refine⟨OC,OD,OE,vV,zG,zH,?_,q1,by rw[K2] at q2;omega⟩
  have ea:pY ((List.range n).map λi=>PyData.list ((!2).map (vw i))) (a:Int)=some (.list ((!2).map (vw a))):=fR (by rw[KU,UZ han];rfl)
  have hx:kI iH (eV 0) (eV 7) [fL ((List.range n).map λi=> .list ((!2).map (vw i))),fD (aK G),d2,tD (bn W),tD (encV V),d5,tL (Fu.map nat),tN a,c8,c9]=ah (.base,.list ((!2).map (vw a))):=by
   simp(disch:=omega) only[rn,reduceIte,ea]
  have hb:dg [fL ((List.range n).map λi=> .list ((!2).map (vw i))),fD (aK G),d2,tD (bn W),tD (encV V),d5,tL (Fu.map nat),tN a,c8,c9]=
    aZ (jY [8,9]) bL (sw S) [fL ((List.range n).map λi=> .list ((!2).map (vw i))),fD (aK G),d2,tD (bn W),tD (encV V'),d5,tL (Fu.map nat),tN a,c8,c9]:=by
   unfold dg Ar
   show(aq _ λx=>aq (ah (Kd.base,PyData.dict (aK G))) λy=>_)=_
   rw[hx]
   simp only[au,e1,mx,and_self,if_true]
   rfl
  show aZ (bW 7) dg (.int (a:Int) :: R.map nat) _=_
  rw[aZ,show bW 7 (cP .base (.int (a:Int))) (.int (a:Int)) [fL ((List.range n).map λi=> .list ((!2).map (vw i))),fD (aK G),d2,tD (bn W),tD (encV V),d5,tL (Fu.map nat),c7,c8,c9]=some [fL ((List.range n).map λi=> .list ((!2).map (vw i))),fD (aK G),d2,tD (bn W),tD (encV V),d5,tL (Fu.map nat),tN a,c8,c9] from rfl,bw,au,hb,e2,au]
  exact e
noncomputable def fE (n h:Nat)(vw:Nat->Nat->Z2):List Z2:=(List.range n).map λi=> .list ((!2).map (vw i))
theorem MS {vw:Nat->Nat->Z2}(gr:E2 n h vw G)(hh:h<=4)(hp:∀i k,pl (vw i k)=true/\dy (vw i k)=true/\br (vw i k)=true)(hn:n<=1000)(d2:Sl):∀(m fuel:Nat) (W:Wy) (V:List Z2) (R:List Nat) (c6 c7 c8 c9:Sl),BI n h vw first W V R []->n < W.length+m->m+1<=fuel->
  ∃(W':Wy) (V':List Z2) (pP fK pR iE:Sl),fy fuel gL eU [fL (fE n h vw),fD (aK G),d2,tD (bn W),tD (encV V),tL (R.map nat),c6,c7,c8,c9]=
  ah (.nx [fL (fE n h vw),fD (aK G),d2,tD (bn W'),tD (encV V'),tL [],pP,fK,pR,iE])/\BI n h vw first W' V' [] []:=by
 intro m
 induction m with
 | zero=>
  intro fuel W V R c6 c7 c8 c9 bi hm hf
  have:=bi.o.len
  omega
 | succ m ih=>
  intro fuel W V R c6 c7 c8 c9 bi hm hf
  obtain⟨fuel,rfl⟩:∃k,fuel=k+2:=⟨fuel - 2,by omega⟩
  cases R with
  | nil=>exact⟨W,V,c6,c7,c8,c9,by rw[sm rfl];rfl,bi⟩
  | cons a R=>
   obtain⟨W',V',G6,fK,pR,iE,e,q1,q2⟩:=HP gr hh hp hn d2 (fL ((a :: R).map nat)) (a :: R) W V [] c7 c8 c9 bi
   have hb:eU [fL (fE n h vw),fD (aK G),d2,tD (bn W),tD (encV V),tL ((a :: R).map nat),c6,c7,c8,c9]=ah (.nx [fL (fE n h vw),fD (aK G),d2,tD (bn W'),tD (encV V'),tL (G6.map nat),none,fK,pR,iE]):=by
    unfold eU
    rw[aB (show(aH 6 (dh [])) _=ah (.nx [fL (fE n h vw),fD (aK G),d2,tD (bn W),tD (encV V),tL ((a :: R).map nat),tL ([].map nat),c7,c8,c9]) from rfl)]
    rw[aB (show(bA (i6 (eV 5)) (bW 7) dg) [fL (fE n h vw),fD (aK G),d2,tD (bn W),tD (encV V),tL ((a :: R).map nat),tL ([].map nat),c7,c8,c9]=_ from e)]
    rfl
   have hc:gL [fL (fE n h vw),fD (aK G),d2,tD (bn W),tD (encV V),tL ((a :: R).map nat),c6,c7,c8,c9]=ah true:=by
    have hd:decide ((0:Int) < (((a :: R).map nat).length:Nat))=true:=Z9 (by rw[K6,Kj];omega)
    show ah (decide ((0:Int) < (((a :: R).map nat).length:Nat)))=_
    rw[hd]
   rw[UQ] at q2
   have Po:BI n h vw first W' V' G6 []:=⟨q1.o,q1.v,by have:=q1.l;rw[UQ] at this⊢;rw[Nat.add_zero];rw[Nat.zero_add] at this;exact this,by simp,q1.a,λi hi=>(q1.b i hi).elim (λz=>by cases z) λz=>z.elim .inl λz=> .inr (.inr z),λi hi=>hi.elim (λz=>q1.c i (.inr z)) λz=>by cases z⟩
   cases G6 with
   | nil=>exact⟨W',V',none,fK,pR,iE,by rw[nX hc hb,sm rfl];rfl,Po⟩
   | cons b G6=>
    rw[Kj] at q2
    obtain⟨OC,OD,zA,vV,zG,zH,e',r⟩:=ih (fuel+1) W' V' (b :: G6) none fK pR iE Po (!1) (!1)
    exact⟨OC,OD,zA,vV,zG,zH,by rw[nX hc hb];exact e',r⟩
theorem G7 {vw:Nat->Nat->Z2}(gr:E2 n h vw G)(hh:h<=4)(hp:∀i k,pl (vw i k)=true/\dy (vw i k)=true/\br (vw i k)=true)(hn:n<=1000)(hf:first < n) :
  ∃W:Wy,lf [.list (fE n h vw),.dict (aK G),.int (first:Int)]=ah (true,.dict (bn W))/\Cp n h vw first W/\∀i,i < n->(i∈kW W↔Cn n h vw first i):=by
 have QC:BI n h vw first [(first,none)] [] [first] []:=⟨.one hf,(λx hx=>by cases hx),by simp,by simp,(λx hx=>by cases hx),λi hi=> .inl hi,λi hi=>hi.elim id λz=>by cases z⟩
 obtain⟨W,V,c6,c7,c8,c9,e,bi⟩:=MS gr hh hp hn (fN first) 1000 wu [(first,none)] [] [first] none none none none QC (by rw[X4];omega) (!8)
 refine⟨W,?_,bi.o,λi hi=>⟨λz=>(bi.o.nd.2.1 i z).2,λz=> ?_⟩⟩
 ·refine dZ ?_
  unfold lb
  rw[aB (show(aH 3 (wz (eV 2) (eC .none))) (cD 10 [.list (fE n h vw),.dict (aK G),.int (first:Int)])=ah (.nx [fL (fE n h vw),fD (aK G),fN first,tD (bn [(first,none)]),none,none,none,none,none,none]) from rfl)]
  rw[aB (show(aH 4 mS) _=ah (.nx [fL (fE n h vw),fD (aK G),fN first,tD (bn [(first,none)]),tD (encV []),none,none,none,none,none]) from rfl)]
  rw[aB (show(aH 5 (dh [(eV 2)])) _=ah (.nx [fL (fE n h vw),fD (aK G),fN first,tD (bn [(first,none)]),tD (encV []),tL ([first].map nat),none,none,none,none]) from rfl)]
  rw[aB (show(qm wu gL eU) [fL (fE n h vw),fD (aK G),fN first,tD (bn [(first,none)]),tD (encV []),tL ([first].map nat),none,none,none,none]=_ from e)]
  rfl
 ·have hcl:∀a b k,a < n->b < n->k < h->vw a k=vw b k->a∈kW W->b∈kW W:=λa b k ha hb hk ev Nk=>by
   rcases bi.b a Nk with z | z | z
   ·cases z
   ·cases z
   ·exact bi.a _ (z k hk) b k hb hk ev.symm
  exact(z.closed (λa=>a∈kW W) hcl).mp bi.o.nd.2.2
theorem G8 (h:Nat)(L:List Rn):dP h L=fE L.length h (vw L):=by
 unfold dP fE
 refine Jx (by simp) λi h1 h2=> ?_
 have hi:i < L.length:=by rw[K6] at h1;exact h1
 simp only[J2,List.getElem_range]
 unfold nY vw
 rw[X8,K3 hi];rfl
theorem OG (L:List Rn)(i k:Nat):pl (vw L i k)=true/\dy (vw L i k)=true/\br (vw L i k)=true:=⟨zC _ _ _,nZ _ _ _,qc _ _ _⟩
theorem sD:∀(W P:Wy),(kW W).Nodup->(∀i∈kW W,i∉kW P)->me (bn P) (bn W)=bn (P++W)
 | [],P,_,_=>by rw[Xz];rfl
 | e :: W,P,nd,hd=>by
  obtain⟨n1,n2⟩:=KJ.mp (show(e.1 :: kW W).Nodup from nd)
  have hk:=lS e.1 P
  rw[Z8 (hd e.1 K7)] at hk
  have ep:putK (bn P) (.int ((e.1:Nat):Int)) (G4 e.2)=bn (P++[e]):=by
   unfold putK;rw[hk,JV K4];unfold bn;rw[X0];rfl
  show me (putK (bn P) (.int ((e.1:Nat):Int)) (G4 e.2)) (bn W)=_
  rw[ep,sD W (P++[e]) n2 λi hi=> ?_,X5]
  ·rfl
  ·rw[vZ,Kk,K5]
   rintro(z | z)
   ·exact hd i (K9 _ hi) z
   ·exact n1 (z ▸ hi)
theorem Cf (W:Wy):((bn W).map λp=>Gq p.1)=(kW W).map λ(i:Nat)=>(i:Int):=by
 unfold bn kW;rw[KZ,KZ];rfl
theorem G9 (nd:(kW W).Nodup)(hm:∀i,i∈kW W↔i < n/\f i=a):rj [.dict (bn W)]=some (.list ((lot n f a).map nat)):=by
 rw[rj,JQ (lU W),Cf]
 have nl:(lot n f a).Nodup:=List.nodup_range.filter _
 have p1:(kW W).Perm (lot n f a):=(List.perm_ext_iff_of_nodup nd nl).mpr λi=>by
  rw[hm i];unfold lot;rw[XQ,Xy,JJ]
 have asc:((lot n f a).map λ(i:Nat)=>(i:Int)).Pairwise (· <= ·):=by
  refine List.pairwise_map.mpr ?_
  have:(List.range n).Pairwise (λ(x y:Nat)=>(x:Int)<=(y:Int)):=List.pairwise_lt_range.imp λh=>by omega
  exact this.sublist List.filter_sublist
 have e:=PySem.W.ksm_same ((Ts.jN ((kW W).map λ(i:Nat)=>(i:Int))).trans (p1.map _)) (Ts.rh _) asc
 rw[e,KZ];rfl
section
variable {L:List Rn}(hh:h<=4)(hl:L.length<=200){f:Nat->Nat}(hf:∀i,i < L.length->f i<=i/\f (f i)=f i)(hc:∀i j,i < L.length->j < L.length->(f i=f j↔Cn L.length h (vw L) i j))
include hh hl hf hc
theorem G_ (G:Gp)(gr:E2 L.length h (vw L) G)(i:Nat)(hi:i < L.length)(P:Wy)(nd:(kW P).Nodup)(hP:∀j,j∈kW P↔j < L.length/\f j < i)(c5:Sl) :
  ∃(P':Wy) (kE:Sl),bM [fL (dP h L),tD (aK G),tD (bn P),tL (lots L.length f i),tN i,c5]=ah (.nx [fL (dP h L),tD (aK G),tD (bn P'),tL (lots L.length f (i+1)),tN i,kE])/\(kW P').Nodup/\∀j,j∈kW P'↔j < L.length/\f j < i+1:=by
 have hfi:=hf i hi
 have hK:=ER P i
 have hk:=lS i P
 rw[ut]
 by_cases e:f i=i
 ·have hn:i∉kW P:=λz=>by have:=((hP i).mp z).2;omega
  rw[Z8 hn] at hk
  obtain⟨W,ew,o,hW⟩:=G7 (first:=i) gr hh (OG L) (!1) hi
  rw[←G8] at ew
  have nW:=o.nd
  have hm:∀j,j∈kW W↔j < L.length/\f j=i:=λj=>by
   constructor
   ·intro z
    have hj:=(nW.2.1 j z).1
    exact⟨hj,((hc i j hi hj).mpr ((hW j hj).mp z)).symm.trans e⟩
   ·rintro⟨hj,ej⟩
    exact(hW j hj).mpr ((hc i j hi hj).mp (by rw[e,ej]))
  have es:=G9 nW.1 hm
  have lP:P.length<=L.length:=by
   have:=sC L.length (kW P) nd λj hj=>((hP j).mp hj).1
   unfold kW at this;rw[K6] at this;exact this
  have lW:=o.len
  have eu:wA 2 (.fr [5]) (bn P) (.dict (bn W))=some (bn (P++W)):=by
   have hsz:(bn P).length+(bn W).length<=sizeLine:=Kz (show _<=1000 by unfold bn;rw[K6,K6];omega) (!8)
   rw[wA,JQ ⟨rfl,.inr ⟨lU P,lU W⟩,oU P,oU W,hsz⟩,sD W P nW.1 λj hj z=> ?_]
   have:=((hP j).mp z).2
   have:=((hm j).mp hj).2
   omega
  have hz:(lots L.length f i).length < sizeLine:=Xv (Kz (yq _ _ _) (show i<=1000 by omega)) (!8)
  refine⟨P++W,tD (bn W),?_,?_,λj=> ?_⟩
  ·rw[JQ e]
   simp(disch:=omega) only[bM,rn,reduceIte,fO,hK,hk,ew,tj,eu,es,hz]
  ·unfold kW;rw[X0]
   exact XX.mpr ⟨nd,nW.1,λa ha b hb z=>by
    subst z
    have:=((hP a).mp ha).2
    have:=((hm a).mp hb).2
    omega⟩
  ·unfold kW;rw[X0,Kk]
   rw[show j∈P.map (·.1)↔_ from hP j,show j∈W.map (·.1)↔_ from hm j]
   constructor
   ·rintro(z | z)
    ·exact⟨z.1,by omega⟩
    ·exact⟨z.1,by omega⟩
   ·rintro⟨z1,z2⟩
    by_cases hj:f j=i
    ·exact .inr ⟨z1,hj⟩
    ·exact .inl ⟨z1,by omega⟩
 ·have hn:i∈kW P:=(hP i).mpr ⟨hi,by omega⟩
  rw[Z9 hn] at hk
  refine⟨P,c5,?_,nd,λj=> ?_⟩
  ·rw[JV e,Xz]
   simp(disch:=omega) only[bM,rn,reduceIte,fO,hK,hk]
  ·rw[hP j]
   constructor
   ·rintro⟨z1,z2⟩;exact⟨z1,by omega⟩
   ·rintro⟨z1,z2⟩
    refine⟨z1,?_⟩
    by_cases hj:f j=i
    ·have:=(hf j z1).2
     rw[hj] at this;exact absurd this e
    ·omega
theorem Cg:f7 [.list (dP h L)]=ah (true,.list (lots L.length f L.length)):=by
 have hb:L.length*h<=1000:=Kz (Nat.mul_le_mul hl hh) (!8)
 have gr:=EG (h:=h) L hb
 have eg:=Cb (h:=h) (L:=L) hb
 have sl:(dP h L).length=L.length:=K6 _
 generalize pQ h 0 L []=G at gr eg
 obtain⟨Γ',k1,P,c4,c5,rfl,_,_⟩:=bt (g:=bW 4) (b:=bM) (ds:=(List.range L.length).map λ(i:Nat)=>PyData.int (i:Int)) (Γ:=[fL (dP h L),tD (aK G),tD (bn []),tL [],none,none])
  (λi Γ=>∃(P:Wy) (c4 c5:Sl),Γ=[fL (dP h L),tD (aK G),tD (bn P),tL (lots L.length f i),c4,c5]/\(kW P).Nodup/\∀j,j∈kW P↔j < L.length/\f j < i) ⟨[],none,none,rfl,by simp[kW],λj=>by simp[kW]⟩ (by
  rintro i d Γ hd ⟨P,c4,c5,rfl,nd,hP⟩
  obtain⟨rfl,hi⟩:=bZ hd
  obtain⟨P',kE,e,q1,q2⟩:=G_ hh hl hf hc G gr i hi P nd hP c5
  exact⟨_,_,rfl,.inl e,P',_,kE,rfl,q1,q2⟩)
 rw[K6,KW] at k1
 have s1:(aH 1 (aN f6 [(eV 0)])) (cD 6 [.list (dP h L)])=ah (.nx [fL (dP h L),tD (aK G),none,none,none,none]):=by
  simp(disch:=omega) only[rn,reduceIte,eg]
 have s4:(bA (eE (kJ kO [(eV 0)])) (bW 4) bM) [fL (dP h L),tD (aK G),tD (bn []),tL [],none,none]=ah (.nx [fL (dP h L),tD (aK G),tD (bn P),tL (lots L.length f L.length),c4,c5]):=by
  simp(disch:=omega) only[rn,reduceIte,sl,Ku,k1]
 refine dZ ?_
 unfold iX
 rw[aB s1]
 rw[aB (show(aH 2 mS) _=ah (.nx [fL (dP h L),tD (aK G),tD (bn []),none,none,none]) from rfl)]
 rw[aB (show(aH 3 (dh [])) _=ah (.nx [fL (dP h L),tD (aK G),tD (bn []),tL [],none,none]) from rfl)]
 rw[aB s4]
 rfl
end
def gd (h:Nat)(p:Rn)(k o:Nat):Bool:=decide (o∈hs h p.2.reverse [k])
def ak (h:Nat)(p:Rn)(o:Nat):Bool:=(!2).all λk=>gd h p k o
def ca (h:Nat)(L:List Rn)(l:List Nat)(o:Nat):Bool:=l.all λi=>ak h (L.getD i ([],[])) o
def cl (h:Nat)(L:List Rn)(l:List Nat):List Nat:=(!2).filter (ca h L l)
def sv (h:Nat)(vs:List Int)(p:Rn)(k:Nat):List Z2:=(!2).map (bI vs (hs h p.2.reverse [k]))
theorem zI (h:Nat)(vs:List Int)(p:Rn)(k:Nat):ar (sv h vs p k)=true:=aO _ (ll _ _) _
theorem HQ (vs:List Int)(p:Rn)(ho:o < h):pY (sv h vs p k) (o:Int)=some (bI vs (hs h p.2.reverse [k]) o):=fR (by unfold sv;rw[KU,UZ ho];rfl)
theorem ET (vs:List Int)(p:Rn)(k o:Nat):(!i9 (bI vs (hs h p.2.reverse [k]) o))=gd h p k o:=by
 unfold bI gd
 by_cases e:o∈hs h p.2.reverse [k]
 ·rw[JQ e,Z9 e];rfl
 ·rw[JV e,Z8 e];rfl
theorem flt {ft:TF}{T:List Nat}(p:Nat->Bool)(h1:Γ[i]? =some (tL (T.map nat)))(hl:T.length<=100000)(ht:∀o∈T,ft (fN o :: i7 Γ ix)=ah (p o)):a7 (i6 (eV i)) ix ft (eV 0) Γ=ah (.fr [],.list ((T.filter p).map nat)):=by
 have hc:=oS (ft:=ft) (fe:=eV 0) (cap:=i7 Γ ix) nat p (λo=>(Kd.fr [],nat o)) T ht (λo _ _=>rfl)
 have k1:=cS (T.filter p) nat
 have e2:((T.filter p).map λo=>(Kd.fr [],nat o)).map Prod.snd=(T.filter p).map nat:=by rw[KZ];rfl
 have e0:i6 (eV i) Γ=ah (.fr [i],T.map nat):=by
  unfold i6 eV
  rw[h1];rfl
 have hl':(T.map nat).length<=100000:=by rw[K6];exact hl
 unfold a7
 rw[e0,au]
 simp only[hc,bw,au,k1,e2,hl',reduceIte]
theorem filter_all {T:List Nat}{a b:Nat->Bool}:(T.filter a).filter b=T.filter λo=>a o && b o:=List.filter_filter.trans (List.filter_congr λo _=>Bool.and_comm _ _)
theorem OH (d1 d2 d4 c5:Sl)(hz:p.1.length=h)(hh:h<=4)(T:List Nat)(hT:∀o∈T,o < h)(hl:T.length<=4):dN [fN h,d1,d2,tL (T.map nat),d4,tA (cL p.1 p.2 k)]=ah (.nx [fN h,d1,d2,tL ((T.filter (gd h p k)).map nat),d4,tA (cL p.1 p.2 k)]):=by
 have e:=flt (i:=3) (ix:=[5]) (ft:=fZ) (Γ:=[fN h,d1,d2,tL (T.map nat),d4,tA (cL p.1 p.2 k)]) (gd h p k) rfl (!1) (λo ho=>by
  have a1:iH (cL p.1 p.2 k) (.int 1)=some (.tuple (sv h p.1 p k)):=by subst hz;rfl
  have a2:iH (.tuple (sv h p.1 p k)) (.int (o:Int))=some (bI p.1 (hs h p.2.reverse [k]) o):=HQ p.1 p (hT o ho)
  have nv:=lq p.1 p.2 k
  show fZ [fN o,fA (cL p.1 p.2 k)]=_
  simp(disch:=omega) only[fZ,rn,reduceIte,cf nv,a1,aw (zI h p.1 p k),a2,mz,ET])
 unfold dN aH
 rw[show la=eV 0 from rfl,e];rfl
theorem MT (d1 d2 d4:Sl)(hz:p.1.length=h)(hh:h<=4):∀(ks T:List Nat) (c5:Sl),(∀o∈T,o < h)->T.length<=4->∃kE:Sl,aZ (bW 5) dN (ks.map (cL p.1 p.2)) [fN h,d1,d2,tL (T.map nat),d4,c5]=
  ah (.nx [fN h,d1,d2,tL ((T.filter λo=>ks.all λk=>gd h p k o).map nat),d4,kE])
 | [],T,c5,_,_=>⟨c5,by rw[Yx,aZ,show(T.filter λo=>([]:List Nat).all λk=>gd h p k o)=T from List.filter_eq_self.mpr λ_ _=>rfl]⟩
 | k :: ks,T,c5,hT,hl=>by
  obtain⟨kE,ih⟩:=MT d1 d2 d4 hz hh ks (T.filter (gd h p k)) (tA (cL p.1 p.2 k)) (λo ho=>hT o (XQ.mp ho).1) (Kz (Xk _ _) hl)
  refine⟨kE,?_⟩
  have hs:bW 5 (cP .base (cL p.1 p.2 k)) (cL p.1 p.2 k) [fN h,d1,d2,tL (T.map nat),d4,c5]=some [fN h,d1,d2,tL (T.map nat),d4,tA (cL p.1 p.2 k)]:=by rw[cf (lq p.1 p.2 k)];rfl
  rw[KQ,aZ,hs,bw,au,OH d1 d2 d4 c5 hz hh T hT hl,au]
  refine ih.trans ?_
  rw[filter_all];rfl
theorem MU (d2:Sl)(r:Co h L)(hh:h<=4)(hL:L.length<=1000):∀(l T:List Nat) (c4 c5:Sl),(∀i∈l,i < L.length)->(∀o∈T,o < h)->T.length<=4->∃mM kE:Sl,aZ (bW 4) cJ (l.map nat) [fN h,fL (cr h L),d2,tL (T.map nat),c4,c5]=
  ah (.nx [fN h,fL (cr h L),d2,tL ((T.filter (ca h L l)).map nat),mM,kE])
 | [],T,c4,c5,_,_,_=>⟨c4,c5,by rw[Yx,aZ,show T.filter (ca h L [])=T from List.filter_eq_self.mpr λ_ _=>rfl]⟩
 | i :: l,T,c4,c5,hi,hT,hl=>by
  have hi0:=hi i K7
  obtain⟨p,ep⟩:∃p,L[i]? =some p:=⟨L[i],K3 hi0⟩
  have hp:L.getD i ([],[])=p:=by rw[X8,ep];rfl
  have hz:p.1.length=h:=(r p (UY ep)).hv
  obtain⟨kE,e⟩:=MT (fL (cr h L)) d2 (tN i) hz hh (!2) T c5 hT hl
  obtain⟨zE,EL,ih⟩:=MU d2 r hh hL l (T.filter (ak h p)) (tN i) kE (λj hj=>hi j (K9 _ hj)) (λo ho=>hT o (XQ.mp ho).1) (Kz (Xk _ _) hl)
  refine⟨zE,EL,?_⟩
  have ea:iH (.list (cr h L)) (.int (i:Int))=some (.list (n6 h p)):=by
   show pY _ _=_
   exact fR (by unfold cr;rw[KU,ep];rfl)
  have hb:cJ [fN h,fL (cr h L),d2,tL (T.map nat),tN i,c5]=ah (.nx [fN h,fL (cr h L),d2,tL ((T.filter (ak h p)).map nat),tN i,kE]):=by
   have e':aZ (bW 5) dN (n6 h p) [fN h,fL (cr h L),d2,tL (T.map nat),tN i,c5]=ah (.nx [fN h,fL (cr h L),d2,tL ((T.filter (ak h p)).map nat),tN i,kE]):=e
   unfold cJ
   simp(disch:=omega) only[rn,reduceIte,ea,e']
  rw[KQ]
  show aZ (bW 4) cJ (.int (i:Int) :: l.map nat) _=_
  rw[aZ,show bW 4 (cP .base (.int (i:Int))) (.int (i:Int)) [fN h,fL (cr h L),d2,tL (T.map nat),c4,c5]=some [fN h,fL (cr h L),d2,tL (T.map nat),tN i,c5] from rfl,bw,au,hb,au]
  refine ih.trans ?_
  rw[filter_all]
  have:(λo=>ak h p o && ca h L l o)=ca h L (i :: l):=by funext o;unfold ca;rw[List.all_cons,hp]
  rw[this]
theorem sE (h:Nat)(hh:h<=4):g9 (.int (h:Int))=some (.list ((!2).map nat)):=by
 show(if 0<=(h:Int)/\(h:Int)<=100000 then _ else _)=_
 rw[JQ (!1),Ku];rfl
theorem v4 (r:Co h L)(hh:h<=4)(hL:L.length<=1000)(l:List Nat)(hi:∀i∈l,i < L.length):kl [.int (h:Int),.list (cr h L),.list (l.map nat)]=ah (true,.list ((cl h L l).map nat)):=by
 obtain⟨c4,c5,e⟩:=MU (fL (l.map nat)) r hh hL l (!2) none none hi (λo ho=>Xy.mp ho) (by rw[KW];exact hh)
 refine dZ ?_
 unfold kj
 rw[aB (show(aH 3 (v6 g9 (eV 0))) (cD 6 [.int (h:Int),.list (cr h L),.list (l.map nat)])=ah (.nx [fN h,fL (cr h L),fL (l.map nat),tL ((!2).map nat),none,none]) by
  simp(disch:=omega) only[rn,reduceIte,sE h hh])]
 rw[aB (show(bA (i6 (eV 2)) (bW 4) cJ) [fN h,fL (cr h L),fL (l.map nat),tL ((!2).map nat),none,none]=_ from e)]
 rfl
def cls (h:Nat)(L:List Rn)(ls:List (List Nat)):List Z2:=ls.map λl=> .list ((cl h L l).map nat)
def lps (ls:List (List Nat)):List Z2:=ls.map λl=> .list (l.map nat)
theorem zJ {h k:Nat}{ws:List Z2}{L:List Rn}{ls:List (List Nat)}(r:Co h L)(hh:h<=4)(hL:L.length<=1000)(hls:∀l∈ls,∀i∈l,i < L.length)(hn:ls.length<=1000)(OI:cW [.int (h:Int),.list ws,.int (k:Int)]=ah (true,.list (cr h L)))
  (eB:fc [.list (cr h L)]=ah (true,.list (lps ls))):jO [.int (h:Int),.list ws,.int (k:Int)]=ah (true,.list (cls h L ls)):=by
 have hc:cb bT jd [fN h,fL (cr h L)] (lps ls)=_:=su (fe:=jd) (cap:=[fN h,fL (cr h L)]) (λl:List Nat=>PyData.list (l.map nat)) (λl=>(Kd.fr [],PyData.list ((cl h L l).map nat))) ls (λl hl=>by
  have e:=v4 r hh hL l (hls l hl)
  simp(disch:=omega) only[jd,rn,reduceIte,e])
 have k1:=cS ls λl=>PyData.list ((cl h L l).map nat)
 have e2:(ls.map λl=>(Kd.fr [],PyData.list ((cl h L l).map nat))).map Prod.snd=cls h L ls:=by rw[KZ];rfl
 have hle:(lps ls).length<=100000:=by unfold lps;rw[K6];omega
 refine dZ ?_
 unfold oC
 rw[aB (show(aH 3 (aN cW [(eV 0),(eV 1),(eV 2)])) (cD 4 [.int (h:Int),.list ws,.int (k:Int)])=ah (.nx [fN h,fL ws,fN k,tL (cr h L)]) by
  simp(disch:=omega) only[rn,reduceIte,OI])]
 simp(disch:=omega) only[rn,reduceIte,a7,eB,hc,k1,e2,hle]
def iA (h:Nat):List Int:=(!2).map λ(i:Nat)=>(i:Int)
theorem AZ (h:Nat):(iA h).length=h:=by unfold iA;rw[K6,KW]
theorem Ha (h:Nat)(hh:h<=4):xw (.int (h:Int))=some (.tuple ((iA h).map PyData.int)):=by
 show(if 0<=(h:Int)/\(h:Int)<=100000 then _ else _)=_
 rw[JQ (!1),Ku];unfold iA;rw[KZ];rfl
theorem OJ (w:pM h 12 p.1 p.2)(hh:h<=4)(hk:k < h)(T:List Nat)(hT:∀o∈T,o < h)(hl:T.length<=4)(c4:Sl):bx [fN h,fA (cN p),tL (T.map nat),tN k,c4]=ah (.nx [fN h,fA (cN p),tL ((T.filter (gd h p k)).map nat),tN k,tT (sv h (iA h) p k)]):=by
 have w':pM h 12 (iA h) p.2:=⟨AZ h,w.hr,w.hp⟩
 have e:=sg w' hh hk
 have nz:ar [PyData.tuple ((iA h).map PyData.int),cN p]=true:=nO w.n
 have eR:PyData.tuple [PyData.tuple ((iA h).map PyData.int),cN p]=jt (iA h) p.2:=rfl
 have i1:iH (cL (iA h) p.2 k) (.int 1)=some (.tuple (sv h (iA h) p k)):=by
  show some (PyData.tuple ((List.range (iA h).length).map (bI (iA h) (hs (iA h).length p.2.reverse [k]))))=_
  rw[AZ];rfl
 have nv:=lq (iA h) p.2 k
 have s1:(aH 4 (kI iH (aN dM [(fM [(v6 xw (eV 0)),(eV 1)]),(eV 3)]) (eC (.int 1)))) [fN h,fA (cN p),tL (T.map nat),tN k,c4]=ah (.nx [fN h,fA (cN p),tL (T.map nat),tN k,tT (sv h (iA h) p k)]):=by
  simp(disch:=omega) only[rn,reduceIte,Ha h hh,cf (n8 w),aw nz,eR,e,cf nv,i1,aw (zI h (iA h) p k)]
 have e2:=flt (i:=2) (ix:=[4]) (ft:=bP) (Γ:=[fN h,fA (cN p),tL (T.map nat),tN k,tT (sv h (iA h) p k)]) (gd h p k) rfl (!1) (λo ho=>by
  have a2:iH (.tuple (sv h (iA h) p k)) (.int (o:Int))=some (bI (iA h) (hs h p.2.reverse [k]) o):=HQ (iA h) p (hT o ho)
  show bP [fN o,fT (sv h (iA h) p k)]=_
  simp(disch:=omega) only[bP,rn,reduceIte,aw (zI h (iA h) p k),a2,mz,ET])
 unfold bx
 rw[aB s1]
 unfold aH
 rw[show gu=eV 0 from rfl,e2];rfl
theorem Le (w:pM h 12 p.1 p.2)(hh:h<=4):cB [.int (h:Int),cN p]=ah (true,.list (((!2).filter (ak h p)).map nat)):=by
 obtain⟨Γ',k1,c3,c4,rfl⟩:=bt (g:=bW 3) (b:=bx) (ds:=(!2).map λ(i:Nat)=>PyData.int (i:Int)) (Γ:=[fN h,fA (cN p),tL ((!2).map nat),none,none])
  (λi Γ=>∃c3 c4:Sl,Γ=[fN h,fA (cN p),tL (((!2).filter λo=>(List.range i).all λk=>gd h p k o).map nat),c3,c4]) ⟨none,none,by rw[show((!2).filter λo=>(List.range 0).all λk=>gd h p k o)=List.range h from List.filter_eq_self.mpr λ_ _=>rfl]⟩ (by
  rintro i d Γ hd ⟨c3,c4,rfl⟩
  obtain⟨rfl,hi⟩:=bZ hd
  refine⟨_,_,rfl,.inl (OJ w hh hi _ (λo ho=>Xy.mp (XQ.mp ho).1) (Kz (Xk _ _) (by rw[KW];exact hh)) c4),tN i,tT (sv h (iA h) p i),?_⟩
  rw[filter_all]
  have:(λo=>((List.range i).all λk=>gd h p k o) && gd h p i o)=λo=>(List.range (i+1)).all λk=>gd h p k o:=by
   funext o;rw[Yk,List.all_append];simp
  rw[this])
 rw[K6,KW] at k1
 refine dZ ?_
 unfold eG
 rw[aB (show(aH 2 (v6 g9 (eV 0))) (cD 5 [.int (h:Int),cN p])=ah (.nx [fN h,fA (cN p),tL ((!2).map nat),none,none]) by
  simp(disch:=omega) only[rn,reduceIte,sE h hh])]
 rw[aB (show(bA (eE (eV 0)) (bW 3) bx) [fN h,fA (cN p),tL ((!2).map nat),none,none]=ah (.nx [fN h,fA (cN p),tL (((!2).filter (ak h p)).map nat),c3,c4]) by
  simp(disch:=omega) only[rn,reduceIte,Ku,k1]
  rfl)]
 rfl
theorem QD (d0 d2 d3 d5 d6 c9 jv lu kK:Sl)(ep:L[i]? =some p)(r:Co h L)(hh:h<=4)(T:List Nat)(hT:∀o∈T,o < h)(hl:T.length<=4):∃iE:Sl,lQ [d0,fN h,d2,d3,tL (L.map cN),d5,d6,tL (T.map nat),tN i,c9,jv,lu,kK]=
  ah (.nx [d0,fN h,d2,d3,tL (L.map cN),d5,d6,tL ((T.filter (ak h p)).map nat),tN i,iE,jv,lu,kK]):=by
 have w:=r p (UY ep)
 have e:=Le w hh
 have ea:iH (.list (L.map cN)) (.int (i:Int))=some (cN p):=by
  show pY _ _=_
  exact fR (by rw[KU,ep];rfl)
 have s1:(aH 9 (aN cB [(eV 1),(kI iH (eV 4) (eV 8))])) [d0,fN h,d2,d3,tL (L.map cN),d5,d6,tL (T.map nat),tN i,c9,jv,lu,kK]=ah (.nx [d0,fN h,d2,d3,tL (L.map cN),d5,d6,tL (T.map nat),tN i,tL (((!2).filter (ak h p)).map nat),jv,lu,kK]):=by
  simp(disch:=omega) only[rn,reduceIte,ea,cf (n8 w),e]
 have e2:=flt (i:=7) (ix:=[9]) (ft:=p_) (Γ:=[d0,fN h,d2,d3,tL (L.map cN),d5,d6,tL (T.map nat),tN i,tL (((!2).filter (ak h p)).map nat),jv,lu,kK]) (ak h p) rfl (!1) (λo ho=>by
  have hm:decide (o∈(!2).filter (ak h p))=ak h p o:=by
   cases q:ak h p o with
   | false=>exact Z8 λz=>by rw[(XQ.mp z).2] at q;cases q
   | true=>exact Z9 (XQ.mpr ⟨Xy.mpr (hT o ho),q⟩)
  have hi:Fk (.int (o:Int)) (.list (((!2).filter (ak h p)).map nat))=some (.bool (ak h p o)):=by
   rw[qW rfl (jA _ (λ_=>rfl) _),mK,hm]
  show p_ [fN o,fL (((!2).filter (ak h p)).map nat)]=_
  simp(disch:=omega) only[p_,rn,reduceIte,hi])
 refine⟨tL (((!2).filter (ak h p)).map nat),?_⟩
 unfold lQ
 rw[aB s1]
 unfold aH
 rw[show AG=eV 0 from rfl,e2];rfl
theorem Pp (d0 d2 d3 d5 d6 jv lu kK:Sl)(r:Co h L)(hh:h<=4):∀(l T:List Nat) (c8 c9:Sl),(∀i∈l,i < L.length)->(∀o∈T,o < h)->T.length<=4->∃pR iE:Sl,aZ (bW 8) lQ (l.map nat) [d0,fN h,d2,d3,tL (L.map cN),d5,d6,tL (T.map nat),c8,c9,jv,lu,kK]=
  ah (.nx [d0,fN h,d2,d3,tL (L.map cN),d5,d6,tL ((T.filter (ca h L l)).map nat),pR,iE,jv,lu,kK])
 | [],T,c8,c9,_,_,_=>⟨c8,c9,by rw[Yx,aZ,show T.filter (ca h L [])=T from List.filter_eq_self.mpr λ_ _=>rfl]⟩
 | i :: l,T,c8,c9,hi,hT,hl=>by
  have hi0:=hi i K7
  obtain⟨p,ep⟩:∃p,L[i]? =some p:=⟨L[i],K3 hi0⟩
  have hp:L.getD i ([],[])=p:=by rw[X8,ep];rfl
  obtain⟨iE,e⟩:=QD d0 d2 d3 d5 d6 c9 jv lu kK ep r hh T hT hl
  obtain⟨zG,zH,ih⟩:=Pp d0 d2 d3 d5 d6 jv lu kK r hh l (T.filter (ak h p)) (tN i) iE (λj hj=>hi j (K9 _ hj)) (λo ho=>hT o (XQ.mp ho).1) (Kz (Xk _ _) hl)
  refine⟨zG,zH,?_⟩
  show aZ (bW 8) lQ (.int (i:Int) :: l.map nat) _=_
  rw[aZ,show bW 8 (cP .base (.int (i:Int))) (.int (i:Int)) [d0,fN h,d2,d3,tL (L.map cN),d5,d6,tL (T.map nat),c8,c9,jv,lu,kK]=some [d0,fN h,d2,d3,tL (L.map cN),d5,d6,tL (T.map nat),tN i,c9,jv,lu,kK] from rfl,bw,au,e,au]
  refine ih.trans ?_
  rw[filter_all]
  have:(λo=>ak h p o && ca h L l o)=ca h L (i :: l):=by funext o;unfold ca;rw[List.all_cons,hp]
  rw[this]
theorem Pq (d0 d2 d3 jv lu kK:Sl)(r:Co h L)(hh:h<=4):∀(ls:List (List Nat)) (acc:List Z2) (c6 c7 c8 c9:Sl),(∀l∈ls,∀i∈l,i < L.length)->acc.length+ls.length<=1000->∃pP fK pR iE:Sl,aZ (bW 6) ko (lps ls) [d0,fN h,d2,d3,tL (L.map cN),tL acc,c6,c7,c8,c9,jv,lu,kK]=
  ah (.nx [d0,fN h,d2,d3,tL (L.map cN),tL (acc++cls h L ls),pP,fK,pR,iE,jv,lu,kK])
 | [],acc,c6,c7,c8,c9,_,_=>⟨c6,c7,c8,c9,by show ah _=_;rw[show cls h L []=[] from rfl,Xz]⟩
 | l :: ls,acc,c6,c7,c8,c9,hls,hn=>by
  rw[Kj] at hn
  obtain⟨pR,iE,e⟩:=Pp d0 d2 d3 (tL acc) (fL (l.map nat)) jv lu kK r hh l (!2) c8 c9 (hls l K7) (λo ho=>Xy.mp ho) (by rw[KW];exact hh)
  obtain⟨zA,vV,zG,zH,ih⟩:=Pq d0 d2 d3 jv lu kK r hh ls (acc++[.list ((cl h L l).map nat)]) (fL (l.map nat)) none pR iE (λm hm=>hls m (K9 _ hm)) (by rw[K2,X4];omega)
  refine⟨zA,vV,zG,zH,?_⟩
  have hz:acc.length < sizeLine:=X6 (show acc.length < 100000 by omega) (!8)
  have s1:(aH 7 (v6 g9 (eV 1))) [d0,fN h,d2,d3,tL (L.map cN),tL acc,fL (l.map nat),c7,c8,c9,jv,lu,kK]=ah (.nx [d0,fN h,d2,d3,tL (L.map cN),tL acc,fL (l.map nat),tL ((!2).map nat),c8,c9,jv,lu,kK]):=by
   simp(disch:=omega) only[rn,reduceIte,sE h hh]
  have s3:(iI 5 (eV 7)) [d0,fN h,d2,d3,tL (L.map cN),tL acc,fL (l.map nat),tL ((cl h L l).map nat),pR,iE,jv,lu,kK]=ah (.nx [d0,fN h,d2,d3,tL (L.map cN),tL (acc++[.list ((cl h L l).map nat)]),fL (l.map nat),none,pR,iE,jv,lu,kK]):=by
   show(if acc.length < sizeLine/\5≠7 then _ else _)=_
   rw[JQ ⟨hz,by decide⟩];rfl
  have hb:ko [d0,fN h,d2,d3,tL (L.map cN),tL acc,fL (l.map nat),c7,c8,c9,jv,lu,kK]=ah (.nx [d0,fN h,d2,d3,tL (L.map cN),tL (acc++[.list ((cl h L l).map nat)]),fL (l.map nat),none,pR,iE,jv,lu,kK]):=by
   unfold ko
   rw[aB s1,aB (show(bA (i6 (eV 6)) (bW 8) lQ) [d0,fN h,d2,d3,tL (L.map cN),tL acc,fL (l.map nat),tL ((!2).map nat),c8,c9,jv,lu,kK]=_ from e)]
   exact s3
  show aZ (bW 6) ko (.list (l.map nat) :: lps ls) _=_
  rw[aZ,show bW 6 (cP .base (.list (l.map nat))) (.list (l.map nat)) [d0,fN h,d2,d3,tL (L.map cN),tL acc,c6,c7,c8,c9,jv,lu,kK]=some [d0,fN h,d2,d3,tL (L.map cN),tL acc,fL (l.map nat),c7,c8,c9,jv,lu,kK] from rfl,bw,au,hb,au]
  refine ih.trans ?_
  rw[X5];rfl
def qI:QF:=xu (i6 (eV 6)) 12 [] (Gz (kN (tE (aN cq [(eV 12)]))))
def qO:QF:=Gy [] (Gz (kN (tE (wq "list" (eV 6))))) qI
theorem Lf (d0 d1 d2 d3 d4 d5 d6 d7 d8 d9 jv lu:Sl)(i:Nat):Gz (kN (tE (aN cq [(eV 12)]))) [d0,d1,d2,d3,d4,d5,d6,d7,d8,d9,jv,lu,fN i]=true:=by
 have e:(kN (tE (aN cq [(eV 12)]))) [d0,d1,d2,d3,d4,d5,d6,d7,d8,d9,jv,lu,fN i]=ah false:=by
  simp(disch:=omega) only[rn,reduceIte,B5]
 unfold Gz;rw[e];rfl
theorem whole2 (d0 d1 d2 d3 d4 d5 d7 d8 d9 jv lu:Sl)(l:List Nat):qO [d0,d1,d2,d3,d4,d5,fL (l.map nat),d7,d8,d9,jv,lu,none]=true:=by
 unfold qO Gy
 rw[X7]
 refine⟨rfl,?_⟩
 show((l.map nat).all λd=>Gz (kN (tE (aN cq [(eV 12)]))) [d0,d1,d2,d3,d4,d5,fL (l.map nat),d7,d8,d9,jv,lu,fA d])=true
 refine Uv.mpr λx hx=> ?_
 obtain⟨i,_,rfl⟩:=Kv.mp hx
 exact Lf _ _ _ _ _ _ _ _ _ _ _ _ i
theorem EU (d0 d1 d2 d3 d4 d5 c6 d7 d8 d9 jv c12:Sl)(xs:List Z2)(ms:List (List Nat))(hx:xs=lps ms):sQ [6,12] (xu (i6 (eV 11)) 6 [12] qO) [d0,d1,d2,d3,d4,d5,c6,d7,d8,d9,jv,tL xs,c12]=ah (.nx [d0,d1,d2,d3,d4,d5,none,d7,d8,d9,jv,tL xs,none]):=by
 have h:xu (i6 (eV 11)) 6 [12] qO [d0,d1,d2,d3,d4,d5,c6,d7,d8,d9,jv,tL xs,c12]=true:=by
  show(xs.all λd=>qO [d0,d1,d2,d3,d4,d5,fA d,d7,d8,d9,jv,fL xs,none])=true
  refine Uv.mpr λx h=> ?_
  rw[hx] at h
  obtain⟨l,_,rfl⟩:=Kv.mp h
  exact whole2 _ _ _ _ _ _ _ _ _ _ _ l
 unfold sQ;rw[JQ h];rfl
def lT:TF:=A9 (kN (tE (wq "list" (eV 11)))) (A9 (tE (bR zX (eV 11) (eV 5))) (tE (bR zX (eV 10) (eV 2))))
def lP:EF:=aN jO [(eV 1),(eV 10),(eV 3)]
theorem Lg:D5=aC (Bc (jY [1,2,3]) (aN bz [(eV 0)])) (aC (aH 4 (aN gX [(eV 2),(eV 3)])) (aC (aH 5 (dh [])) (aC (bA (i6 (aN cj [(eV 1),(eV 4)])) (bW 6) ko)
 (aC (aH 10 (kJ oX [(eV 2)])) (aC (aH 11 lP) (aC (l4 lT (cy (eC (.bool false))) fH) (aC (sQ [6,12] (xu (i6 (eV 11)) 6 [12] qO)) (aC (mE 11 (eC (.int 0)) (eC (.int 9))) (aC (iI 11 (dh [])) (cy (bR yE lP (eV 5)))))))))))):=rfl
theorem Li (d0 d1 d2 d3 d4 d5 d6 d7 d8 d9 jv kK:Sl)(Z:List Z2)(lz:Z.length < sizeLine):(iI 11 (dh [])) [d0,d1,d2,d3,d4,d5,d6,d7,d8,d9,jv,tL Z,kK]=ah (.nx [d0,d1,d2,d3,d4,d5,d6,d7,d8,d9,jv,tL (Z++[.list []]),kK]):=by
 show(if Z.length < sizeLine then _ else _)=_
 rw[JQ lz];rfl
theorem EV (d0 d1 d2 d3 d4 d5 d6 d7 d8 d9 jv kK:Sl)(Z:List Z2)(m:List Nat)(hm:m.length<=4):∃Z':List Z2,Z'.length=Z.length+1/\(mE 11 (eC (.int 0)) (eC (.int 9))) [d0,d1,d2,d3,d4,d5,d6,d7,d8,d9,jv,tL (.list (m.map nat) :: Z),kK]=ah (.nx [d0,d1,d2,d3,d4,d5,d6,d7,d8,d9,jv,tL Z',kK]):=by
 have hb:qy (.list (m.map nat) :: Z) (.int 0)=some (0,m.map nat):=by
  have hz:Y.oW (Z.length+1) 0=some 0:=qa (i:=0) (!1)
  unfold qy
  dsimp only
  rw[Kj,hz]
  show(if ar (m.map nat)=true then some (0,m.map nat) else none)=_
  rw[aO _ (λ_=>rfl) _];rfl
 have hl:(m.map nat).length < sizeLine:=Xv (by rw[K6];exact hm) (!8)
 refine⟨(PyData.list (m.map nat) :: Z).set 0 (.list (m.map nat++[.int 9])),by rw[U9,Kj],?_⟩
 have hl':True/\m.length < sizeLine:=⟨trivial,by rw[K6] at hl;exact hl⟩
 simp(disch:=omega) only[rn,reduceIte,mE,hb]
 rw[JQ hl']
theorem v5 (h:Nat)(L:List Rn)(ls:List (List Nat)):cls h L ls=lps (ls.map (cl h L)):=by unfold cls lps;rw[KZ];rfl
theorem Hb (ls:List (List Nat)):lay 60 (.list (lps ls))=true:=by
 rw[lay];unfold lps
 exact jA _ (λa=>by rw[lay];exact jA _ (λ_=>rfl) _) _
theorem main (ns:List Int)(hns:ns.length<=63):∃o,rF [.list (ns.map PyData.int)]=some (.ok (o,.bool true)):=by
 obtain⟨h,ws,k,h2,h4,gw,iw,hw1,hw,hk,ec⟩:=GY ns
 have hp:ws.length^k<=81:=Kz (Nat.pow_le_pow_left hw k) (Kz (Nat.pow_le_pow_right (!8) hk) (!8))
 have hp1:1<=ws.length^k:=Nat.pow_pos hw1
 obtain⟨L,eL,eN,lL,rL⟩:=um (h:=h) iw (!1) (rws ws k) (λr hr=>hr)
 rw[AS] at lL
 have rr:Co h L:=λp hp=>(rL p hp).2
 have rz:∀p∈L,p.1=ul h:=λp hp=>(rL p hp).1
 have hl:L.length<=200:=by omega
 have hb:L.length*h<=1000:=Kz (Nat.mul_le_mul hl h4) (!8)
 have er:=zB ws k gw hw1 hw hk
 rw[eL] at er
 obtain⟨f,ep,hf,hcn⟩:=EN (show L.length<=900 by omega) (EG (h:=h) L hb)
 have eg:=yn h2 h4 rr rz hb ep
 have ej:=Cg h4 hl hf hcn
 obtain⟨ls,hls⟩:∃ls,ls=((List.range L.length).filter λa=>decide (f a=a)).map (lot L.length f):=⟨_,rfl⟩
 have el:lots L.length f L.length=lps ls:=by rw[hls];unfold lots lps;rw[KZ];rfl
 have hi:∀l∈ls,∀i∈l,i < L.length:=λl hl i hi=>by
  rw[hls] at hl
  obtain⟨a,_,rfl⟩:=Kv.mp hl
  exact Xy.mp (XQ.mp hi).1
 have hn:ls.length<=200:=by
  rw[hls,K6]
  exact Kz (Xk _ _) (by rw[KW];exact hl)
 obtain⟨m,ms,hms⟩:∃m ms,ls.map (cl h L)=m :: ms:=by
  have hm:0∈(List.range L.length).filter λa=>decide (f a=a):=XQ.mpr ⟨Xy.mpr (!1),Z9 (Nat.le_zero.mp (hf 0 (!1)).1)⟩
  cases q:ls.map (cl h L) with
  | nil=>rw[List.map_eq_nil_iff,hls,List.map_eq_nil_iff] at q;rw[q] at hm;cases hm
  | cons m ms=>exact⟨m,ms,rfl⟩
 have QE:m.length<=4:=by
  have:m∈ls.map (cl h L):=by rw[hms];exact K7
  obtain⟨l,_,rfl⟩:=Kv.mp this
  exact Kz (Xk _ _) (by rw[KW];exact h4)
 rw[el] at eg ej
 have is:MR h (.tuple ((ul h).map PyData.int)):=⟨ul h,rfl,Uy⟩
 have gs:Good [.tuple ((ul h).map PyData.int)]:=sk.snoc is.br (λn=>is.lay n) rfl
 have ea:=KE ws [.tuple ((ul h).map PyData.int)] k gw gs hw1 (!1) (!1) (by simp) (by rw[X4];omega)
 have e1:Ey ws [.tuple ((ul h).map PyData.int)] k=L.map HL:=by
  rw[←GU,←eN,List.flatMap_cons,Jk,Xz];rfl
 rw[e1] at ea
 have ev:=ym h4 rr (!1)
 have es:=EJ h h4 [fL ws,fN k,none]
 have nz:ar ((ul h).map PyData.int)=true:=is.br
 have OI:cW [.int (h:Int),.list ws,.int (k:Int)]=ah (true,.list (cr h L)):=by
  refine dZ ?_
  unfold hU
  rw[aB (show(aH 3 (kJ fx [(a7 (eE (eV 0)) [] bT ck)])) (cD 4 [.int (h:Int),.list ws,.int (k:Int)])=ah (.nx [fN h,fL ws,fN k,tT ((ul h).map PyData.int)]) by
   show(aH 3 (kJ fx [(a7 (eE (eV 0)) [] bT ck)])) [fN h,fL ws,fN k,none]=_
   simp(disch:=omega) only[rn,reduceIte,es,cg nz])]
  simp(disch:=omega) only[rn,reduceIte,aw nz,ea,ev]
 have al:=Ca (h:=h) (L:=L) h4 (!1) []
 have eB:fc [.list (cr h L)]=ah (true,.list (lps ls)):=by
  refine dZ ?_
  show(cy (aN f7 [(a7 (i6 (eV 0)) [] bT cp)])) [fL (cr h L)]=_
  simp(disch:=omega) only[rn,reduceIte,al,ej]
 have eP:=zJ rr h4 (!1) hi (!1) OI eB
 have ly:=Hb (ls.map (cl h L))
 rw[←v5] at ly
 have gn:zX (.list (cls h L ls)) (.list (cls h L ls))=some (.bool false):=by rw[Hx ly ly,lR 60 _ ly];rfl
 have ge:yE (.list (cls h L ls)) (.list (cls h L ls))=some (.bool true):=by rw[Mt ly ly,lR 60 _ ly]
 have lw:lay 60 (.list ws)=true:=by rw[lay];exact gw.l 56
 have QG:zX (.list ws) (.list ws)=some (.bool false):=by rw[Hx lw lw,lR 60 _ lw];rfl
 obtain⟨s0,hs0⟩:∃s0,s0=PyData.list (ns.map PyData.int):=⟨_,rfl⟩
 have hn0:cP (.base) s0= .base:=by rw[hs0];rfl
 rw[←hs0] at ec⊢
 have nT:br (.tuple [.int (h:Int),.list ws,.int (k:Int)])=false:=by rw[cz];simp only[ar,nj,J9,Bool.and_false]
 have QH:aN bz [(eV 0)] (cD 13 [s0])=ah (.any,.tuple [.int (h:Int),.list ws,.int (k:Int)]):=by
  simp(disch:=omega) only[rn,reduceIte,hn0,ec,xg nT]
 have s1:(Bc (jY [1,2,3]) (aN bz [(eV 0)])) (cD 13 [s0])=ah (.nx [fA s0,fN h,fL ws,tN k,none,none,none,none,none,none,none,none,none]):=by
  unfold Bc;rw[QH];rfl
 have s2:(aH 4 (aN gX [(eV 2),(eV 3)])) [fA s0,fN h,fL ws,tN k,none,none,none,none,none,none,none,none,none]=ah (.nx [fA s0,fN h,fL ws,tN k,tL (L.map cN),none,none,none,none,none,none,none,none]):=by
  simp(disch:=omega) only[rn,reduceIte,er]
 obtain⟨c6,c7,c8,c9,e4⟩:=Pq (fA s0) (fL ws) (tN k) none none none rr h4 ls [] none none none none hi (by rw[UQ];omega)
 rw[Yv] at e4
 have s4:(bA (i6 (aN cj [(eV 1),(eV 4)])) (bW 6) ko) [fA s0,fN h,fL ws,tN k,tL (L.map cN),tL [],none,none,none,none,none,none,none]=ah (.nx [fA s0,fN h,fL ws,tN k,tL (L.map cN),tL (cls h L ls),c6,c7,c8,c9,none,none,none]):=by
  simp(disch:=omega) only[rn,reduceIte,eg,e4]
 have s5:(aH 10 (kJ oX [(eV 2)])) [fA s0,fN h,fL ws,tN k,tL (L.map cN),tL (cls h L ls),c6,c7,c8,c9,none,none,none]=ah (.nx [fA s0,fN h,fL ws,tN k,tL (L.map cN),tL (cls h L ls),c6,c7,c8,c9,tL ws,none,none]):=by
  simp(disch:=omega) only[rn,reduceIte,qY gw.n]
 have eF:∀d6 d7 d8 d9 lu kK:Sl,lP [fA s0,fN h,fL ws,tN k,tL (L.map cN),tL (cls h L ls),d6,d7,d8,d9,tL ws,lu,kK]=ah (.fr [],.list (cls h L ls)):=λd6 d7 d8 d9 lu kK=>by
  simp(disch:=omega) only[lP,rn,reduceIte,eP]
 have s6:(aH 11 lP) [fA s0,fN h,fL ws,tN k,tL (L.map cN),tL (cls h L ls),c6,c7,c8,c9,tL ws,none,none]=ah (.nx [fA s0,fN h,fL ws,tN k,tL (L.map cN),tL (cls h L ls),c6,c7,c8,c9,tL ws,tL (cls h L ls),none]):=by
  unfold aH;rw[eF];rfl
 have s7:lT [fA s0,fN h,fL ws,tN k,tL (L.map cN),tL (cls h L ls),c6,c7,c8,c9,tL ws,tL (cls h L ls),none]=ah false:=by
  simp(disch:=omega) only[lT,rn,i9,oh,bV,reduceCtorEq,reduceIte,String.reduceBEq,gn,QG]
 have s8:=EU (fA s0) (fN h) (fL ws) (tN k) (tL (L.map cN)) (tL (cls h L ls)) c6 c7 c8 c9 (tL ws) none (cls h L ls) (ls.map (cl h L)) (v5 h L ls)
 obtain⟨Z',lz,s9⟩:=EV (fA s0) (fN h) (fL ws) (tN k) (tL (L.map cN)) (tL (cls h L ls)) none c7 c8 c9 (tL ws) none (lps ms) m QE
 have ex:cls h L ls= .list (m.map nat) :: lps ms:=by rw[v5,hms];rfl
 have QU:(lps ms).length+1<=200:=by
  have:(cls h L ls).length=ls.length:=K6 _
  rw[ex,Kj] at this
  omega
 have QI:=Li (fA s0) (fN h) (fL ws) (tN k) (tL (L.map cN)) (tL (cls h L ls)) none c7 c8 c9 (tL ws) none Z' (Xv (show Z'.length<=200 by omega) (!8))
 refine⟨true,?_⟩
 show rF _=ah (true,.bool true)
 refine dZ ?_
 rw[Lg,aB s1,aB s2,aB (show(aH 5 (dh [])) _=ah (.nx [fA s0,fN h,fL ws,tN k,tL (L.map cN),tL [],none,none,none,none,none,none,none]) from rfl),aB s4,aB s5,aB s6,aB ((EA s7).trans (GV _)),aB s8]
 have QJ:(mE 11 (eC (.int 0)) (eC (.int 9))) [fA s0,fN h,fL ws,tN k,tL (L.map cN),tL (cls h L ls),none,c7,c8,c9,tL ws,tL (cls h L ls),none]=ah (.nx [fA s0,fN h,fL ws,tN k,tL (L.map cN),tL (cls h L ls),none,c7,c8,c9,tL ws,tL Z',none]):=by
  refine Eq.trans ?_ s9
  rw[←ex]
 rw[aB QJ,aB QI]
 have e9:=eF none c7 c8 c9 (tL (Z'++[.list []])) none
 unfold cy bR
 rw[e9]
 simp(disch:=omega) only[rn,reduceIte,ge]
end K52
namespace PySem.W.Fast
theorem tw8261601337311170727:1=1:=rfl
theorem tw14481941374336544704:1=1:=rfl
theorem tw4109478995797494570:1=1:=rfl
theorem tw11825465135682015746:1=1:=rfl
theorem tw14697543239126785305:1=1:=rfl
theorem tw13239553441383494016:1=1:=rfl
theorem tw6447879538026356464:1=1:=rfl
theorem tw8238097235902505154:1=1:=rfl
theorem tw8240498957280621016:1=1:=rfl
theorem tw9210569577877980639:1=1:=rfl
theorem tw2401896585794244080:1=1:=rfl
theorem tw5249500535895934681:1=1:=rfl
theorem tw16020758436980452134:1=1:=rfl
theorem tw3119001033217549015:1=1:=rfl
theorem tw13992183558410247913:1=1:=rfl
theorem tw8770698575408689473:1=1:=rfl
theorem tw4279906628086709133:1=1:=rfl
theorem tw12454868524262095611:1=1:=rfl
theorem tw8290530777312196052:1=1:=rfl
theorem tw3141588264156258867:1=1:=rfl
theorem tw15314486327470755484:1=1:=rfl
theorem tw16116963550523622855:1=1:=rfl
theorem tw6115610392816512946:1=1:=rfl
theorem tw6838050673537056834:1=1:=rfl
theorem tw5425245930106214853:1=1:=rfl
theorem tw7894639298092075006:1=1:=rfl
theorem tw15067529289562944467:1=1:=rfl
theorem tw11574022956474756498:1=1:=rfl
theorem tw1281210606908562586:1=1:=rfl
theorem tw11785820961203967560:1=1:=rfl
theorem tw506400309646485228:1=1:=rfl
theorem tw13265689361152138686:1=1:=rfl
theorem tw10071263754567204752:1=1:=rfl
theorem tw11728820180433657585:1=1:=rfl
theorem tw15456813733169901756:1=1:=rfl
theorem tw12101732830056418956:1=1:=rfl
theorem tw5020637464734647985:1=1:=rfl
theorem tw2516293179754730956:1=1:=rfl
theorem tw16154607720754640144:1=1:=rfl
theorem tw14677156368122692324:1=1:=rfl
theorem tw4878810099621121769:1=1:=rfl
theorem tw6645313231611821779:1=1:=rfl
theorem tw14767967810690891484:1=1:=rfl
theorem tw9720185656804050741:1=1:=rfl
theorem tw15099303592843333894:1=1:=rfl
theorem tw7378576250531095670:1=1:=rfl
theorem tw7661037658591091871:1=1:=rfl
theorem tw2404440538467275640:1=1:=rfl
theorem tw15068020926279276665:1=1:=rfl
theorem tw3945701451025422783:1=1:=rfl
theorem tw13037520984780327500:1=1:=rfl
theorem tw12036442756786936882:1=1:=rfl
theorem tw2111920537031721359:1=1:=rfl
theorem tw11854103355232644976:1=1:=rfl
theorem tw4520449126330450327:1=1:=rfl
theorem tw17871152566238233013:1=1:=rfl
theorem tw2548202890431316017:1=1:=rfl
theorem tw14380840413444013431:1=1:=rfl
theorem tw12172776663605341810:1=1:=rfl
theorem tw3148969251912381387:1=1:=rfl
theorem tw329269938197143081:1=1:=rfl
theorem tw3401767108973607877:1=1:=rfl
theorem tw7767845202336351096:1=1:=rfl
theorem tw7266358174203644695:1=1:=rfl
theorem tw3007880860142935846:1=1:=rfl
theorem tw10440120129490385192:1=1:=rfl
theorem tw10852020429761096197:1=1:=rfl
theorem tw14755334331895768625:1=1:=rfl
theorem tw12018076060587462798:1=1:=rfl
theorem tw17329715130830777563:1=1:=rfl
theorem tw4358810458093408611:1=1:=rfl
theorem tw13890997276248940618:1=1:=rfl
theorem tw1397923572244517460:1=1:=rfl
theorem tw8802366338726422710:1=1:=rfl
theorem tw1388024005813206296:1=1:=rfl
theorem tw16228105444171438013:1=1:=rfl
theorem tw13942409975419581386:1=1:=rfl
theorem tw9806350884158885777:1=1:=rfl
theorem tw14917554371361828865:1=1:=rfl
theorem tw10430380519260756549:1=1:=rfl
theorem tw9198661654864905303:1=1:=rfl
theorem tw10475711939680482790:1=1:=rfl
theorem tw18025966306123039708:1=1:=rfl
theorem tw8350104665124271226:1=1:=rfl
theorem tw9729389789893781436:1=1:=rfl
theorem tw3095050551588137876:1=1:=rfl
theorem tw688697053366054937:1=1:=rfl
theorem tw13356775980939081142:1=1:=rfl
theorem tw5192079200147198536:1=1:=rfl
theorem tw15939517919029560377:1=1:=rfl
theorem tw4808781633418260945:1=1:=rfl
theorem tw4938553716791977655:1=1:=rfl
theorem tw9158591731848041468:1=1:=rfl
theorem tw4568993439871147218:1=1:=rfl
theorem tw14238202451510601851:1=1:=rfl
theorem tw2337091054287453600:1=1:=rfl
theorem tw10829899863090326353:1=1:=rfl
theorem tw14322969463433459370:1=1:=rfl
theorem tw5473676412266850163:1=1:=rfl
theorem tw558327092100983106:1=1:=rfl
end PySem.W.Fast
open PySem PySem.W PyProof.Rows
set_option maxRecDepth 100000 in
set_option maxHeartbeats 0 in
theorem PySem.Challenge.cw_losspact_k52_callers_holds : PySem.Challenge.rw_losspact_k52_callers.Holds := by
  w_on; o_law; k_head; (case hw => w_witness2)
  k_fill
  refine K52.walk K52.main (l:=PySem.Challenge.rw_losspact_k52_callers) rfl rfl (fun w h Y => PySem.W.kIn_of Y) ?F
  case F =>
    intro w mg fa h KX G hmg
    refine' K52.all_mk KX G hmg (.mk ..) (.mk ..) (.mk ..) (.mk ..) (.mk ..) (.mk ..) (.mk ..) (.mk ..) (.mk ..) (.mk ..) (.mk ..) (.mk ..) (.mk ..) (.mk ..) (.mk ..) (.mk ..) (.mk ..) (.mk ..) (.mk ..) (.mk ..) (.mk ..) (.mk ..) (.mk ..) (.mk ..) (.mk ..) (.mk ..) (.mk ..) (.mk ..) (.mk ..) (.mk ..) (.mk ..) (.mk ..) (.mk ..) (.mk ..) ..
    any_goals k_is

import PyProof.Rows.All
import Wide.All
import OpenK.AllK
import Wide.FinOn
import Lean
import PyProof.EqAt
import PyProof.EqKinds
import PyProof.TupleCall
import PySem.Sem
import PyProof.P3Statements
import PyProof.SliceList
import PyProof.Dict
import PyProof.TupleKey
import PyProof.P3In
import PyProof.NeData
import KE.KRevIter
import PyProof.CollectIter
import PyProof.TupleOfGen
import PyProof.DictRoadsH
import PyProof.P3Eq
import PyProof.FactsAll.NoneType_1
import PyProof.FString2
import KE.KDictOf
import PyProof.DictDisplay
import PyProof.ListRange
import PyProof.MinMaxWalk
import PyProof.WalkInts
import PyProof.DictItems
import PyProof.Draws
import PyProof.EnumMake
import PyProof.Rows.TupIter
import KE.KPairComp
import PyProof.Rows.SetFrom
import PyProof.Rows.SortWalk
import KE.KSortedM
import PyProof.IsRules
import PyProof.ListMulRoad
import PyProof.AutoSeq1
import PyProof.FactsAll.tuple_2
import KE.KTryMore
import OpenK.KOwn
import PyProof.NsDelKeeps
import PyProof.ExcAttrAll.ValueError
import PyProof.Rows.SortRuns
import PyProof.Rows.SortShell
import KE.KDictSum
import PySem.Challenge.RW_losspact_k31_parts
set_option hygiene false
local macro_rules|`(!0)=>`(⟨rfl,rfl,rfl,by decide+kernel,rfl,by decide+kernel,by decide+kernel⟩)
local macro_rules|`(!1)=>`((by omega))
local macro_rules|`(!2)=>`((List.range h))
local macro_rules|`(!3)=>`((model prog w))
local macro_rules|`(!4)=>`((Or.inl rfl))
local macro_rules|`(!5)=>`((ns.map PyData.int))
def K9:=@List.mem_cons_of_mem
def K8:=@List.mem_cons_self
def K7:=@List.mem_singleton
def K6:=@PySem.Heap.get?_push_of_some
def K5:=@Bool.false_ne_true
def K4:=@List.length_map
def K3:=@List.getElem?_eq_getElem
def K2:=@List.length_append
def K1:=@Nat.le_refl
def K0:=@List.mem_cons
def Kk:=@List.mem_append
def Kx:=@List.mem_append_right
def Ku:=@Int.toNat_natCast
def Ky:=@PySem.Heap.get?_push_size
def Kj:=@List.size_toArray
def Kz:=@List.length_cons
def Kw:=@List.mem_map
def Kv:=@PySem.Heap.lt_size
def Kq:=@Array.length_toList
def KU:=@List.nodup_cons
def KY:=@Nat.le_trans
def KJ:=@List.map_cons
def KZ:=@List.mem_append_left
def KW:=@List.getElem?_map
def KQ:=@List.map_map
def X9:=@Bool.and_eq_true
def X8:=@List.length_range
def X7:=@List.append_assoc
def X6:=@List.getD_eq_getElem?_getD
def X5:=@List.length_singleton
def X4:=@Nat.lt_of_lt_of_le
def X3:=@List.nodup_nil
def X2:=@List.getElem?_eq_some_iff
def X1:=@Nat.ne_of_lt
def X0:=@List.map_append
def Xk:=@List.length_take
def Xx:=@Nat.zero_le
def Xu:=@List.append_nil
def Xy:=@List.mem_range
def Xj:=@List.nodup_append
def Xz:=@List.getElem?_eq_none
def Xw:=@PySem.Heap.get?_update_self
def Xv:=@Nat.lt_of_le_of_lt
def Xq:=@List.getElem?_append_left
def XX:=@PySem.Heap.size_push
def XU:=@Bool.false_eq_true
def XY:=@Bool.and_self
def XJ:=@List.length_drop
def XZ:=@List.take_of_length_le
def XW:=@List.getElem?_set_self
def XQ:=@List.getElem?_set_ne
def U9:=@List.length_filter_le
def U8:=@List.cons_append
def U7:=@List.drop_eq_getElem_cons
def U6:=@List.find?_cons
def U5:=@Nat.lt_irrefl
def U4:=@List.mem_of_mem_take
def U3:=@List.mem_of_mem_drop
def U2:=@List.getElem?_append_right
def U1:=@List.length_set
def U0:=@List.replicate_succ
def Uk:=@List.length_reverse
def Ux:=@List.take_append_drop
def Uu:=@Array.getElem?_toList
def Uy:=@Option.map_some
def Uj:=@List.map_congr_left
def Uz:=@Nat.lt_succ_self
def Uw:=@List.mem_reverse
def Uv:=@List.getElem_mem
def Uq:=@Int.emod_lt_of_pos
def UK:=@Nat.ne_of_gt
def UX:=@Nat.lt_succ_of_lt
def UU:=@Array.toList_append
def UY:=@List.mem_filter
def UJ:=@List.length_nil
def UZ:=@List.foldl_cons
def UW:=@Int.emod_nonneg
def UQ:=@Nat.succ_mul
def Y9:=@List.pairwise_append
def Y8:=@List.flatten_cons
def Y7:=@List.getElem?_range
def Y6:=@List.mem_flatMap
def Y5:=@List.filter_cons
def Y4:=@List.drop_zero
def Y3:=@List.all_eq_true
def Y2:=@Nat.le_succ
def Y1:=@List.lookup_cons
def Y0:=@Int.le_of_lt
def Yk:=@List.pairwise_iff_getElem
def Yx:=@Array.getElem?_eq_getElem
def Yu:=@List.mem_map_of_mem
def Yy:=@List.range_succ
def Yj:=@Bool.eq_iff_iff
def Yz:=@List.length_eq_zero_iff
def Yw:=@List.getElem_take
def Yv:=@List.drop_sublist
def Yq:=@Int.le_trans
def YK:=@Array.toList_push
def YX:=@List.any_cons
def YU:=@List.nil_append
def YY:=@Nat.mul_comm
def YJ:=@Nat.le_of_lt
def YZ:=@Nat.mul_le_mul
def YW:=@List.take_zero
def YV:=@List.drop_drop
def YQ:=@Bool.false_and
def J9:=@List.take_sublist
def J8:=@List.take_add_one
def J7:=@List.reverse_cons
def J6:=@List.getElem_drop
def J5:=@Bool.true_and
def J4:=@List.take_length
def J3:=@List.getElem_map
def J2:=@List.getElem?_cons_succ
def J1:=@List.ext_getElem
def J0:=@Int.eq_ofNat_of_zero_le
def Jk:=@List.map_nil
def Jx:=@List.drop_eq_nil_of_le
def Ju:=@PySem.Heap.get?_update_other
def Jy:=@Nat.le_antisymm
def Jj:=@List.forIn_cons
def Jz:=@List.filter_nil
def Jw:=@List.perm_append_comm
set_option linter.all false
section
open PySem PySem.Spec PyProof PyProof.Rows
def Jv:=@wpS_bind
def Jq:=@wpS_pure
def JK:=@wpS_get
def JX:=@beq_iff_eq
def JU:=@decide_eq_true_eq
def JY:=@wpAny_bind
def JJ:=@wpAny_pure
def JZ:=@if_neg
def JW:=@if_pos
def JV:=@decide_eq_true
def JQ:=@decide_eq_false
def Z9:=@wpAny_holding
def Z8:=@wpAny_call_entry
def Z7:=@wpAny_newObj_type
def Z6:=@wpAny_specialOf
abbrev Z5:=Value->Shared->Prop
abbrev Z4:=PyData
end
set_option maxHeartbeats 0
open PySem.W (nsIn codeIn keepIn fnOf mg_of Frag OpenLaw)
set_option Elab.async false
set_option linter.all false
set_option maxRecDepth 100000
noncomputable section
namespace L2
open PySem PySem.Spec PyProof.Rows
abbrev Key:=Sum Int Str
def FH:Key->Value->Bool
 | .inl k,v=>Value.isInt k v
 | .inr x,v=>Value.isStrOf x v
def LI (w:World):Key->Int
 | .inl k=>hashInt k
 | .inr x=>hashStr w x
theorem bX:∀{k:Key} {v:Value},FH k v=true->(∃i t,k=Sum.inl i/\v=Value.int i t)∨(∃x t,k=Sum.inr x/\v=Value.str x t)
 | .inl i,v,h=>by
  obtain⟨t,e⟩:=Value.isInt_shape (k:=i) (v:=v) h
  exact .inl ⟨i,t,rfl,e⟩
 | .inr x,v,h=>by
  obtain⟨t,e⟩:=Value.isStrOf_shape (x:=x) (v:=v) h
  exact .inr ⟨x,t,rfl,e⟩
theorem Gk (a b:Int):decide ((Sum.inl a:Key)=Sum.inl b)=(a==b):=by
 by_cases e:a=b
 ·subst e;simp
 ·have h:¬ (Sum.inl a:Key)=Sum.inl b:=λq=>e (Sum.inl.inj q)
  rw[JQ h]
  exact(beq_eq_false_iff_ne.mpr e).symm
theorem Gm (a b:Str):decide ((Sum.inr a:Key)=Sum.inr b)=decide (a=b):=by
 by_cases e:a=b
 ·subst e;simp
 ·have h:¬ (Sum.inr a:Key)=Sum.inr b:=λq=>e (Sum.inr.inj q)
  rw[JQ h,JQ e]
theorem Gn (a:Int)(b:Str):decide ((Sum.inl a:Key)=Sum.inr b)=false:=JQ (λq=>nomatch q)
theorem Gq (a:Str)(b:Int):decide ((Sum.inr a:Key)=Sum.inl b)=false:=JQ (λq=>nomatch q)
def yp (prog:Program)(w:World):PySem.KeyKind prog w Key where
 is:=FH
 hash:=LI w
 inj:=λv a b ha hb=>by
  rcases bX ha with⟨i,t,rfl,rfl⟩ | ⟨x,t,rfl,rfl⟩
  ·rcases bX hb with⟨j,u,rfl,e⟩ | ⟨y,u,rfl,e⟩
   ·injection e with e1 _;rw[e1]
   ·exact nomatch e
  ·rcases bX hb with⟨j,u,rfl,e⟩ | ⟨y,u,rfl,e⟩
   ·exact nomatch e
   ·injection e with e1 _;rw[e1]
 byValue:=λk v h=>by
  rcases bX h with⟨i,t,rfl,rfl⟩ | ⟨x,t,rfl,rfl⟩ <;> rfl
 pyHash:=λhv h=>by
  rcases bX hv with⟨i,t,rfl,rfl⟩ | ⟨x,t,rfl,rfl⟩
  ·exact wpAny_pyHash_int h
  ·exact wpAny_pyHash_str h
 eqBool:=λhu hv h=>by
  rcases bX hu with⟨i,t,rfl,rfl⟩ | ⟨x,t,rfl,rfl⟩
  ·rcases bX hv with⟨j,u,rfl,rfl⟩ | ⟨y,u,rfl,rfl⟩
   ·rw[Gk] at h;exact wpAny_eqBool_int h
   ·rw[Gn] at h;exact SeqAt.EqAt.int_str i t y u _ _ _ _ h
  ·rcases bX hv with⟨j,u,rfl,rfl⟩ | ⟨y,u,rfl,rfl⟩
   ·rw[Gq] at h;exact SeqAt.EqAt.str_int x t j u _ _ _ _ h
   ·rw[Gm] at h;exact wpAny_eqBool_str h
 «strs»:=λk x t v h=>by
  rcases bX h with⟨i,u,rfl,e⟩ | ⟨y,u,rfl,e⟩
  ·exact nomatch e
  ·injection e with e1 _
   subst e1
   cases v <;> rfl
inductive V where
 | non | bl (b:Bool) | int (i:Int) | str (x:Str) | LJ (b:Array UInt8) | flt (b:UInt64) | ref (a:Addr) | ty (n:String)
 deriving DecidableEq
def RelV:V->Value->Prop
 | .non,u=>u=Value.none
 | .bl b,u=>u=Value.bool b
 | .int i,u=>∃t,u=Value.int i t
 | .str x,u=>∃t,u=Value.str x t
 | .LJ b,u=>∃t,u=Value.bytes b t
 | .flt b,u=>∃t,u=Value.float b t
 | .ref a,u=>u=Value.ref a
 | .ty n,u=>u=Value.type n
abbrev Vals:List V->List Value->Prop:=Paired RelV
theorem Vals.length {xs:List V}{us:List Value}(r:Vals xs us):xs.length=us.length:=Paired.length r
theorem Vals.get:∀{xs:List V} {us:List Value} {i:Nat} {x:V},Vals xs us->xs[i]? =some x->∃u,us[i]? =some u/\RelV x u
 | _,_,_,_,.nil,e=>by simp at e
 | _,_,0,_,.cons r _,e=>by simp at e;subst e;exact⟨_,rfl,r⟩
 | _,_,i+1,x,.cons _ t,e=>by
  obtain⟨u,h1,h2⟩:=Vals.get (i:=i) (x:=x) t (by simpa using e)
  exact⟨u,by simpa using h1,h2⟩
theorem Vals.set {x:V}{u:Value}(r:RelV x u):∀{xs:List V} {us:List Value} (i:Nat),Vals xs us->Vals (xs.set i x) (us.set i u)
 | _,_,_,.nil=> .nil
 | _,_,0,.cons _ t=> .cons r t
 | _,_,i+1,.cons q t=> .cons q (Vals.set r i t)
theorem Vals.append:∀{xs ys:List V} {us ws:List Value},Vals xs us->Vals ys ws->Vals (xs++ys) (us++ws)
 | _,_,_,_,.nil,s=>s
 | _,_,_,_,.cons r t,s=> .cons r (Vals.append t s)
theorem Vals.take:∀{xs:List V} {us:List Value} (n:Nat),Vals xs us->Vals (xs.take n) (us.take n)
 | _,_,0,_=> .nil
 | _,_,_+1,.nil=> .nil
 | _,_,n+1,.cons r t=> .cons r (Vals.take n t)
theorem Vals.drop:∀{xs:List V} {us:List Value} (n:Nat),Vals xs us->Vals (xs.drop n) (us.drop n)
 | _,_,0,r=>r
 | _,_,_+1,.nil=> .nil
 | _,_,n+1,.cons _ t=>Vals.drop n t
def IY:Option V->Option Value->Prop
 | some v,some u=>RelV v u
 | none,none=>True
 | _,_=>False
def KV {κ:Type}:List (κ×V)->List (κ×Value)->Prop:=Paired λ(p:κ×V) (q:κ×Value)=>p.1=q.1/\RelV p.2 q.2
def kV:Key->V
 | .inl i=> .int i
 | .inr x=> .str x
inductive HO where
  | lst (xs:List V)
  | tup (xs:List V)
  | dK (kvs:List (Key×V)) | dT (kvs:List (List Key×V))
  | set (S:Int->Bool) (n:Nat)
  | ins (C dx:Addr) (fs:List (Str×V))
  | own (x:Addr)
  | xd (fs:List (Str×V))
  | met (f x:Addr)
  | rng (lo hi:Int)
  | A0 (o:Obj) (u:HO)
  | DD (ps:Array Value)
  | ext (φ:Heap->Prop)
abbrev Hp:=Addr->Option HO
noncomputable def upd (H:Hp)(a:Addr)(o:HO):Hp:=λb=>if b=a then some o else H b
theorem ax {H:Hp}{a:Addr}{o:HO}:upd H a o a=some o:=by unfold upd;rw[JW rfl]
theorem aS {H:Hp}{a b:Addr}{o:HO}(h:b≠a):upd H a o b=H b:=by unfold upd;rw[JZ h]
theorem FJ {H:Hp}{a b:Addr}{o u:HO}(h:H a=some o)(h':H b=some u)(d:o≠u):a≠b:=by
 intro e;subst e;rw[h] at h';exact d (Option.some.inj h')
theorem cY {H:Hp}{a b:Addr}{o:HO}(h:H a=some o)(h':H b=none):a≠b:=by
 intro e;subst e;rw[h] at h';cases h'
section
variable (P:Program)(w:World)
def dG (H:Hp)(h:Heap)(a:Addr):HO->Prop
 | .lst xs=>xs.length<=sizeLine/\∃(its:List Value) (n:Nat),Vals xs its/\h.get? a=some {cls:=.type "list",data:=.seq its.toArray n}
 | .tup xs=>xs.length<=sizeLine/\∃its:List Value,Vals xs its/\IsTup h a its.toArray
 | .dK kvs=>kvs.length<=sizeLine/\(a==sysModules)=false/\∃vs,KV kvs vs/\h.DictOf (yp P w) a vs
 | .dT kvs=>kvs.length<=sizeLine/\(a==sysModules)=false/\∃xs:List (List Key×Addr×Value),
   Paired (λ(p:List Key×V) (q:List Key×Addr×Value)=>p.1=q.1/\H q.2.1=some (.tup (p.1.map kV))/\RelV p.2 q.2.2) kvs xs/\
   ∃o es ep,h.get? a=some o/\o.ExactDict/\o.data= .dict es ep/\es.toList=xs.map (entryOfKey (tupleKind (yp P w)))/\(xs.map (·.1)).Nodup
 | .set S n=>h.SetOf (intKind P w) a S n
 | .ins C dx fs=>H dx=some (.own a)/\fs.length<=1000/\dx≠a/\h.get? a=some (PySem.W.instObj C dx)/\
   ∃mA,h.Ns1 dx mA/\(∀f,IY (fs.lookup f) (mA f))/\PySem.Within mA (fs.map (·.1))
 | .own _=>∃o,h.get? a=some o
 | .xd fs=>∃mA,h.Ns1 a mA/\∀f,IY (fs.lookup f) (mA f)
 | .rng lo hi=>∃t u v,h.get? a=some {cls:=.type "range",data:=.fields #[.int lo t,.int hi u,.int 1 v]}
 | .A0 o u=>h.get? a=some o/\dG H h a u
 | .DD ps=>h.get? a=some {cls:=.none,data:=.fields ps}
 | .met f x=>h.get? a=some (PySem.W.methodObj (.ref f) (.ref x))
 | .ext φ=>φ h/\(∃o,h.get? a=some o)/\∀h1 h2:Heap,φ h1->(∀o,h1.get? a=some o->h2.get? a=some o)->φ h2
def og (H:Hp)(h:Heap):Prop:=∀a o,H a=some o->dG P w H h a o
end
section
variable {P:Program}{w:World}{H H':Hp}{h h':Heap}{a:Addr}{o:HO}
theorem dG.lt (x:dG P w H h a o):a < h.objs.size:=by
 cases o with
 | lst xs=>obtain⟨_,_,_,_,e⟩:=x;exact Kv e
 | tup xs=>obtain⟨_,_,_,p⟩:=x;exact p.lt
 | dK kvs=>obtain⟨_,_,_,_,o,_,_,e,_⟩:=x;exact Kv e
 | dT kvs=>obtain⟨_,_,_,_,o,_,_,e,_⟩:=x;exact Kv e
 | set S n=>obtain⟨o,_,_,_,e,_⟩:=x;exact Kv e
 | ins C dx fs=>obtain⟨_,_,_,e,_⟩:=x;exact Kv e
 | own y=>obtain⟨_,e⟩:=x;exact Kv e
 | xd fs=>obtain⟨_,⟨_,_,_,e,_⟩,_⟩:=x;exact Kv e
 | rng lo hi=>obtain⟨_,_,_,e⟩:=x;exact Kv e
 | A0 ob u=>obtain⟨e,_⟩:=x;exact Kv e
 | DD ps=>exact Kv (show h.get? a=some _ from x)
 | met f y=>exact Kv (show h.get? a=some _ from x)
 | ext φ=>obtain⟨_,⟨_,e⟩,_⟩:=x;exact Kv e
theorem Paired.IZ {α β:Type}{F G:α->β->Prop}:∀{l₁:List α} {l₂:List β},Paired F l₁ l₂->(∀a b,F a b->G a b)->Paired G l₁ l₂
 | _,_,.nil,_=> .nil
 | _,_,.cons r t,f=> .cons (f _ _ r) (Paired.IZ t f)
theorem dG.stay (x:dG P w H h a o)(k:∀b u,(b=a∨H b=some (.own a))->h.get? b=some u->h'.get? b=some u)
  (ho:∀b,H b=some (.own a)->H' b=some (.own a)) (ht:∀b xs,H b=some (.tup xs)->H' b=some (.tup xs)):dG P w H' h' a o:=by
 induction o with
 | lst xs=>obtain⟨z,its,n,r,e⟩:=x;exact⟨z,its,n,r,k _ _ (.inl rfl) e⟩
 | tup xs=>obtain⟨z,its,r,ob,e,c⟩:=x;exact⟨z,its,r,ob,k _ _ (.inl rfl) e,c⟩
 | dK kvs=>obtain⟨z,y,vs,r,ob,es,ep,e,c⟩:=x;exact⟨z,y,vs,r,ob,es,ep,k _ _ (.inl rfl) e,c⟩
 | dT kvs=>
  obtain⟨z,y,xs,r,ob,es,ep,e,c⟩:=x
  exact⟨z,y,xs,Paired.IZ r λp q z=>⟨z.1,ht _ _ z.2.1,z.2.2⟩,ob,es,ep,k _ _ (.inl rfl) e,c⟩
 | set S n=>obtain⟨ob,es,ep,t,e,c⟩:=x;exact⟨ob,es,ep,t,k _ _ (.inl rfl) e,c⟩
 | ins C dx fs=>
  obtain⟨d,z,ne,e,mA,⟨od,es,ep,e2,c⟩,r⟩:=x
  exact⟨ho _ d,z,ne,k _ _ (.inl rfl) e,mA,⟨od,es,ep,k _ _ (.inr d) e2,c⟩,r⟩
 | own y=>obtain⟨ob,e⟩:=x;exact⟨ob,k _ _ (.inl rfl) e⟩
 | xd fs=>obtain⟨mA,⟨od,es,ep,e,c⟩,r⟩:=x;exact⟨mA,⟨od,es,ep,k _ _ (.inl rfl) e,c⟩,r⟩
 | rng lo hi=>obtain⟨t,u,v,e⟩:=x;exact⟨t,u,v,k _ _ (.inl rfl) e⟩
 | A0 ob u ih=>obtain⟨e,q⟩:=x;exact⟨k _ _ (.inl rfl) e,ih q⟩
 | DD ps=>
  have e:h.get? a=some {cls:=.none,data:=.fields ps}:=x
  show h'.get? a=some {cls:=.none,data:=.fields ps}
  exact k a _ (.inl rfl) e
 | met f y=>
  have e:h.get? a=some (PySem.W.methodObj (.ref f) (.ref y)):=x
  show h'.get? a=some (PySem.W.methodObj (.ref f) (.ref y))
  exact k a _ (.inl rfl) e
 | ext φ=>obtain⟨p,⟨o,e⟩,st⟩:=x;exact⟨st _ _ p λo q=>k _ _ (.inl rfl) q,⟨o,k _ _ (.inl rfl) e⟩,st⟩
theorem og.lt (x:og P w H h)(e:H a=some o):a < h.objs.size:=(x a o e).lt
theorem og.fresh (x:og P w H h)(e:h.objs.size<=a):H a=none:=by
 cases q:H a with
 | none=>rfl
 | some u=>exact absurd (X4 (x.lt q) e) (U5 _)
theorem og.kept (x:og P w H h)(k:∀b u,h.get? b=some u->h'.get? b=some u):og P w H h':=λa o e=>
 (x a o e).stay (λb u _ q=>k b u q) (λ_ q=>q) λ_ _ q=>q
theorem og.laid (x:og P w H h)(k:∀b u,h.get? b=some u->h'.get? b=some u)(hp:h.objs.size<=a)(new:dG P w (upd H a o) h' a o):og P w (upd H a o) h':=λb u e=>by
 have hn:=x.fresh hp
 by_cases hb:b=a
 ·subst hb;rw[ax] at e;cases e;exact new
 ·rw[aS hb] at e
  exact(x b u e).stay (λc v _ q=>k c v q) (λc q=>by rw[aS (cY q hn)];exact q) λc xs q=>by rw[aS (cY q hn)];exact q
end
def Rd (H:Hp)(a:Addr)(u:HO):Prop:=H a=some u∨∃o,H a=some (.A0 o u)
theorem Rd.of {H:Hp}{a:Addr}{u:HO}(h:H a=some u):Rd H a u:=.inl h
theorem Rd.ok {P:Program}{w:World}{H:Hp}{h:Heap}{a:Addr}{u:HO}(r:Rd H a u)(x:og P w H h):dG P w H h a u:=by
 rcases r with r | ⟨o,r⟩
 ·exact x a u r
 ·obtain⟨_,q⟩:=x a _ r
  exact q
def Le:Option HO->Prop
 | some (.lst _)=>True
 | some (.dK _)=>True
 | some (.dT _)=>True
 | some (.set _ _)=>True
 | some (.ins _ _ _)=>True
 | some (.ext _)=>True
 | _=>False
section
variable {P:Program}{w:World}{H:Hp}{h h':Heap}{x e:Addr}{o':HO}
theorem og.write (ok:og P w H h)(mu:Le (H x))(he:e=x∨H e=some (.own x))(k:∀b u,b≠e->h.get? b=some u->h'.get? b=some u)(heo:∃u,h'.get? e=some u)
  (new:dG P w (upd H x o') h' x o'):og P w (upd H x o') h':=λb u q=>by
 have I0:∀c y,H c=some (.own y)->c≠x:=λc y r z=>by subst z;rw[r] at mu;exact mu
 have LK:∀c xs,H c=some (.tup xs)->c≠x:=λc xs r z=>by subst z;rw[r] at mu;exact mu
 by_cases hb:b=x
 ·subst hb;rw[ax] at q;cases q;exact new
 ·rw[aS hb] at q
  by_cases hbe:b=e
  ·have q':H b=some (.own x):=by
    rcases he with z | z
    ·exact absurd (hbe.trans z) hb
    ·rw[hbe];exact z
   rw[q] at q';cases q'
   obtain⟨v,hv⟩:=heo
   exact⟨v,by rw[hbe];exact hv⟩
  ·refine(ok b u q).stay (λc v hc r=>k c v ?_ r) (λc r=>by rw[aS (I0 c b r)];exact r) λc xs r=>by rw[aS (LK c xs r)];exact r
   rcases hc with rfl | hc
   ·exact hbe
   ·rintro rfl
    rcases he with z | z
    ·exact I0 c b hc z
    ·rw[hc] at z;cases z;exact hb rfl
end
structure Un (fs ex:List Addr)(H H':Hp)(h h':Heap):Prop where
 keep:∀b o,h.get? b=some o->H b=none->b∉fs->b∉ex->h'.get? b=some o
 slot:∀b o,h.get? b=some o->H b=none->b∈fs->b∉ex->∃sl,h'.get? b=some {o with slots:=sl}
 free:∀b o,h.get? b=some o->H b=none->b∉ex->H' b=none
 there:∀b o,h.get? b=some o->b∉ex->∃o',h'.get? b=some o'
 tups:∀b xs,H b=some (.tup xs)->H' b=some (.tup xs)
 lg:∀b o u,H b=some (.A0 o u)->H' b=some (.A0 o u)
 lJ:∀b ps,H b=some (.DD ps)->∃more,H' b=some (.DD (ps++more))
section
variable {fs fs' ex ex':List Addr}{H H1 H2:Hp}{h h1 h2 h':Heap}{a x e:Addr}{o:HO}
theorem Un.any (u:Un fs ex H H1 h h1){b:Addr}{ob:Obj}(q:h.get? b=some ob)(n:H b=none)(hx:b∉ex):∃sl,h1.get? b=some {ob with slots:=sl}:=by
 by_cases hb:b∈fs
 ·exact u.slot b ob q n hb hx
 ·exact⟨ob.slots,u.keep b ob q n hb hx⟩
theorem Un.trans (a:Un fs ex H H1 h h1)(b:Un fs ex H1 H2 h1 h2):Un fs ex H H2 h h2 where
 keep:=λc ob q n hc hx=>b.keep c ob (a.keep c ob q n hc hx) (a.free c ob q n hx) hc hx
 slot:=λc ob q n hc hx=>by
  obtain⟨sl,e1⟩:=a.slot c ob q n hc hx
  obtain⟨sl',e2⟩:=b.slot c _ e1 (a.free c ob q n hx) hc hx
  exact⟨sl',e2⟩
 free:=λc ob q n hx=>by
  obtain⟨o',e1⟩:=a.there c ob q hx
  exact b.free c o' e1 (a.free c ob q n hx) hx
 there:=λc ob q hx=>by
  obtain⟨o',e1⟩:=a.there c ob q hx
  exact b.there c o' e1 hx
 tups:=λc xs q=>b.tups c xs (a.tups c xs q)
 lg:=λc ob xs q=>b.lg c ob xs (a.lg c ob xs q)
 lJ:=λc ps q=>by
  obtain⟨m1,e1⟩:=a.lJ c ps q
  obtain⟨m2,e2⟩:=b.lJ c _ e1
  exact⟨m1++m2,by rw[e2,Array.append_assoc]⟩
theorem Un.kept (k:∀b u,h.get? b=some u->h'.get? b=some u):Un fs ex H H h h' :=
 ⟨λb ob q _ _ _=>k b ob q,λb ob q _ _ _=>⟨ob.slots,k b ob q⟩,λ_ _ _ n _=>n,λb ob q _=>⟨ob,k b ob q⟩,λ_ _ q=>q,λ_ _ _ q=>q,λ_ ps q=>⟨#[],by rw[q];simp⟩⟩
theorem Un.refl:Un fs ex H H h h:=Un.kept λ_ _ q=>q
theorem Un.laid (k:∀b u,h.get? b=some u->h'.get? b=some u)(hp:h.objs.size<=a)(hn:H a=none):Un fs ex H (upd H a o) h h' where
 keep:=λb u q _ _ _=>k b u q
 slot:=λb u q _ _ _=>⟨u.slots,k b u q⟩
 free:=λb u q n _=>by rw[aS (X1 (X4 (Kv q) hp))];exact n
 there:=λb u q _=>⟨u,k b u q⟩
 tups:=λb xs q=>by rw[aS (cY q hn)];exact q
 lg:=λb u xs q=>by rw[aS (cY q hn)];exact q
 lJ:=λb ps q=>⟨#[],by rw[aS (cY q hn),q];simp⟩
theorem Un.write (mu:Le (H x))(he:e=x∨H e=some (.own x))(k:∀b u,b≠e->h.get? b=some u->h'.get? b=some u)(heo:∃u,h'.get? e=some u):Un fs ex H (upd H x o) h h':=by
 have hx:∀b,H b=none->b≠x:=λb n z=>by subst z;rw[n] at mu;exact mu
 have hb:∀b,H b=none->b≠e:=λb n z=>by
  subst z
  rcases he with r | r
  ·exact hx b n r
  ·rw[n] at r;cases r
 have hm:∀b u,H b=some u->¬ Le (some u)->b≠x:=λb u q nm z=>by subst z;rw[q] at mu;exact nm mu
 refine⟨λb u q n _ _=>k b u (hb b n) q,λb u q n _ _=>⟨u.slots,k b u (hb b n) q⟩,λb u q n _=>by rw[aS (hx b n)];exact n,λb u q _=> ?_,
  λb xs q=>by rw[aS (hm b _ q λz=>z)];exact q,λb u xs q=>by rw[aS (hm b _ q λz=>z)];exact q,λb ps q=>⟨#[],by rw[aS (hm b _ q λz=>z),q];simp⟩⟩
 by_cases hbe:b=e
 ·subst hbe;exact heo
 ·exact⟨u,k b u hbe q⟩
theorem Un.mono (u:Un fs ex H H1 h h1)(hs:∀b∈fs,b∈fs')(hx:∀b∈ex,b∈ex'):Un fs' ex' H H1 h h1 :=
 ⟨λb ob q n hb he=>u.keep b ob q n (λz=>hb (hs b z)) λz=>he (hx b z),λ_ _ q n _ he=>u.any q n λz=>he (hx _ z),λb ob q n he=>u.free b ob q n λz=>he (hx b z),λb ob q he=>u.there b ob q λz=>he (hx b z),u.tups,u.lg,u.lJ⟩
end
def Lf (h:Heap)(H:Hp):List Addr:=(List.range h.objs.size).filter λa=>(H a).isSome
def sI (h:Heap)(H:Hp):Heap:=PySem.W.hideAll h (Lf h H)
theorem zA (h:Heap)(H:Hp):(sI h H).objs.size=h.objs.size:=PySem.W.hideAll_size _ _
theorem A6 {h:Heap}{H:Hp}{b:Addr}{o:Obj}(e:h.get? b=some o)(n:H b=none):(sI h H).get? b=some o :=
 PySem.W.hideAll_get _ e λhm=>by
  have q:(H b).isSome=true:=(UY.mp hm).2
  rw[n] at q;simp at q
theorem DF {h:Heap}{H:Hp}{b:Addr}{o:Obj}(e:(sI h H).get? b=some o):h.get? b=some o/\H b=none:=by
 have e':h.get? b=some o:=PySem.W.of_hideAll (Lf h H) e
 refine⟨e',?_⟩
 cases q:H b with
 | none=>rfl
 | some x=>
  have hm:b∈Lf h H:=UY.mpr ⟨Xy.mpr (Kv e'),by simp[q]⟩
  have z:(sI h H).get? b=none:=PySem.W.hideAll_none (Lf h H) hm
  rw[z] at e;cases e
def DH (g h:Heap)(L:Addr):List (Addr×Obj):=(List.range h.objs.size).filterMap λa=>if a=L∨(g.get? a).isSome=true then none else (h.get? a).map λo=>(a,o)
def rest (g h:Heap)(L d:Addr):List (Addr×Obj):=(DH g h L).filter λp=>decide (p.1≠d)
structure Mod (K:Frag)(mg:Str->Option Value)(base:Heap):Prop where
 Lg:K.In base
 glob:base.Ns mainGlobals mg
 blt:∃mb,base.Ns builtinsNs mb/\∀x:Str,x≠ "__name__" ->mb x=bootBuiltins x
 nolimit:base.NoLimit
structure Cx where
 prog:Program
 w:World
 K:Frag
 mg:Str->Option Value
 base:Heap
 A:Around
 N:List Str
 s₀:Shared
 H₀:Hp
 env:Env
 outer:List Env
 stack:List Env
 ex:List Addr
 fn:Str->Bool
 calm:Bool
 pn:List (Addr×Obj)
 xe:Value->Shared->Prop
def frs (l:List Env):List Addr:=l.filterMap (·.frame)
abbrev Cx.fs (X:Cx):List Addr:=frs X.outer
def Li (sc:Scope)(x:Str):Prop:=sc.names.lookup x=some .local∨sc.names.lookup x=some .cell∨sc.names.lookup x=some .free
def Loc (sc:Scope)(x:Str):Prop:=sc.names.lookup x=some .local∨sc.names.lookup x=some .cell
def Look (env:Env)(h:Heap)(m:Str->Option Value)(x:Str)(u:Value):Prop :=
 (env.kindOf x=some .local/\m x=some u)∨((env.kindOf x=some .cell∨env.kindOf x=some .free)/\∃c,env.cells.lookup x=some c/\h.IsCell c (some u))
structure Cx.Ok (X:Cx):Prop where
 mod:Mod X.K X.mg X.base
 kind:X.env.scope.kind= .function
 glob:X.env.globals=mainGlobals
 blt:X.env.builtins=builtinsNs
 above:X.s₀.heap.objs.size<=X.env.locals
 inj:∀x y c,X.env.cells.lookup x=some c->X.env.cells.lookup y=some c->x=y
 has:∀x,(X.env.kindOf x=some .cell∨X.env.kindOf x=some .free)->∃c,X.env.cells.lookup x=some c
 cab:∀x c,X.fn x=true->X.env.cells.lookup x=some c->X.s₀.heap.objs.size<=c
 hd:X.calm=true->X.A.handled=none
 frames:X.A.frames=some X.stack
 stk:X.stack=X.outer∨(X.stack=X.env :: X.outer/\X.env.frame=some X.env.locals)
 IM:∀b∈X.ex,b≠X.env.locals/\∀x c,X.env.cells.lookup x=some c->c≠b
 bs:∀b o,X.base.get? b=some o->X.s₀.heap.get? b=some o/\X.H₀ b=none
 zB:X.base.objs.size<=X.s₀.heap.objs.size
 wY:∀b o,X.base.get? b=some o->b∉X.ex
 wZ:∀b∈X.ex,b∉X.fs
 lh:X.s₀.heap.FunFrames X.base X.outer
 Dx:∀b∈X.fs,X.H₀ b=none
structure Inv (X:Cx)(pins:List (Addr×Obj))(σ:List (Option V))(H:Hp)(s:Shared):Prop where
 ok:X.Ok
 os:s.os=X.s₀.os
 bare:AllBare s.gens
 base:Un X.fs X.ex X.H₀ H X.s₀.heap s.heap
 loc:∃m,s.heap.Ns X.env.locals m/\∀(i:Nat) (x:Str) (v:V),X.N[i]? =some x->σ[i]? =some (some v)->Li X.env.scope x->∃u,RelV v u/\Look X.env s.heap m x u
 cell:∀x c,X.env.cells.lookup x=some c->∃v,s.heap.IsCell c v
 free:H X.env.locals=none
 jZ:∀x c,X.env.cells.lookup x=some c->H c=none
 pin:∀p∈X.pn++pins,s.heap.get? p.1=some p.2/\H p.1=none/\p.1≠X.env.locals/\p.1∉X.fs/\∀v,p.2.data≠ .cell v
 hok:og X.prog X.w H s.heap
 len:σ.length=X.N.length
section
variable {X:Cx}{pins:List (Addr×Obj)}{σ:List (Option V)}{H H':Hp}{s:Shared}{h':Heap}
theorem Cx.Ok.LL (ok:X.Ok){b:Addr}{o:Obj}(e:X.base.get? b=some o):b∉X.fs:=λhb=>by
 have:=(ok.lh.mem hb).1
 rw[e] at this;cases this
theorem Inv.bs (I:Inv X pins σ H s):∀b o,X.base.get? b=some o->s.heap.get? b=some o/\H b=none:=λb o e=>
 ⟨I.base.keep b o (I.ok.bs b o e).1 (I.ok.bs b o e).2 (I.ok.LL e) (I.ok.wY b o e),I.base.free b o (I.ok.bs b o e).1 (I.ok.bs b o e).2 (I.ok.wY b o e)⟩
theorem Inv.bk (I:Inv X pins σ H s):∀b o,X.base.get? b=some o->s.heap.get? b=some o:=λb o e=>(I.bs b o e).1
theorem Inv.mod (I:Inv X pins σ H s):Mod X.K X.mg X.base:=I.ok.mod
theorem Inv.zC (I:Inv X pins σ H s):X.K.In s.heap:=I.ok.mod.Lg.keeps I.bk
theorem Inv.nolimit (I:Inv X pins σ H s):s.heap.NoLimit:=I.ok.mod.nolimit.keeps I.bk
theorem Inv.fr (I:Inv X pins σ H s):∃m,Fr X.base X.env.locals s.heap m :=
 let ⟨m,hn,_⟩:=I.loc
 ⟨m,hn,I.bk,KY I.ok.zB I.ok.above⟩
theorem Inv.lt (I:Inv X pins σ H s):X.env.locals < s.heap.objs.size:=let ⟨_,hn,_⟩:=I.loc;hn.lt
theorem Inv.sz (I:Inv X pins σ H s):X.s₀.heap.objs.size<=s.heap.objs.size:=KY I.ok.above (YJ I.lt)
theorem Inv.LM (I:Inv X pins σ H s){a:Addr}(h:s.heap.objs.size<=a):a∉X.fs:=λhb=>by
 obtain⟨_,o,ho,_⟩:=I.ok.lh.mem hb
 exact absurd (X4 (Kv ho) (KY I.sz h)) (U5 _)
theorem Inv.Gr (I:Inv X pins σ H s):∀x c,X.env.cells.lookup x=some c->c≠X.env.locals:=λx c e z=>by
 obtain⟨v,o,ho,hd⟩:=I.cell x c e
 obtain⟨m,⟨o',es,ep,ho',hd',_⟩,_⟩:=I.loc
 rw[z,ho'] at ho;cases ho;rw[hd'] at hd;cases hd
theorem Inv.lh (I:Inv X pins σ H s):s.heap.FunFrames X.base X.outer:=by
 have all:∀(l:List Env),(∀b∈frs l,b∈X.fs)->X.s₀.heap.FunFrames X.base l->s.heap.FunFrames X.base l:=by
  intro l
  induction l with
  | nil=>intro _ _;trivial
  | cons env r ih=>
   intro hs hl
   obtain⟨hk,⟨L,o,hf,hn,ho,hd⟩,hr⟩:=hl
   have hL:L∈X.fs:=hs L (by unfold frs;rw[List.filterMap_cons,hf];exact K8)
   obtain⟨sl,e⟩:=I.base.slot L o ho (I.ok.Dx L hL) hL λz=>I.ok.wZ L z hL
   exact⟨hk,⟨L,_,hf,hn,e,hd⟩,ih (λb hb=>hs b (by unfold frs;rw[List.filterMap_cons,hf];exact K9 _ hb)) hr⟩
 exact all X.outer (λ_ hb=>hb) I.ok.lh
theorem Inv.stack (I:Inv X pins σ H s):s.heap.FunFrames X.base X.stack:=by
 rcases I.ok.stk with e | ⟨e,hf⟩
 ·rw[e];exact I.lh
 ·rw[e]
  obtain⟨m,hn,_⟩:=I.loc
  refine .cons (by rw[I.ok.kind];decide) hf hn ?_ I.lh
  exact Heap.get?_none_of_le (KY I.ok.zB I.ok.above)
theorem Inv.w6 (I:Inv X pins σ H s):∀b∈frs X.stack,b∈X.env.locals :: X.fs:=λb hb=>by
 rcases I.ok.stk with e | ⟨e,hf⟩
 ·rw[e] at hb;exact K9 _ hb
 ·rw[e] at hb
  unfold frs at hb
  rw[List.filterMap_cons,hf] at hb
  exact hb
theorem Inv.yq (I:Inv X pins σ H s):∀b∈frs X.stack,H b=none:=λb hb=>by
 rcases K0.mp (I.w6 b hb) with e | hb
 ·rw[e];exact I.free
 ·obtain⟨_,o,ho,_⟩:=I.ok.lh.mem hb
  exact I.base.free b o ho (I.ok.Dx b hb) λz=>I.ok.wZ b z hb
theorem Inv.step {g':Array GenState}{t':Nat}{d':Drawn}{ch:List Addr}(I:Inv X pins σ H s)
  (hch:∀b∈ch,(b∈X.ex∨X.s₀.heap.objs.size<=b)/\b≠X.env.locals/\(∀x c,X.env.cells.lookup x=some c->c≠b)/\∀p∈X.pn++pins,p.1≠b)
  (keep:∀b o,b≠X.env.locals->b∉X.fs->b∉ch->s.heap.get? b=some o->H b=none->h'.get? b=some o)
  (slot:∀b o,b≠X.env.locals->b∈X.fs->b∉ch->s.heap.get? b=some o->H b=none->∃sl,h'.get? b=some {o with slots:=sl}) (free:∀b o,b∉ch->s.heap.get? b=some o->H b=none->H' b=none)
  (there:∀b o,b∉ch->s.heap.get? b=some o->∃o',h'.get? b=some o')
  (tups:∀b xs,H b=some (.tup xs)->H' b=some (.tup xs)) (lg:∀b o u,H b=some (.A0 o u)->H' b=some (.A0 o u)) (lJ:∀b ps,H b=some (.DD ps)->∃more,H' b=some (.DD (ps++more)))
  (ns:∀m,s.heap.Ns X.env.locals m->h'.Ns X.env.locals m) (hok:og X.prog X.w H' h') (hg:AllBare g') :
  Inv X pins σ H' {s with heap:=h',gens:=g',drawn:=d',toks:=t'}:=by
 have M9:∀b o,X.s₀.heap.get? b=some o->b≠X.env.locals:=λb o e=>X1 (X4 (Kv e) I.ok.above)
 have Lj:∀b o,X.s₀.heap.get? b=some o->b∉X.ex->b∉ch:=λb o e hx hb=>by
  rcases(hch b hb).1 with z | z
  ·exact hx z
  ·exact absurd (X4 (Kv e) z) (U5 _)
 have cellK:∀x c,X.env.cells.lookup x=some c->∀v,s.heap.IsCell c v->h'.IsCell c v:=λx c e v ⟨o,ho,hd⟩=>by
  have I_:c∉ch:=λz=>(hch c z).2.2.1 x c e rfl
  by_cases hc:c∈X.fs
  ·obtain⟨sl,q⟩:=slot c o (I.Gr x c e) hc I_ ho (I.jZ x c e)
   exact⟨_,q,hd⟩
  ·exact⟨o,keep c o (I.Gr x c e) hc I_ ho (I.jZ x c e),hd⟩
 refine⟨I.ok,I.os,hg,⟨λb o e n hb hx=> ?_,λb o e n hb hx=> ?_,λb o e n hx=> ?_,λb o e hx=> ?_,λb xs e=>tups b xs (I.base.tups b xs e),λb o xs e=>lg b o xs (I.base.lg b o xs e),λb ps e=> ?_⟩,?_,λx c e=> ?_,?_,λx c e=> ?_,λp hp=> ?_,hok,I.len⟩
 ·exact keep b o (M9 b o e) hb (Lj b o e hx) (I.base.keep b o e n hb hx) (I.base.free b o e n hx)
 ·obtain⟨sl,e1⟩:=I.base.slot b o e n hb hx
  obtain⟨sl',e2⟩:=slot b _ (M9 b o e) hb (Lj b o e hx) e1 (I.base.free b o e n hx)
  exact⟨sl',e2⟩
 ·obtain⟨o',e1⟩:=I.base.there b o e hx
  exact free b o' (Lj b o e hx) e1 (I.base.free b o e n hx)
 ·obtain⟨o',e1⟩:=I.base.there b o e hx
  exact there b o' (Lj b o e hx) e1
 ·obtain⟨m1,e1⟩:=I.base.lJ b ps e
  obtain⟨m2,e2⟩:=lJ b _ e1
  exact⟨m1++m2,by rw[e2,Array.append_assoc]⟩
 ·obtain⟨m,hn,hl⟩:=I.loc
  refine⟨m,ns m hn,λi x v e1 e2 e3=> ?_⟩
  obtain⟨u,r,l⟩:=hl i x v e1 e2 e3
  refine⟨u,r,?_⟩
  rcases l with l | ⟨k,c,e,z⟩
  ·exact .inl l
  ·exact .inr ⟨k,c,e,cellK x c e _ z⟩
 ·obtain⟨v,z⟩:=I.cell x c e
  exact⟨v,cellK x c e v z⟩
 ·obtain⟨m,⟨o,_,_,ho,_⟩,_⟩:=I.loc
  exact free _ o (λz=>(hch _ z).2.1 rfl) ho I.free
 ·obtain⟨v,o,ho,hd⟩:=I.cell x c e
  exact free c o (λz=>(hch c z).2.2.1 x c e rfl) ho (I.jZ x c e)
 ·obtain⟨e,n,ne,nf,d⟩:=I.pin p hp
  have I_:p.1∉ch:=λz=>(hch p.1 z).2.2.2 p hp rfl
  exact⟨keep p.1 p.2 ne nf I_ e n,free p.1 p.2 I_ e n,ne,nf,d⟩
theorem Inv.un {t':Nat}(I:Inv X pins σ H s)(u:Un X.fs [] H H' s.heap h')(hok:og X.prog X.w H' h'):Inv X pins σ H' {s with heap:=h',toks:=t'}:=by
 obtain⟨m,⟨o,es,ep,ho,r⟩,_⟩:=id I.loc
 obtain⟨sl,hL⟩:=u.any ho I.free (by simp)
 exact I.step (g':=s.gens) (d':=s.drawn) (ch:=[]) (λ_ z=>nomatch z) (λb o _ hb _ e n=>u.keep b o e n hb (by simp)) (λb o _ hb _ e n=>u.slot b o e n hb (by simp)) (λb o _ e n=>u.free b o e n (by simp)) (λb o _ e=>u.there b o e (by simp)) u.tups u.lg u.lJ (λm' hm=>by
  obtain⟨o',es',ep',ho',r'⟩:=hm
  rw[ho] at ho';cases ho'
  exact⟨_,es',ep',hL,r'⟩) hok I.bare
theorem Inv.call {g':Array GenState}{t':Nat}{d':Drawn}{ch:List Addr}(I:Inv X pins σ H s)(u:Un (frs X.stack) ch H H' s.heap h')(hok:og X.prog X.w H' h')(hg:AllBare g')
  (hch:∀b∈ch,(b∈X.ex∨X.s₀.heap.objs.size<=b)/\b≠X.env.locals/\(∀x c,X.env.cells.lookup x=some c->c≠b)/\∀p∈X.pn++pins,p.1≠b) :
  Inv X pins σ H' {s with heap:=h',gens:=g',drawn:=d',toks:=t'}:=by
 obtain⟨m,⟨o,es,ep,ho,r⟩,_⟩:=id I.loc
 obtain⟨sl,hL⟩:=u.any ho I.free λz=>(hch _ z).2.1 rfl
 exact I.step (ch:=ch) hch (λb o hL hb hc e n=>u.keep b o e n (λz=>(K0.mp (I.w6 b z)).elim hL hb) hc) (λb o _ _ hc e n=>u.any e n hc) (λb o hc e n=>u.free b o e n hc) (λb o hc e=>u.there b o e hc) u.tups u.lg u.lJ (λm' hm=>by
  obtain⟨o',es',ep',ho',r'⟩:=hm
  rw[ho] at ho';cases ho'
  exact⟨_,es',ep',hL,r'⟩) hok hg
theorem Inv.turned {t':Nat}{it:Addr}(I:Inv X pins σ H s)(k:∀b o,b≠it->s.heap.get? b=some o->h'.get? b=some o)(hn:H it=none)(hL:it≠X.env.locals)
  (h1:it∈X.ex∨X.s₀.heap.objs.size<=it) (h2:∀x c,X.env.cells.lookup x=some c->c≠it) (h3:∀p∈X.pn++pins,p.1≠it):Inv X pins σ H {s with heap:=h',toks:=t'}:=by
 have M_:∀b u,H b=some u->b≠it:=λb u e z=>by rw[z,hn] at e;cases e
 refine I.step (g':=s.gens) (d':=s.drawn) (ch:=[it]) (λb hb=> ?_) (λb o _ _ hc e _=>k b o (λz=>hc (by simp[z])) e) (λb o _ _ hc e _=>⟨o.slots,k b o (λz=>hc (by simp[z])) e⟩) (λ_ _ _ _ n=>n)
  (λb o hc e=>⟨o,k b o (λz=>hc (by simp[z])) e⟩) (λ_ _ e=>e) (λ_ _ _ e=>e) (λb ps e=>⟨#[],by rw[e];simp⟩) (λm hm=> ?_) (λb u e=> ?_) I.bare
 ·have e:b=it:=by simpa using hb
  subst e
  exact⟨h1,hL,h2,h3⟩
 ·obtain⟨o,es,ep,ho,r⟩:=hm
  exact⟨o,es,ep,k _ o (Ne.symm hL) ho,r⟩
 ·refine(I.hok b u e).stay (λc v hc q=>k c v ?_ q) (λ_ q=>q) λ_ _ q=>q
  rcases hc with z | z
  ·rw[z];exact M_ b u e
  ·exact M_ c _ z
theorem Inv.tok (I:Inv X pins σ H s)(t:Nat):Inv X pins σ H {s with toks:=t}:=I.un (h':=s.heap) (t':=t) Un.refl I.hok
theorem Inv.kept {t':Nat}(I:Inv X pins σ H s)(k:∀b u,s.heap.get? b=some u->h'.get? b=some u):Inv X pins σ H {s with heap:=h',toks:=t'}:=I.un (Un.kept k) (I.hok.kept k)
theorem Inv.laid {a:Addr}{o:HO}{t':Nat}(I:Inv X pins σ H s)(k:∀b u,s.heap.get? b=some u->h'.get? b=some u)(hp:s.heap.objs.size<=a)(new:dG X.prog X.w (upd H a o) h' a o) :
  Inv X pins σ (upd H a o) {s with heap:=h',toks:=t'}:=I.un (Un.laid k hp (I.hok.fresh hp)) (I.hok.laid k hp new)
theorem Inv.write {x e:Addr}{o:HO}{t':Nat}(I:Inv X pins σ H s)(mu:Le (H x))(he:e=x∨H e=some (.own x))(k:∀b u,b≠e->s.heap.get? b=some u->h'.get? b=some u)(heo:∃u,h'.get? e=some u)
  (new:dG X.prog X.w (upd H x o) h' x o):Inv X pins σ (upd H x o) {s with heap:=h',toks:=t'}:=I.un (Un.write mu he k heo) (I.hok.write mu he k heo new)
theorem Inv.weak {σ':List (Option V)}(I:Inv X pins σ H s)(hl:σ'.length=σ.length)(w:∀(i:Nat) v,σ'[i]? =some (some v)->σ[i]? =some (some v)):Inv X pins σ' H s :=
 ⟨I.ok,I.os,I.bare,I.base,let ⟨m,hn,hl'⟩:=I.loc;⟨m,hn,λi x v e1 e2 e3=>hl' i x v e1 (w i v e2) e3⟩,I.cell,I.free,I.jZ,I.pin,I.hok,hl.trans I.len⟩
theorem Inv.yr {FK:List (Addr×Obj)}(I:Inv X pins σ H s)(h:∀p∈FK,s.heap.get? p.1=some p.2/\H p.1=none/\p.1≠X.env.locals/\p.1∉X.fs/\∀v,p.2.data≠ .cell v):Inv X FK σ H s :=
 ⟨I.ok,I.os,I.bare,I.base,I.loc,I.cell,I.free,I.jZ,λp hp=>(Kk.mp hp).elim (λz=>I.pin p (KZ _ z)) (h p),I.hok,I.len⟩
theorem uG {N:List Str}(hN:N.Nodup){i j:Nat}{x:Str}(a:N[i]? =some x)(b:N[j]? =some x):i=j:=by
 obtain⟨h1,e1⟩:=X2.mp a
 obtain⟨h2,e2⟩:=X2.mp b
 exact(List.getElem_inj hN).mp (e1.trans e2.symm)
theorem qY {M:Model}{A:Around}{E:Z5}{i:Nat}{x:Str}{v:V}{u:Value}{Q:Unit->Shared->Prop}(I:Inv X pins σ H s)(hN:X.N.Nodup)(hi:X.N[i]? =some x)(hx:Loc X.env.scope x)(r:RelV v u)
  (h:∀s',Inv X pins (σ.set i (some v)) H s'->(∃a,Heap.SameBut a s.heap s'.heap/\(a=X.env.locals∨X.env.cells.lookup x=some a))->Q () s') (hf:X.fn x=true∨X.env.scope.names.lookup x=some .local:=by first | exact .inl rfl | exact .inr rfl | assumption):wpAny M A (storeName X.env x u) Q E s:=by
 obtain⟨m,hn,hl⟩:=id I.loc
 have hcls:(X.env.scope.kind== .class || (X.env.scope.kind== .module && X.env.locals !=X.env.globals))=false:=by rw[I.ok.kind];rfl
 have hiσ:i < σ.length:=by rw[I.len];exact(X2.mp hi).1
 have Gr:=I.Gr
 have tracked:∀{a:Addr} {h':Heap},(∃o,s.heap.get? a=some o/\H a=none)->Heap.SameBut a s.heap h'->og X.prog X.w H h':=λ{a h'} ha hs b ob e=>by
  obtain⟨_,_,hfree⟩:=ha
  refine(I.hok b ob e).stay (λc w' hc q=>(hs.2 c ?_).trans q) (λ_ q=>q) λ_ _ q=>q
  rintro rfl
  rcases hc with rfl | hc
  ·rw[hfree] at e;cases e
  ·rw[hfree] at hc;cases hc
 rcases hx with hk | hk
 ·refine wpAny_storeName_local hk hn (λh' hn' hs=> ?_) hcls
  obtain⟨oL,_,_,hoL,_⟩:=id hn
  refine h _ ⟨I.ok,I.os,I.bare,⟨λb o e n hb hx=> ?_,λb o e n hb hx=> ?_,I.base.free,λb o e hx=> ?_,I.base.tups,I.base.lg,I.base.lJ⟩,⟨_,hn',λj y v' e1 e2 e3=> ?_⟩,λy c e=> ?_,I.free,I.jZ,λp hp=> ?_,tracked ⟨oL,hoL,I.free⟩ hs,by simpa using I.len⟩ ⟨_,hs,.inl rfl⟩
  ·exact(hs.2 b (X1 (X4 (Kv e) I.ok.above))).trans (I.base.keep b o e n hb hx)
  ·obtain⟨sl,e1⟩:=I.base.slot b o e n hb hx
   exact⟨sl,(hs.2 b (X1 (X4 (Kv e) I.ok.above))).trans e1⟩
  ·obtain⟨o',e1⟩:=I.base.there b o e hx
   exact⟨o',(hs.2 b (X1 (X4 (Kv e) I.ok.above))).trans e1⟩
  ·by_cases hj:j=i
   ·subst hj
    rw[hi] at e1;cases e1
    rw[XW hiσ] at e2
    cases e2
    exact⟨u,r,.inl ⟨hk,by simp⟩⟩
   ·rw[XQ (Ne.symm hj)] at e2
    obtain⟨u',r',q⟩:=hl j y v' e1 e2 e3
    refine⟨u',r',?_⟩
    rcases q with⟨k,e⟩ | ⟨k,c,e,z⟩
    ·refine .inl ⟨k,?_⟩
     have:y≠x:=λe=>hj (uG hN e1 (e ▸ hi))
     simp[this,e]
    ·exact .inr ⟨k,c,e,z.sameBut hs (Gr y c e)⟩
  ·obtain⟨w',z⟩:=I.cell y c e
   exact⟨w',z.sameBut hs (Gr y c e)⟩
  ·obtain⟨e,n,ne,nf,d⟩:=I.pin p hp
   exact⟨(hs.2 p.1 ne).trans e,n,ne,nf,d⟩
 ·have hfn:X.fn x=true:=by
   rcases hf with z | z
   ·exact z
   ·rw[z] at hk;cases hk
  obtain⟨c,hc⟩:=I.ok.has x (.inl hk)
  obtain⟨w',z⟩:=I.cell x c hc
  refine wpAny_storeName_cell I.ok.kind hk hc z (λh' hc' hs=> ?_)
  obtain⟨oc,hoc,LN⟩:=id z
  refine h {s with heap:=h'} ⟨I.ok,I.os,I.bare,⟨λb o e n hb hx=> ?_,λb o e n hb hx=> ?_,I.base.free,λb o e hx=> ?_,I.base.tups,I.base.lg,I.base.lJ⟩,⟨m,hn.sameBut hs (Ne.symm (Gr x c hc)),λj y v' e1 e2 e3=> ?_⟩,λy c' e=> ?_,I.free,I.jZ,λp hp=> ?_,tracked ⟨oc,hoc,I.jZ x c hc⟩ hs,by simpa using I.len⟩ ⟨c,hs,.inr hc⟩
  ·exact(hs.2 b (X1 (X4 (Kv e) (I.ok.cab x c hfn hc)))).trans (I.base.keep b o e n hb hx)
  ·obtain⟨sl,e1⟩:=I.base.slot b o e n hb hx
   exact⟨sl,(hs.2 b (X1 (X4 (Kv e) (I.ok.cab x c hfn hc)))).trans e1⟩
  ·obtain⟨o',e1⟩:=I.base.there b o e hx
   exact⟨o',(hs.2 b (X1 (X4 (Kv e) (I.ok.cab x c hfn hc)))).trans e1⟩
  ·by_cases hj:j=i
   ·subst hj
    rw[hi] at e1;cases e1
    rw[XW hiσ] at e2
    cases e2
    exact⟨u,r,.inr ⟨.inl hk,c,hc,hc'⟩⟩
   ·rw[XQ (Ne.symm hj)] at e2
    obtain⟨u',r',q⟩:=hl j y v' e1 e2 e3
    refine⟨u',r',?_⟩
    rcases q with q | ⟨k,c',e,z'⟩
    ·exact .inl q
    ·refine .inr ⟨k,c',e,z'.sameBut hs ?_⟩
     rintro rfl
     exact hj (uG hN e1 (I.ok.inj _ _ _ e hc ▸ hi))
  ·by_cases hcc:c'=c
   ·subst hcc;exact⟨_,hc'⟩
   ·obtain⟨w2,z2⟩:=I.cell y c' e
    exact⟨w2,z2.sameBut hs hcc⟩
  ·obtain⟨e,n,ne,nf,d⟩:=I.pin p hp
   refine⟨(hs.2 p.1 ?_).trans e,n,ne,nf,d⟩
   intro q
   rw[q,hoc] at e
   have q':oc=p.2:=Option.some.inj e
   exact d w' (by rw[←q'];exact LN)
theorem uH {M:Model}{A:Around}{E:Z5}{i:Nat}{x:Str}{v:V}{u:Value}{Q:Unit->Shared->Prop}(I:Inv X pins σ H s)(hN:X.N.Nodup)(hi:X.N[i]? =some x)(hx:Loc X.env.scope x)(r:RelV v u)
  (h:∀s',Inv X pins (σ.set i (some v)) H s'->Q () s') (hf:X.fn x=true∨X.env.scope.names.lookup x=some .local:=by first | exact .inl rfl | exact .inr rfl | assumption):wpAny M A (storeName X.env x u) Q E s :=
 qY I hN hi hx r (λs' I' _=>h s' I') hf
theorem Inv.call' {s':Shared}{ch:List Addr}(I:Inv X pins σ H s)(ho:s'.os=s.os)(u:Un (frs X.stack) ch H H' s.heap s'.heap)(hok:og X.prog X.w H' s'.heap)(hg:AllBare s'.gens)
  (hch:∀b∈ch,(b∈X.ex∨X.s₀.heap.objs.size<=b)/\b≠X.env.locals/\(∀x c,X.env.cells.lookup x=some c->c≠b)/\∀p∈X.pn++pins,p.1≠b):Inv X pins σ H' s':=by
 obtain⟨h',g',d',t',o'⟩:=s'
 have e:o'=s.os:=ho
 subst e
 exact I.call (g':=g') (t':=t') (d':=d') u hok hg hch
end
abbrev XK:=Value->Option Addr->Hp->Prop
abbrev St:=List (Option V)
abbrev VK:=V->Hp->Prop
abbrev TE:=St->Hp->VK->Prop
abbrev TT:=St->Hp->(Bool->Hp->Prop)->Prop
abbrev TA:=St->Hp->(List V->Hp->Prop)->Prop
structure Ends where
 nx:St->Hp->Prop
 rt:VK
 bk:St->Hp->Prop:=λ_ _=>False
 ct:St->Hp->Prop:=λ_ _=>False
abbrev TS:=Ends->St->Hp->Prop
def EP (X:Cx)(pins:List (Addr×Obj))(σ:St)(Q:VK)(u:Value)(s':Shared):Prop:=∃v H',Inv X pins σ H' s'/\RelV v u/\Q v H'
def TP (X:Cx)(pins:List (Addr×Obj))(σ:St)(Q:Bool->Hp->Prop)(b:Bool)(s':Shared):Prop:=∃H',Inv X pins σ H' s'/\Q b H'
def AP (X:Cx)(pins:List (Addr×Obj))(σ:St)(Q:List V->Hp->Prop)(us:List Value)(s':Shared):Prop:=∃vs H',Inv X pins σ H' s'/\Vals vs us/\Q vs H'
def SP (X:Cx)(pins:List (Addr×Obj))(D:Ends)(f:Flow)(s':Shared):Prop :=
 match f with
 | .next=>∃σ' H',Inv X pins σ' H' s'/\D.nx σ' H'
 | .brk=>∃σ' H',Inv X pins σ' H' s'/\D.bk σ' H'
 | .cont=>∃σ' H',Inv X pins σ' H' s'/\D.ct σ' H'
 | .ret u=>∃v σ' H',Inv X pins σ' H' s'/\RelV v u/\D.rt v H'
def PE (X:Cx)(e:Expr)(t:TE):Prop :=
 ∀(pins:List (Addr×Obj)) (s:Shared) (σ:St) (H:Hp) (Q:VK),Inv X pins σ H s->t σ H Q->wpAny (model X.prog X.w) X.A (eval e X.env) (EP X pins σ Q) X.xe s
def PT (X:Cx)(e:Expr)(t:TT):Prop :=
 ∀(pins:List (Addr×Obj)) (s:Shared) (σ:St) (H:Hp) (Q:Bool->Hp->Prop),Inv X pins σ H s->t σ H Q->wpAny (model X.prog X.w) X.A (isTrue e X.env (eval e X.env)) (TP X pins σ Q) X.xe s
def PW (X:Cx)(e:Expr)(t:TT):Prop :=
 ∀(whole:Sem Value) (pins:List (Addr×Obj)) (s:Shared) (σ:St) (H:Hp) (Q:Bool->Hp->Prop),Inv X pins σ H s->t σ H Q->wpAny (model X.prog X.w) X.A (isTrue e X.env whole) (TP X pins σ Q) X.xe s
theorem PW.pt {X:Cx}{e:Expr}{t:TT}(h:PW X e t):PT X e t:=h _
def PA (X:Cx)(es:List Expr)(t:TA):Prop :=
 ∀(pos:Pos) (pins:List (Addr×Obj)) (s:Shared) (σ:St) (H:Hp) (Q:List V->Hp->Prop),Inv X pins σ H s->t σ H Q->wpAny (model X.prog X.w) X.A (spliced (backTo pos (starEach es X.env))) (AP X pins σ Q) X.xe s
def PS (X:Cx)(st:Stmt)(t:TS):Prop :=
 ∀(pins:List (Addr×Obj)) (s:Shared) (σ:St) (H:Hp) (D:Ends),Inv X pins σ H s->t D σ H->wpAny (model X.prog X.w) X.A (exec st X.env) (SP X pins D) X.xe s
def qC (X:Cx)(st:List Stmt)(t:TS):Prop :=
 ∀(pins:List (Addr×Obj)) (s:Shared) (σ:St) (H:Hp) (D:Ends),Inv X pins σ H s->t D σ H->wpAny (model X.prog X.w) X.A (execs st X.env) (SP X pins D) X.xe s
theorem cX {α:Type}{t:Sem α}{Q Q':α->Shared->Prop}{M:Model}{A:Around}{E:Z5}{s:Shared}(h:wpAny M A t Q E s)(hQ:∀a s,Q a s->Q' a s):wpAny M A t Q' E s:=wpAny_mono h hQ λ_ _ x=>x
section
variable {X:Cx}
def kX (i:Nat):TE:=λσ H Q=>∃v,σ[i]? =some (some v)/\Q v H
def tC (v:V):TE:=λ_ H Q=>Q v H
theorem A7 {i:Nat}{x:Str}{pos:Pos}(hN:X.N[i]? =some x)(hv:Li X.env.scope x)(hd:(x==("__debug__":Str))=false:=by decide)(hcd:(x==("__classdict__":Str))=false:=by decide):PE X (.Name x pos) (kX i):=by
 intro pins s σ H Q I h
 obtain⟨v,e,h⟩:=h
 obtain⟨m,hn,hl⟩:=I.loc
 obtain⟨u,r,l⟩:=hl i x v hN e hv
 have fin:EP X pins σ Q u s:=⟨v,H,I,r,h⟩
 rcases l with⟨hk,hm⟩ | ⟨hk,c,hc,hcell⟩
 ·exact wpAny_Name (wpAny_loadName_local I.ok.kind hk hn hm fin) hd
 ·rcases hk with hk | hk
  ·exact wpAny_Name (wpAny_loadName_cell I.ok.kind hk hc hcell fin) hd
  ·exact wpAny_Name (wpAny_loadName_free I.ok.kind hk hc hcell fin hcd) hd
theorem Gs {i j pos}:PE X (.Constant (.int i) j pos) (tC (.int i)):=λ_ _ _ H _ I h=>wpAny_Constant_int ⟨.int i,H,I.tok _,⟨_,rfl⟩,h⟩
theorem Ja {b j pos}:PE X (.Constant (.bool b) j pos) (tC (.bl b)):=λ_ _ _ H _ I h=>Constant_bool ⟨.bl b,H,I,rfl,h⟩
theorem Gu {j pos}:PE X (.Constant .none j pos) (tC .non):=λ_ _ _ H _ I h=>Constant_none ⟨.non,H,I,rfl,h⟩
def Gl (X:Cx)(x:Str):Prop:=X.env.kindOf x=some .globalImplicit
theorem yt {E:Z5}{pins:List (Addr×Obj)}{s:Shared}{σ:St}{H:Hp}{x:Str}{u:Value}{pos:Pos}{Q:Z5}(I:Inv X pins σ H s)(hg:Gl X x)(hm:X.mg x=some u)(h:Q u s)
  (hd:(x==("__debug__":Str))=false:=by decide):wpAny (model X.prog X.w) X.A (eval (.Name x pos) X.env) Q E s :=
 Calls.Name_function_global I.ok.kind hg (Calls.loadGlobal_global (by rw[I.ok.glob];exact I.mod.glob.keeps I.bk) hm h) hd
theorem fM {E:Z5}{pins:List (Addr×Obj)}{s:Shared}{σ:St}{H:Hp}{x:Str}{u:Value}{pos:Pos}{Q:Z5}(I:Inv X pins σ H s)(hg:Gl X x)(hm:X.mg x=none)(hv:bootBuiltins x=some u)(h:Q u s)
  (hn:x≠ "__name__":=by decide) (hd:(x==("__debug__":Str))=false:=by decide):wpAny (model X.prog X.w) X.A (eval (.Name x pos) X.env) Q E s:=by
 obtain⟨mb,h1,h2⟩:=I.mod.blt
 exact Calls.Name_function_global I.ok.kind hg (Calls.loadGlobal_builtin (by rw[I.ok.glob];exact I.mod.glob.keeps I.bk) hm (by rw[I.ok.blt];exact h1.keeps I.bk) ((h2 x hn).trans hv) h) hd
theorem DJ {x:Str}{v:V}{u:Value}{pos:Pos}(hg:Gl X x)(hm:X.mg x=some u)(r:RelV v u)(hd:(x==("__debug__":Str))=false:=by decide):PE X (.Name x pos) (tC v) :=
 λ_ _ _ H _ I h=>yt I hg hm ⟨v,H,I,r,h⟩ hd
theorem oh {x:Str}{v:V}{u:Value}{pos:Pos}(hg:Gl X x)(hm:X.mg x=none)(hv:bootBuiltins x=some u)(r:RelV v u)(hn:x≠ "__name__":=by decide)(hd:(x==("__debug__":Str))=false:=by decide):PE X (.Name x pos) (tC v) :=
 λ_ _ _ H _ I h=>fM I hg hm hv ⟨v,H,I,r,h⟩ hn hd
variable {a b:Expr}{ta tb:TE}{pos:Pos}
def tB (t:TE):TT:=λσ H Q=>t σ H λx H1=>∃c,x= .bl c/\Q c H1
theorem Gv {e:Expr}{t:TE}(h:PE X e t)(he:∀whole,isTrue e X.env whole=(do let v←whole;standAt e.pos;holding [v] (truthy v)):=by intro _;rfl):PT X e (tB t):=by
 intro pins s σ H Q I hw
 refine isTrue_plain (cX (h pins s σ H _ I hw) λv s1 ⟨x,H1,I1,r1,q1⟩=> ?_) (he _)
 obtain⟨d,rfl,q⟩:=q1
 cases r1
 exact wpAny_truthy_bool ⟨H1,I1,q⟩
variable {tA Ll:TT}{rest:List Expr}
def LO (t u:TT):TT:=λσ H Q=>t σ H λc H1=>if c=true then u σ H1 Q else Q false H1
def NO (t u:TT):TT:=λσ H Q=>t σ H λc H1=>if c=true then Q true H1 else u σ H1 Q
def LP (t:TT):TT:=λσ H Q=>t σ H λc H1=>Q (!c) H1
theorem DK (ha:PT X a tA):PW X (.BoolOp .And [a] pos) tA:=by
 intro wh pins s σ H Q I h
 refine isTrue_and (cX (ha pins s σ H Q I h) λc s1 e=> ?_)
 cases c with
 | true=>exact isTrue_and_nil e
 | false=>exact e
theorem Gw (ha:PT X a tA):PW X (.BoolOp .Or [a] pos) tA:=by
 intro wh pins s σ H Q I h
 refine isTrue_or (cX (ha pins s σ H Q I h) λc s1 e=> ?_)
 cases c with
 | false=>exact isTrue_or_nil e
 | true=>exact e
theorem Gy (ha:PT X a tA)(hb:PW X (.BoolOp .And (b :: rest) pos) Ll):PW X (.BoolOp .And (a :: b :: rest) pos) (LO tA Ll):=by
 intro wh pins s σ H Q I h
 refine isTrue_and (cX (ha pins s σ H _ I h) λc s1 ⟨H1,I1,q1⟩=> ?_)
 cases c with
 | true=>exact hb wh pins s1 σ H1 Q I1 q1
 | false=>exact⟨H1,I1,q1⟩
theorem Jb (ha:PT X a tA)(hb:PW X (.BoolOp .Or (b :: rest) pos) Ll):PW X (.BoolOp .Or (a :: b :: rest) pos) (NO tA Ll):=by
 intro wh pins s σ H Q I h
 refine isTrue_or (cX (ha pins s σ H _ I h) λc s1 ⟨H1,I1,q1⟩=> ?_)
 cases c with
 | true=>exact⟨H1,I1,q1⟩
 | false=>exact hb wh pins s1 σ H1 Q I1 q1
theorem Gz (ha:PT X a tA):PT X (.UnaryOp .Not a pos) (LP tA):=by
 intro pins s σ H Q I h
 exact isTrue_not (ha pins s σ H (λc H1=>Q (!c) H1) I h)
def Jc (ta tb:TE):TE:=λσ H Q=>ta σ H λx H1=>∃c,x= .bl c/\if c=true then tb σ H1 Q else Q (.bl false) H1
def Jd (ta:TE):TE:=λσ H Q=>ta σ H λx H1=>∃c,x= .bl c/\Q (.bl (!c)) H1
theorem GA {op}{t:TE}(h:PE X a t):PE X (.BoolOp op [a] pos) t:=λpins s σ H Q I hw=>BoolOp_one (h pins s σ H Q I hw)
theorem GB (ha:PE X a ta)(hb:PE X (.BoolOp .And (b :: rest) pos) tb):PE X (.BoolOp .And (a :: b :: rest) pos) (Jc ta tb):=by
 intro pins s σ H Q I h
 refine BoolOp_and (cX (ha pins s σ H _ I h) λv s1 ⟨x,H1,I1,r1,q1⟩=> ?_)
 obtain⟨c,rfl,q1⟩:=q1
 cases r1
 refine wpAny_truthy_bool ?_
 cases c with
 | true=>exact hb pins s1 σ H1 Q I1 q1
 | false=>exact⟨.bl false,H1,I1,rfl,q1⟩
theorem GC (ha:PE X a ta):PE X (.UnaryOp .Not a pos) (Jd ta):=by
 intro pins s σ H Q I h
 refine UnaryOp_ (cX (ha pins s σ H _ I h) λv s1 ⟨x,H1,I1,r1,q1⟩=> ?_)
 obtain⟨c,rfl,q1⟩:=q1
 cases r1
 exact not_of (wpAny_truthy_bool ⟨.bl (!c),H1,I1,rfl,q1⟩)
def NP (t:TT)(ta tb:TE):TE:=λσ H Q=>t σ H λc H1=>if c=true then ta σ H1 Q else tb σ H1 Q
theorem A8 {c:Expr}(hc:PT X c tA)(ha:PE X a ta)(hb:PE X b tb):PE X (.IfExp c a b pos) (NP tA ta tb):=by
 intro pins s σ H Q I h
 refine wpAny_IfExp (cX (hc pins s σ H _ I h) λd s1 ⟨H1,I1,q1⟩=> ?_)
 cases d with
 | true=>exact ha pins s1 σ H1 Q I1 q1
 | false=>exact hb pins s1 σ H1 Q I1 q1
end
def fU (K:Frag)(H:Hp)(a:Addr)(xs:List V):Prop :=
 Rd H a (.lst xs)∨
  ∃(o:Obj) (its:Array Value) (n:Nat),K.lookup a=some o/\o.cls= .type "list" /\o.dict=none/\o.data= .seq its n/\its.size<=sizeLine/\Vals xs its.toList
def dL (K:Frag)(H:Hp)(a:Addr)(xs:List V):Prop :=
 Rd H a (.tup xs)∨
  ∃(o:Obj) (its:Array Value) (n:Nat),K.lookup a=some o/\o.cls= .type "tuple" /\o.data= .seq its n/\its.size<=sizeLine/\Vals xs its.toList
def LQ:Value->Option V
 | .none=>some .non
 | .bool b=>some (.bl b)
 | .int i _=>some (.int i)
 | .str x _=>some (.str x)
 | .bytes b _=>some (.LJ b)
 | .float b _=>some (.flt b)
 | .ref a=>some (.ref a)
 | .type n=>some (.ty n)
 | _=>none
theorem RelV.abs {x:V}{u:Value}(r:RelV x u):LQ u=some x:=by
 cases x with
 | non=>cases r;rfl
 | bl _=>cases r;rfl
 | int _=>obtain⟨t,rfl⟩:=r;rfl
 | str _=>obtain⟨t,rfl⟩:=r;rfl
 | LJ _=>obtain⟨t,rfl⟩:=r;rfl
 | flt _=>obtain⟨t,rfl⟩:=r;rfl
 | ref _=>cases r;rfl
 | ty _=>cases r;rfl
theorem RelV.inj {x y:V}{u:Value}(r:RelV x u)(q:RelV y u):x=y:=Option.some.inj (r.abs.symm.trans q.abs)
theorem Vals.inj:∀{xs ys:List V} {us:List Value},Vals xs us->Vals ys us->xs=ys
 | _,_,_,.nil,.nil=>rfl
 | _,_,_,.cons r t,.cons r' t'=>by rw[r.inj r',Vals.inj t t']
section
variable {X:Cx}{pins:List (Addr×Obj)}{σ:St}{H:Hp}{s:Shared}{a:Addr}{xs ys:List V}
theorem fU.of {K:Frag}(h:H a=some (.lst xs)):fU K H a xs:=.inl (.inl h)
theorem dL.of {K:Frag}(h:H a=some (.tup xs)):dL K H a xs:=.inl (.inl h)
theorem Inv.list (I:Inv X pins σ H s)(h:fU X.K H a xs):∃its:List Value,Vals xs its/\PlainL s.heap a its.toArray/\xs.length<=sizeLine:=by
 rcases h with h | ⟨o,its,n,hk,hc,hd,hs,hz,r⟩
 ·obtain⟨z,its,n,r,e⟩:=h.ok I.hok
  exact⟨its,r,⟨_,n,e,rfl,rfl,rfl⟩,z⟩
 ·refine⟨its.toList,r,⟨o,n,I.zC a o hk,hc,hd,by simpa using hs⟩,?_⟩
  have e:=r.length
  simp only[Kq] at e
  omega
theorem Inv.tuple (I:Inv X pins σ H s)(h:dL X.K H a xs):∃its:List Value,Vals xs its/\IsTup s.heap a its.toArray/\xs.length<=sizeLine:=by
 rcases h with h | ⟨o,its,n,hk,hc,hs,hz,r⟩
 ·obtain⟨z,its,r,p⟩:=h.ok I.hok
  exact⟨its,r,p,z⟩
 ·refine⟨its.toList,r,⟨o,I.zC a o hk,hc,n,by simpa using hs⟩,?_⟩
  have e:=r.length
  simp only[Kq] at e
  omega
theorem Inv.uI (I:Inv X pins σ H s)(h:fU X.K H a xs)(h':fU X.K H a ys):xs=ys:=by
 obtain⟨its,r,⟨o,n,e,_,_,d⟩,_⟩:=I.list h
 obtain⟨its',r',⟨o',n',e',_,_,d'⟩,_⟩:=I.list h'
 rw[e] at e';cases e'
 rw[d] at d'
 injection d' with d1 _
 have:its=its':=by simpa using congrArg Array.toList d1
 subst this
 exact r.inj r'
theorem Inv.mS (I:Inv X pins σ H s)(h:dL X.K H a xs)(h':dL X.K H a ys):xs=ys:=by
 obtain⟨its,r,⟨o,e,_,n,d⟩,_⟩:=I.tuple h
 obtain⟨its',r',⟨o',e',_,n',d'⟩,_⟩:=I.tuple h'
 rw[e] at e';cases e'
 rw[d] at d'
 injection d' with d1 _
 have:its=its':=by simpa using congrArg Array.toList d1
 subst this
 exact r.inj r'
end
abbrev Cx.wish (X:Cx)(E:Z5):Cx:={X with xe:=E}
abbrev Cx.A1 (X:Cx):Cx:=X.wish λ_ _=>False
theorem Cx.Ok.wish {X:Cx}(ok:X.Ok)(E:Z5):(X.wish E).Ok :=
 ⟨ok.mod,ok.kind,ok.glob,ok.blt,ok.above,ok.inj,ok.has,ok.cab,ok.hd,ok.frames,ok.stk,ok.IM,ok.bs,ok.zB,ok.wY,ok.wZ,ok.lh,ok.Dx⟩
theorem Cx.Ok.iT {X:Cx}{E:Z5}(ok:(X.wish E).Ok):X.Ok :=
 ⟨ok.mod,ok.kind,ok.glob,ok.blt,ok.above,ok.inj,ok.has,ok.cab,ok.hd,ok.frames,ok.stk,ok.IM,ok.bs,ok.zB,ok.wY,ok.wZ,ok.lh,ok.Dx⟩
section
variable {X:Cx}{pins:List (Addr×Obj)}{σ:St}{H:Hp}{s:Shared}{E:Z5}
theorem Inv.wish (I:Inv X pins σ H s)(E:Z5):Inv (X.wish E) pins σ H s:=⟨I.ok.wish E,I.os,I.bare,I.base,I.loc,I.cell,I.free,I.jZ,I.pin,I.hok,I.len⟩
theorem Inv.iT (I:Inv (X.wish E) pins σ H s):Inv X pins σ H s:=⟨I.ok.iT,I.os,I.bare,I.base,I.loc,I.cell,I.free,I.jZ,I.pin,I.hok,I.len⟩
theorem SP.iT {D:Ends}{f:Flow}{s':Shared}(h:SP (X.wish E) pins D f s'):SP X pins D f s':=by
 cases f with
 | next=>obtain⟨σ',H',I,q⟩:=h;exact⟨σ',H',I.iT,q⟩
 | brk=>obtain⟨σ',H',I,q⟩:=h;exact⟨σ',H',I.iT,q⟩
 | cont=>obtain⟨σ',H',I,q⟩:=h;exact⟨σ',H',I.iT,q⟩
 | ret u=>obtain⟨v,σ',H',I,r,q⟩:=h;exact⟨v,σ',H',I.iT,r,q⟩
theorem PE.A1 {e:Expr}{t:TE}(h:PE X.A1 e t):PE X e t:=λpins s σ H Q I hw=>
 wpAny_mono (h pins s σ H Q (I.wish _) hw) (λ_ _ ⟨v,H',I',r,q⟩=>⟨v,H',I'.iT,r,q⟩) λ_ _ z=>False.elim z
theorem PT.A1 {e:Expr}{t:TT}(h:PT X.A1 e t):PT X e t:=λpins s σ H Q I hw=>
 wpAny_mono (h pins s σ H Q (I.wish _) hw) (λ_ _ ⟨H',I',q⟩=>⟨H',I'.iT,q⟩) λ_ _ z=>False.elim z
theorem qC.A1 {st:List Stmt}{t:TS}(h:qC X.A1 st t):qC X st t:=λpins s σ H D I hw=>
 wpAny_mono (h pins s σ H D (I.wish _) hw) (λ_ _ q=>q.iT) λ_ _ z=>False.elim z
end
section
variable {X:Cx}{st:Stmt}{rest:List Stmt}{t u:TS}{e:Expr}{te:TE}{pos:Pos}
def Je:TS:=λD σ H=>D.nx σ H
def LR (t u:TS):TS:=λD σ H=>t {D with nx:=u D} σ H
theorem yu:qC X [] Je:=λ_ _ σ H _ I h=>wpAny_execs_nil ⟨σ,H,I,h⟩
theorem oJ (h1:PS X st t)(h2:qC X rest u):qC X (st :: rest) (LR t u):=by
 intro pins s σ H D I h
 refine wpAny_execs_cons (cX (h1 pins s σ H {D with nx:=u D} I h) λf s1 q=> ?_)
 cases f with
 | next=>
  obtain⟨σ',H',I',q⟩:=q
  exact h2 pins s1 σ' H' D I' q
 | ret v=>exact q
 | brk=>exact q
 | cont=>exact q
theorem sJ (h1:PS X st t):qC X [st] t:=by
 intro pins s σ H D I h
 refine wpAny_execs_cons (cX (h1 pins s σ H D I h) λf s1 q=> ?_)
 cases f with
 | next=>exact wpAny_execs_nil q
 | ret v=>exact q
 | brk=>exact q
 | cont=>exact q
theorem Inv.quiet {pins:List (Addr×Obj)}{σ:St}{H:Hp}{s:Shared}(I:Inv X pins σ H s):interactive X.env=false:=by simp[interactive,I.ok.kind]
def Jf (te:TE):TS:=λD σ H=>te σ H λ_ H1=>D.nx σ H1
theorem kE (he:PE X e te)(hs:swapsWith e none pos.line X.env=pure false:=by rfl):PS X (.Expr e pos) (Jf te):=by
 intro pins s σ H D I h
 exact wpAny_Expr_any (cX (he pins s σ H _ I h) λv s1 ⟨x,H1,I1,r1,q1⟩=>⟨σ,H1,I1,q1⟩) I.quiet hs
def LS (te:TE):TS:=λD σ H=>te σ H D.rt
theorem A9 (he:PE X e te):PS X (.Return (some e) pos) (LS te):=by
 intro pins s σ H D I h
 exact wpAny_Return_some (cX (he pins s σ H _ I h) λv s1 ⟨x,H1,I1,r1,q1⟩=>⟨x,σ,H1,I1,r1,q1⟩)
def LU (c:TT)(t u:TS):TS:=λD σ H=>c σ H λb H1=>if b=true then t D σ H1 else u D σ H1
theorem FL {c:Expr}{a b:List Stmt}{tc:TT}(hc:PT X c tc)(ha:qC X a t)(hb:qC X b u):PS X (.If c a b pos) (LU tc t u):=by
 intro pins s σ H D I h
 refine wpAny_If (cX (hc pins s σ H _ I h) λd s1 ⟨H1,I1,q1⟩=> ?_)
 cases d with
 | true=>exact ha pins s1 σ H1 D I1 q1
 | false=>exact hb pins s1 σ H1 D I1 q1
def GD:TS:=λ_ _ _=>False
theorem A_:PS X st GD:=λ_ _ _ _ _ _ h=>h.elim
end
abbrev TG:=V->St->Hp->(St->Hp->Prop)->Prop
abbrev FN:=List V->St->Hp->(St->Hp->Prop)->Prop
def PG (X:Cx)(target:Expr)(t:TG):Prop :=
 ∀(pins:List (Addr×Obj)) (s:Shared) (σ:St) (H:Hp) (v:V) (u:Value) (Q:St->Hp->Prop),Inv X pins σ H s->RelV v u->t v σ H Q->
  wpAny (model X.prog X.w) X.A (assign target X.env u) (λ_ s'=>∃σ' H',Inv X pins σ' H' s'/\Q σ' H') X.xe s
def IN (X:Cx)(ts:List Expr)(t:FN):Prop :=
 ∀(pins:List (Addr×Obj)) (s:Shared) (σ:St) (H:Hp) (vs:List V) (us:List Value) (Q:St->Hp->Prop),Inv X pins σ H s->Vals vs us->t vs σ H Q->
  wpAny (model X.prog X.w) X.A (assignInOrder ((assignEach ts X.env).map (·.2)) us) (λ_ s'=>∃σ' H',Inv X pins σ' H' s'/\Q σ' H') X.xe s
abbrev GG:=V->V->V->Hp->(Hp->Prop)->Prop
def GH (X:Cx)(t:GG):Prop :=
 ∀(pins:List (Addr×Obj)) (s:Shared) (σ:St) (H:Hp) (o i v:V) (ov iv u:Value) (Q:Hp->Prop),Inv X pins σ H s->RelV o ov->RelV i iv->RelV v u->t o i v H Q->
  wpAny (model X.prog X.w) X.A (setItem ov iv u) (λ_ s'=>∃H',Inv X pins σ H' s'/\Q H') X.xe s
section
variable {X:Cx}{pos:Pos}
def uJ (i:Nat):TG:=λv σ H Q=>Q (σ.set i (some v)) H
theorem bz {i:Nat}{x:Str}(hN:X.N.Nodup)(hi:X.N[i]? =some x)(hx:Loc X.env.scope x)(hf:X.fn x=true∨X.env.scope.names.lookup x=some .local:=by first | exact .inl rfl | exact .inr rfl | assumption):PG X (.Name x pos) (uJ i):=by
 intro pins s σ H v u Q I r h
 exact wpAny_assign_Name (uH I hN hi hx r (λs' I'=>⟨_,H,I',h⟩) hf)
def Jg:FN:=λvs σ H Q=>vs=[]/\Q σ H
def FO (t:TG)(u:FN):FN:=λvs σ H Q=>∃v r,vs=v :: r/\t v σ H λσ' H'=>u r σ' H' Q
theorem iE:IN X [] Jg:=by
 intro pins s σ H vs us Q I r h
 obtain⟨e,h⟩:=h
 subst e
 cases r
 exact assignInOrder_nil ⟨σ,H,I,h⟩
theorem br {e:Expr}{es:List Expr}{t:TG}{u:FN}(h1:PG X e t)(h2:IN X es u)
  (hs:(assignEach (e :: es) X.env).map (·.2)=assign e X.env :: (assignEach es X.env).map (·.2):=by rfl):IN X (e :: es) (FO t u):=by
 intro pins s σ H vs us Q I r h
 obtain⟨v,vr,e1,h⟩:=h
 subst e1
 cases r with
 | cons r rr=>
  rw[hs]
  refine assignInOrder_cons (cX (h1 pins s σ H _ _ _ I r h) λ_ s1 ⟨σ1,H1,I1,q1⟩=> ?_)
  exact h2 pins s1 σ1 H1 _ _ Q I1 rr q1
def LV (K:Frag)(n:Nat)(t:FN):TG:=λv σ H Q=>∃a xs,v= .ref a/\dL K H a xs/\xs.length=n/\t xs σ H Q
theorem Ba {es:List Expr}{k:Nat}{t:FN}{n:Nat}(hc:X.calm=true)(h:IN X es t)
  (hn:(assignEach es X.env).length=n:=by rfl) (hst:(assignEach es X.env).findIdx? (·.1)=none:=by rfl):PG X (.Tuple es k pos) (LV X.K n t):=by
 intro pins s σ H v u Q I r hw
 obtain⟨a,xs,e1,hq,hl,hw⟩:=hw
 subst e1
 cases r
 obtain⟨its,rv,ht,hz⟩:=I.tuple hq
 refine assign_Tuple_tuple (I.ok.hd hc) ht (by simp[hn,←hl,rv.length]) hst λh' hx=> ?_
 have I1:Inv X pins σ H {s with heap:=h'}:=I.kept (t':=s.toks) λb o e=>hx b o (X1 (Kv e)) e
 exact h pins _ σ H xs _ Q I1 (by simpa using rv) hw
def qE (to ti:TE)(t:GG):TG:=λv σ H Q=>to σ H λo H1=>ti σ H1 λi H2=>t o i v H2 λH3=>Q σ H3
theorem w9 {o i:Expr}{to ti:TE}{t:GG}(ho:PE X o to)(hi:PE X i ti)(hs:GH X t)
  (ha:∀v,assign (.Subscript o i pos) X.env v=(do
   let ov←holding [v] (eval o X.env)
   let iv←holding [v,ov] (eval i X.env)
   standAt pos
   holding [v,ov,iv] (setItem ov iv v)
   release [v,ov,iv] []):=by intro _;rfl):PG X (.Subscript o i pos) (qE to ti t):=by
 intro pins s σ H v u Q I r h
 rw[ha]
 refine JY (Z9 (cX (ho pins s σ H _ I h) λov s1 ⟨x,H1,I1,r1,q1⟩=> ?_))
 refine JY (Z9 (cX (hi pins s1 σ H1 _ I1 q1) λiv s2 ⟨y,H2,I2,r2,q2⟩=> ?_))
 refine JY (wpAny_standAt (JY (Z9 (cX (hs pins s2 σ H2 x y v ov iv u _ I2 r1 r2 r q2) λ_ s3 ⟨H3,I3,q3⟩=> ?_))))
 exact wpAny_release ⟨σ,H3,I3,q3⟩
def GJ (te:TE)(g:TG):TS:=λD σ H=>te σ H λx H1=>g x σ H1 D.nx
theorem sK {tg e:Expr}{te:TE}{g:TG}(he:PE X e te)(hg:PG X tg g)(hs:swapsWithSole [tg] e pos.line X.env=pure false:=by rfl)(hw:swappedStores [tg] e X.env=pure none:=by rfl)
  (h1:(assignEach [tg] X.env).map (·.2)=[assign tg X.env]:=by rfl):PS X (.Assign [tg] e pos) (GJ te g):=by
 intro pins s σ H D I h
 refine wpAny_Assign_stores (cX (he pins s σ H _ I h) λv s1 ⟨x,H1,I1,r1,q1⟩=> ?_) hs hw
 rw[h1]
 exact cX (hg pins s1 σ H1 x v _ I1 r1 q1) λ_ s2 q=>q
theorem w_ {i:Nat}{x:Str}{e:Expr}{te:TE}{pos':Pos}(hN:X.N.Nodup)(hi:X.N[i]? =some x)(hx:Loc X.env.scope x)(he:PE X e te)(hs:swapsWith e (some (.Name x pos')) pos.line X.env=pure false:=by rfl)(hf:X.fn x=true∨X.env.scope.names.lookup x=some .local:=by first | exact .inl rfl | exact .inr rfl | assumption) :
  PS X (.Assign [.Name x pos'] e pos) (GJ te (uJ i)):=by
 intro pins s σ H D I h
 refine wpAny_Assign_Name (cX (he pins s σ H _ I h) λv s1 ⟨y,H1,I1,r1,q1⟩=> ?_) hs
 exact uH I1 hN hi hx r1 (λs2 I2=>⟨_,H1,I2,q1⟩) hf
end
section
variable {X:Cx}{pos:Pos}
def GK (c:TT)(tb:TS):TS:=λD σ H=>∃W:Nat->St->Hp->Prop,(∃m,W m σ H)/\∀m σ H,W m σ H->
 c σ H λb H1=>if b=true then∃N:St->Hp->Prop,(∀σ' H',N σ' H'->∃m',m' < m/\W m' σ' H')/\tb {D with nx:=N,ct:=N,bk:=D.nx} σ H1 else D.nx σ H1
theorem Bb {c:Expr}{body:List Stmt}{tc:TT}{tb:TS}(hp:PassesOwn (model X.prog X.w) X.A X.env X.xe)(hc:PT X c tc)(hb:qC X body tb):PS X (.While c body [] pos) (GK tc tb):=by
 intro pins s σ H D I h
 obtain⟨W,⟨m0,w0⟩,turn⟩:=h
 refine wpAny_While (codeAny_whileLoop (λn s'=>∃σ' H',Inv X pins σ' H' s'/\W n σ' H') ?_ m0 ⟨σ,H,I,w0⟩)
 rintro n s1 ⟨σ1,H1,I1,w1⟩
 refine wpAny_passesOwn hp (cX (hc pins s1 σ1 H1 _ I1 (turn n σ1 H1 w1)) λb s2 ⟨H2,I2,q2⟩=> ?_)
 cases b with
 | true=>
  obtain⟨N,hN,q2⟩:=q2
  rw[JW rfl]
  refine wpAny_passesOwn hp (cX (hb pins s2 σ1 H2 _ I2 q2) λf s3 q3=> ?_)
  cases f with
  | next=>
   obtain⟨σ3,H3,I3,n3⟩:=q3
   obtain⟨m',hm,w3⟩:=hN σ3 H3 n3
   exact⟨m',hm,σ3,H3,I3,w3⟩
  | cont=>
   obtain⟨σ3,H3,I3,n3⟩:=q3
   obtain⟨m',hm,w3⟩:=hN σ3 H3 n3
   exact⟨m',hm,σ3,H3,I3,w3⟩
  | brk=>exact q3
  | ret v=>exact q3
 | false=>
  rw[JZ K5]
  exact wpAny_execs_nil ⟨σ1,H2,I2,q2⟩
end
structure It where
 go:Nat->Hp->Prop
 Jh:Nat->Hp->V->Hp->Prop
 stop:Nat->Hp->Prop
def oK (X:Cx)(pins:List (Addr×Obj))(H:Hp)(b:Addr):Prop :=
 H b=none/\b≠X.env.locals/\b∉X.fs/\(b∈X.ex∨X.s₀.heap.objs.size<=b)/\(∀x c,X.env.cells.lookup x=some c->c≠b)/\∀p∈X.pn++pins,p.1≠b
theorem Inv.nM {X:Cx}{pins:List (Addr×Obj)}{σ:St}{H H':Hp}{s:Shared}{b:Addr}(I:Inv X pins σ H s)(hb:s.heap.objs.size<=b)(hn:H' b=none):oK X pins H' b:=by
 refine⟨hn,UK (X4 I.lt hb),I.LM hb,.inr (KY I.sz hb),λx c e z=> ?_,λp hp z=> ?_⟩
 ·obtain⟨v,q⟩:=I.cell x c e
  exact absurd (X4 q.lt (by rw[z];exact hb)) (U5 _)
 ·exact absurd (X4 (Kv (I.pin p hp).1) (by rw[z];exact hb)) (U5 _)
structure Turn (P:Program)(w:World)(K:Frag)(tg:Expr)(J:It)(fp:List Addr)(it:Addr)(tn:Nat->Heap->Prop):Prop where
 mem:it∈fp
 obj:∀i h,tn i h->∀b∈fp,∃o,h.get? b=some o/\∀v,o.data≠ .cell v
 keep:∀i h h',tn i h->(∀b∈fp,∀o,h.get? b=some o->h'.get? b=some o)->tn i h'
 item:∀(X:Cx),X.prog=P->X.w=w->X.K=K->X.calm=true->∀(i:Nat) (pins:List (Addr×Obj)) (s:Shared) (σ:St) (H:Hp) (E:Z5),Inv X pins σ H s->(∀b∈fp,oK X pins H b)->tn i s.heap->J.go i H->
  wpAny (model P w) X.A (pyNext (.ref it)) (λr s1=>∃u,r=some u/\
   wpAny (model P w) X.A (letOwnedTupleGo tg (.ref it) u) (λ_ s2=>∃x H',Inv X pins σ H' s2/\RelV x u/\J.Jh i H x H'/\tn (i+1) s2.heap/\∀b∈fp,H' b=none) E s1) E s
 done:∀(X:Cx),X.prog=P->X.w=w->X.K=K->X.calm=true->∀(i:Nat) (pins:List (Addr×Obj)) (s:Shared) (σ:St) (H:Hp) (E:Z5),Inv X pins σ H s->(∀b∈fp,oK X pins H b)->tn i s.heap->J.stop i H->
  wpAny (model P w) X.A (pyNext (.ref it)) (λr s1=>r=none/\Inv X pins σ H s1) E s
 self:∀(A:Around) (i:Nat) (s:Shared) (Q:Z5) (E:Z5),tn i s.heap->Q (.ref it) s->wpAny (model P w) A (pyIter (.ref it)) Q E s
abbrev TI:=St->Hp->(It->Hp->Prop)->Prop
def PIE (X:Cx)(pins:List (Addr×Obj))(σ:St)(tg:Expr)(R:It->Hp->Prop)(itv:Value)(s2:Shared):Prop :=
 ∃(it:Addr) (fp:List Addr) (tn:Nat->Heap->Prop) (J:It) (H':Hp),itv= .ref it/\Inv X pins σ H' s2/\Turn X.prog X.w X.K tg J fp it tn/\tn 0 s2.heap/\(∀b∈fp,oK X pins H' b)/\R J H'
def PI (X:Cx)(tg iter:Expr)(wi:TI):Prop :=
 ∀(pins:List (Addr×Obj)) (s:Shared) (σ:St) (H:Hp) (R:It->Hp->Prop),Inv X pins σ H s->wi σ H R->
  wpAny (model X.prog X.w) X.A (eval iter X.env) (λv s1=>wpAny (model X.prog X.w) X.A (pyIter v) (PIE X pins σ tg R) X.xe s1) X.xe s
theorem yv {M:Model}{A:Around}{E:Z5}{s:Shared}{tg:Expr}{it:Addr}{u:Value}{o:Obj}{n:String}{vs:Array Value}{Q:Unit->Shared->Prop}(ho:s.heap.get? it=some o)(hc:o.cls= .type n)(hd:o.data= .fields vs)
  (hn:["enumerate","zip","dict_itemiterator","dict_reverseitemiterator","odict_iterator","itertools.zip_longest","itertools.pairwise"].contains n=false) (hQ:Q () s):wpAny M A (letOwnedTupleGo tg (.ref it) u) Q E s:=by
 unfold letOwnedTupleGo
 cases tg <;> first
  | exact JJ hQ
  | (cases u <;> first
    | exact JJ hQ
    | (
      refine JY (wpAny_load ho ?_)
      rw[hc,hd]
      show wpAny M A (if (["enumerate","zip","dict_itemiterator","dict_reverseitemiterator","odict_iterator","itertools.zip_longest","itertools.pairwise"].contains n && vs[0]? ==some (rawInt _))=true then _ else _) Q E s
      rw[JZ (by intro h;rw[hn,YQ] at h;cases h)]
      exact JJ hQ))
def LW (K:Frag)(a:Addr):It :=
 ⟨λi H=>∃xs x,fU K H a xs/\xs[i]? =some x,λi H x H'=>H'=H/\∀xs,fU K H a xs->xs[i]? =some x,λi H=>∃xs,fU K H a xs/\xs.length<=i⟩
def LX (K:Frag)(a:Addr):It :=
 ⟨λi H=>∃xs x,dL K H a xs/\xs[i]? =some x,λi H x H'=>H'=H/\∀xs,dL K H a xs->xs[i]? =some x,λi H=>∃xs,dL K H a xs/\xs.length<=i⟩
def Lm (lo:Int)(n:Nat):It:=⟨λi _=>i < n,λi H x H'=>H'=H/\x= .int (lo+i),λi _=>n<=i⟩
theorem zD {P:Program}{w:World}{K:Frag}{tg:Expr}(a it:Addr):Turn P w K tg (LW K a) [it] it (λi h=>h.IsListIter it a i) where
 mem:=by simp
 obj:=λi h st b hb=>by
  have e:b=it:=by simpa using hb
  subst e
  obtain⟨o,e,c,d⟩:=st
  exact⟨o,e,λv z=>by rw[d] at z;cases z⟩
 keep:=λi h h' st k=>st.at λo e=>k it (by simp) o e
 item:=by
  intro X hP hw hK hc i pins s σ H E I hf st hg
  subst hP hw hK
  obtain⟨xs,x,hq,hx⟩:=hg
  obtain⟨its,rv,p,hz⟩:=I.list hq
  obtain⟨u,hu,ru⟩:=rv.get hx
  obtain⟨f0,f1,f2,f3,f4,f5⟩:=hf it (by simp)
  refine wpAny_pyNext_list_item st p.isList (x:=u) (by simpa using hu) λh' st' sb=> ?_
  have I1:Inv X pins σ H {s with heap:=h'}:=I.turned (t':=s.toks) (λb o hb e=>(sb.2 b hb).trans e) f0 f1 f3 f4 f5
  obtain⟨o,e,c,d⟩:=id st'
  exact⟨u,rfl,yv (s:={s with heap:=h'}) e c d (by decide) ⟨x,H,I1,ru,⟨rfl,λys hy=>by rw[I.uI hy hq];exact hx⟩,st',λb hb=>(hf b hb).1⟩⟩
 done:=by
  intro X hP hw hK hc i pins s σ H E I hf st hg
  subst hP hw hK
  obtain⟨xs,hq,hx⟩:=hg
  obtain⟨its,rv,p,hz⟩:=I.list hq
  obtain⟨f0,f1,f2,f3,f4,f5⟩:=hf it (by simp)
  have hl:=rv.length
  exact wpAny_pyNext_list_end (I.ok.hd hc) st p.isList (by simp;omega) λh' eb=>⟨rfl,I.turned (t':=s.toks) (λb o hb e=>eb b o hb e) f0 f1 f3 f4 f5⟩
 self:=λ_ _ _ _ _ st h=>wpAny_pyIter_listiter st h
theorem xa {P:Program}{w:World}{K:Frag}{tg:Expr}(a it:Addr):Turn P w K tg (LX K a) [it] it (λi h=>h.IsTupleIter it a i) where
 mem:=by simp
 obj:=λi h st b hb=>by
  have e:b=it:=by simpa using hb
  subst e
  obtain⟨o,e,c,d⟩:=st
  exact⟨o,e,λv z=>by rw[d] at z;cases z⟩
 keep:=λi h h' st k=>st.at λo e=>k it (by simp) o e
 item:=by
  intro X hP hw hK hc i pins s σ H E I hf st hg
  subst hP hw hK
  obtain⟨xs,x,hq,hx⟩:=hg
  obtain⟨its,rv,p,hz⟩:=I.tuple hq
  obtain⟨u,hu,ru⟩:=rv.get hx
  obtain⟨f0,f1,f2,f3,f4,f5⟩:=hf it (by simp)
  refine wpAny_pyNext_tuple_item st (show s.heap.IsTuple a its.toArray from p) (x:=u) (by simpa using hu) λh' st' sb=> ?_
  have I1:Inv X pins σ H {s with heap:=h'}:=I.turned (t':=s.toks) (λb o hb e=>(sb.2 b hb).trans e) f0 f1 f3 f4 f5
  obtain⟨o,e,c,d⟩:=id st'
  exact⟨u,rfl,yv (s:={s with heap:=h'}) e c d (by decide) ⟨x,H,I1,ru,⟨rfl,λys hy=>by rw[I.mS hy hq];exact hx⟩,st',λb hb=>(hf b hb).1⟩⟩
 done:=by
  intro X hP hw hK hc i pins s σ H E I hf st hg
  subst hP hw hK
  obtain⟨xs,hq,hx⟩:=hg
  obtain⟨its,rv,p,hz⟩:=I.tuple hq
  obtain⟨f0,f1,f2,f3,f4,f5⟩:=hf it (by simp)
  have hl:=rv.length
  exact wpAny_pyNext_tuple_end (I.ok.hd hc) st (show s.heap.IsTuple a its.toArray from p) (by simp;omega) λh' eb=>⟨rfl,I.turned (t':=s.toks) (λb o hb e=>eb b o hb e) f0 f1 f3 f4 f5⟩
 self:=λ_ _ _ _ _ st h=>wpAny_pyIter_tupleiter st h
theorem xb {P:Program}{w:World}{K:Frag}{tg:Expr}(it:Addr)(lo:Int)(n:Nat):Turn P w K tg (Lm lo n) [it] it (λi h=>IsRangeIter h it (lo+(i:Nat)*1) ((n:Int) - (i:Nat)) 1) where
 mem:=by simp
 obj:=λi h st b hb=>by
  have e:b=it:=by simpa using hb
  subst e
  exact⟨_,st,λv z=>by
   have z':Data.fields _=Data.cell v:=z
   cases z'⟩
 keep:=λi h h' st k=>k it (by simp) _ st
 item:=by
  intro X hP hw hK hc i pins s σ H E I hf st hg
  subst hP hw hK
  obtain⟨f0,f1,f2,f3,f4,f5⟩:=hf it (by simp)
  have W:=Walks.range (prog:=X.prog) (w:=X.w) (I.ok.hd hc) it lo 1 n
  refine W.item i s _ _ hg st λv h' tk hv st' kk=> ?_
  obtain⟨t,rfl⟩:=hv
  have I1:Inv X pins σ H {s with heap:=h',toks:=tk}:=I.turned (λb o hb e=>kk b o (by simpa using hb) e) f0 f1 f3 f4 f5
  refine⟨_,rfl,yv (s:={s with heap:=h',toks:=tk}) (n:="range_iterator") st' rfl rfl (by decide) ⟨.int (lo+i),H,I1,⟨t,?_⟩,⟨rfl,rfl⟩,st',λb hb=>(hf b hb).1⟩⟩
  rw[Int.mul_one]
 done:=by
  intro X hP hw hK hc i pins s σ H E I hf st hg
  subst hP hw hK
  obtain⟨f0,f1,f2,f3,f4,f5⟩:=hf it (by simp)
  exact wpAny_pyNext_range_end (I.ok.hd hc) st (by have:n<=i:=hg;omega) λh' eb=>⟨rfl,I.turned (t':=s.toks) (λb o hb e=>eb b o hb e) f0 f1 f3 f4 f5⟩
 self:=λ_ _ _ _ _ st h=>wpAny_pyIter_rangeiter st h
section
variable {X:Cx}{tg:Expr}
def Ji (K:Frag)(tl:TE):TI:=λσ H R=>tl σ H λx H1=>∃a,x= .ref a/\(∃xs,fU K H1 a xs)/\R (LW K a) H1
def LY (K:Frag)(tl:TE):TI:=λσ H R=>tl σ H λx H1=>∃a,x= .ref a/\(∃xs,dL K H1 a xs)/\R (LX K a) H1
theorem yw {l:Expr}{tl:TE}(hl:PE X l tl):PI X tg l (Ji X.K tl):=by
 intro pins s σ H R I h
 refine cX (hl pins s σ H _ I h) λv s1 ⟨x,H1,I1,r1,q1⟩=> ?_
 obtain⟨a,e,⟨xs,hq⟩,q⟩:=q1
 subst e
 cases r1
 obtain⟨its,rv,p,hz⟩:=I1.list hq
 refine wpAny_pyIter_list p.isList ?_
 refine⟨s1.heap.objs.size,[s1.heap.objs.size],_,_,H1,rfl,I1.kept (t':=s1.toks) λb o e=>K6 _ e,zD a _,⟨_,Ky _ rfl,rfl,rfl⟩,λb hb=> ?_,q⟩
 have e:b=s1.heap.objs.size:=by simpa using hb
 subst e
 exact I1.nM (K1 _) (I1.hok.fresh (K1 _))
theorem GL {l:Expr}{tl:TE}(hl:PE X l tl):PI X tg l (LY X.K tl):=by
 intro pins s σ H R I h
 refine cX (hl pins s σ H _ I h) λv s1 ⟨x,H1,I1,r1,q1⟩=> ?_
 obtain⟨a,e,⟨xs,hq⟩,q⟩:=q1
 subst e
 cases r1
 obtain⟨its,rv,p,hz⟩:=I1.tuple hq
 refine wpAny_pyIter_tuple (show s1.heap.IsTuple a its.toArray from p) ?_
 refine⟨s1.heap.objs.size,[s1.heap.objs.size],_,_,H1,rfl,I1.kept (t':=s1.toks) λb o e=>K6 _ e,xa a _,⟨_,Ky _ rfl,rfl,rfl⟩,λb hb=> ?_,q⟩
 have e:b=s1.heap.objs.size:=by simpa using hb
 subst e
 exact I1.nM (K1 _) (I1.hok.fresh (K1 _))
theorem Bc {pins:List (Addr×Obj)}{σ:St}{H:Hp}{s:Shared}{R:It->Hp->Prop}{E:Z5}{lo hi:Int}{t u v:Tok}{tk:Nat}(I:Inv X pins σ H s)(h1:-(2^62)<=lo)(h2:lo < 2^62)(h3:-(2^62)<=hi)(h4:hi < 2^62)
  (q:R (Lm lo (hi - lo).toNat) H):wpAny (model X.prog X.w) X.A (pyIter (.ref s.heap.objs.size)) (PIE X pins σ tg R) E {s with heap:=s.heap.push {cls:=.type "range",data:=.fields #[.int lo t,.int hi u,.int 1 v]},toks:=tk}:=by
 refine wpAny_pyIter_range (IsRange.new ..) (small_one h1 h2 h3 h4) ?_
 have I1:Inv X pins σ H {s with heap:=s.heap.push {cls:=.type "range",data:=.fields #[.int lo t,.int hi u,.int 1 v]},toks:=tk}:=I.kept λb o e=>K6 _ e
 refine⟨(s.heap.push {cls:=.type "range",data:=.fields #[.int lo t,.int hi u,.int 1 v]}).objs.size,[(s.heap.push {cls:=.type "range",data:=.fields #[.int lo t,.int hi u,.int 1 v]}).objs.size],_,_,H,rfl,
  I1.kept (t':=tk) λb o e=>K6 _ e,xb _ lo (hi - lo).toNat,?_,λb hb=> ?_,q⟩
 ·have e1:lo+((0:Nat):Int)*1=lo:=by simp
  have e2:(((hi - lo).toNat:Nat):Int) - ((0:Nat):Int)=Builtin.Range.rangeSize lo hi 1:=by rw[rangeSize_one];split <;> omega
  show IsRangeIter _ _ (lo+((0:Nat):Int)*1) ((((hi - lo).toNat:Nat):Int) - ((0:Nat):Int)) 1
  rw[e1,e2]
  exact Ky _ rfl
 ·have e:b=(s.heap.push {cls:=.type "range",data:=.fields #[.int lo t,.int hi u,.int 1 v]}).objs.size:=by simpa using hb
  subst e
  exact I1.nM (K1 _) (I1.hok.fresh (K1 _))
def Jl (ta:TA):TI:=λσ H R=>ta σ H λvs H1=>∃j:Int,vs=[.int j]/\ -(2^62)<=j/\j < 2^62/\R (Lm 0 j.toNat) H1
theorem zE {a:Expr}{ta:TA}{p pos:Pos}(hg:Gl X "range")(hm:X.mg "range" =none)(ha:PA X [a] ta)(hs:starEach [a] X.env=[(false,eval a X.env)]:=by rfl):PI X tg (.Call (.Name "range" p) [a] [] pos) (Jl ta):=by
 intro pins s σ H R I h
 refine Call_ (fM I hg hm boot_range (PyProof.Rows.callWith_type1 (cX (ha pos pins s σ H _ I h) λus s1 ⟨vs,H1,I1,r1,q1⟩=> ?_) hs rfl))
 obtain⟨j,e,q1,q2,q⟩:=q1
 subst e
 cases r1 with
 | cons r rr=>
  cases rr
  obtain⟨t,rfl⟩:=r
  exact call_range_1 (Bc I1 (!1) (!1) q1 q2 (by simpa using q))
def LZ (wi:TI)(g:TG)(tb:TS):TS:=λD σ H=>wi σ H λJ H1=>∃W:Nat->Nat->St->Hp->Prop,(∃m,W 0 m σ H1)/\∀i m σ H,W i m σ H->
 (J.stop i H/\D.nx σ H)∨(J.go i H/\∃N:St->Hp->Prop,(∀σ' H',N σ' H'->∃m',m' < m/\W (i+1) m' σ' H')/\∀x H',J.Jh i H x H'->g x σ H' λσ2 H2=>tb {D with nx:=N,ct:=N,bk:=D.nx} σ2 H2)
def oM (fp:List Addr)(h:Heap):List (Addr×Obj):=fp.filterMap λb=>(h.get? b).map λo=>(b,o)
theorem jw {fp:List Addr}{h:Heap}{b:Addr}{o:Obj}(hb:b∈fp)(e:h.get? b=some o):(b,o)∈oM fp h:=List.mem_filterMap.mpr ⟨b,hb,by rw[e];rfl⟩
theorem zF {fp:List Addr}{h:Heap}{p:Addr×Obj}(hp:p∈oM fp h):p.1∈fp/\h.get? p.1=some p.2:=by
 obtain⟨b,hb,e⟩:=List.mem_filterMap.mp hp
 cases q:h.get? b with
 | none=>rw[q] at e;cases e
 | some o=>
  rw[q] at e
  have e':(b,o)=p:=Option.some.inj e
  subst e'
  exact⟨hb,q⟩
theorem Inv.pinned {pins:List (Addr×Obj)}{σ:St}{H:Hp}{s:Shared}{fp:List Addr}(I:Inv X pins σ H s)(hf:∀b∈fp,oK X pins H b)(ho:∀b∈fp,∃o,s.heap.get? b=some o/\∀v,o.data≠ .cell v):Inv X (pins++oM fp s.heap) σ H s :=
 I.yr λp hp=>(Kk.mp hp).elim (λz=>I.pin p (Kx _ z)) λz=>by
  obtain⟨hb,e⟩:=zF z
  obtain⟨f0,f1,f2,_⟩:=hf p.1 hb
  obtain⟨o,e',d⟩:=ho p.1 hb
  rw[e] at e';cases e'
  exact⟨e,f0,f1,f2,d⟩
theorem Inv.lK {pins pl:List (Addr×Obj)}{σ:St}{H:Hp}{s:Shared}(I:Inv X (pins++pl) σ H s):Inv X pins σ H s:=I.yr λp hp=>I.pin p (Kx _ (KZ _ hp))
theorem xc {iter:Expr}{body:List Stmt}{wi:TI}{g:TG}{tb:TS}{pos:Pos}(hp:PassesOwn (model X.prog X.w) X.A X.env X.xe)(hc:X.calm=true)(hi:PI X tg iter wi)(hg:PG X tg g)(hb:qC X body tb)
  (hs:∀x,foldedSetIterable iter X.env x=pure x:=by intro _;rfl):PS X (.For tg iter body [] pos) (LZ wi g tb):=by
 intro pins s σ H D I h
 refine wpAny_For (cX (hi pins s σ H _ I h) λv s1 h1=>cX h1 λitv s2 h2=> ?_) hs
 obtain⟨it,fp,tn,J,H2,e,I2,T,st2,f2,W,⟨m0,w0⟩,turn⟩:=h2
 subst e
 have stat:∀{H':Hp},(∀b∈fp,H' b=none)->∀b∈fp,oK X pins H' b:=λhn b hb=>⟨hn b hb,(f2 b hb).2⟩
 refine codeAny_forLoop_any (λn s'=>∃i σ' H',Inv X pins σ' H' s'/\tn i s'.heap/\(∀b∈fp,H' b=none)/\W i n σ' H') ?_ m0 ⟨0,σ,H2,I2,st2,λb hb=>(f2 b hb).1,w0⟩
 rintro n s3 ⟨i,σ3,H3,I3,st3,Jm,w3⟩
 rcases turn i n σ3 H3 w3 with⟨stop,qn⟩ | ⟨go,N,hN,step⟩
 ·refine wpAny_passesOwn hp (cX (T.done X rfl rfl rfl hc i pins s3 σ3 H3 X.xe I3 (stat Jm) st3 stop) λr s4 ⟨hr,I4⟩=> ?_)
  subst hr
  exact wpAny_execs_nil ⟨σ3,H3,I4,qn⟩
 ·refine wpAny_passesOwn hp (cX (T.item X rfl rfl rfl hc i pins s3 σ3 H3 X.xe I3 (stat Jm) st3 go) λr s4 ⟨u,hr,h4⟩=> ?_)
  subst hr
  refine wpAny_passesOwn hp (cX h4 λ_ s5 ⟨x,H5,I5,r5,y5,GN,L0⟩=> ?_)
  have L1:=I5.pinned (stat L0) (T.obj _ _ GN)
  refine wpAny_passesOwn hp (cX (hg _ s5 σ3 H5 x u _ L1 r5 (step x H5 y5)) λ_ s6 ⟨σ6,H6,I6,q6⟩=> ?_)
  refine wpAny_passesOwn hp (cX (hb _ s6 σ6 H6 _ I6 q6) λf s7 q7=> ?_)
  have again:∀{σ7:St} {H7:Hp},Inv X (pins++oM fp s5.heap) σ7 H7 s7->N σ7 H7->∃m,m < n/\∃i σ' H',Inv X pins σ' H' s7/\tn i s7.heap/\(∀b∈fp,H' b=none)/\W i m σ' H':=λ{σ7 H7} I7 n7=>by
   obtain⟨m',hm,w7⟩:=hN σ7 H7 n7
   refine⟨m',hm,i+1,σ7,H7,I7.lK,T.keep _ _ _ GN λb hb o e=>(I7.pin (b,o) (Kx _ (Kx _ (jw hb e)))).1,λb hb=> ?_,w7⟩
   obtain⟨o,e,d⟩:=T.obj _ _ GN b hb
   exact(I7.pin (b,o) (Kx _ (Kx _ (jw hb e)))).2.1
  cases f with
  | next=>obtain⟨σ7,H7,I7,n7⟩:=q7;exact again I7 n7
  | cont=>obtain⟨σ7,H7,I7,n7⟩:=q7;exact again I7 n7
  | brk=>obtain⟨σ7,H7,I7,q7⟩:=q7;exact⟨σ7,H7,I7.lK,q7⟩
  | ret v=>obtain⟨x7,σ7,H7,I7,r7,q7⟩:=q7;exact⟨x7,σ7,H7,I7.lK,r7,q7⟩
end
abbrev R2:=V->V->Hp->VK->Prop
def oj (X:Cx)(f:Value->Value->Sem Value)(r:R2):Prop :=
 ∀(pins:List (Addr×Obj)) (s:Shared) (σ:St) (H:Hp) (x y:V) (v u:Value) (Q:VK),Inv X pins σ H s->RelV x v->RelV y u->r x y H Q->
  wpAny (model X.prog X.w) X.A (f v u) (EP X pins σ Q) X.xe s
def Ln (X:Cx)(f:Value->Sem Value)(r:V->Hp->VK->Prop):Prop :=
 ∀(pins:List (Addr×Obj)) (s:Shared) (σ:St) (H:Hp) (x:V) (v:Value) (Q:VK),Inv X pins σ H s->RelV x v->r x H Q->
  wpAny (model X.prog X.w) X.A (f v) (EP X pins σ Q) X.xe s
def hJ (X:Cx)(f:Value)(r:List V->Hp->VK->Prop):Prop :=
 ∀(pins:List (Addr×Obj)) (s:Shared) (σ:St) (H:Hp) (xs:List V) (us:List Value) (Q:VK),Inv X pins σ H s->Vals xs us->r xs H Q->
  wpAny (model X.prog X.w) X.A (call f us) (EP X pins σ Q) X.xe s
def Lo (r:R2)(ta tb:TE):TE:=λσ H Q=>ta σ H λx H1=>tb σ H1 λy H2=>r x y H2 Q
def NQ (r:V->Hp->VK->Prop)(ta:TE):TE:=λσ H Q=>ta σ H λx H1=>r x H1 Q
def rI (C:Int->Int->Prop)(g:Int->Int->V):R2:=λx y H Q=>∃i j,x= .int i/\y= .int j/\C i j/\Q (g i j) H
def FP (g:Int->Int->V):R2:=λx y H Q=>∃i j,x= .int i/\y= .int j/\Q (g i j) H
def rU (g:Int->V):V->Hp->VK->Prop:=λx H Q=>∃i,x= .int i/\Q (g i) H
section
variable {X:Cx}{a b c:Expr}{ta tb tc:TE}{pos:Pos}
theorem GO (ha:PE X a ta)(hb:PE X b tb){pins:List (Addr×Obj)}{s:Shared}{σ:St}{H:Hp}{R:V->V->Hp->Prop}(I:Inv X pins σ H s)
  (h:ta σ H λx H1=>tb σ H1 λy H2=>R x y H2) {Q:Z5} {f:Value->Value->Sem Value}
  (hf:∀v u s2 x y H2,Inv X pins σ H2 s2->RelV x v->RelV y u->R x y H2->wpAny (model X.prog X.w) X.A (f v u) Q X.xe s2) :
  wpAny (model X.prog X.w) X.A (eval a X.env) (λv s₁=>wpAny (model X.prog X.w) X.A (eval b X.env) (λu s₂=>wpAny (model X.prog X.w) X.A (f v u) Q X.xe s₂) X.xe s₁) X.xe s:=by
 refine cX (ha pins s σ H _ I h) λv s1 ⟨x,H1,I1,r1,q1⟩=> ?_
 refine cX (hb pins s1 σ H1 _ I1 q1) λu s2 ⟨y,H2,I2,r2,q2⟩=> ?_
 exact hf v u s2 x y H2 I2 r1 r2 q2
theorem FQ {op:Operator}{r:R2}(ho:oj X (binaryOp op) r)(ha:PE X a ta)(hb:PE X b tb):PE X (.BinOp a op b pos) (Lo r ta tb):=by
 intro pins s σ H Q I h
 exact wpAny_BinOp (GO ha hb I h λv u s2 x y H2 I2 rx ry q=>ho pins s2 σ H2 x y v u Q I2 rx ry q)
theorem Jn {op:UnaryOp}{r:V->Hp->VK->Prop}(ho:Ln X (unaryOp op) r)(ha:PE X a ta):PE X (.UnaryOp op a pos) (NQ r ta):=by
 intro pins s σ H Q I h
 exact UnaryOp_ (cX (ha pins s σ H _ I h) λv s1 ⟨x,H1,I1,r1,q1⟩=>ho pins s1 σ H1 x v Q I1 r1 q1)
theorem L3 {f:Value->Value->Sem Value}{C:Int->Int->Prop}{g:Int->Int->Int}
  (rule:∀(i j:Int) (t u:Tok) (s:Shared) (Q:Z5) (E:Z5),C i j->Q (.int (g i j) s.toks) {s with toks:=s.toks+1}->wpAny (model X.prog X.w) X.A (f (.int i t) (.int j u)) Q E s) :
  oj X f (rI C λi j=> .int (g i j)):=by
 intro pins s σ H x y v u Q I rx ry h
 obtain⟨i,j,rfl,rfl,hc,q⟩:=h
 obtain⟨t,rfl⟩:=rx
 obtain⟨t',rfl⟩:=ry
 exact rule i j t t' s _ _ hc ⟨.int (g i j),H,I.tok _,⟨_,rfl⟩,q⟩
theorem Jo {f:Value->Value->Sem Value}{g:Int->Int->Int}
  (rule:∀(i j:Int) (t u:Tok) (s:Shared) (Q:Z5) (E:Z5),Q (.int (g i j) s.toks) {s with toks:=s.toks+1}->wpAny (model X.prog X.w) X.A (f (.int i t) (.int j u)) Q E s) :
  oj X f (FP λi j=> .int (g i j)):=by
 intro pins s σ H x y v u Q I rx ry h
 obtain⟨i,j,rfl,rfl,q⟩:=h
 obtain⟨t,rfl⟩:=rx
 obtain⟨t',rfl⟩:=ry
 exact rule i j t t' s _ _ ⟨.int (g i j),H,I.tok _,⟨_,rfl⟩,q⟩
theorem GP {f:Value->Value->Sem Value}{g:Int->Int->Bool}
  (rule:∀(i j:Int) (t u:Tok) (s:Shared) (Q:Z5) (E:Z5),Q (.bool (g i j)) s->wpAny (model X.prog X.w) X.A (f (.int i t) (.int j u)) Q E s) :
  oj X f (FP λi j=> .bl (g i j)):=by
 intro pins s σ H x y v u Q I rx ry h
 obtain⟨i,j,rfl,rfl,q⟩:=h
 obtain⟨t,rfl⟩:=rx
 obtain⟨t',rfl⟩:=ry
 exact rule i j t t' s _ _ ⟨.bl (g i j),H,I,rfl,q⟩
def L5 (i j:Int):Prop:=0<=j/\j<=1000000/\i.natAbs < 2^64
def GQ (i j:Int):Prop:=(-(2^64) < i/\i < 2^64)∨(-(2^64) < j/\j < 2^64)
theorem GQ.ok {i j:Int}(h:GQ i j):IntMulOk i j:=by
 rcases h with⟨h1,h2⟩ | ⟨h1,h2⟩
 ·exact .of_left (intBits_le_64 h1 h2)
 ·exact .of_right (intBits_le_64 h1 h2)
theorem GR:oj X (binaryOp .Add) (FP λi j=> .int (i+j)):=Jo λ_ _ _ _ _ _ _ q=>add_int q
theorem GS:oj X (binaryOp .Sub) (FP λi j=> .int (i - j)):=Jo λ_ _ _ _ _ _ _ q=>sub_int q
theorem GU:oj X (binaryOp .Mult) (rI GQ λi j=> .int (i*j)):=L3 λ_ _ _ _ _ _ _ hc q=>mul_int q hc.ok
theorem GV:oj X (binaryOp .Mod) (rI (λ_ j=>0 < j) λi j=> .int (i % j)):=L3 λi j _ _ _ _ _ hc q=>by
 have h1:(0:Int) < j:=hc
 exact mod_int' (!1) (by rw[Int.fmod_eq_emod_of_nonneg i (!1)];exact q)
theorem GW:oj X (binaryOp .Pow) (rI L5 λi j=> .int (i^j.toNat)):=L3 λ_ _ _ _ _ _ _ hc q=>pow_int_small hc.1 hc.2.1 hc.2.2 q
theorem NR {f:Value->Sem Value}{g:Int->Int}
  (rule:∀(i:Int) (t:Tok) (s:Shared) (Q:Z5) (E:Z5),Q (.int (g i) s.toks) {s with toks:=s.toks+1}->wpAny (model X.prog X.w) X.A (f (.int i t)) Q E s) :
  Ln X f (rU λi=> .int (g i)):=by
 intro pins s σ H x v Q I rx h
 obtain⟨i,rfl,q⟩:=h
 obtain⟨t,rfl⟩:=rx
 exact rule i t s _ _ ⟨.int (g i),H,I.tok _,⟨_,rfl⟩,q⟩
theorem GX:Ln X (unaryOp .USub) (rU λi=> .int (-i)):=NR λ_ _ _ _ _ q=>neg_int q
end
section
variable {X:Cx}{a b c:Expr}{ta tb tc:TE}{pos:Pos}
theorem GY {pins:List (Addr×Obj)}{σ:St}{H:Hp}{s:Shared}{Q:VK}{k k':Bool}(I:Inv X pins σ H s)(q:Q (.bl k) H)(e:k=k'):EP X pins σ Q (.bool k') s:=by
 subst e
 exact⟨.bl k,H,I,rfl,q⟩
theorem Jp:oj X (compareOp .Lt) (FP λi j=> .bl (decide (i < j))):=GP λ_ _ _ _ _ _ _ q=>lt_int q
theorem Jr:oj X (compareOp .Gt) (FP λi j=> .bl (decide (j < i))):=GP λ_ _ _ _ _ _ _ q=>gt_int q
theorem Js:oj X (compareOp .GtE) (FP λi j=> .bl (decide (j<=i))):=GP λ_ _ _ _ _ _ _ q=>ge_int q
theorem DL:oj X (compareOp .IsNot) (λx y H Q=>y= .non/\Q (.bl (!decide (x= .non))) H):=by
 intro pins s σ H x y v u Q I rx ry h
 obtain⟨rfl,q⟩:=h
 cases ry
 refine isnot_none_gen (GY I q ?_)
 cases x <;> first
  | (cases rx;rfl)
  | (obtain⟨t,rfl⟩:=rx;rfl)
theorem oj.or {f:Value->Value->Sem Value}{r r':R2}(h:oj X f r)(h':oj X f r'):oj X f (λx y H Q=>r x y H Q∨r' x y H Q):=by
 intro pins s σ H x y v u Q I rx ry q
 rcases q with q | q
 ·exact h pins s σ H x y v u Q I rx ry q
 ·exact h' pins s σ H x y v u Q I rx ry q
theorem ck (b:Expr){op:CmpOp}(h:op≠ .In:=by decide)(h2:op≠ .NotIn:=by decide):behindInMarks op b=false:=by
 have e1:(op==CmpOp.In)=false:=by cases op <;> first | rfl | exact absurd rfl h
 have e2:(op==CmpOp.NotIn)=false:=by cases op <;> first | rfl | exact absurd rfl h2
 cases b <;> simp[behindInMarks,e1,e2]
theorem DM {op:CmpOp}{r:R2}(ho:oj X (compareOp op) r)(ha:PE X a ta)(hb:PE X b tb)(hm:behindInMarks op b=false):PE X (.Compare a [op] [b] pos) (Lo r ta tb):=by
 intro pins s σ H Q I h
 exact wpAny_Compare1 (GO ha hb I h λv u s2 x y H2 I2 rx ry q=>ho pins s2 σ H2 x y v u Q I2 rx ry q) hm
def Jt (t:TE):TT:=λσ H Q=>t σ H λx H'=>∃k,x= .bl k/\Q k H'
theorem DN {op:CmpOp}{r:R2}(ho:oj X (compareOp op) r)(ha:PE X a ta)(hb:PE X b tb)(hm:behindInMarks op b=false):PT X (.Compare a [op] [b] pos) (Jt (Lo r ta tb)):=by
 intro pins s σ H Q I h
 refine wpAny_isTrue_Compare1 (cX (ha pins s σ H _ I h) λv s1 ⟨x,H1,I1,r1,q1⟩=>cX (hb pins s1 σ H1 _ I1 q1) λu s2 ⟨y,H2,I2,r2,q2⟩=>
  cX (ho pins s2 σ H2 x y v u _ I2 r1 r2 q2) λc s3 ⟨z,H3,I3,r3,k,e,q3⟩=> ?_) hm
 subst e
 cases r3
 exact wpAny_truthy_bool ⟨H3,I3,q3⟩
theorem j6:(sizeLine:Nat) < 2^63:=by rw[sizeLine_eq];decide
theorem vals1 {x:V}{us:List Value}(r:Vals [x] us):∃u,us=[u]/\RelV x u:=by
 cases r with
 | cons r1 r2=>cases r2;exact⟨_,rfl,r1⟩
end
structure Cls (K:Frag)(C:Addr):Prop where
 pg:PySem.W.plainGet K C Str.empty=true
 hd:PySem.W.hasDictIn K C=true
 po:PySem.W.plainOver K C=true
 sa:PySem.W.findIn K (.ref C) "__setattr__" =some (some (.builtin "object.__setattr__"))
theorem Cls.get {K:Frag}{C:Addr}(c:Cls K C)(f:Str):PySem.W.plainGet K C f=true:=c.pg
section
variable {X:Cx}{pins:List (Addr×Obj)}{σ:St}{H:Hp}{s:Shared}{a C dx:Addr}{fs:List (Str×V)}{f:Str}{v:V}{A:Around}{E:Z5}
theorem Inv.made (I:Inv X pins σ H s):Inv X pins σ (upd (upd H s.heap.objs.size (.own (s.heap.objs.size+1))) (s.heap.objs.size+1) (.ins C s.heap.objs.size []))
  {s with heap:=(s.heap.push PySem.W.emptyDict).push (PySem.W.instObj C s.heap.objs.size)}:=by
 have e1:(s.heap.push PySem.W.emptyDict).get? s.heap.objs.size=some PySem.W.emptyDict:=Ky s.heap rfl
 have e2:((s.heap.push PySem.W.emptyDict).push (PySem.W.instObj C s.heap.objs.size)).get? (s.heap.objs.size+1)=some (PySem.W.instObj C s.heap.objs.size):=by
  have:=Ky (s.heap.push PySem.W.emptyDict) (o:=PySem.W.instObj C s.heap.objs.size) rfl
  rwa [XX] at this
 have e3:(s.heap.push PySem.W.emptyDict).Ns s.heap.objs.size (λ_=>none):=⟨PySem.W.emptyDict,#[],_,e1,rfl,(λe he=>absurd he (by simp)),λ_=>rfl⟩
 have I1:=I.laid (a:=s.heap.objs.size) (o:=.own (s.heap.objs.size+1)) (h':=s.heap.push PySem.W.emptyDict) (t':=s.toks) (λb u q=>K6 _ q) (K1 _) ⟨_,e1⟩
 refine I1.laid (a:=s.heap.objs.size+1) (o:=.ins C s.heap.objs.size []) (t':=s.toks) (λb u q=>K6 _ q) (Nat.le_of_eq (XX _ _)) ?_
 have ne:s.heap.objs.size≠s.heap.objs.size+1:=X1 (Uz _)
 refine⟨by rw[aS ne,ax],Xx _,ne,e2,λ_=>none,(Heap.Ns1.of_empty e3).at λo q=>K6 _ q,λ_=>True.intro,λy hy=>absurd rfl hy⟩
end
structure dM (k:Nat)(A:Around):Prop where
 hd:A.handled=none
 dp:A.depth+3*k+5 < recursionLimit
 un:A.units+16*k+200 < cLine
theorem dM.mono {j k:Nat}{A:Around}(r:dM k A)(h:j<=k):dM j A:=⟨r.hd,by have:=r.dp;omega,by have:=r.un;omega⟩
theorem dM.deeper {k:Nat}{A:Around}(r:dM (k+1) A)(env:Env):dM k (A.deeper env) :=
 ⟨r.hd,by have:=r.dp;show A.depth+1+3*k+5 < _;omega,by have:=r.un;show A.units+3+16*k+200 < _;omega⟩
theorem dM.in1 {k:Nat}{A:Around}(r:dM (k+1) A):dM k A.in1 :=
 ⟨r.hd,by have:=r.dp;show A.depth+3*k+5 < _;omega,by have:=r.un;show A.units+1+16*k+200 < _;omega⟩
theorem xf {A:Around}{C:Addr}{us:List Value}{kw:List (Str×Value)}:(A.under (.builtin "type.__call__" ⟨.ref C :: us,kw⟩)).depth=A.depth+1:=by
 first | rfl | simp[Around.under,Code.weight,Code.isCreation,Code.isGuard,Code.isCaller,Code.frames,Code.isFrame,guardIds]
theorem xg {A:Around}{C:Addr}{us:List Value}{kw:List (Str×Value)}:(A.under (.builtin "type.__call__" ⟨.ref C :: us,kw⟩)).units=A.units+1:=by
 first | rfl | simp[Around.under,Code.cUnits,Code.frames,Code.isFrame]
theorem dM.make {k:Nat}{A:Around}(r:dM (k+1) A)(C:Addr)(us:List Value)(kw:List (Str×Value)):dM k (A.under (.builtin "type.__call__" ⟨.ref C :: us,kw⟩)) :=
 ⟨r.hd,by have:=r.dp;rw[xf];omega,by have:=r.un;rw[xg];omega⟩
theorem dM.depth {k:Nat}{A:Around}(r:dM k A):A.depth < recursionLimit:=by have:=r.dp;omega
theorem dM.units {k:Nat}{A:Around}(r:dM k A):A.units+64 < cLine:=by have:=r.un;omega
def L6:TA:=λ_ H Q=>Q [] H
def JA (ta:TE)(tr:TA):TA:=λσ H Q=>ta σ H λx H1=>tr σ H1 λxs H2=>Q (x :: xs) H2
section
variable {X:Cx}{e:Expr}{es:List Expr}{te:TE}{t:TA}{pos:Pos}
theorem cZ:PA X [] L6:=λ_ _ _ _ H Q I h=>Calls.spliced_nil ⟨[],H,I,.nil,h⟩
theorem bA (ha:PE X e te)(hr:PA X es t)(hs:starEach (e :: es) X.env=(false,eval e X.env) :: starEach es X.env:=by rfl):PA X (e :: es) (JA te t):=by
 intro pos pins s σ H Q I h
 rw[hs]
 show wpAny _ _ (spliced ((false,eval e X.env) :: backTo pos (starEach es X.env))) _ _ s
 refine Calls.spliced_cons (cX (ha pins s σ H _ I h) λu s1 ⟨x,H1,I1,r1,q1⟩=> ?_)
 exact cX (hr pos pins s1 σ H1 _ I1 q1) λus s2 ⟨xs,H2,I2,r2,q2⟩=>⟨x :: xs,H2,I2,.cons r1 r2,q2⟩
def L7 (t:TA):TE:=λσ H Q=>t σ H λxs H1=>xs.length<=sizeLine/\∀p,H1 p=none->Q (.ref p) (upd H1 p (.tup xs))
def L8 (t:TA):TE:=λσ H Q=>t σ H λxs H1=>xs.length<=sizeLine/\∀p,H1 p=none->Q (.ref p) (upd H1 p (.lst xs))
theorem GZ {x1}(h:PA X es t):PE X (.Tuple es x1 pos) (L7 t):=by
 intro pins s σ H Q I hq
 refine wpAny_Tuple_spliced (cX (h pos pins s σ H _ I hq) λus s1 ⟨xs,H1,I1,r,z,q⟩=>⟨by rw[←r.length];exact z,?_⟩)
 have hf:H1 s1.heap.objs.size=none:=I1.hok.fresh (K1 _)
 refine⟨.ref s1.heap.objs.size,upd H1 s1.heap.objs.size (.tup xs),I1.laid (t':=s1.toks) (λb u e=>K6 _ e) (K1 _) ?_,rfl,q _ hf⟩
 exact⟨z,us,r,⟨_,Ky _ rfl,rfl,_,rfl⟩⟩
theorem Bd (h:PA X es t):PE X (.List es pos) (L8 t):=by
 intro pins s σ H Q I hq
 refine wpAny_List_spliced (cX (h pos pins s σ H _ I hq) λus s1 ⟨xs,H1,I1,r,z,q⟩=>⟨by rw[←r.length];exact z,?_⟩)
 have hf:H1 s1.heap.objs.size=none:=I1.hok.fresh (K1 _)
 refine⟨.ref s1.heap.objs.size,upd H1 s1.heap.objs.size (.lst xs),I1.laid (t':=s1.toks) (λb u e=>K6 _ e) (K1 _) ?_,rfl,q _ hf⟩
 exact⟨z,us,0,r,Ky _ rfl⟩
end
abbrev Sp:=List V->Hp->VK->XK->Prop
abbrev yx:=List Env->Hp->Shared->XK->Value->Shared->Prop
structure qF (P:Program)(w:World)(K:Frag)(mg:Str->Option Value)(base:Heap)(A:Around)(outer:List Env)(s:Shared)(H:Hp):Prop where
 frames:A.frames=some outer
 mod:Mod K mg base
 bs:∀b o,base.get? b=some o->s.heap.get? b=some o/\H b=none
 zB:base.objs.size<=s.heap.objs.size
 lh:s.heap.FunFrames base outer
 Dx:∀b∈frs outer,H b=none
 hok:og P w H s.heap
 bare:AllBare s.gens
def CE (outer:List Env)(P:Program)(w:World)(H:Hp)(s:Shared)(Q:VK)(u:Value)(s':Shared):Prop :=
 ∃v H',s'.os=s.os/\AllBare s'.gens/\Un (frs outer) [] H H' s.heap s'.heap/\og P w H' s'.heap/\RelV v u/\Q v H'
def CR (CX:yx)(outer:List Env)(P:Program)(w:World)(H:Hp)(s:Shared)(Q:VK)(E:XK)(r:Result)(s':Shared):Prop :=
 match r with
 | .ok (.ret u)=>CE outer P w H s Q u s'
 | .ok _=>False
 | .error e=>CX outer H s E e s'
structure jb (P:Program)(w:World)(K:Frag)(mg:Str->Option Value)(base:Heap)(CX:yx)(k:Nat)(f:Addr)(fd:FuncData)(ps:List Str)(sp:Sp):Prop where
 len:∀vs H Q E,sp vs H Q E->vs.length=ps.length
 run:∀(A:Around) (outer:List Env) (s:Shared) (H:Hp) (args:Args) (us:List Value) (vs:List V) (Q:VK) (E:XK),dM k A->qF P w K mg base A outer s H->BindsTo s fd args (ps.zip us)->Vals vs us->sp vs H Q E->
  codeAny (model P w) A (.call (.ref f) args) (CR CX outer P w H s Q E) s
theorem jb.mono {P:Program}{w:World}{K:Frag}{mg:Str->Option Value}{base:Heap}{CX:yx}{j k:Nat}{f:Addr}{fd:FuncData}{ps:List Str}{sp:Sp}(F:jb P w K mg base CX j f fd ps sp)(h:j<=k) :
  jb P w K mg base CX k f fd ps sp:=⟨F.len,λA outer s H args us vs Q E hr=>F.run A outer s H args us vs Q E (hr.mono h)⟩
theorem jb.imp {P:Program}{w:World}{K:Frag}{mg:Str->Option Value}{base:Heap}{CX:yx}{k:Nat}{f:Addr}{fd:FuncData}{ps:List Str}{sp Na:Sp}(F:jb P w K mg base CX k f fd ps sp)
  (h:∀vs H Q E,Na vs H Q E->sp vs H Q E):jb P w K mg base CX k f fd ps Na :=
 ⟨λvs H Q E q=>F.len vs H Q E (h _ _ _ _ q),λA outer s H args us vs Q E hr he hb hv hs=>F.run A outer s H args us vs Q E hr he hb hv (h _ _ _ _ hs)⟩
theorem qF.make {P:Program}{w:World}{K:Frag}{mg:Str->Option Value}{base:Heap}{A:Around}{outer:List Env}{s:Shared}{H:Hp}(e:qF P w K mg base A outer s H)(C:Addr)(us:List Value)(kw:List (Str×Value)) :
  qF P w K mg base (A.under (.builtin "type.__call__" ⟨.ref C :: us,kw⟩)) outer s H:=⟨by first | exact e.frames | (simpa [Around.under,Code.envs,Code.isFrame,pushEnvs] using e.frames),e.mod,e.bs,e.zB,e.lh,e.Dx,e.hok,e.bare⟩
theorem qF.in1 {P:Program}{w:World}{K:Frag}{mg:Str->Option Value}{base:Heap}{A:Around}{outer:List Env}{s:Shared}{H:Hp}(e:qF P w K mg base A outer s H) :
  qF P w K mg base A.in1 outer s H:=⟨e.frames,e.mod,e.bs,e.zB,e.lh,e.Dx,e.hok,e.bare⟩
section
variable {X:Cx}{pins:List (Addr×Obj)}{σ:St}{H:Hp}{s s':Shared}
theorem Inv.env0 (I:Inv X pins σ H s):qF X.prog X.w X.K X.mg X.base X.A X.stack s H :=
 ⟨I.ok.frames,I.ok.mod,I.bs,KY I.ok.zB I.sz,I.stack,I.yq,I.hok,I.bare⟩
theorem Inv.after {Q:VK}{u:Value}(I:Inv X pins σ H s)(h:CE X.stack X.prog X.w H s Q u s'):EP X pins σ Q u s':=by
 obtain⟨v,H',os,bare,un,hok,r,q⟩:=h
 obtain⟨hh,g,d,t,os'⟩:=s'
 obtain rfl:os'=s.os:=os
 exact⟨v,H',I.call (h':=hh) (g':=g) (d':=d) (t':=t) (ch:=[]) un hok bare (λb z=>absurd z (by simp)),r,q⟩
end
def JB (sp:Sp)(FR:List V)(E:XK)(t:TA):TE:=λσ H Q=>t σ H λvs H1=>sp (vs++FR) H1 Q E
def Binds (K:Frag)(fd:FuncData)(ps:List Str)(ds:List Value):Prop :=
 ∀(s:Shared) (us:List Value),K.In s.heap->(us++ds).length=ps.length->BindsTo s fd ⟨us,[]⟩ (ps.zip (us++ds))
theorem Binds.all {K:Frag}{fd:FuncData}{ps:List Str}(h:∀us:List Value,us.length=ps.length->bindArgs fd ⟨us,[]⟩=pure (ps.zip us)):Binds K fd ps []:=λs us _ hl=>by
 rw[Xu] at hl⊢
 exact .of_eq (h us hl)
def Passes (CX:yx)(X:Cx)(E:XK):Prop:=∀(pins:List (Addr×Obj)) (σ:St) (H:Hp) (s:Shared) (e:Value) (s':Shared),Inv X pins σ H s->CX X.stack H s E e s'->X.xe e s'
section
variable {X:Cx}{CX:yx}{k:Nat}{f C:Addr}{fd:FuncData}{ps:List Str}{sp:Sp}{FR:List V}{ds:List Value}{E:XK}{x m:Str}{p pos apos:Pos}{e o:Expr}{es:List Expr}{ta:TE}{t:TA}
theorem G0 {pins:List (Addr×Obj)}{σ:St}{H:Hp}{s:Shared}{Q:VK}{us:List Value}{vs:List V}(F:jb X.prog X.w X.K X.mg X.base CX k f fd ps sp)(hr:dM k X.A)(hb:Binds X.K fd ps ds)(hd:Vals FR ds)(hx:Passes CX X E)
  (I:Inv X pins σ H s) (r:Vals vs us) (h:sp (vs++FR) H Q E):wpAny (model X.prog X.w) X.A (call (.ref f) us) (EP X pins σ Q) X.xe s:=by
 have r2:Vals (vs++FR) (us++ds):=r.append hd
 have hl:(us++ds).length=ps.length:=by rw[←r2.length];exact F.len _ _ _ _ h
 refine wpAny_call (codeAny_mono (F.run X.A X.stack s H ⟨us,[]⟩ (us++ds) (vs++FR) Q E hr I.env0 (hb s us I.zC hl) r2 h) λr s' hq=> ?_)
 cases r with
 | error e=>exact hx pins σ H s e s' I hq
 | ok fl=>
  cases fl with
  | ret u=>exact I.after hq
  | next=>exact False.elim hq
  | brk=>exact False.elim hq
  | cont=>exact False.elim hq
theorem yy (F:jb X.prog X.w X.K X.mg X.base CX k f fd ps sp)(hr:dM k X.A)(hg:Gl X x)(hm:X.mg x=some (.ref f))(hk:keepIn X.K (.ref f)=true)(hb:Binds X.K fd ps ds)(hd:Vals FR ds)(hx:Passes CX X E)
  (ha:PA X (e :: es) t) (hdb:(x==("__debug__":Str))=false:=by decide) (he:starEach (e :: es) X.env=(false,eval e X.env) :: starEach es X.env:=by rfl) (hpl:(backTo pos (starEach es X.env)).any (·.1)=false:=by rfl) :
  PE X (.Call (.Name x p) (e :: es) [] pos) (JB sp FR E t):=by
 intro pins s σ H Q I h
 refine wpAny_Call_Name_kw (yt I hg hm ?_ hdb)
 refine PySem.W.callWith_K (h₀:=X.base) I.ok.mod.Lg hk (cX (ha pos pins s σ H _ I h) λus s1 ⟨vs,H1,I1,r,q⟩=>⟨I1.zC,?_⟩) he hpl
 exact G0 F hr hb hd hx I1 r q
end
structure aK (N P:List Str)(sc:Scope):Prop where
 kind:sc.kind= .function
 co:sc.isCoroutine=false
 gen:sc.isGenerator=false
 nd:N.Nodup
 pre:N.take P.length=P
 par:∀x∈P,sc.names.lookup x=some .local∨sc.names.lookup x=some .cell
 G1:∀y∈sc.names,y.2≠ .free
theorem qZ {kindOf:Str->Option NameKind}{x:Str}:∀{binds:List (Str×Value)} {m:Str->Option Value},(∀v,(x,v)∉binds)->bindL kindOf binds m x=m x
 | [],_,_=>rfl
 | (n,v) :: r,m,h=>by
  unfold bindL
  rw[qZ λw hw=>h w (K9 _ hw)]
  split
  ·have:x≠n:=by rintro rfl;exact h v K8
   simp[this]
  ·rfl
theorem q8 {kindOf:Str->Option NameKind}{x:Str}:∀{binds:List (Str×Value)} {m:Str->Option Value},(∀v,(x,v)∉binds)->bindC kindOf binds m x=m x
 | [],_,_=>rfl
 | (n,v) :: r,m,h=>by
  unfold bindC
  rw[q8 λw hw=>h w (K9 _ hw)]
  split
  ·rfl
  ·have:x≠n:=by rintro rfl;exact h v K8
   simp[this]
theorem q9 {kindOf:Str->Option NameKind}{x:Str}{v:Value}:∀{P:List Str} {vs:List Value} {i:Nat} {m:Str->Option Value},P.Nodup->P[i]? =some x->vs[i]? =some v->kindOf x=some .local->
  bindL kindOf (P.zip vs) m x=some v
 | [],_,_,_,_,h,_,_=>by simp at h
 | _ :: _,[],_,_,_,_,h,_=>by simp at h
 | p :: P,w :: vs,0,m,nd,h1,h2,hk=>by
  simp at h1 h2;subst h1;subst h2
  show bindL kindOf ((p,w) :: P.zip vs) m p=_
  unfold bindL
  rw[qZ λv hv=>(KU.mp nd).1 (List.of_mem_zip hv).1,JW hk]
  simp
 | p :: P,w :: vs,i+1,m,nd,h1,h2,hk=>by
  show bindL kindOf ((p,w) :: P.zip vs) m x=_
  unfold bindL
  exact q9 (i:=i) (KU.mp nd).2 (by simpa using h1) (by simpa using h2) hk
theorem q_ {kindOf:Str->Option NameKind}{x:Str}{v:Value}:∀{P:List Str} {vs:List Value} {i:Nat} {m:Str->Option Value},P.Nodup->P[i]? =some x->vs[i]? =some v->kindOf x≠some .local->
  bindC kindOf (P.zip vs) m x=some v
 | [],_,_,_,_,h,_,_=>by simp at h
 | _ :: _,[],_,_,_,_,h,_=>by simp at h
 | p :: P,w :: vs,0,m,nd,h1,h2,hk=>by
  simp at h1 h2;subst h1;subst h2
  show bindC kindOf ((p,w) :: P.zip vs) m p=_
  unfold bindC
  rw[q8 λv hv=>(KU.mp nd).1 (List.of_mem_zip hv).1,JZ hk]
  simp
 | p :: P,w :: vs,i+1,m,nd,h1,h2,hk=>by
  show bindC kindOf ((p,w) :: P.zip vs) m x=_
  unfold bindC
  exact q_ (i:=i) (KU.mp nd).2 (by simpa using h1) (by simpa using h2) hk
def start (N:List Str)(vs:List V):St:=vs.map some++List.replicate (N.length - vs.length) none
def qG (CX:yx)(P:Program)(w:World)(K:Frag)(mg:Str->Option Value)(base:Heap)(N:List Str)(qual:Str)(scope:Scope)(f:Addr)(cd:Value)(A:Around)(outer:List Env)(s:Shared)(H:Hp)(E:XK):Cx where
 prog:=P
 w:=w
 K:=K
 mg:=mg
 base:=base
 A:=A.deeper (envOfC qual scope s.heap.objs.size f cd)
 N:=N
 s₀:=s
 H₀:=H
 env:=envOfC qual scope s.heap.objs.size f cd
 outer:=outer
 stack:=envOfC qual scope s.heap.objs.size f cd :: outer
 ex:=[]
 calm:=true
 fn:=λ_=>true
 pn:=[]
 xe:=λe s'=>wpAny (model P w) (A.deeper (envOfC qual scope s.heap.objs.size f cd)) (leaving (envOfC qual scope s.heap.objs.size f cd) e) (λ_ s''=>CX outer H s E e s'') (λe' s''=>CX outer H s E e' s'') s'
theorem uK {sc:Scope}{n:Nat}{x:Str}(h:sc.names.lookup x=some .cell):∃c,(cellsFrom n sc.names []).lookup x=some c:=by
 have q:=PySem.W.cellsFrom_some sc.names n [] (.inl h)
 exact Option.isSome_iff_exists.mp q
theorem zG {CX:yx}{P:Program}{w:World}{K:Frag}{mg:Str->Option Value}{base:Heap}{N ps:List Str}{qual:Str}{scope:Scope}{f:Addr}{cd:Value}{A:Around}{outer:List Env}{s s1:Shared}{H:Hp}{E:XK}{us:List Value}{vs:List V}
  (S:aK N ps scope) (hd:A.handled=none) (e0:qF P w K mg base A outer s H) (hl:vs.length=ps.length) (r:Vals vs us)
  (x:InCallC s s.heap.objs.size (bindL (envOfC qual scope s.heap.objs.size f cd).kindOf (ps.zip us) λ_=>none) (cellsFrom (s.heap.objs.size+1) scope.names []) (bindC (envOfC qual scope s.heap.objs.size f cd).kindOf (ps.zip us) λ_=>none) s1) :
  Inv (qG CX P w K mg base N qual scope f cd A outer s H E) [] (start N vs) H s1:=by
 have hpl:ps.length<=N.length:=by have:=congrArg List.length S.pre;rw[Xk] at this;omega
 obtain⟨h1,tk,rfl,hk⟩:=x.done
 have JC:∀b:Addr,b∉(qG CX P w K mg base N qual scope f cd A outer s H E).ex:=λb z=>absurd (show b∈([]:List Addr) from z) (by simp)
 refine⟨⟨e0.mod,S.kind,rfl,rfl,K1 _,λy z c h1 h2=> ?_,λy hy=> ?_,λy c _ h=> ?_,λ_=>hd,Around.frames_deeper e0.frames,.inr ⟨rfl,rfl⟩,λb z=>absurd z (JC b),e0.bs,e0.zB,λb _ _=>JC b,λb z=>absurd z (JC b),e0.lh,e0.Dx⟩,
  rfl,e0.bare,Un.kept hk,⟨_,x.toInCall.ns,λi y v h1 h2 h3=> ?_⟩,λy c h=>⟨_,x.cell y c h⟩,e0.hok.fresh (K1 _),λy c h=> ?_,λp hp=>absurd (show p∈([]:List (Addr×Obj)) from hp) (by simp),e0.hok.kept hk,?_⟩
 ·exact name_of_addr x.apart (PySem.mem_of_lookup h1) (PySem.mem_of_lookup h2)
 ·have hy:scope.names.lookup y=some .cell∨scope.names.lookup y=some .free:=hy
  rcases hy with hy | hy
  ·exact uK hy
  ·exact absurd rfl (S.G1 _ (PySem.mem_of_lookup hy))
 ·exact YJ (x.above y c (PySem.mem_of_lookup h))
 ·have hi:i < vs.length:=by
   unfold start at h2
   by_cases hi:i < vs.length
   ·exact hi
   ·rw[U2 (by simpa using hi)] at h2
    rw[List.getElem?_replicate] at h2
    split at h2 <;> cases h2
  have ha:vs[i]? =some v:=by
   unfold start at h2
   rw[Xq (by simpa using hi),KW] at h2
   cases e:vs[i]? with
   | none=>rw[e] at h2;cases h2
   | some a=>rw[e] at h2;cases h2;rfl
  obtain⟨u,hu,rv⟩:=r.get ha
  have hp:ps[i]? =some y:=by
   rw[←S.pre,List.getElem?_take_of_lt (!1)];exact h1
  have Nb:ps.Nodup:=by rw[←S.pre];exact S.nd.sublist (J9 _ _)
  refine⟨u,rv,?_⟩
  rcases S.par y (List.mem_of_getElem? hp) with k | k
  ·exact .inl ⟨k,q9 Nb hp hu k⟩
  ·obtain⟨c,e⟩:=uK (n:=s.heap.objs.size+1) k
   refine .inr ⟨.inl k,c,e,?_⟩
   have q:=x.cell y c e
   rw[q_ Nb hp hu (by show scope.names.lookup y≠_;rw[k];decide)] at q
   exact q
 ·exact e0.hok.fresh (YJ (x.above y c (PySem.mem_of_lookup h)))
 ·unfold start
  show _=N.length
  rw[K2,K4,List.length_replicate]
  omega
theorem JD {CX:yx}{P:Program}{w:World}{K:Frag}{mg:Str->Option Value}{base:Heap}{k:Nat}{f:Addr}{name qual:Str}{params:Arguments}{body:List Stmt}{scope:Scope}{dV kV doc pm cdv ct oc:Value}{an od:Option Addr}
  {osl:Array (Option Value)} {N ps:List Str} {sp:Sp} (lk:K.lookup f=some ⟨oc,od,.func (fnOf name qual params body scope dV kV doc pm an cdv ct),osl⟩) (hcd:codeIn K cdv qual=true) (S:aK N ps scope)
  (len:∀vs H Q E,sp vs H Q E->vs.length=ps.length)
  (hbody:∀(A:Around) (outer:List Env) (s:Shared) (H:Hp) (vs:List V) (Q:VK) (E:XK),dM k (A.deeper (envOfC qual scope s.heap.objs.size f cdv))->sp vs H Q E->
   ∃t,qC (qG CX P w K mg base N qual scope f cdv A outer s H E) body t/\t {nx:=λ_ H'=>Q .non H',rt:=Q} (start N vs) H) :
  jb P w K mg base CX (k+1) f (fnOf name qual params body scope dV kV doc pm an cdv ct) ps sp:=by
 refine⟨len,λA outer s H args us vs Q E hr e0 hb r hsp=> ?_⟩
 have hl:=len _ _ _ _ hsp
 have KX:K.In s.heap:=e0.mod.Lg.keeps λb o e=>(e0.bs b o e).1
 have lim:s.heap.NoLimit:=e0.mod.nolimit.keeps λb o e=>(e0.bs b o e).1
 have hkind:∀y∈ps.zip us,scope.names.lookup y.1=some .local∨(scope.names.lookup y.1=some .cell/\((cellsFrom (s.heap.objs.size+1) scope.names []).lookup y.1).isSome=true):=λ⟨n,v⟩ hy=>by
  rcases S.par n (List.of_mem_zip hy).1 with q | q
  ·exact .inl q
  ·exact .inr ⟨q,PySem.W.cellsFrom_some _ _ _ (.inl q)⟩
 refine codeAny_call_function hr.depth (KX _ _ lk) rfl S.co S.gen rfl (PySem.W.codeRec_of KX hcd) (hb _ _ _ _ ?_)
 refine wpAny_newFunctionEnv_cells S.kind hkind λenv he s1 x=> ?_
 subst he
 refine⟨lim.keeps x.toInCall.keep,codeAny_func ?_⟩
 obtain⟨t,ht,hq⟩:=hbody A outer s H vs Q E (hr.deeper _) hsp
 have I:Inv (qG CX P w K mg base N qual scope f cdv A outer s H E) [] (start N vs) H s1:=zG S hr.hd e0 hl r x
 refine wpAny_mono (ht [] s1 (start N vs) H _ I hq) (λfl s' hs=> ?_) λe s' hs=>hs
 have fin:∀{σ':St} {H':Hp} {v:V} {u:Value},Inv (qG CX P w K mg base N qual scope f cdv A outer s H E) [] σ' H' s'->RelV v u->Q v H'->CE outer P w H s Q u s' :=
  λ{σ' H' v u} J rv q=>⟨v,H',J.os,J.bare,J.base,J.hok,rv,q⟩
 cases fl with
 | ret u=>
  obtain⟨v,σ',H',J,rv,q⟩:=hs
  exact fin J rv q
 | next=>
  obtain⟨σ',H',J,q⟩:=hs
  exact fin (v:=V.non) (u:=Value.none) J rfl q
 | brk=>
  obtain⟨_,_,_,q⟩:=hs
  exact False.elim q
 | cont=>
  obtain⟨_,_,_,q⟩:=hs
  exact False.elim q
section
variable {X:Cx}{x:Str}{p pos:Pos}{e:Expr}{es:List Expr}{t:TA}{id T:String}{r:List V->Hp->VK->Prop}
def L9 (r:List V->Hp->VK->Prop)(t:TA):TE:=λσ H Q=>t σ H λvs H1=>r vs H1 Q
theorem uL (hc:hJ X (.builtin id) r)(hg:Gl X x)(hm:X.mg x=none)(hv:bootBuiltins x=some (.builtin id))(ha:PA X (e :: es) t)(hn:x≠ "__name__":=by decide)(hdb:(x==("__debug__":Str))=false:=by decide)
  (he:starEach (e :: es) X.env=(false,eval e X.env) :: starEach es X.env:=by rfl) (hpl:(backTo pos (starEach es X.env)).any (·.1)=false:=by rfl):PE X (.Call (.Name x p) (e :: es) [] pos) (L9 r t):=by
 intro pins s σ H Q I h
 refine wpAny_Call_Name_kw (fM I hg hm hv ?_ hn hdb)
 exact PyProof.Rows.callWith_builtin1 (cX (ha pos pins s σ H _ I h) λus s1 ⟨vs,H1,I1,r1,q1⟩=>hc pins s1 σ H1 vs us Q I1 r1 q1) he hpl
theorem zH (hc:hJ X (.type T) r)(hg:Gl X x)(hm:X.mg x=none)(hv:bootBuiltins x=some (.type T))(ha:PA X (e :: es) t)(hn:x≠ "__name__":=by decide)(hdb:(x==("__debug__":Str))=false:=by decide)
  (he:starEach (e :: es) X.env=(false,eval e X.env) :: starEach es X.env:=by rfl) (hpl:(backTo pos (starEach es X.env)).any (·.1)=false:=by rfl):PE X (.Call (.Name x p) (e :: es) [] pos) (L9 r t):=by
 intro pins s σ H Q I h
 refine wpAny_Call_Name_kw (fM I hg hm hv ?_ hn hdb)
 exact PyProof.Rows.callWith_type1 (cX (ha pos pins s σ H _ I h) λus s1 ⟨vs,H1,I1,r1,q1⟩=>hc pins s1 σ H1 vs us Q I1 r1 q1) he hpl
end
end L2
namespace HT
open PySem PyProof.Rows
section
variable {prog:Program}{w:World}{A:Around}{E:Z5}{s:Shared}
theorem DO {t b:Addr}{vs ws:List Value}{Q:Z5}(ht:IsTup s.heap t vs.toArray)(hb:IsTup s.heap b ws.toArray)(hv:vs≠[])
  (h1:ws=[]->Q (.ref t) s) (h2:ws≠[]->Q (.ref s.heap.objs.size) {s with heap:=s.heap.push {cls:=.type "tuple",data:=.seq (vs++ws).toArray}})
  (hsz:vs.length+ws.length<=sizeLine):wpAny (!3) A (binaryOp .Add (.ref t) (.ref b)) Q E s:=by
 obtain⟨⟨cls,dd,data,sl⟩,ho,hc,n,hd⟩:=id ht
 obtain⟨⟨cls2,dd2,data2,sl2⟩,ho2,hc2,n2,hd2⟩:=id hb
 simp only at hc hd hc2 hd2
 subst hc hd hc2 hd2
 have e:vs.toArray++ws.toArray=(vs++ws).toArray:=by simp
 by_cases hw:ws=[]
 ·exact concat_meets ⟨_,ho,rfl⟩ ⟨_,ho2,rfl⟩ noFill_tuple_add seq_tuple_add PySem.F.slot_tuple_add PySem.F.entry_tuple_add (PySem.F.args_tuple_add_2 _ _)
   (tuple_addW1 t b vs.toArray ws.toArray n n2 dd dd2 sl sl2 (by simpa using hv) (by simp[hw])) ⟨ho,ho2,h1 hw⟩
 ·refine concat_meets ⟨_,ho,rfl⟩ ⟨_,ho2,rfl⟩ noFill_tuple_add seq_tuple_add PySem.F.slot_tuple_add PySem.F.entry_tuple_add (PySem.F.args_tuple_add_2 _ _)
   (tuple_addW2 t b vs.toArray ws.toArray n n2 dd dd2 sl sl2 (by simpa using hv) (by simpa using hw) (by rw[Kj,Kj];exact hsz)) ⟨ho,ho2,?_⟩
  rw[e]
  exact h2 hw
def dJ (n d:Nat):Option Int->Nat
 | none=>d
 | some v=>if v < 0 then (v+(n:Int)).toNat else min v.toNat n
theorem G2 (n d:Nat)(hd:d<=n)(o:Option Int):dJ n d o<=n:=by
 cases o with
 | none=>exact hd
 | some v=>
  show(if v < 0 then (v+(n:Int)).toNat else min v.toNat n)<=n
  by_cases hv:v < 0
  ·rw[JW hv];omega
  ·rw[JZ hv];exact Nat.min_le_right _ _
theorem yz (v:Int)(n d:Nat):(if v < 0 then max (v+(n:Int)) 0 else min v (n:Int))=((dJ n d (some v):Nat):Int):=by
 show(if v < 0 then max (v+(n:Int)) 0 else min v (n:Int))=(((if v < 0 then (v+(n:Int)).toNat else min v.toNat n):Nat):Int)
 by_cases hv:v < 0
 ·simp only[JW hv];omega
 ·simp only[JZ hv];omega
theorem xh (lo hi:Option Int)(n:Nat):Builtin.Slice.sliceAdjust lo hi 1 (n:Int)=(((dJ n 0 lo:Nat):Int),((dJ n n hi:Nat):Int)):=by
 have h1:¬ ((1:Int) < 0):=by omega
 unfold Builtin.Slice.sliceAdjust
 simp only[h1,if_false]
 refine Prod.ext ?_ ?_
 ·cases lo with
  | none=>rfl
  | some v=>exact yz v n 0
 ·cases hi with
  | none=>rfl
  | some v=>exact yz v n n
theorem xi (i j:Nat):Builtin.Slice.slicePlaces (i:Int) (j:Int) 1=j - i:=by
 unfold Builtin.Slice.slicePlaces
 have h1:(1:Int) > 0:=by omega
 simp only[h1,if_true,Int.ediv_one]
 split <;> omega
theorem oN {v:Value}{o:Option Int}{Q:Option Int->Shared->Prop}(p:IsPart v o)(h:Q o s):wpAny (!3) A (Builtin.Slice.slicePartIndex v) Q E s:=by
 cases p with
 | none=>exact slicePart_none h
 | int i t=>exact slicePart_int h
theorem jc {sl:Addr}{vl vu:Value}{lo hi:Option Int}{n:Nat}{Q:Int×Int×Nat->Shared->Prop}(hs:s.heap.IsSliceOf sl vl vu .none)(pl:IsPart vl lo)(pu:IsPart vu hi)
  (h:Q (((dJ n 0 lo:Nat):Int),1,dJ n n hi - dJ n 0 lo) s):wpAny (!3) A (Builtin.Slice.sliceApplied (.ref sl) (pure (n:Int))) Q E s:=by
 obtain⟨os,hos,hcs,hds⟩:=id hs
 unfold Builtin.Slice.sliceApplied Builtin.Slice.sliceFields
 refine JY (JY (wpAny_field hos hds (x:=vl) rfl (JY (wpAny_field hos hds (x:=vu) rfl (JY (wpAny_field hos hds (x:=.none) rfl (JJ ?_)))))))
 refine JY (slicePart_none ?_)
 show wpAny _ _ (if ((1:Int)==0)=true then _ else _) _ _ s
 rw[JZ (by decide)]
 refine JY (oN pl (JY (oN pu (JY (JJ ?_)))))
 show wpAny _ _ (match Builtin.Slice.sliceAdjust lo hi 1 (n:Int) with | (lo,hi)=>pure (lo,(1:Int),Builtin.Slice.slicePlaces lo hi 1)) _ _ s
 rw[xh lo hi n]
 show wpAny _ _ (pure (((dJ n 0 lo:Nat):Int),(1:Int),Builtin.Slice.slicePlaces ((dJ n 0 lo:Nat):Int) ((dJ n n hi:Nat):Int) 1)) _ _ s
 rw[xi]
 exact JJ h
theorem Be (xs:Array Value)(i k:Nat):((List.range k).filterMap λ(m:Nat)=>xs[((i:Int)+(m:Int)*1).toNat]?).toArray=((xs.toList.drop i).take k).toArray:=by
 have e:(λ(m:Nat)=>xs[((i:Int)+(m:Int)*1).toNat]?)=λm=>xs[i+m]?:=by
  funext m
  have:((i:Int)+(m:Int)*1).toNat=i+m:=by omega
  rw[this]
 rw[e]
 have:=pick_run xs i k
 rw[List.filterMap_map] at this
 have e2:((λx=>xs[x]?) ∘ λx=>i+x)=λm=>xs[i+m]?:=rfl
 rw[e2] at this
 rw[this]
theorem lM {t sl:Addr}{items:Array Value}{vl vu:Value}{lo hi:Option Int}{Q:Z5}(ht:IsTup s.heap t items)(hs:s.heap.IsSliceOf sl vl vu .none)(pl:IsPart vl lo)(pu:IsPart vu hi)
  (hw:¬ (dJ items.size 0 lo=0/\dJ items.size items.size hi=items.size))
  (h:Q (.ref s.heap.objs.size) {s with heap:=s.heap.push {cls:=.type "tuple",data:=.seq ((items.toList.drop (dJ items.size 0 lo)).take (dJ items.size items.size hi - dJ items.size 0 lo)).toArray}})
  (hsz:items.size<=sizeLine):wpAny (!3) A (getItem (.ref t) (.ref sl)) Q E s:=by
 have yA:sizeOk (.seq ((items.toList.drop (dJ items.size 0 lo)).take (dJ items.size items.size hi - dJ items.size 0 lo)).toArray):=by
  show((items.toList.drop (dJ items.size 0 lo)).take (dJ items.size items.size hi - dJ items.size 0 lo)).toArray.size<=sizeLine
  rw[Kj,Xk,XJ,Kq]
  omega
 have hj:dJ items.size items.size hi<=items.size:=G2 _ _ (K1 _) hi
 obtain⟨os,hos,hcs,hds⟩:=id hs
 have hTs:s.TypeIs (.ref sl) "slice":=⟨os,hos,hcs⟩
 unfold getItem
 try with_reducible refine Z9 ?_
 first | refine JY (JJ ?_) | skip
 refine JY (wpAny_sequenceKey ht.typeIs (by decide) ?_)
 refine JY (wpAny_callSpecial?_slot (name:=Str.ofString "__getitem__") ht.typeIs PyProof.Rows.slot_tuple_getitem
  (Z8 PyProof.Rows.slot_tuple_getitem ht.typeIs entry_tuple_getitem ?_ (args_tuple_getitem _ _)))
 show wpAny _ _ (Builtin.Tuple.tupleItemsOf (.ref t) >>=_) _ _ s
 refine JY (tupleItemsOf_ ht ?_)
 refine JY (wpAny_typeOf hTs ?_)
 rw[JW (by decide)]
 refine JY (jc hs pl pu ?_)
 have hno:¬ ((((dJ items.size 0 lo:Nat):Int)==0 && (1:Int)==1 && (dJ items.size items.size hi - dJ items.size 0 lo)==items.size)=true):=by
  intro q
  rw[X9,X9] at q
  have q1:((dJ items.size 0 lo:Nat):Int)=0:=eq_of_beq q.1.1
  have q2:dJ items.size items.size hi - dJ items.size 0 lo=items.size:=eq_of_beq q.2
  exact hw ⟨by omega,by omega⟩
 show wpAny _ _ (if (((dJ items.size 0 lo:Nat):Int)==0 && (1:Int)==1 && (dJ items.size items.size hi - dJ items.size 0 lo)==items.size)=true then _ else _) _ _ s
 rw[JZ hno,Be]
 first
  | exact JY (m:=Builtin.Tuple.tupleExact _) (Z7 (JJ ⟨_,rfl,JJ h⟩) yA)
  | exact JY (m:=Builtin.Tuple.tupleExact _) (Z7 (JY (JJ (JJ ⟨_,rfl,JJ h⟩))) yA)
  | exact JY (JY (m:=Builtin.Tuple.tupleExact _) (Z7 (JJ (JJ ⟨_,rfl,JJ h⟩)) yA))
  | exact JY (JY (m:=Builtin.Tuple.tupleExact _) (Z7 (JJ ⟨_,rfl,JJ h⟩) yA))
end
end HT
namespace L2
open PySem PySem.Spec PyProof.Rows
abbrev TO:=St->Hp->(Option Int->Hp->Prop)->Prop
def PO (X:Cx)(e:Option Expr)(t:TO):Prop :=
 ∀(pins:List (Addr×Obj)) (s:Shared) (σ:St) (H:Hp) (Q:Option Int->Hp->Prop),Inv X pins σ H s->t σ H Q->
  wpAny (model X.prog X.w) X.A (evalPart e X.env) (λu s'=>∃o H',Inv X pins σ H' s'/\IsPart u o/\Q o H') X.xe s
def DP:TO:=λ_ H Q=>Q none H
def JE (t:TE):TO:=λσ H Q=>t σ H λx H1=>∃i,x= .int i/\Q (some i) H1
section
variable {X:Cx}{e:Expr}{te:TE}{lo hi:Option Expr}{tl th:TO}{pos p2:Pos}
theorem DQ:PO X none DP:=by
 intro pins s σ H Q I h
 rw[evalPart_none]
 exact JJ ⟨none,H,I,.none,h⟩
theorem DR (h:PE X e te):PO X (some e) (JE te):=by
 intro pins s σ H Q I hw
 rw[evalPart_some]
 refine cX (h pins s σ H _ I hw) λu s1 ⟨x,H1,I1,r1,q1⟩=> ?_
 obtain⟨i,rfl,q⟩:=q1
 obtain⟨t,rfl⟩:=r1
 exact⟨some i,H1,I1,.int i t,q⟩
def FT (X:Cx)(r:V->Option Int->Option Int->Hp->VK->Prop):Prop :=
 ∀(pins:List (Addr×Obj)) (s:Shared) (σ:St) (H:Hp) (x:V) (v vl vu:Value) (lo hi:Option Int) (sl:Addr) (Q:VK),Inv X pins σ H s->RelV x v->s.heap.IsSliceOf sl vl vu .none->IsPart vl lo->IsPart vu hi->r x lo hi H Q->
  ∃T id,typeLookup (.type T) "__getitem__" =pure (some (.builtin id))/\s.TypeIs v T/\wpAny (model X.prog X.w) X.A (getItem v (.ref sl)) (EP X pins σ Q) X.xe s
theorem FT.or {r r':V->Option Int->Option Int->Hp->VK->Prop}(h:FT X r)(h':FT X r'):FT X (λx lo hi H Q=>r x lo hi H Q∨r' x lo hi H Q):=by
 intro pins s σ H x v vl vu lo hi sl Q I rx hs pl pu q
 rcases q with q | q
 ·exact h pins s σ H x v vl vu lo hi sl Q I rx hs pl pu q
 ·exact h' pins s σ H x v vl vu lo hi sl Q I rx hs pl pu q
def NS (r:V->Option Int->Option Int->Hp->VK->Prop)(te:TE)(tl th:TO):TE:=λσ H Q=>te σ H λx H1=>tl σ H1 λl H2=>th σ H2 λu H3=>r x l u H3 Q
theorem Bf {r:V->Option Int->Option Int->Hp->VK->Prop}(hr:FT X r)(he:PE X e te)(hl:PO X lo tl)(hu:PO X hi th):PE X (.Subscript e (.Slice lo hi none p2) pos) (NS r te tl th):=by
 intro pins s σ H Q I h
 refine Subscript_ (cX (he pins s σ H _ I h) λv s1 ⟨x,H1,I1,r1,q1⟩=> ?_)
 refine wpAny_Slice (cX (hl pins s1 σ H1 _ I1 q1) λvl s2 ⟨l,H2,I2,pl,q2⟩=>cX (hu pins s2 σ H2 _ I2 q2) λvu s3 ⟨u,H3,I3,pu,q3⟩=> ?_)
 rw[evalPart_none]
 refine JJ ?_
 have I4:Inv X pins σ H3 {s3 with heap:=s3.heap.push {cls:=.type "slice",data:=.fields #[vl,vu,.none]}}:=I3.kept (t':=s3.toks) λb ob q=>K6 _ q
 obtain⟨T,id,hT,ht,hg⟩:=hr pins {s3 with heap:=s3.heap.push {cls:=.type "slice",data:=.fields #[vl,vu,.none]}} σ H3 x v vl vu l u s3.heap.objs.size Q I4 r1 (Heap.IsSliceOf.new ..) pl pu q3
 show wpAny (model X.prog X.w) X.A (subscriptTail e (.Slice lo hi none p2) v (.ref s3.heap.objs.size)) (EP X pins σ Q) X.xe {s3 with heap:=s3.heap.push {cls:=.type "slice",data:=.fields #[vl,vu,.none]}}
 exact tail_any (ops:=[.ref s3.heap.objs.size,v]) ht hT hg (by with_unfolding_all rfl)
def uM (xs:List V)(lo hi:Option Int):List V:=(xs.drop (HT.dJ xs.length 0 lo)).take (HT.dJ xs.length xs.length hi - HT.dJ xs.length 0 lo)
theorem nq (xs:List V)(lo hi:Option Int):(uM xs lo hi).length<=xs.length:=by
 unfold uM
 rw[Xk,XJ]
 omega
def L_ (K:Frag):V->Option Int->Option Int->Hp->VK->Prop:=λx lo hi H Q=>∃a xs,x= .ref a/\dL K H a xs/\
 ¬ (HT.dJ xs.length 0 lo=0/\HT.dJ xs.length xs.length hi=xs.length)/\∀p,H p=none->Q (.ref p) (upd H p (.tup (uM xs lo hi)))
theorem G3:FT X (L_ X.K):=by
 intro pins s σ H x v vl vu lo hi sl Q I rx hs pl pu h
 obtain⟨a,xs,rfl,hx,hw,q⟩:=h
 cases rx
 obtain⟨its,r,ht,hz⟩:=I.tuple hx
 have hlen:its.toArray.size=xs.length:=by rw[Kj];exact r.length.symm
 refine⟨"tuple",_,PyProof.Rows.slot_tuple_getitem.lookup,ht.typeIs,?_⟩
 refine HT.lM ht hs pl pu (by rw[hlen];exact hw) ?_ (by rw[hlen];exact hz)
 rw[hlen]
 refine⟨.ref s.heap.objs.size,_,I.laid (t':=s.toks) (o:=.tup (uM xs lo hi)) (λb ob q=>K6 _ q) (K1 _) ?_,rfl,q _ (I.hok.fresh (K1 _))⟩
 exact⟨KY (nq xs lo hi) hz,_,(r.drop (HT.dJ xs.length 0 lo)).take (HT.dJ xs.length xs.length hi - HT.dJ xs.length 0 lo),IsTup.new _ _⟩
def JF (K:Frag):R2:=λx y H Q=>∃a b xs ys,x= .ref a/\y= .ref b/\dL K H a xs/\dL K H b ys/\xs≠[]/\xs.length+ys.length<=sizeLine/\
 (ys=[]->Q (.ref a) H)/\(ys≠[]->∀p,H p=none->Q (.ref p) (upd H p (.tup (xs++ys))))
theorem Vals.om {xs:List V}{us:List Value}(r:Vals xs us):us=[]↔xs=[]:=by
 cases r with
 | nil=>simp
 | cons _ _=>simp
theorem DU:oj X (binaryOp .Add) (JF X.K):=by
 intro pins s σ H x y v u Q I rx ry h
 obtain⟨a,b,xs,ys,rfl,rfl,ha,hb,hx,hz,q1,q2⟩:=h
 cases rx
 cases ry
 obtain⟨its,r1,p1,_⟩:=I.tuple ha
 obtain⟨its2,r2,p2,_⟩:=I.tuple hb
 refine HT.DO p1 p2 (λz=>hx (r1.om.mp z)) (λz=>⟨.ref a,H,I,rfl,q1 (r2.om.mp z)⟩) (λz=> ?_) (by rw[←r1.length,←r2.length];exact hz)
 refine⟨.ref s.heap.objs.size,_,I.laid (t':=s.toks) (o:=.tup (xs++ys)) (λb ob q=>K6 _ q) (K1 _) ?_,rfl,q2 (λw=>z (r2.om.mpr w)) _ (I.hok.fresh (K1 _))⟩
 exact⟨by rw[K2];exact hz,_,r1.append r2,IsTup.new _ _⟩
end
def nu (n:Nat)(i:Int):Option Nat:=if 0<=i then (if i < n then some i.toNat else none) else if -(n:Int)<=i then some (i+n).toNat else none
def G4 {α:Type}(xs:List α)(i:Int):Option α:=(nu xs.length i).bind λj=>xs[j]?
theorem yB {n:Nat}{i:Int}{j:Nat}(h:nu n i=some j):seqIndex? i n=some j/\j < n/\ -(n:Int)<=i/\i < n:=by
 unfold nu at h
 by_cases h0:0<=i
 ·rw[JW h0] at h
  by_cases h1:i < n
  ·rw[JW h1] at h
   have e:i.toNat=j:=Option.some.inj h
   exact⟨by rw[seqIndex_of h0 h1,e],by omega,by omega,h1⟩
  ·rw[JZ h1] at h;cases h
 ·rw[JZ h0] at h
  by_cases h1:-(n:Int)<=i
  ·rw[JW h1] at h
   have e:(i+n).toNat=j:=Option.some.inj h
   exact⟨by rw[seqIndex_neg (!1) h1,e],by omega,h1,by omega⟩
  ·rw[JZ h1] at h;cases h
theorem sL {α:Type}{xs:List α}{i:Int}{v:α}(h:G4 xs i=some v):∃j,seqIndex? i xs.length=some j/\xs[j]? =some v/\j < xs.length/\ -(xs.length:Int)<=i/\i < xs.length:=by
 unfold G4 at h
 cases e:nu xs.length i with
 | none=>rw[e] at h;cases h
 | some j=>
  rw[e] at h
  obtain⟨h1,h2,h3,h4⟩:=yB e
  exact⟨j,h1,h,h2,h3,h4⟩
def sM (b:Expr):Prop:=∀o i,subscripted b false o i=operate [o,i] (getItem o i)
def Bg (X:Cx)(r:R2):Prop :=
 ∀(value slice:Expr) (pins:List (Addr×Obj)) (s:Shared) (σ:St) (H:Hp) (x y:V) (v u:Value) (Q:VK),Inv X pins σ H s->RelV x v->RelV y u->r x y H Q->
  subscripted slice false v u=operate [v,u] (getItem v u)->wpAny (model X.prog X.w) X.A (subscriptTail value slice v u) (EP X pins σ Q) X.xe s
def FU (X:Cx)(id:String)(r:V->List V->Hp->VK->Prop):Prop :=
 ∀(pins:List (Addr×Obj)) (s:Shared) (σ:St) (H:Hp) (x:V) (xs:List V) (v:Value) (us:List Value) (Q:VK),Inv X pins σ H s->RelV x v->Vals xs us->r x xs H Q->
  wpAny (model X.prog X.w) X.A (call (.builtin id) (v :: us)) (EP X pins σ Q) X.xe s
section
variable {X:Cx}{a b:Expr}{ta tb:TE}{pos:Pos}
theorem Bg.or {r r':R2}(h:Bg X r)(h':Bg X r'):Bg X (λx y H Q=>r x y H Q∨r' x y H Q):=by
 intro value slice pins s σ H x y v u Q I rx ry q hs
 rcases q with q | q
 ·exact h value slice pins s σ H x y v u Q I rx ry q hs
 ·exact h' value slice pins s σ H x y v u Q I rx ry q hs
theorem FU.or {id:String}{r r':V->List V->Hp->VK->Prop}(h:FU X id r)(h':FU X id r'):FU X id (λx xs H Q=>r x xs H Q∨r' x xs H Q):=by
 intro pins s σ H x xs v us Q I rx rs q
 rcases q with q | q
 ·exact h pins s σ H x xs v us Q I rx rs q
 ·exact h' pins s σ H x xs v us Q I rx rs q
theorem FV {r:R2}(hr:Bg X r)(ha:PE X a ta)(hb:PE X b tb)(hs:sM b):PE X (.Subscript a b pos) (Lo r ta tb):=by
 intro pins s σ H Q I h
 exact Subscript_ (GO ha hb I h λv u s2 x y H2 I2 rx ry q=>hr a b pins s2 σ H2 x y v u Q I2 rx ry q (hs _ _))
def JG (K:Frag):R2:=λx y H Q=>∃p xs i v,x= .ref p/\y= .int i/\fU K H p xs/\G4 xs i=some v/\Q v H
def JH (K:Frag):R2:=λx y H Q=>∃p xs i v,x= .ref p/\y= .int i/\dL K H p xs/\G4 xs i=some v/\Q v H
def JI:R2:=λx y H Q=>∃z i c,x= .str z/\y= .int i/\z.length<=sizeLine/\G4 z.cps.toList i=some c/\Q (.str ⟨#[c]⟩) H
theorem yC:Bg X (JG X.K):=by
 intro value slice pins s σ H x y v u Q I rx ry h hs
 obtain⟨p,xs,i,z,rfl,rfl,hq,he,q⟩:=h
 cases rx
 obtain⟨t,rfl⟩:=ry
 obtain⟨its,r,pl,hz⟩:=I.list hq
 obtain⟨j,h1,h2,h3,h4,h5⟩:=sL he
 obtain⟨w,ew,zI⟩:=r.get h2
 have hl:=r.length
 have hn:=j6
 have fin:EP X pins σ Q w s:=⟨z,H,I,zI,q⟩
 by_cases h0:0<=i
 ·have hj:i.toNat=j:=by
   rw[seqIndex_of h0 h5] at h1
   exact Option.some.inj h1
  exact item_listR pl.isList h0 (!1) (by rw[hj];simpa using ew) fin hs
 ·have hj:(i+(its.toArray.size:Int)).toNat=j:=by
   rw[seqIndex_neg (!1) h4] at h1
   rw[Kj,←hl]
   exact Option.some.inj h1
  exact subscriptTail_builtinR (x:=w) pl.isList.typeIs slot_list_getitem.lookup
   (wpAny_getItem_list_neg (Q:=λr s'=>r=w/\EP X pins σ Q r s') pl.isList (!1) (by rw[Kj] <;> omega) (!1) (by rw[hj];simpa using ew) ⟨rfl,fin⟩) hs
theorem G5:Bg X (JH X.K):=by
 intro value slice pins s σ H x y v u Q I rx ry h hs
 obtain⟨p,xs,i,z,rfl,rfl,hq,he,q⟩:=h
 cases rx
 obtain⟨t,rfl⟩:=ry
 obtain⟨its,r,pl,hz⟩:=I.tuple hq
 obtain⟨j,h1,h2,h3,h4,h5⟩:=sL he
 obtain⟨w,ew,zI⟩:=r.get h2
 have hl:=r.length
 have hn:=j6
 have fin:EP X pins σ Q w s:=⟨z,H,I,zI,q⟩
 exact subscriptTail_builtinR (x:=w) pl.typeIs slot_tuple_getitem.lookup
  (getItem_tuple (j:=j) (Q:=λr s'=>r=w/\EP X pins σ Q r s') pl (!1) (!1) (by rw[Kj,←hl];exact h1) (by simpa using ew) ⟨rfl,fin⟩) hs
theorem G6:Bg X JI:=by
 intro value slice pins s σ H x y v u Q I rx ry h hs
 obtain⟨z,i,c,rfl,rfl,hz,he,q⟩:=h
 obtain⟨t,rfl⟩:=rx
 obtain⟨t',rfl⟩:=ry
 obtain⟨j,h1,h2,h3,h4,h5⟩:=sL he
 have hl:z.cps.toList.length=z.length:=by simp[Str.length]
 rw[hl] at h1 h4 h5
 have hn:=j6
 exact tail_any (typeIs_str s z t) slot_str_getitem.lookup (getItem_str (c:=c) (by
  have e1:decide (i < -(2^63:Int))=false:=JQ (!1)
  have e2:decide (i≥2^63)=false:=JQ (!1)
  rw[e1,e2,Bool.or_false]) (by rw[h1];simpa using h2) ⟨.str ⟨#[c]⟩,H,I.tok _,⟨_,rfl⟩,q⟩) hs
def NT (K:Frag):R2:=λx y H Q=>JG K x y H Q∨JH K x y H Q∨JI x y H Q
theorem G7:Bg X (NT X.K):=yC.or (G5.or G6)
theorem xj (its:List Value)(n j:Nat)(u:Value):Obj.mapSeq (·.setIfInBounds j u) {cls:=.type "list",data:=.seq its.toArray n}={cls:=.type "list",data:=.seq (its.set j u).toArray n}:=by
 simp[Obj.mapSeq]
theorem Inv.lst {pins:List (Addr×Obj)}{σ:St}{H:Hp}{s:Shared}{p:Addr}{xs:List V}(I:Inv X pins σ H s)(h:H p=some (.lst xs)) :
  ∃(its:List Value) (n:Nat),Vals xs its/\s.heap.get? p=some {cls:=.type "list",data:=.seq its.toArray n}/\xs.length<=sizeLine:=by
 obtain⟨z,its,n,r,e⟩:=I.hok p _ h
 exact⟨its,n,r,e,z⟩
theorem Inv.G8 {pins:List (Addr×Obj)}{σ:St}{H:Hp}{s:Shared}{p:Addr}{xs ys:List V}{its its':List Value}{n n':Nat}{f:Obj->Obj}(I:Inv X pins σ H s)(h:H p=some (.lst xs))
  (ho:s.heap.get? p=some {cls:=.type "list",data:=.seq its.toArray n}) (hf:f {cls:=.type "list",data:=.seq its.toArray n}={cls:=.type "list",data:=.seq its'.toArray n'}) (r:Vals ys its') (hz:ys.length<=sizeLine) (t:Nat) :
  Inv X pins σ (upd H p (.lst ys)) {s with heap:=s.heap.update p f,toks:=t}:=by
 have e:(s.heap.update p f).get? p=some {cls:=.type "list",data:=.seq its'.toArray n'}:=by
  rw[Xw f ho (by rw[hf] <;> rfl),hf]
 refine I.write (x:=p) (e:=p) (by rw[h];trivial) (.inl rfl) (λb u hb q=>(Ju _ _ (Ne.symm hb)).trans q) ⟨_,e⟩ ?_
 exact⟨hz,its',n',r,e⟩
def JL:V->V->V->Hp->(Hp->Prop)->Prop:=λo i v H Q=>∃p xs k j,o= .ref p/\i= .int k/\H p=some (.lst xs)/\nu xs.length k=some j/\Q (upd H p (.lst (xs.set j v)))
theorem set_list:GH X JL:=by
 intro pins s σ H o i v ov iv u Q I ro ri rv h
 obtain⟨p,xs,k,j,rfl,rfl,hp,hj,q⟩:=h
 cases ro
 obtain⟨t,rfl⟩:=ri
 obtain⟨its,n,r,ho,hz⟩:=I.lst hp
 obtain⟨h1,h2,h3,h4⟩:=yB hj
 have hl:=r.length
 have hn:=j6
 have I':Inv X pins σ (upd H p (.lst (xs.set j v))) {s with heap:=s.heap.update p (Obj.mapSeq (·.setIfInBounds j u))} :=
  I.G8 hp ho (xj its n j u) (r.set rv j) (by rw[U1];exact hz) s.toks
 by_cases h0:0<=k
 ·have hk:k.toNat=j:=by
   rw[seqIndex_of h0 h4] at h1
   exact Option.some.inj h1
  exact PySem.W.ki_setAt ho h0 (!1) (by rw[Kj,←hl];exact h4) (by rw[hk];exact⟨_,I',q⟩)
 ·have hk:(k+(its.toArray.size:Int)).toNat=j:=by
   rw[seqIndex_neg (!1) h3] at h1
   rw[Kj,←hl]
   exact Option.some.inj h1
  exact PySem.W.ki_setBack ho (!1) (by rw[Kj,←hl];exact h3) (!1) (by rw[hk];exact⟨_,I',q⟩)
theorem sN (lo hi:Option Int)(n:Nat):(sliceBounds lo hi none n).1=((HT.dJ n 0 lo:Nat):Int)/\(sliceBounds lo hi none n).2.1=((HT.dJ n n hi:Nat):Int)/\(sliceBounds lo hi none n).2.2=1:=by
 refine⟨?_,?_,rfl⟩
 ·cases lo with
  | none=>simp[sliceBounds,HT.dJ]
  | some i=>
   simp only[sliceBounds,HT.dJ,Option.getD_none,show(1:Int) > 0 by decide,if_true]
   by_cases h:i < 0
   ·simp only[h,if_true] <;> omega
   ·simp only[h,if_false] <;> omega
 ·cases hi with
  | none=>simp[sliceBounds,HT.dJ]
  | some i=>
   simp only[sliceBounds,HT.dJ,Option.getD_none,show(1:Int) > 0 by decide,if_true]
   by_cases h:i < 0
   ·simp only[h,if_true] <;> omega
   ·simp only[h,if_false] <;> omega
theorem qH (its:List Value)(lo hi:Option Int):slicePick its.toArray lo hi none=((its.drop (HT.dJ its.length 0 lo)).take (HT.dJ its.length its.length hi - HT.dJ its.length 0 lo)).toArray:=by
 obtain⟨h1,h2,h3⟩:=sN lo hi its.toArray.size
 unfold slicePick
 rw[h1,h2,h3]
 simp only[sliceRange_one,pick_run,Kj] <;> rfl
def Ma (K:Frag):V->Option Int->Option Int->Hp->VK->Prop:=λx lo hi H Q=>∃a xs,x= .ref a/\fU K H a xs/\∀p,H p=none->Q (.ref p) (upd H p (.lst (uM xs lo hi)))
theorem DV:FT X (Ma X.K):=by
 intro pins s σ H x v vl vu lo hi sl Q I rx hs pl pu h
 obtain⟨a,xs,rfl,hx,q⟩:=h
 cases rx
 obtain⟨its,r,ht,hz⟩:=I.list hx
 have hlen:=r.length
 refine⟨"list",_,slot_list_getitem.lookup,ht.isList.typeIs,?_⟩
 refine wpAny_getItem_list_slice ht.isList hs pl pu .none (by simp) ?_ (by rw[Kj] <;> omega)
 rw[qH,←hlen]
 refine⟨.ref s.heap.objs.size,_,I.laid (t':=s.toks) (o:=.lst (uM xs lo hi)) (λb ob q=>K6 _ q) (K1 _) ?_,rfl,q _ (I.hok.fresh (K1 _))⟩
 exact⟨KY (nq xs lo hi) hz,_,0,(r.drop (HT.dJ xs.length 0 lo)).take (HT.dJ xs.length xs.length hi - HT.dJ xs.length 0 lo),Ky _ rfl⟩
theorem sO:hJ X (.builtin "len") (λxs H Q=>∃p ys,xs=[.ref p]/\(fU X.K H p ys∨dL X.K H p ys)/\Q (.int ys.length) H):=by
 intro pins s σ H xs us Q I r h
 obtain⟨p,ys,rfl,hq,q⟩:=h
 obtain⟨u,rfl,rx⟩:=vals1 r
 cases rx
 have hn:=j6
 rcases hq with hq | hq
 ·obtain⟨its,r',pl,hz⟩:=I.list hq
  have hlen:=r'.length
  exact Calls.call_len_list pl.isList (by simp only[Kj] <;> omega) ⟨.int ys.length,H,I.tok _,⟨s.toks+1,by rw[Kj,hlen]⟩,q⟩
 ·obtain⟨its,r',pl,hz⟩:=I.tuple hq
  have hlen:=r'.length
  exact len_tuple pl (by simp only[Kj] <;> omega) ⟨.int ys.length,H,I.tok _,⟨s.toks+1,by rw[Kj,hlen]⟩,q⟩
theorem sP:hJ X (.builtin "len") (λxs H Q=>∃z,xs=[.str z]/\z.length<=sizeLine/\Q (.int z.length) H):=by
 intro pins s σ H xs us Q I r h
 obtain⟨z,rfl,hz,q⟩:=h
 obtain⟨u,rfl,t,rfl⟩:=vals1 r
 have hn:=j6
 exact len_str (!1) ⟨.int z.length,H,I.tok _,⟨_,rfl⟩,q⟩
theorem hJ.or {f:Value}{r r':List V->Hp->VK->Prop}(h:hJ X f r)(h':hJ X f r'):hJ X f (λxs H Q=>r xs H Q∨r' xs H Q):=by
 intro pins s σ H xs us Q I rs q
 rcases q with q | q
 ·exact h pins s σ H xs us Q I rs q
 ·exact h' pins s σ H xs us Q I rs q
theorem sQ:hJ X (.type "list") (λxs H Q=>∃p ys,xs=[.ref p]/\(fU X.K H p ys∨dL X.K H p ys)/\∀l,H l=none->Q (.ref l) (upd H l (.lst ys))):=by
 intro pins s σ H xs us Q I r h
 obtain⟨p,ys,rfl,hq,q⟩:=h
 obtain⟨u,rfl,rx⟩:=vals1 r
 cases rx
 have fin:∀(its:List Value),Vals ys its->ys.length<=sizeLine->∀(h':Heap) (c':Nat),(∀b o',s.heap.get? b=some o'->h'.get? b=some o')->
   h'.get? s.heap.objs.size=some {cls:=.type "list",dict:=none,data:=.seq its.toArray c',slots:=#[]}->EP X pins σ Q (.ref s.heap.objs.size) {s with heap:=h'}:=λits r' hz h' c' kp e=>
  ⟨.ref s.heap.objs.size,_,I.laid (t':=s.toks) kp (K1 _) (show dG X.prog X.w _ h' _ (.lst ys) from⟨hz,its,c',r',e⟩),rfl,q _ (I.hok.fresh (K1 _))⟩
 rcases hq with hq | hq
 ·obtain⟨its,r',pl,hz⟩:=I.list hq
  have hlen:=r'.length
  obtain⟨o,ho,hc,n,hd⟩:=pl.isList
  exact call_list_seq p (.inl rfl) ho hc hd (λh' c' kp e=>fin its r' hz h' c' kp e) (by simp only[Kj] <;> omega)
 ·obtain⟨its,r',pl,hz⟩:=I.tuple hq
  have hlen:=r'.length
  obtain⟨o,ho,hc,n,hd⟩:=pl
  exact call_list_seq p (.inr rfl) ho hc hd (λh' c' kp e=>fin its r' hz h' c' kp e) (by simp only[Kj] <;> omega)
theorem qI:hJ X (.type "tuple") (λxs H Q=>∃p ys,xs=[.ref p]/\((fU X.K H p ys/\∀l,H l=none->Q (.ref l) (upd H l (.tup ys)))∨(dL X.K H p ys/\Q (.ref p) H))):=by
 intro pins s σ H xs us Q I r h
 obtain⟨p,ys,rfl,h⟩:=h
 obtain⟨u,rfl,rx⟩:=vals1 r
 cases rx
 rcases h with⟨hq,q⟩ | ⟨hq,q⟩
 ·obtain⟨its,r',pl,hz⟩:=I.list hq
  have hlen:=r'.length
  refine call_tuple_list pl.isList (λh' kp=> ?_) (by simp only[Kj] <;> omega)
  have I1:Inv X pins σ H {s with heap:=h'}:=I.kept (t':=s.toks) kp
  have I2:Inv X pins σ (upd H h'.objs.size (.tup ys)) {s with heap:=h'.push {cls:=.type "tuple",data:=.seq its.toArray}} :=
   I1.laid (t':=s.toks) (λb o e=>K6 _ e) (K1 _) (show dG X.prog X.w _ _ _ (.tup ys) from⟨hz,its,r',IsTup.new _ _⟩)
  exact⟨.ref h'.objs.size,_,I2,rfl,q _ (I1.hok.fresh (K1 _))⟩
 ·obtain⟨its,r',pl,hz⟩:=I.tuple hq
  exact call_tuple_same pl ⟨.ref p,H,I,rfl,q⟩
def Mb (K:Frag)(T:String)(x:V)(H:Hp):Prop:=match x with
 | .str _=>T= "str"
 | .int _=>T= "int"
 | .ref p=>(T= "list" /\∃xs,fU K H p xs)∨(T= "tuple" /\∃o,K.lookup p=some o/\o.cls= .type "tuple" /\o.dict=none)∨
   (T= "dict" /\((∃kvs,H p=some (.dK kvs))∨∃kvs,H p=some (.dT kvs)))∨(T= "set" /\∃S n,H p=some (.set S n))
 | _=>False
theorem Bh {pins:List (Addr×Obj)}{σ:St}{H:Hp}{s:Shared}{T:String}{x:V}{v:Value}(I:Inv X pins σ H s)(r:RelV x v)(ty:Mb X.K T x H) :
  s.TypeIs v T/\∀a,v= .ref a->∃ob,s.heap.get? a=some ob/\ob.dict=none:=by
 cases x with
 | str z=>
  obtain⟨t,rfl⟩:=r
  cases(show T= "str" from ty)
  exact⟨typeIs_str s z t,λ_ e=>nomatch e⟩
 | int i=>
  obtain⟨t,rfl⟩:=r
  cases(show T= "int" from ty)
  exact⟨typeIs_int s i t,λ_ e=>nomatch e⟩
 | ref p=>
  cases r
  rcases ty with⟨rfl,xs,hq⟩ | ⟨rfl,o,hk,hc,hd⟩ | ⟨rfl,hk⟩ | ⟨rfl,S,n,hk⟩
  ·obtain⟨its,_,pl,_⟩:=I.list hq
   refine⟨pl.isList.typeIs,λa e=> ?_⟩
   cases e
   obtain⟨o,n,e,c,hd,_⟩:=pl
   exact⟨o,e,hd⟩
  ·refine⟨⟨o,I.zC p o hk,hc⟩,λa e=> ?_⟩
   cases e
   exact⟨o,I.zC _ o hk,hd⟩
  ·have z:∃o,s.heap.get? p=some o/\o.ExactDict:=by
    rcases hk with⟨kvs,hk⟩ | ⟨kvs,hk⟩
    ·obtain⟨_,_,_,_,o,_,_,e,ex,_⟩:=I.hok p _ hk
     exact⟨o,e,ex⟩
    ·obtain⟨_,_,_,_,o,_,_,e,ex,_⟩:=I.hok p _ hk
     exact⟨o,e,ex⟩
   obtain⟨o,e,ex⟩:=z
   refine⟨⟨o,e,ex.1⟩,λa e2=> ?_⟩
   cases e2
   exact⟨o,e,ex.2.1⟩
  ·obtain⟨o,_,_,_,e,ex,_⟩:=I.hok p _ hk
   refine⟨⟨o,e,ex.1⟩,λa e2=> ?_⟩
   cases e2
   exact⟨o,e,ex.2.1⟩
 | _=>exact False.elim ty
def Mc (K:Frag)(T:String)(r:V->List V->Hp->VK->Prop)(to:TE):TE:=λσ H Q=>to σ H λx H1=>Mb K T x H1/\r x [] H1 Q
def NU (K:Frag)(T:String)(r:V->List V->Hp->VK->Prop)(to:TE)(t:TA):TE:=λσ H Q=>to σ H λx H1=>Mb K T x H1/\t σ H1 λxs H2=>r x xs H2 Q
variable {o e:Expr}{es:List Expr}{to:TE}{t:TA}{name:Str}{apos cpos:Pos}{T id:String}{r:V->List V->Hp->VK->Prop}
theorem G9 (pa:PlainAttrs T)(slot:Slot T name id)(hty:typeOf (.builtin id)=pure (.type "method_descriptor"))(hm:FU X id r)(ho:PE X o to)
  (hbase:attributeBase o name X.env (eval o X.env)=eval o X.env:=by rfl) (hline:(apos.endLine==cpos.line)=true:=by rfl):PE X (.Call (.Attribute o name apos) [] [] cpos) (Mc X.K T r to):=by
 intro pins s σ H Q I h
 refine wpAny_Call_method0_late hbase hline (cX (ho pins s σ H _ I h) λv s1 ⟨x,H1,I1,r1,ty,q1⟩=> ?_)
 obtain⟨h1,h2⟩:=Bh I1 r1 ty
 exact⟨T,id,pa,slot,hty,h1,h2,Calls.callWith_builtin rfl (PySem.evalArgs_none (hm pins s1 σ H1 x [] v [] Q I1 r1 .nil q1))⟩
theorem yD (pa:PlainAttrs T)(slot:Slot T name id)(hty:typeOf (.builtin id)=pure (.type "method_descriptor"))(hm:FU X id r)(ho:PE X o to)(ha:PA X (e :: es) t)
  (hbase:attributeBase o name X.env (eval o X.env)=eval o X.env:=by rfl)
  (hfew:((backTo cpos (starEach (e :: es) X.env)).all (λx=> !x.1) && (backToKw cpos (keywordEach [] X.env)).all (λx=>x.1.isSome)
   && decide ((e :: es).length+([]:List Keyword).length+(if ([]:List Keyword).isEmpty then 0 else 1) < 30))=true:=by rfl)
  (hline:(apos.endLine==cpos.line)=true:=by rfl) (hs:starEach (e :: es) X.env=(false,eval e X.env) :: starEach es X.env:=by rfl) (hplain:(backTo cpos (starEach es X.env)).any (·.1)=false:=by rfl) :
  PE X (.Call (.Attribute o name apos) (e :: es) [] cpos) (NU X.K T r to t):=by
 intro pins s σ H Q I h
 refine wpAny_Call_method_late hbase hfew hline rfl (cX (ho pins s σ H _ I h) λv s1 ⟨x,H1,I1,r1,ty,q1⟩=> ?_)
 obtain⟨h1,h2⟩:=Bh I1 r1 ty
 refine⟨T,id,pa,slot,hty,h1,h2,?_⟩
 have hA:=ha cpos pins s1 σ H1 _ I1 q1
 rw[hs] at hA⊢
 refine Calls.callWith_builtin (by show(false || (backTo cpos (starEach es X.env)).any (·.1))=false;rw[hplain] <;> rfl) (Calls.evalArgs_plain ?_)
 exact cX hA λus s2 ⟨vs,H2,I2,r2,q2⟩=>hm pins s2 σ H2 x vs v us Q I2 r1 r2 q2
/- xs.append(e),list.index on a module's tuple .. are FU facts of 06m -/
end
def JM (X:Cx)(id:String)(r:V->List V->Hp->VK->Prop):Prop :=
 ∀(pins:List (Addr×Obj)) (s:Shared) (σ:St) (H:Hp) (x:V) (xs:List V) (v:Value) (us:List Value) (Q:VK),Inv X pins σ H s->RelV x v->Vals xs us->r x xs H Q->
  wpAny (model X.prog X.w) X.A (call (.builtin id) (v :: us)) (EP X pins σ Q) X.xe s
theorem Vals.one:∀{x:V} {us:List Value},Vals [x] us->∃u,us=[u]/\RelV x u
 | _,_,.cons r .nil=>⟨_,rfl,r⟩
theorem Vals.two:∀{x y:V} {us:List Value},Vals [x,y] us->∃u v,us=[u,v]/\RelV x u/\RelV y v
 | _,_,_,.cons r (.cons q .nil)=>⟨_,_,rfl,r,q⟩
theorem Vals.zero:∀{us:List Value},Vals [] us->us=[]
 | _,.nil=>rfl
theorem Vals.eraseIdx:∀{xs:List V} {us:List Value} (i:Nat),Vals xs us->Vals (xs.eraseIdx i) (us.eraseIdx i)
 | _,_,_,.nil=> .nil
 | _,_,0,.cons _ t=>t
 | _,_,i+1,.cons r t=> .cons r (Vals.eraseIdx i t)
theorem Vals.reverse {xs:List V}{us:List Value}(h:Vals xs us):Vals xs.reverse us.reverse:=by
 induction h with
 | nil=>exact .nil
 | cons r t ih=>rw[J7,J7];exact Vals.append ih (.cons r .nil)
theorem Vals.rep {xs:List V}{us:List Value}(h:Vals xs us):∀k:Nat,Vals (List.replicate k xs).flatten (List.replicate k us).flatten
 | 0=> .nil
 | k+1=>by
  rw[U0,U0,Y8,Y8]
  exact Vals.append h (Vals.rep h k)
theorem foldl_rep (its:List Value):∀(k:Nat) (acc:List Value),
  List.foldl (λx1 x2=>x1++x2) acc.toArray (List.replicate k its.toArray)=(acc++(List.replicate k its).flatten).toArray
 | 0,acc=>by simp
 | k+1,acc=>by
  have e:acc.toArray++its.toArray=(acc++its).toArray:=by simp
  have e2:(acc++its)++(List.replicate k its).flatten=acc++(List.replicate (k+1) its).flatten:=by
   rw[U0,Y8,X7]
  rw[←e2,←foldl_rep its k (acc++its),←e,U0,UZ]
section
variable {X:Cx}{pins:List (Addr×Obj)}{σ:St}{H:Hp}{s:Shared}{l b:Addr}{xs ys zs:List V}
theorem Inv.G_ {its its':List Value}{n:Nat}{f:Array Value->Array Value}{t':Nat}(I:Inv X pins σ H s)(hH:H l=some (.lst xs))
  (e:s.heap.get? l=some {cls:=.type "list",data:=.seq its.toArray n}) (hf:f its.toArray=its'.toArray) (hv:Vals ys its') (hz:ys.length<=sizeLine) :
  Inv X pins σ (upd H l (.lst ys)) {s with heap:=s.heap.update l (Obj.mapSeq f),toks:=t'}:=by
 have q:=PySem.IsL.update e f
 rw[hf] at q
 refine I.write (x:=l) (e:=l) (by rw[hH];exact trivial) (.inl rfl) (λb' u hb hu=>(Ju s.heap (Obj.mapSeq f) (Ne.symm hb)).trans hu) ⟨_,q⟩ ?_
 exact⟨hz,its',_,hv,q⟩
theorem Inv.JN {its:List Value}{t':Nat}(I:Inv X pins σ H s)(hv:Vals ys its)(hz:ys.length<=sizeLine) :
  Inv X pins σ (upd H s.heap.objs.size (.lst ys)) {s with heap:=s.heap.push {cls:=.type "list",data:=.seq its.toArray},toks:=t'} :=
 I.laid (λ_ _ q=>K6 _ q) (K1 _) ⟨hz,its,0,hv,Ky _ rfl⟩
theorem Inv.fresh (I:Inv X pins σ H s):H s.heap.objs.size=none:=I.hok.fresh (K1 _)
theorem Inv.DX (I:Inv X pins σ H s)(hH:H l=some (.lst xs)):xs.length<=sizeLine/\∃(its:List Value) (n:Nat),Vals xs its/\xs.length=its.length/\s.heap.get? l=some {cls:=.type "list",data:=.seq its.toArray n}:=by
 obtain⟨z,its,n,r,e⟩:=I.hok l _ hH
 exact⟨z,its,n,r,r.length,e⟩
theorem uN {n:Nat}(h:n<=sizeLine):Builtin.List.listTooLong n=false:=by
 unfold Builtin.List.listTooLong
 exact JQ (!1)
end
section
variable {X:Cx}
def DY:V->List V->Hp->VK->Prop:=λx vs H Q=>∃l xs y,x= .ref l/\vs=[y]/\H l=some (.lst xs)/\xs.length < sizeLine/\Q .non (upd H l (.lst (xs++[y])))
theorem mT:JM X "list.append" DY:=by
 intro pins s σ H x vs v us Q I rx rv h
 obtain⟨l,xs,y,rfl,rfl,hH,hz,q⟩:=h
 cases rx
 obtain⟨u,rfl,ru⟩:=rv.one
 obtain⟨z,its,n,r,hl,e⟩:=I.DX hH
 refine call_meets F.slot_list_append ⟨_,e,rfl⟩ F.entry_list_append (F.args_list_append_2 _ _) (PySem.list_append l its.toArray n u (by rw[Kj];omega)) ⟨e,?_⟩
 refine⟨.non,_,I.G_ (its':=its++[u]) hH e (by simp) (r.append (.cons ru .nil)) ?_,rfl,q⟩
 rw[K2,X5]
 omega
def Ha:V->List V->Hp->VK->Prop:=λx vs H Q=>∃l xs,x= .ref l/\vs=[]/\H l=some (.lst xs)/\Q .non (upd H l (.lst []))
theorem Bi:JM X "list.clear" Ha:=by
 intro pins s σ H x vs v us Q I rx rv h
 obtain⟨l,xs,rfl,rfl,hH,q⟩:=h
 cases rx
 have hus:=rv.zero
 subst hus
 obtain⟨z,its,n,r,hl,e⟩:=I.DX hH
 refine call_meets F.slot_list_clear ⟨_,e,rfl⟩ F.entry_list_clear (F.args_list_clear_1 _) (AutoSeq1.list_clear_list_0 l its.toArray n (by rw[Kj];omega)) ⟨e,?_⟩
 exact⟨.non,_,I.G_ (its':=[]) (ys:=[]) hH e rfl .nil (Xx _),rfl,q⟩
def Md:R2:=λx y H Q=>∃l k xs,x= .ref l/\y= .int k/\H l=some (.lst xs)/\ -(2^63)<=k/\k < 2^63/\xs.length*k.toNat<=sizeLine/\
 ∀p,H p=none->Q (.ref p) (upd H p (.lst (List.replicate k.toNat xs).flatten))
theorem len_rep {α:Type}(xs:List α)(k:Nat):(List.replicate k xs).flatten.length=k*xs.length:=by
 induction k with
 | zero=>simp
 | succ k ih=>rw[U0,Y8,K2,ih,UQ,Nat.add_comm]
theorem Hb:oj X (binaryOp .Mult) Md:=by
 intro pins s σ H x y v u Q I rx ry h
 obtain⟨l,k,xs,rfl,rfl,hH,h1,h2,hz,q⟩:=h
 cases rx
 obtain⟨t,rfl⟩:=ry
 obtain⟨z,its,n,r,hl,e⟩:=I.DX hH
 have hlen:its.toArray.size*k.toNat<=sizeLine:=by rw[Kj,←hl];exact hz
 have hcap:¬ its.toArray.size*k.toNat > (2^63 - 1) / 8:=by
  have:(sizeLine:Nat)<=(2^63 - 1) / 8:=by decide
  omega
 have hfit:¬ (!Builtin.List.listFitsIndex k)=true:=by
  rw[fitsIndex_both h1 h2]
  exact K5
 have Bj:¬ Builtin.List.listTooLong (its.toArray.size*k.toNat)=true:=by
  rw[uN hlen]
  exact K5
 have hnew:List.foldl (λx1 x2=>x1++x2) #[] (List.replicate (if its.toArray.isEmpty=true then 0 else k.toNat) its.toArray)=(List.replicate k.toNat its).flatten.toArray:=by
  have f0:∀m:Nat,List.foldl (λx1 x2=>x1++x2) #[] (List.replicate m its.toArray)=(List.replicate m its).flatten.toArray:=λm=>by
   have:=foldl_rep its m []
   rw[YU] at this
   exact this
  rw[f0]
  cases its with
  | nil=>simp
  | cons a r'=>rw[JZ (by simp)]
 refine wpAny_binaryOp_repeat_ref (T:="list") (U:="int") (by decide) ⟨_,e,rfl⟩ (λs'=>typeIs_int s' k t) noFill_list_mul F.fills_int_mul F.slot_int_rmul repeat_list F.slot_int_index.lookup
  (call_meets F.slot_int_rmul (typeIs_int s k t) F.entry_int_rmul (F.args_int_rmul_2 _ _) (int___rmul___int_list k t l its.toArray n)
   ⟨e,rfl,⟨_,e,rfl⟩,call_meets F.slot_list_mul ⟨_,e,rfl⟩ F.entry_list_mul (F.args_list_mul_2 _ _) (AutoListH.list___mul___list_int_3 l its.toArray n k t hfit hcap Bj) ⟨e,?_⟩⟩)
 rw[hnew]
 exact⟨.ref _,_,I.JN (t':=s.toks) (r.rep k.toNat) (by rw[len_rep,YY];exact hz),rfl,q _ I.fresh⟩
end
end L2
namespace Nc
open PySem PySem.W PySem.Calls PyProof.Rows
theorem nN {P:Params}{h:Heap}:∀(ns:List Int) (vs:List Value),WellAll P h vs (ns.map WData.int)->IntsAre vs ns:=by
 intro ns
 induction ns with
 | nil=>
  intro vs w
  rw[Jk] at w
  cases w
  exact .nil
 | cons n ns ih=>
  intro vs w
  rw[KJ] at w
  cases w with
  | cons a b=>
   cases a
   exact .cons _ _ (ih _ b)
theorem zJ {l:OpenLaw}{n:Nat}(hn:l.most=some n){P:Params}{h:Heap}{args:List WData}{vals:List Value}
  (hpre:l.row.toRowW.claim.pre args=true) (hwl:WellAll P h vals args) :
  ∃a vs ns,vals=[Value.ref a]/\args=[WData.list (ns.map WData.int)]/\h.get? a=some {cls:=.type "list",data:=.seq vs.toArray}/\IntsAre vs ns/\ns.length<=n:=by
 have hsh:WShape.hasAll [] args [.list .int]=true:=(pre_splitW hpre).1
 have hc:l.pre.holds [] {args:=args}=true:=(pre_splitW hpre).2
 obtain⟨d,r,rfl,h1,h2⟩:=hasAllW_cons hsh
 obtain rfl:=hasAllW_nil h2
 obtain⟨xs,rfl,h3⟩:=hasW_list h1
 obtain⟨ns,rfl⟩:=items_int h3
 have hlen:ns.length<=n:=by
  unfold OpenLaw.pre at hc
  have h4:(WTm.not (.lt (.lit (.int (n:Int))) (.len (.arg 0)))).holds [] {args:=[.list (ns.map .int)]}=true:=by
   have h4:=(holds_andW hc).1
   rw[hn] at h4
   exact h4
  have h5:=condW_of h4 (w_not (w_lt w_lit (w_len_list (w_arg rfl))))
  rw[K4] at h5
  refine Nat.le_of_not_lt λq=> ?_
  have q':(n:Int) < ((ns.length:Nat):Int):=by omega
  first
   | (rw[JV q'] at h5;exact absurd h5 (by decide))
   | (simp at h5;omega)
 cases hwl with
 | cons w1 w2=>
  cases w2
  cases w1 with
  | list ho hall=>exact⟨_,_,ns,rfl,rfl,ho,nN ns _ hall,hlen⟩
theorem zK (l:OpenLaw)(args:List WData):l.row.toRowW.claim.post args (.bool true) args=true :=
 postW_of (r:=l.row.toRowW) (X:=(true==true))
  (show WShape.has [] (.bool true) .bool=true by first | rfl | decide | simp[WShape.has,WShape.arms,WShape.armsAll])
  (show(WTm.eq .res (.lit (.bool true))).value [] {args:=args,res:=some (.bool true),after:=args}=some (.bool (true==true)) from w_eq_bool (w_res rfl) w_lit) rfl
theorem uO {l:OpenLaw}{n:Nat}{q:Program}{loose:List Str}{XP:(Str->Option Value)->Heap->Prop}{YP:World->Heap->Prop}{d:DefRec}
  (hn:l.most=some n) (hdf:d.params.defaults=[])
  (call:∀(w:World) (s₀ s₁:Shared) (mg mb:Str->Option Value) (fa:Addr) (o:Obj) (pm cd doc:Value) (a:Addr) (vs:List Value) (ns:List Int),
   Ground q loose [] XP w s₀ mg mb s₁.heap->YP w s₁.heap->
   s₁.heap.get? fa=some o->o.data= .func (docDef d.name d.params d.body d.scope pm cd doc)->s₁.heap.CodeRec cd d.name->mg d.name=some (.ref fa)->
   s₁.heap.get? a=some {cls:=.type "list",data:=.seq vs.toArray}->IntsAre vs ns->ns.length<=n->s₁.gens= #[]->
   codeAny (model l.prog w) callerA (.call (.ref fa) ⟨[.ref a],[]⟩) (λr s'=>r= .ok (.ret (.bool true))/\OldK s₁.heap s'.heap/\s'.os=s₁.os/\AllBare s'.gens) s₁) :
  WalkO q loose XP YP l.row.toRowW d [] (λf vs=>PySem.call f vs):=by
 intro w s₀ s₁ mg mb G Y fa o pm cd doc dV kV ho hd hcd hD hmg hg args vals as hpre hlay hrd hwl hlo
 obtain rfl:dV= .none:=Dflts.none hD hdf
 obtain rfl:kV= .none:=Dflts.noKw hD
 obtain⟨a,vs,ns,rfl,rfl,hobj,hints,hlen⟩:=zJ hn hpre hwl
 refine enter_call (codeAny_mono (call w s₀ s₁ mg mb fa o pm cd doc a vs ns G Y ho (fd_plain hd) hcd hmg hobj hints hlen hg) λr s' hq=> ?_)
 obtain⟨rfl,h2,h3,h4⟩:=hq
 exact⟨.inl ⟨.bool true,.bool true,[],rfl,λ_=>rfl,.bool true,zK l _,λ_=>⟨List.Pairwise.nil,λ_ hm=>(nomatch hm)⟩⟩,h2,h3,h4⟩
section
variable {prog:Program}{w:World}{A:Around}{E:Z5}{s:Shared}{K:Frag}
def ledger (h:Heap)(L d:Addr):List (Addr×Obj):=(List.range h.objs.size).filterMap λa=>if a=L∨a=d then none else (h.get? a).map λo=>(a,o)
end
end Nc
namespace L2
open PySem PySem.Spec PyProof.Rows
theorem rc:∀{vs:List Value} {ns:List Int},IntsAre vs ns->Vals (ns.map V.int) vs
 | _,_,.nil=> .nil
 | _,_,.cons n t h=> .cons ⟨t,rfl⟩ (rc h)
def Only (H:Hp):Prop:=∀b,H b=none∨∃o xs,H b=some (.A0 o (.lst xs))
theorem Bk {P:Program}{w:World}{K:Frag}{mg mb:Str->Option Value}{CX:yx}{k:Nat}{fa a:Addr}{fd:FuncData}{x:Str}{sp:Sp}{s₁:Shared}{vs:List Value}{ns:List Int}
  (KX:K.In s₁.heap) (hns:s₁.heap.Ns mainGlobals mg) (hb:s₁.heap.Ns builtinsNs mb) (hbb:∀x:Str,x≠ "__name__" ->mb x=bootBuiltins x) (hlim:s₁.heap.NoLimit) (hg:s₁.gens= #[])
  (ha:s₁.heap.get? a=some {cls:=.type "list",data:=.seq vs.toArray}) (hi:IntsAre vs ns) (hl:ns.length<=sizeLine) (hr:dM k callerA)
  (F:∀base:Heap,K.In base->base.Ns mainGlobals mg->jb P w K mg base CX k fa fd [x] sp) (hbind:∀(s:Shared) (u:Value),BindsTo s fd ⟨[u],[]⟩ [(x,u)])
  (hsp:∀H:Hp,Only H->fU K H a (ns.map V.int)->sp [.ref a] H (λv _=>v= .bl true) λ_ _ _=>False)
  (Me:∀H e s',CX [] H s₁ (λ_ _ _=>False) e s'->False) :
  codeAny (model P w) callerA (.call (.ref fa) ⟨[.ref a],[]⟩) (λr s'=>r= .ok (.ret (.bool true))/\OldK s₁.heap s'.heap/\s'.os=s₁.os/\AllBare s'.gens) s₁:=by
 have rv:=rc hi
 have lenV:=hi.length
 have core:∀H:Hp,Only H->fU K H a (ns.map V.int)->og P w H s₁.heap->(∀b,H b≠none->b=a)->(H a≠none->K.lookup a=none)->
   codeAny (model P w) callerA (.call (.ref fa) ⟨[.ref a],[]⟩) (λr s'=>r= .ok (.ret (.bool true))/\OldK s₁.heap s'.heap/\s'.os=s₁.os/\AllBare s'.gens) s₁:=by
  intro H hO hS hok hA hK
  have yE:∀{b:Addr} {o:Obj},s₁.heap.get? b=some o->H b=none->(sI s₁.heap H).get? b=some o:=λe n=>A6 e n
  have JC:∀{b:Addr} {o:Obj} {es:Array DictEntry} {ep:Nat},s₁.heap.get? b=some o->o.data= .dict es ep->H b=none:=λ{b o es ep} e d=>by
   cases q:H b with
   | none=>rfl
   | some u=>
    have e':b=a:=hA b (by rw[q];simp)
    subst e'
    rw[ha] at e;cases e
    have d':Data.seq vs.toArray _=Data.dict es ep:=d
    cases d'
  have Lp:∀{b:Addr} {m:Str->Option Value},s₁.heap.Ns b m->(sI s₁.heap H).Ns b m:=λ{b m} ⟨o,es,ep,e,d,r⟩=>⟨o,es,ep,yE e (JC e d),d,r⟩
  have Nd:K.In (sI s₁.heap H):=λb o e=>yE (KX b o e) (by
   cases q:H b with
   | none=>rfl
   | some u=>
    have e':b=a:=hA b (by rw[q];simp)
    subst e'
    rw[hK (by rw[q];simp)] at e;cases e)
  have hM:Mod K mg (sI s₁.heap H):=⟨Nd,Lp hns,⟨mb,Lp hb,hbb⟩,let ⟨mc,h1,h2⟩:=hlim;⟨mc,Lp h1,h2⟩⟩
  have e0:qF P w K mg (sI s₁.heap H) callerA [] s₁ H:=⟨rfl,hM,λb o e=>DF e,Nat.le_of_eq (zA _ _),trivial,λb hb=>absurd (show b∈([]:List Addr) from hb) (by simp),hok,.of_eq hg⟩
  refine codeAny_mono ((F _ Nd (Lp hns)).run callerA [] s₁ H ⟨[.ref a],[]⟩ [.ref a] [.ref a] _ _ hr e0 (hbind s₁ (.ref a)) (.cons rfl .nil) (hsp H hO hS)) λr s' h=> ?_
  cases r with
  | error e=>exact(Me H e s' h).elim
  | ok fl=>
   cases fl with
   | next=>exact False.elim h
   | brk=>exact False.elim h
   | cont=>exact False.elim h
   | ret u=>
    obtain⟨v,H',os,bare,un,hok',r',q⟩:=h
    have q':v= .bl true:=q
    subst q'
    obtain rfl:u=Value.bool true:=r'
    refine⟨rfl,OldK.of_keep λb o e=> ?_,os,bare⟩
    cases q:H b with
    | none=>exact un.keep b o e q (by intro z;exact absurd (show b∈([]:List Addr) from z) (by simp)) (by simp)
    | some u=>
     rcases hO b with z | ⟨ob,xs,z⟩
     ·rw[q] at z;cases z
     ·have z2:=un.lg b ob _ z
      obtain⟨e1,_⟩:=hok b _ z
      obtain⟨e2,_⟩:=hok' b _ z2
      rw[e] at e1;cases e1
      exact e2
 cases hk:K.lookup a with
 | some o=>
  have e:=KX a o hk
  rw[ha] at e
  cases e
  refine core (λ_=>none) (λ_=> .inl rfl) (.inr ⟨_,vs.toArray,_,hk,rfl,rfl,rfl,by rw[Kj,lenV];exact hl,by simpa using rv⟩) (λb u z=>by have z':(none:Option HO)=some u:=z;cases z') (λb z=>absurd rfl z) λz=>absurd rfl z
 | none=>
  refine core (λb=>if b=a then some (.A0 {cls:=.type "list",data:=.seq vs.toArray} (.lst (ns.map V.int))) else none) (λb=> ?_) (.inl (.inr ⟨{cls:=.type "list",data:=.seq vs.toArray},JW rfl⟩)) (λb u z=> ?_) (λb z=> ?_) λ_=>hk
  ·by_cases hb:b=a
   ·exact .inr ⟨_,_,JW hb⟩
   ·exact .inl (JZ hb)
  ·by_cases hb:b=a
   ·have z':=(JW hb).symm.trans z
    cases z'
    subst hb
    exact⟨ha,by rw[K4];exact hl,vs,_,rv,ha⟩
   ·have z':=(JZ hb).symm.trans z
    cases z'
  ·by_cases hb:b=a
   ·exact hb
   ·exact absurd (JZ hb) z
theorem DZ {l:OpenLaw}{n k:Nat}{q:Program}{loose:List Str}{XP:(Str->Option Value)->Heap->Prop}{YP:World->Heap->Prop}{d:DefRec}{K:Params->Frag}{CX:World->yx}{sp:World->Sp}{x:Str}
  (hn:l.most=some n) (hn2:n<=sizeLine) (hdf:d.params.defaults=[]) (hr:dM k callerA)
  (hY:∀(w:World) (h:Heap),YP w h->(K w.params).In h)
  (F:∀(w:World) (mg:Str->Option Value) (fa:Addr) (h:Heap),(K w.params).In h->h.Ns mainGlobals mg->mg d.name=some (.ref fa)->
   ∃fd:FuncData,(∀(s:Shared) (u:Value),BindsTo s fd ⟨[u],[]⟩ [(x,u)])/\
    ∀base:Heap,(K w.params).In base->base.Ns mainGlobals mg->jb l.prog w (K w.params) mg base (CX w) k fa fd [x] (sp w))
  (hsp:∀(w:World) (H:Hp) (a:Addr) (ns:List Int),ns.length<=n->Only H->fU (K w.params) H a (ns.map V.int)->sp w [.ref a] H (λv _=>v= .bl true) λ_ _ _=>False)
  (Me:∀(w:World) (H:Hp) (s:Shared) (e:Value) (s':Shared),CX w [] H s (λ_ _ _=>False) e s'->False) :
  PySem.W.WalkO q loose XP YP l.row.toRowW d [] (λf vs=>PySem.call f vs):=by
 refine Nc.uO hn hdf λw s₀ s₁ mg mb fa o pm cd doc a vs ns G Y ho hd hcd hmg hobj hints hlen hg=> ?_
 have KX:=hY w _ Y
 obtain⟨fd,hb,hF⟩:=F w mg fa _ KX G.T.g hmg
 exact Bk KX G.T.g G.T.b G.T.builtins G.T.nolimit hg hobj hints (KY hlen hn2) hr hF hb (λH hO hS=>hsp w H a ns hlen hO hS) λH e s'=>Me w H s₁ e s'
end L2
/- THE LAST THEOREM (shape;LID,My.*are Nf):
  My.OY: a structure of the addresses that your layer names (classes,functions);My.Txt K t: a structure (Prop) of the equations over K;
  My.Mf:{K} {implicit addresses ..} (e1:nsIn K mainGlobals "law" =some (some (.ref f))) (e2:K.lookup f=some ⟨oc,od,.func (fnOf "law" "law" params body scope dV kV doc pm an cdv ct),sl⟩) (e3:codeIn K cdv "law" =true) ..:∃t,My.Txt K t
(the tactic k_is has no namespace: write k_is) -/
namespace L2
open PySem PySem.Spec PyProof.Rows
def jx (s:Stmt):Arguments:=match s with
 | .FunctionDef _ a _ _ _ _ _ _ _ _=>a
 | _=>{posonlyargs:=[],args:=[],vararg:=none,kwonlyargs:=[],kw_defaults:=[],kwarg:=none,defaults:=[]}
def ee (s:Stmt):List Stmt:=match s with
 | .FunctionDef _ _ b _ _ _ _ _ _ _=>b
 | _=> []
def ai (s:Stmt):Scope:=match s with
 | .FunctionDef _ _ _ _ _ _ sc _ _ _=>sc
 | _=>{kind:=.function,names:=[],isGenerator:=false,isCoroutine:=false}
abbrev yF:yx:=λ_ _ _ _ _ _=>False
abbrev E0:XK:=λ_ _ _=>False
theorem FW {X:Cx}:Passes yF X E0:=λ_ _ _ _ _ _ _ h=>h.elim
structure Dy (K:Frag)(x qual:Str)(st:Stmt)(f:Addr)(fd:FuncData):Prop where
 ex:∃(oc:Value) (od:Option Addr) (kV doc pm:Value) (an:Option Addr) (cdv ct:Value) (osl:Array (Option Value)),
  fd=fnOf x qual (jx st) (ee st) (ai st) .none kV doc pm an cdv ct/\K.lookup f=some ⟨oc,od,.func fd,osl⟩/\codeIn K cdv qual=true
 kp:keepIn K (.ref f)=true
section
variable {P:Program}{w:World}{K:Frag}{mg:Str->Option Value}{base:Heap}
theorem Dy.ok {x qual:Str}{st:Stmt}{f:Addr}{fd:FuncData}{N ps:List Str}{k:Nat}{sp:Sp}(F:Dy K x qual st f fd)(S:aK N ps (ai st))(len:∀vs H Q E,sp vs H Q E->vs.length=ps.length)
  (hbody:∀(cdv:Value) (A:Around) (outer:List Env) (s:Shared) (H:Hp) (vs:List V) (Q:VK) (E:XK),dM k (A.deeper (envOfC qual (ai st) s.heap.objs.size f cdv))->sp vs H Q E->
   ∃t,qC (qG yF P w K mg base N qual (ai st) f cdv A outer s H E).A1 (ee st) t/\t {nx:=λ_ H'=>Q .non H',rt:=Q} (start N vs) H):jb P w K mg base yF (k+1) f fd ps sp:=by
 obtain⟨oc,od,kV,doc,pm,an,cdv,ct,osl,rfl,lk,hcd⟩:=F.ex
 refine JD lk hcd S len λA outer s H vs Q E hr hsp=> ?_
 obtain⟨t,h,q⟩:=hbody cdv A outer s H vs Q E hr hsp
 exact⟨t,h.A1,q⟩
theorem Dy.binds {x qual:Str}{st:Stmt}{f:Addr}{fd:FuncData}{ps:List Str}(F:Dy K x qual st f fd)
  (h:∀(kV doc pm:Value) (an:Option Addr) (cdv ct:Value) (us:List Value),us.length=ps.length->bindArgs (fnOf x qual (jx st) (ee st) (ai st) .none kV doc pm an cdv ct) ⟨us,[]⟩=pure (ps.zip us)):Binds K fd ps []:=by
 obtain⟨oc,od,kV,doc,pm,an,cdv,ct,osl,rfl,lk,hcd⟩:=F.ex
 exact .all (h kV doc pm an cdv ct)
theorem Hd {x qual:Str}{st:Stmt}{f:Addr}{oc:Value}{od an:Option Addr}{osl:Array (Option Value)}{kV doc pm cdv ct:Value}(l:K.lookup f=some ⟨oc,od,.func (fnOf x qual (jx st) (ee st) (ai st) .none kV doc pm an cdv ct),osl⟩)
  (c:codeIn K cdv qual=true) (k:keepIn K (.ref f)=true):Dy K x qual st f (fnOf x qual (jx st) (ee st) (ai st) .none kV doc pm an cdv ct):=⟨⟨oc,od,kV,doc,pm,an,cdv,ct,osl,rfl,l,c⟩,k⟩
end
section
variable {X:Cx}
theorem pv (i:Nat){x:Str}{pos:Pos}(hN:X.N[i]? =some x:=by rfl)(hv:Li X.env.scope x:=by first | exact Or.inl rfl | exact Or.inr (!4) | exact Or.inr (Or.inr rfl))(hd:(x==("__debug__":Str))=false:=by decide)
  (hcd:(x==("__classdict__":Str))=false:=by decide):PE X (.Name x pos) (kX i):=A7 hN hv hd hcd
end
def Same (H H':Hp):Prop:=∀b o,H b=some o->H' b=some o
theorem Same.refl (H:Hp):Same H H:=λ_ _ h=>h
theorem Same.trans {H H1 H2:Hp}(a:Same H H1)(b:Same H1 H2):Same H H2:=λc o h=>b c o (a c o h)
theorem Same.free {H H':Hp}(e:Same H H'){l:Addr}(h:H' l=Option.none):H l=Option.none:=by
 cases q:H l with
 | none=>rfl
 | some o=>
  rw[e l o q] at h
  cases h
theorem Same.seq {K:Frag}{H H':Hp}{a:Addr}{xs:List V}(e:Same H H')(h:fU K H a xs):fU K H' a xs:=by
 rcases h with(h | ⟨o,h⟩) | h
 ·exact .inl (.inl (e _ _ h))
 ·exact .inl (.inr ⟨o,e _ _ h⟩)
 ·exact .inr h
theorem hU (env:Env):∀(names:List (Str×NameKind)) (x:Str),
  (names.map λ(n,k)=>if (k==NameKind.free && env.scope.kind== .function && env.kindOf n==some .cell) then (n,NameKind.cell) else (n,k)).lookup x=
   (names.lookup x).map λk=>if (k==NameKind.free && env.scope.kind== .function && env.kindOf x==some .cell) then NameKind.cell else k
 | [],_=>rfl
 | (n,k) :: r,x=>by
  have ih:=hU env r x
  show List.lookup x ((if (k==NameKind.free && env.scope.kind== .function && env.kindOf n==some .cell)=true then (n,NameKind.cell) else (n,k)) :: _)=_
  cases hx:x==n with
  | true=>
   have e:x=n:=eq_of_beq hx
   subst e
   by_cases hc:(k==NameKind.free && env.scope.kind== .function && env.kindOf x==some .cell)=true
   ·rw[JW hc];simp only[Y1,beq_self_eq_true,Uy,JW hc]
   ·rw[JZ hc];simp only[Y1,beq_self_eq_true,Uy,JZ hc]
  | false=>
   by_cases hc:(k==NameKind.free && env.scope.kind== .function && env.kindOf n==some .cell)=true
   ·rw[JW hc];simp only[Y1,hx];exact ih
   ·rw[JZ hc];simp only[Y1,hx];exact ih
theorem sR {scope:Scope}{env:Env}{x:Str}(h:scope.names.lookup x=some .free):(relabel scope env).names.lookup x=some .cell∨(relabel scope env).names.lookup x=some .free:=by
 show(List.lookup x (scope.names.map _)=_)∨(List.lookup x (scope.names.map _)=_)
 rw[hU,h]
 simp only[Uy]
 split
 ·exact .inl rfl
 ·exact .inr rfl
theorem xk {scope:Scope}{env:Env}{x:Str}(h:(relabel scope env).names.lookup x=some .cell∨(relabel scope env).names.lookup x=some .free):scope.names.lookup x=some .cell∨scope.names.lookup x=some .free:=by
 have e:(relabel scope env).names.lookup x=(scope.names.lookup x).map _:=hU env scope.names x
 rw[e] at h
 cases q:scope.names.lookup x with
 | none=>rw[q] at h;rcases h with h | h <;> cases h
 | some k=>
  rw[q] at h
  simp only[Uy] at h
  by_cases hc:(k==NameKind.free && env.scope.kind== .function && env.kindOf x==some .cell)=true
  ·have:k= .free:=by
    cases k <;> first | rfl | (exfalso;revert hc;simp;done) | (exfalso;simp at hc)
   exact .inr (by rw[this])
  ·rw[JZ hc] at h
   exact h
theorem oO {scope:Scope}{env:Env}(h:∀y∈scope.names,y.2= .free->∃c,env.cells.lookup y.1=some c) :
  ∃cl:List (Str×Addr),closureFor scope env=pure cl/\(∀x c,cl.lookup x=some c->env.cells.lookup x=some c)/\∀y∈scope.names,y.2= .free->∃c,cl.lookup y.1=some c:=by
 have aux:∀(names:List (Str×NameKind)) (cs:List (Str×Addr)),(∀y∈names,y.2= .free->∃c,env.cells.lookup y.1=some c)->(∀x c,cs.lookup x=some c->env.cells.lookup x=some c)->
   ∃cl:List (Str×Addr),(forIn names cs (λx r=>(match x with | (name,kind)=>if (kind==NameKind.free)=true then do let a←cellOf env name;pure (ForInStep.yield ((name,a) :: r)) else pure (ForInStep.yield r):Sem (ForInStep (List (Str×Addr))))):Sem (List (Str×Addr)))=pure cl/\
    (∀x c,cl.lookup x=some c->env.cells.lookup x=some c)/\(∀x,(∃c,cs.lookup x=some c)->∃c,cl.lookup x=some c)/\∀y∈names,y.2= .free->∃c,cl.lookup y.1=some c:=by
  intro names
  induction names with
  | nil=>intro cs _ hs;exact⟨cs,rfl,hs,λ_ z=>z,λy hy=>by cases hy⟩
  | cons p r ih=>
   intro cs hn hs
   obtain⟨n,k⟩:=p
   by_cases hk:(k==NameKind.free)=true
   ·have ek:k= .free:=by cases k <;> first | rfl | (exfalso;revert hk;decide)
    obtain⟨c,hc⟩:=hn (n,k) K8 ek
    obtain⟨cl,e,h1,h2,h3⟩:=ih ((n,c) :: cs) (λy hy=>hn y (K9 _ hy)) (λx c' hx=>by
     rw[Y1] at hx
     cases hxn:x==n with
     | true=>
      rw[hxn] at hx
      cases hx
      rw[eq_of_beq hxn]
      exact hc
     | false=>rw[hxn] at hx;exact hs x c' hx)
    have self:∃c',((n,c) :: cs).lookup n=some c':=⟨c,by simp[Y1]⟩
    refine⟨cl,?_,h1,λx ⟨c',hx⟩=>h2 x ?_,λy hy ef=> ?_⟩
    ·rw[Jj]
     simp only[hk,if_true]
     have hco:cellOf env n=pure c:=by unfold cellOf;rw[hc]
     rw[hco]
     simp only[pure_bind]
     exact e
    ·rw[Y1]
     cases hxn:x==n with
     | true=>exact⟨c,rfl⟩
     | false=>exact⟨c',hx⟩
    ·rcases K0.mp hy with rfl | hy
     ·exact h2 _ self
     ·exact h3 y hy ef
   ·obtain⟨cl,e,h1,h2,h3⟩:=ih cs (λy hy=>hn y (K9 _ hy)) hs
    refine⟨cl,?_,h1,h2,λy hy ef=> ?_⟩
    ·rw[Jj]
     simp only[hk,if_false,pure_bind]
     exact e
    ·rcases K0.mp hy with rfl | hy
     ·have ef':k= .free:=ef
      rw[ef'] at hk
      exact absurd rfl hk
     ·exact h3 y hy ef
 obtain⟨cl,e,h1,_,h3⟩:=aux scope.names [] h (λx c hx=>by cases hx)
 refine⟨cl,?_,h1,h3⟩
 unfold closureFor
 first
  | exact(congrArg (· >>=λr=>pure r) e).trans rfl
  | (simp only[bind_pure];exact e)
  | exact e
def bN (X:Cx)(scope:Scope)(cl:List (Str×Addr))(N:List Str)(fp:List Addr)(s:Shared)(H:Hp)(C:Addr):Cx :=
 {X with N:=N,s₀:=s,H₀:=H,env:=compEnvC scope cl C X.env,outer:=X.stack,ex:=fp,fn:=λ_=>false,pn:=[],xe:=λ_ _=>False}
def li (σ:St)(ix:List Nat):St:=ix.map λk=>(σ[k]?).join
structure gD (X:Cx)(scope:Scope)(v:Str)(F:List Str)(ix:List Nat):Prop where
 kind:scope.kind= .function
 own:scope.names.lookup v=some .local
 names:∀y∈scope.names,y.2= .local->scope.names.lookup y.1=some .local
 Bl:∀y∈scope.names,y.2≠ .cell
 free:∀y∈scope.names,y.2= .free->X.env.scope.names.lookup y.1=some .cell∨X.env.scope.names.lookup y.1=some .free
 cap:∀x∈F,scope.names.lookup x=some .free
 nd:(v :: F).Nodup
 eqs:ix.map (λk=>X.N[k]?)=F.map some
theorem gD.len {X:Cx}{scope:Scope}{v:Str}{F:List Str}{ix:List Nat}(O:gD X scope v F ix):ix.length=F.length:=by
 have:=congrArg List.length O.eqs
 simpa using this
theorem gD.imp {X:Cx}{scope:Scope}{v:Str}{F:List Str}{ix:List Nat}(O:gD X scope v F ix):∀(i:Nat) (x:Str),F[i]? =some x->∃k,ix[i]? =some k/\X.N[k]? =some x:=λi x e=>by
 have h:=congrArg (·[i]?) O.eqs
 simp only[KW,e,Uy] at h
 cases q:ix[i]? with
 | none=>rw[q] at h;cases h
 | some k=>rw[q] at h;exact⟨k,rfl,Option.some.inj h⟩
def D0 (X:Cx)(ifs:List Expr)(t:TT):Prop :=
 ∀(pins:List (Addr×Obj)) (s:Shared) (σ:St) (H:Hp) (Q:Bool->Hp->Prop),Inv X pins σ H s->t σ H Q->
  wpAny (model X.prog X.w) X.A (forIn ifs true λc r=>if r=true then do let ok←isTrue c X.env (eval c X.env);pure (ForInStep.yield ok) else pure (ForInStep.yield r)) (TP X pins σ Q) X.xe s
def Mh:TT:=λ_ H Q=>Q true H
theorem D1 {X:Cx}:D0 X [] Mh:=λ_ _ _ H _ I h=>wpAny_tests_nil ⟨H,I,h⟩
theorem D2 {X:Cx}{c:Expr}{t:TT}(h:PT X c t):D0 X [c] t:=λpins s σ H Q I hw=>wpAny_tests_one (h pins s σ H Q I hw)
def FY (J:It)(σ:St)(ix:List Nat)(tt:TT)(te:TE)(H1:Hp)(Q:VK)(D:Addr):Prop :=
 ∃W:Nat->Nat->List V->Hp->Prop,(∃m,W 0 m [] (upd H1 D (.lst [])))/\∀i m ys H,W i m ys H->H D=some (.lst ys)/\
  ((
   J.stop i H/\Q (.ref D) H)∨(J.go i H/\∀x H',J.Jh i H x H'->tt (some x :: li σ ix) H' λb H3=>if b=true then te (some x :: li σ ix) H3 λv H4=>H4 D=some (.lst ys)/\ys.length < sizeLine/\∃m',m' < m/\W (i+1) m' (ys++[v]) (upd H4 D (.lst (ys++[v])))
   else∃m',m' < m/\W (i+1) m' ys H3))
def Bm (wi:TI)(ix:List Nat)(tt:TT)(te:TE):TE:=λσ H Q=>wi σ H λJ H1=>∀D,H1 D=none->FY J σ ix tt te H1 Q D
section
variable {X:Cx}{scope:Scope}{v:Str}{F:List Str}{ix:List Nat}{pins:List (Addr×Obj)}{σ:St}{H:Hp}{s:Shared}
theorem Inv.re (I:Inv X pins σ H s)(O:gD X scope v F ix):∀y∈scope.names,y.2= .free->∃c,X.env.cells.lookup y.1=some c:=λy hy hf=>I.ok.has y.1 (O.free y hy hf)
theorem Inv.He {cl:List (Str×Addr)}{fp:List Addr}{C:Addr}(I:Inv X pins σ H s)(O:gD X scope v F ix)(hsub:∀x c,cl.lookup x=some c->X.env.cells.lookup x=some c)(hcl:∀y∈scope.names,y.2= .free->∃c,cl.lookup y.1=some c)
  (hfp:∀b∈fp,oK X pins H b) (hfz:∀b∈fp,b < s.heap.objs.size) (hC:s.heap.objs.size<=C):(bN X scope cl (v :: F) fp s H C).Ok where
 mod:=I.ok.mod
 kind:=O.kind
 glob:=I.ok.glob
 blt:=I.ok.blt
 above:=hC
 inj:=λx y c h1 h2=>I.ok.inj x y c (hsub x c h1) (hsub y c h2)
 has:=λx hx=>by
  have hx':scope.names.lookup x=some .cell∨scope.names.lookup x=some .free:=xk (env:=X.env) hx
  rcases hx' with e | e
  ·exact absurd rfl (O.Bl _ (PySem.mem_of_lookup e))
  ·exact hcl _ (PySem.mem_of_lookup e) rfl
 cab:=λx c hf _=>by cases hf
 hd:=I.ok.hd
 frames:=I.ok.frames
 stk:=.inl rfl
 IM:=λb hb=>⟨X1 (X4 (hfz b hb) hC),λx c e=>(hfp b hb).2.2.2.2.1 x c (hsub x c e)⟩
 bs:=I.bs
 zB:=KY I.ok.zB I.sz
 wY:=λb o e hb=>by
  rcases(hfp b hb).2.2.2.1 with z | z
  ·exact I.ok.wY b o e z
  ·exact absurd (X4 (Kv e) (KY I.ok.zB z)) (U5 _)
 wZ:=λb hb hs=>by
  rcases K0.mp (I.w6 b hs) with e | e
  ·exact(hfp b hb).2.1 e
  ·exact(hfp b hb).2.2.1 e
 lh:=I.stack
 Dx:=I.yq
theorem Inv.compStart {cl:List (Str×Addr)}{fp:List Addr}{C:Addr}{h1:Heap}{tk n:Nat}(I:Inv X pins σ H s)(O:gD X scope v F ix)(hsub:∀x c,cl.lookup x=some c->X.env.cells.lookup x=some c)(hcl:∀y∈scope.names,y.2= .free->∃c,cl.lookup y.1=some c)
  (hfp:∀b∈fp,oK X pins H b) (hfz:∀b∈fp,b < s.heap.objs.size) (hC:C=s.heap.objs.size+1) (hk:∀b o,s.heap.get? b=some o->h1.get? b=some o) (hns:h1.Ns C λ_=>none)
  (hD:h1.get? s.heap.objs.size=some {cls:=.type "list",data:=.seq ([]:List Value).toArray n}) :
  Inv (bN X scope cl (v :: F) fp s H C) [] (none :: li σ ix) (upd H s.heap.objs.size (.lst [])) {s with heap:=h1,toks:=tk}:=by
 have hn:H s.heap.objs.size=none:=I.hok.fresh (K1 _)
 have hlt:s.heap.objs.size < C:=by rw[hC];exact Uz _
 refine⟨I.He O hsub hcl hfp hfz (YJ hlt),rfl,I.bare,Un.laid hk (K1 _) hn,⟨_,hns,λi x u e1 e2 e3=> ?_⟩,λx c e=> ?_,?_,λx c e=> ?_,λp hp=>absurd (show p∈([]:List (Addr×Obj)) from hp) (by simp),
  I.hok.laid hk (K1 _) ⟨Xx _,[],n,.nil,hD⟩,?_⟩
 ·cases i with
  | zero=>have e2':(some none:Option (Option V))=some (some u):=e2;cases e2'
  | succ i=>
   have e1':F[i]? =some x:=e1
   have e2':(li σ ix)[i]? =some (some u):=e2
   obtain⟨k,hk1,hk2⟩:=O.imp i x e1'
   unfold li at e2'
   rw[KW,hk1] at e2'
   have e4:(σ[k]?).join=some u:=by simpa using e2'
   have e5:σ[k]? =some (some u):=by
    cases q:σ[k]? with
    | none=>rw[q] at e4;cases e4
    | some o=>rw[q] at e4;have:o=some u:=e4;rw[this]
   have hfr:scope.names.lookup x=some .free:=O.cap x (List.mem_of_getElem? e1')
   have Ng:=O.free _ (PySem.mem_of_lookup hfr) rfl
   obtain⟨m,hm,hl⟩:=I.loc
   obtain⟨w,zI,lk⟩:=hl k x u hk2 e5 (by rcases Ng with z | z;exact .inr (.inl z);exact .inr (.inr z))
   refine⟨w,zI,.inr ⟨?_,?_⟩⟩
   ·exact sR hfr
   ·obtain⟨c,hc⟩:=hcl _ (PySem.mem_of_lookup hfr) rfl
    refine⟨c,hc,?_⟩
    rcases lk with⟨z,_⟩ | ⟨_,c',hc',cell⟩
    ·have z':X.env.scope.names.lookup x=some .local:=z
     rcases Ng with y | y <;> (rw[z'] at y;cases y)
    ·have:c'=c:=by
      have:=hsub _ _ hc
      rw[hc'] at this
      exact Option.some.inj this
     subst this
     exact cell.keeps hk
 ·obtain⟨w,cell⟩:=I.cell x c (hsub x c e)
  exact⟨w,cell.keeps hk⟩
 ·show upd H s.heap.objs.size (.lst []) C=none
  rw[aS (UK hlt)]
  exact I.hok.fresh (YJ hlt)
 ·obtain⟨w,cell⟩:=I.cell x c (hsub x c e)
  rw[aS (X1 cell.lt)]
  exact I.jZ x c (hsub x c e)
 ·show(none :: li σ ix).length=(v :: F).length
  unfold li
  rw[Kz,Kz,K4,O.len]
end
section
variable {X:Cx}{scope:Scope}{v:Str}{F:List Str}{ix:List Nat}{pins:List (Addr×Obj)}{σ:St}{H:Hp}{s:Shared}
 {elt iter:Expr} {ifs:List Expr} {px pos:Pos} {tt:TT} {te:TE}
theorem oP {J:It}{fp:List Addr}{it:Addr}{tn:Nat->Heap->Prop}{cl:List (Str×Addr)}{Q:VK}{RR:Value->Addr->Result->Shared->Prop}
  (I:Inv X pins σ H s) (O:gD X scope v F ix) (hc:X.calm=true) (hsub:∀x c,cl.lookup x=some c->X.env.cells.lookup x=some c) (hcl:∀y∈scope.names,y.2= .free->∃c,cl.lookup y.1=some c)
  (T:Turn X.prog X.w X.K (.Name v px) J fp it tn) (hst:tn 0 s.heap) (hfp:∀b∈fp,oK X pins H b)
  (sS:∀cl fp s H C,D0 (bN X scope cl (v :: F) fp s H C) ifs tt) (helt:∀cl fp s H C,PE (bN X scope cl (v :: F) fp s H C) elt te)
  (hr:∀D,H D=none->FY J σ ix tt te H Q D)
  (hRR:∀(D C:Addr) (s':Shared) (H':Hp) (m:Str->Option Value),s'.heap.Ns C m->Inv X pins σ H' s'->H' C=none->s.heap.objs.size<=C->Q (.ref D) H'->RR (.ref D) C (.ok .next) s') :
  wpAny (model X.prog X.w) X.A (newList []) (λacc s₃=>wpAny (model X.prog X.w) X.A (newFunctionEnv scope X.env.globals cl [] X.env.qual none .none (some X.env)) (λcenv s₄=>
   codeAny (model X.prog X.w) X.A (.compStart (.ListComp elt [⟨.Name v px,iter,ifs,0⟩] scope pos) 0 (.ref it) acc {cenv with scope:=relabel scope X.env}) (RR acc cenv.locals) s₄) X.xe s₃) X.xe s:=by
 have hfz:∀b∈fp,b < s.heap.objs.size:=λb hb=>let ⟨o,e,_⟩:=T.obj 0 s.heap hst b hb;Kv e
 refine Z7 (wpAny_newFunctionEnv O.Bl (by intro y hy;simp at hy) (λh₁ hns₁ hsb₁=> ?_) O.kind)
 dsimp only at hns₁ hsb₁⊢
 generalize hH2:s.heap.push {cls:=.type "list",dict:=none,data:=.seq ([]:List Value).toArray}=H2 at hns₁ hsb₁⊢
 have hC:H2.objs.size=s.heap.objs.size+1:=by rw[←hH2,XX]
 have hDC:s.heap.objs.size≠H2.objs.size:=by rw[hC];exact X1 (Uz _)
 have old:∀b o,s.heap.get? b=some o->h₁.get? b=some o:=λb o e=>hsb₁.extBut b o (by rw[hC];exact X1 (UX (Kv e))) (K6 _ (hH2 ▸ K6 _ e))
 have hD:h₁.get? s.heap.objs.size=some {cls:=.type "list",data:=.seq ([]:List Value).toArray}:=hsb₁.extBut _ _ hDC (K6 _ (hH2 ▸ Ky _ rfl))
 have hst₁:tn 0 h₁:=T.keep 0 _ _ hst λb _ o e=>old b o e
 have loop:∀s₃:Shared,s₃={s with heap:=h₁,toks:=s.toks+([]:List (Str×Value)).length}->
   codeAny (model X.prog X.w) X.A (.compLoop (.ListComp elt [⟨.Name v px,iter,ifs,0⟩] scope pos) 0 (.ref it) (.ref s.heap.objs.size) (compEnvC scope cl H2.objs.size X.env))
    (RR (.ref s.heap.objs.size) H2.objs.size) s₃:=by
  rintro s₃ rfl
  have I1:=I.compStart (C:=H2.objs.size) (tk:=s.toks+([]:List (Str×Value)).length) O hsub hcl hfp hfz hC old (show h₁.Ns _ (λ_=>none) from hns₁) hD
  obtain⟨W,⟨m0,w0⟩,turn⟩:=hr s.heap.objs.size (I.hok.fresh (K1 _))
  have stat:∀{H':Hp},(∀b∈fp,H' b=none)->∀b∈fp,oK (bN X scope cl (v :: F) fp s H H2.objs.size) [] H' b:=λhn b hb=>
   ⟨hn b hb,((I1.ok.IM b hb).1),I1.ok.wZ b hb,.inl hb,(I1.ok.IM b hb).2,λp hp=>absurd (show p∈([]:List (Addr×Obj)) from hp) (by simp)⟩
  have NV:∀b∈fp,(upd H s.heap.objs.size (.lst [])) b=none:=λb hb=>by
   rw[aS (X1 (hfz b hb))]
   exact(hfp b hb).1
  have NW:(bN X scope cl (v :: F) fp s H H2.objs.size).N.Nodup:=O.nd
  have Mi:Loc (bN X scope cl (v :: F) fp s H H2.objs.size).env.scope v:=.inl (lookup_relabel_local O.own)
  refine codeAny_loop rfl (λn s'=>∃i ys H',Inv (bN X scope cl (v :: F) fp s H H2.objs.size) [] (none :: li σ ix) H' s'/\tn i s'.heap/\(∀b∈fp,H' b=none)/\W i n ys H') (λn s3 hI=> ?_) m0 ⟨0,[],_,I1,hst₁,NV,w0⟩
  obtain⟨i,ys,H3,I3,st3,Jm,w3⟩:=hI
  show wpAny _ X.A ((compTurn (.ListComp elt [⟨.Name v px,iter,ifs,0⟩] scope pos) 0 (.ref it) (.ref s.heap.objs.size) (compEnvC scope cl H2.objs.size X.env)).onRaise (λx=>do noteFrame x (compEnvC scope cl H2.objs.size X.env);theTreesLotGoes x)) _ _ s3
  refine wpAny_noted ?_
  rw[compTurn_list]
  refine JY (wpAny_standAt (JY ?_))
  obtain⟨Lq,⟨stop,qn⟩ | ⟨go,step⟩⟩:=turn i n ys H3 w3
  ·refine cX (T.done (bN X scope cl (v :: F) fp s H H2.objs.size) rfl rfl rfl hc i [] s3 _ H3 _ I3 (stat Jm) st3 stop) λr s4 ⟨Mj,I4⟩=> ?_
   subst Mj
   obtain⟨m,hm,_⟩:=id I4.loc
   refine JJ ?_
   refine hRR _ _ s4 H3 m hm ?_ I4.free (by rw[hC];exact Y2 _) qn
   exact I.call' (ch:=fp) I4.os I4.base I4.hok I4.bare λb hb=>⟨(hfp b hb).2.2.2.1,(hfp b hb).2.1,(hfp b hb).2.2.2.2.1,(hfp b hb).2.2.2.2.2⟩
  ·refine cX (T.item (bN X scope cl (v :: F) fp s H H2.objs.size) rfl rfl rfl hc i [] s3 _ H3 _ I3 (stat Jm) st3 go) λr s4 ⟨u,Mj,h4⟩=> ?_
   subst Mj
   refine JY (cX h4 λ_ s5 ⟨x,H5,I5,r5,y5,GN,L0⟩=> ?_)
   have L1:=I5.pinned (stat L0) (T.obj _ _ GN)
   have hstep:=step x H5 y5
   have again:∀{H7:Hp} {s7:Shared} {m':Nat} {zs:List V},Inv (bN X scope cl (v :: F) fp s H H2.objs.size) ([]++oM fp s5.heap) (some x :: li σ ix) H7 s7->m' < n->W (i+1) m' zs H7->
     ∃m,m < n/\∃i ys H',Inv (bN X scope cl (v :: F) fp s H H2.objs.size) [] (none :: li σ ix) H' s7/\tn i s7.heap/\(∀b∈fp,H' b=none)/\W i m ys H':=λ{H7 s7 m' zs} I7 hm w7=>by
    refine⟨m',hm,i+1,zs,H7,?_,T.keep _ _ _ GN λb hb o e=>(I7.pin (b,o) (Kx _ (Kx _ (jw hb e)))).1,λb hb=> ?_,w7⟩
    ·refine I7.lK.weak rfl λj w e=> ?_
     cases j with
     | zero=>cases e
     | succ j=>exact e
    ·obtain⟨o,e,d⟩:=T.obj _ _ GN b hb
     exact(I7.pin (b,o) (Kx _ (Kx _ (jw hb e)))).2.1
   refine JY (wpAny_mono (bz (X:=bN X scope cl (v :: F) fp s H H2.objs.size) (i:=0) (x:=v) (pos:=px) NW rfl Mi (.inr (lookup_relabel_local O.own)) _ s5 _ H5 x u (λσ2 NX=>σ2=some x :: li σ ix/\NX=H5) L1 r5 ⟨rfl,rfl⟩) (λ_ s6 ⟨σ6,H6,I6,e6,NY⟩=> ?_) λ_ _ z=>False.elim z)
   subst e6 NY
   refine JY (wpAny_mono (sS cl fp s H H2.objs.size _ s6 _ H6 _ I6 hstep) (λok s7 ⟨H7,I7,q7⟩=> ?_) λ_ _ z=>False.elim z)
   cases ok with
   | false=>
    rw[JZ K5] at q7
    obtain⟨m',hm,w7⟩:=q7
    exact JJ ⟨rfl,again I7 hm w7⟩
   | true=>
    rw[JW rfl] at q7
    refine JY (JY (wpAny_mono (helt cl fp s H H2.objs.size _ s7 _ H7 _ I7 q7) (λy s8 ⟨vv,H8,I8,r8,NZ,hz8,m',hm,w8⟩=> ?_) λ_ _ z=>False.elim z))
    refine JY (wpAny_mono (mT (X:=bN X scope cl (v :: F) fp s H H2.objs.size) _ s8 _ H8 (.ref s.heap.objs.size) [vv] _ [y] (λ_ H9=>H9=upd H8 s.heap.objs.size (.lst (ys++[vv]))) I8 rfl (.cons r8 .nil) ⟨_,ys,vv,rfl,rfl,NZ,hz8,rfl⟩) (λ_ s9 ⟨_,H9,I9,_,e9⟩=> ?_) λ_ _ z=>False.elim z)
    subst e9
    exact JJ (JJ ⟨rfl,again I9 hm w8⟩)
 exact codeAny_compStart_list (loop _ rfl) (T.self _ 0 _ _ _ hst₁ (loop _ rfl))
theorem D3 {wi:TI}(hc:X.calm=true)(O:gD X scope v F ix)(hi:PI X (.Name v px) iter wi)
  (sS:∀cl fp s H C,D0 (bN X scope cl (v :: F) fp s H C) ifs tt) (helt:∀cl fp s H C,PE (bN X scope cl (v :: F) fp s H C) elt te)
  (hs:∀x,foldedSetIterable iter X.env x=pure x:=by intro _;rfl):PE X (.ListComp elt [⟨.Name v px,iter,ifs,0⟩] scope pos) (Bm wi ix tt te):=by
 intro pins s σ H Q I h
 obtain⟨cl,hclos,hsub,hcl⟩:=oO (I.re O)
 rw[eval_ListComp]
 refine wpAny_comprehension_free (use:=none) rfl hs hclos O.kind O.names (cX (hi pins s σ H _ I h) λxv s1 h1=>cX h1 λitv s2 h2=> ?_)
 obtain⟨it,fp,tn,J,H2,e,I2,T,st2,f2,hr⟩:=h2
 subst e
 refine oP (RR:=λacc C=>compPost (model X.prog X.w) X.A X.xe none (EP X pins σ Q) acc C) I2 O hc hsub hcl T st2 f2 sS helt hr ?_
 intro D C s' H' m hm I' hn hC q
 have fp':=I2.nM (H':=H') hC hn
 exact⟨m,hm,λh' hs'=>⟨.ref D,H',I'.turned (t':=s'.toks) (λb o hb e=>(hs'.2 b hb).trans e) hn fp'.2.1 fp'.2.2.2.1 fp'.2.2.2.2.1 fp'.2.2.2.2.2,rfl,q⟩⟩
theorem xm {wi:TI}{i:Nat}{x:Str}{py spos:Pos}(hN:X.N.Nodup)(hxi:X.N[i]? =some x)(hx:Loc X.env.scope x)(hc:X.calm=true)(O:gD X scope v F ix)(hi:PI X (.Name v px) iter wi)
  (sS:∀cl fp s H C,D0 (bN X scope cl (v :: F) fp s H C) ifs tt) (helt:∀cl fp s H C,PE (bN X scope cl (v :: F) fp s H C) elt te)
  (hsw:swapsWith (.ListComp elt [⟨.Name v px,iter,ifs,0⟩] scope pos) (some (.Name x py)) spos.line X.env=pure true)
  (hs:∀x,foldedSetIterable iter X.env x=pure x:=by intro _;rfl) (hf:X.fn x=true∨X.env.scope.names.lookup x=some .local:=by first | exact .inl rfl | exact .inr rfl | assumption) :
  PS X (.Assign [.Name x py] (.ListComp elt [⟨.Name v px,iter,ifs,0⟩] scope pos) spos) (GJ (Bm wi ix tt te) (uJ i)):=by
 intro pins s σ H D I h
 obtain⟨cl,hclos,hsub,hcl⟩:=oO (I.re O)
 rw[exec_Assign_Name_used _ _ _ _ hsw]
 refine JY (wpAny_standAt (JY ?_))
 show wpAny _ X.A (do let _←comprehension (.ListComp elt [⟨.Name v px,iter,ifs,0⟩] scope pos) scope X.env _ (newList []) false (eval iter X.env) (some (assign (.Name x py) X.env))) _ _ s
 refine JY (wpAny_mono (wpAny_comprehension_free (use:=some (assign (.Name x py) X.env)) (Q:=λ_ s'=>SP X pins D .next s') rfl hs hclos O.kind O.names
  (cX (hi pins s σ H _ I h) λxv s1 h1=>cX h1 λitv s2 h2=> ?_)) (λ_ s' hq=>JJ (JJ hq)) λ_ _ e=>e)
 obtain⟨it,fp,tn,J,H2,e,I2,T,st2,f2,hr⟩:=h2
 subst e
 refine oP (RR:=λacc C=>compPost (model X.prog X.w) X.A X.xe (some (assign (.Name x py) X.env)) (λ_ s'=>SP X pins D .next s') acc C) (Q:=λy H1=>uJ i y σ H1 D.nx) I2 O hc hsub hcl T st2 f2 sS helt hr ?_
 intro L C s' H' m hm I' hn hC q
 have fp':=I2.nM (H':=H') hC hn
 show wpAny _ X.A (assign (.Name x py) X.env (.ref L)) _ _ _
 refine wpAny_assign_Name (qY I' hN hxi hx (v:=.ref L) rfl (λs3 I3 ⟨a,sb,ha⟩=> ?_) hf)
 have N0:C≠a:=by
  rcases ha with e | e
  ·rw[e];exact fp'.2.1
  ·exact Ne.symm (fp'.2.2.2.2.1 _ _ e)
 refine⟨m,hm.sameBut sb N0,λh' hs'=>⟨_,H',I3.turned (t':=s3.toks) (λb o hb e=>(hs'.2 b hb).trans e) hn fp'.2.1 fp'.2.2.2.1 fp'.2.2.2.2.1 fp'.2.2.2.2.2,q⟩⟩
end
end L2
namespace Y
open PySem
/- no list or dict within -/
mutual
noncomputable def bj:PyData->Bool
 | .list _=>false
 | .dict _=>false
 | .tuple xs=>aq xs
 | _=>true
noncomputable def aq:List PyData->Bool
 | []=>true
 | d :: ds=>bj d && aq ds
end
theorem gm:∀(xs ys:List PyData),aq (xs++ys)=(aq xs && aq ys)
 | [],ys=>by simp[aq]
 | x :: xs,ys=>by rw[U8,aq,aq,gm xs ys,Bool.and_assoc]
theorem aU:∀{xs:List PyData},aq xs=true↔∀x∈xs,bj x=true
 | []=>by simp[aq]
 | x :: xs=>by rw[aq,X9,aU (xs:=xs)];simp
theorem aT {α:Type}(f:α->PyData)(h:∀i,bj (f i)=true)(l:List α):aq (l.map f)=true:=aU.mpr λx hx=>by
 obtain⟨y,_,rfl⟩:=Kw.mp hx;exact h y
theorem uP {xs:List PyData}(h:aq xs=true):∀k:Nat,aq (List.replicate k xs).flatten=true
 | 0=>rfl
 | k+1=>by rw[U0,Y8,gm,h,uP h k];rfl
/- data that==reads: no dict,not too deep -/
mutual
noncomputable def lay:Nat->PyData->Bool
 | _,.none=>true
 | _,.bool _=>true
 | _,.int _=>true
 | _,.str x=>PyData.strOk x
 | n+1,.list xs=>lays n xs
 | n+1,.tuple xs=>lays n xs
 | _,_=>false
noncomputable def lays:Nat->List PyData->Bool
 | _,[]=>true
 | n,d :: ds=>lay n d && lays n ds
end
theorem gp {n:Nat}:∀{xs:List PyData},lays n xs=true↔∀x∈xs,lay n x=true
 | []=>by simp[lays]
 | x :: xs=>by rw[lays,X9,gp (xs:=xs)];simp
theorem j7 {α:Type}{n:Nat}(f:α->PyData)(h:∀i,lay n (f i)=true)(l:List α):lays n (l.map f)=true:=gp.mpr λx hx=>by
 obtain⟨y,_,rfl⟩:=Kw.mp hx;exact h y
inductive R (α:Type) where
 | ok (a:α)
 | ex (c:Str)
abbrev M (α:Type):=Option (R α)
noncomputable def ag {α:Type}(a:α):M α:=some (.ok a)
noncomputable def ap {α β:Type}(m:M α)(f:α->M β):M β:=match m with
 | none=>none
 | some (.ok a)=>f a
 | some (.ex c)=>some (.ex c)
theorem ar {α β:Type}(a:α)(f:α->M β):ap (ag a) f=f a:=rfl
noncomputable def mo {α:Type}(o:Option α):M α:=o.map .ok
theorem bt {α:Type}(a:α):mo (some a)=ag a:=rfl
abbrev bf:=List (Option (Bool×PyData))
inductive Kd where
 | fr (l:List Nat)
 | base
 | any
def cA (k:Kd)(d:PyData):Kd:=if bj d then .fr [] else k
abbrev EF:=bf->M (Kd×PyData)
abbrev TF:=bf->M Bool
inductive Out where
 | nx (Γ:bf)
 | bk (Γ:bf)
 | ct (Γ:bf)
 | rt (o:Bool) (d:PyData)
abbrev SF:=bf->M Out
abbrev GF:=Kd->PyData->bf->Option bf
abbrev IF:=bf->M (Kd×List PyData)
abbrev FF:=List PyData->M (Bool×PyData)
def eC (d:PyData):EF:=λ_=>ag (.fr [],d)
def eV (i:Nat):EF:=λΓ=>match Γ[i]? with
 | some (some (o,d))=>ag (cA (if o then .fr [i] else .base) d,d)
 | _=>none
def bp (g:PyData->PyData->Option PyData)(a b:EF):EF:=λΓ=>ap (a Γ) λx=>ap (b Γ) λy=>ap (mo (g x.2 y.2)) λz=>ag (.fr [],z)
def Bn (g:PyData->Option PyData)(a:EF):EF:=λΓ=>ap (a Γ) λx=>ap (mo (g x.2)) λz=>ag (.fr [],z)
def kF (g:PyData->PyData->Option PyData)(a b:EF):EF:=λΓ=>ap (a Γ) λx=>ap (b Γ) λy=>ap (mo (g x.2 y.2)) λz=>ag (cA x.1 z,z)
def JO (c:TF)(a b:EF):EF:=λΓ=>ap (c Γ) λt=>if t=true then a Γ else b Γ
def Hf (g g':PyData->PyData->Option PyData)(a b c:EF):EF:=λΓ=>ap (a Γ) λx=>ap (b Γ) λy=>ap (mo (g x.2 y.2)) λz=>match z with
 | .bool true=>ap (c Γ) λw=>ap (mo (g' y.2 w.2)) λu=>ag (.fr [],u)
 | .bool false=>ag (.fr [],.bool false)
 | _=>none
def Hg (a b:EF):EF:=λΓ=>ap (a Γ) λx=>match x.2 with
 | .bool true=>b Γ
 | .bool false=>ag (.fr [],.bool false)
 | _=>none
def Bo (a:EF):EF:=λΓ=>ap (a Γ) λx=>match x.2 with
 | .bool t=>ag (.fr [],.bool (!t))
 | _=>none
def tE (a:EF):TF:=λΓ=>ap (a Γ) λx=>match x.2 with
 | .bool t=>ag t
 | _=>none
def rf (a b:TF):TF:=λΓ=>ap (a Γ) λx=>if x=true then b Γ else ag false
def zL (a b:TF):TF:=λΓ=>ap (a Γ) λx=>if x=true then ag true else b Γ
def lN (a:TF):TF:=λΓ=>ap (a Γ) λx=>ag (!x)
def eArgs:List EF->bf->M (List (Kd×PyData))
 | [],_=>ag []
 | f :: r,Γ=>ap (f Γ) λx=>ap (eArgs r Γ) λxs=>ag (x :: xs)
def bO:List (Kd×PyData)->Kd
 | []=> .fr []
 | (.fr [],_) :: r=>bO r
 | _ :: _=> .any
def iU (fs:List EF):EF:=λΓ=>ap (eArgs fs Γ) λxs=>ag (cA (bO xs) (.tuple (xs.map Prod.snd)),.tuple (xs.map Prod.snd))
def cm (fs:List EF):EF:=λΓ=>ap (eArgs fs Γ) λxs=>ag (bO xs,.list (xs.map Prod.snd))
def iF (g:List PyData->Option PyData)(fs:List EF):EF:=λΓ=>ap (eArgs fs Γ) λxs=>ap (mo (g (xs.map Prod.snd))) λz=>ag (.fr [],z)
def aJ (F:FF)(fs:List EF):EF:=λΓ=>ap (eArgs fs Γ) λxs=>ap (F (xs.map Prod.snd)) λr=>ag (cA (if r.1=true then .fr [] else .any) r.2,r.2)
def uQ (x y:PyData):Option PyData:=if lay 60 x && lay 60 y then some (.bool (PyData.eqv x y)) else none
def zM (x y:PyData):Option PyData:=if lay 60 x && lay 60 y then some (.bool (!PyData.eqv x y)) else none
noncomputable def cn (ys:List PyData)(x:PyData):Bool:=ys.any λz=>PyData.eqv z x
def Hh (x:PyData):PyData->Option PyData
 | .list ys=>if lay 60 x && lays 60 ys then some (.bool (cn ys x)) else none
 | .tuple ys=>if lay 60 x && lays 60 ys then some (.bool (cn ys x)) else none
 | _=>none
def eY (x:PyData):PyData->Option PyData
 | .list ys=>if lay 60 x && lays 60 ys then some (.bool (!cn ys x)) else none
 | .tuple ys=>if lay 60 x && lays 60 ys then some (.bool (!cn ys x)) else none
 | _=>none
def jd:PyData->Bool
 | .none=>true
 | _=>false
def N2 (x:PyData):PyData->Option PyData
 | .none=>some (.bool (jd x))
 | _=>none
def sT (x:PyData):PyData->Option PyData
 | .none=>some (.bool (!jd x))
 | _=>none
def qE:PyData->PyData->Option PyData
 | .int i,.int j=>some (.int (i - j))
 | _,_=>none
def gq:PyData->PyData->Option PyData
 | .int i,.int j=>if 0 < j/\j < 2^64 then some (.int (i / j)) else none
 | _,_=>none
def gE:PyData->PyData->Option PyData
 | .int i,.int j=>if 0 < j then some (.int (i % j)) else none
 | _,_=>none
def xn:PyData->PyData->Option PyData
 | .int i,.int j=>if 0<=j/\j<=1000000/\i.natAbs < 2^64 then some (.int (i^j.toNat)) else none
 | _,_=>none
def IP:PyData->PyData->Option PyData
 | .int i,.int j=>some (.bool (decide (i < j)))
 | _,_=>none
def N3:PyData->PyData->Option PyData
 | .int i,.int j=>some (.bool (decide (i<=j)))
 | _,_=>none
def IQ:PyData->PyData->Option PyData
 | .int i,.int j=>some (.bool (decide (j < i)))
 | _,_=>none
def D4:PyData->Option PyData
 | .int i=>some (.int (-i))
 | _=>none
def gL:PyData->PyData->Option PyData
 | .int i,.int j=>some (.int (i+j))
 | .list xs,.list ys=>if aq xs && aq ys && decide (xs.length+ys.length<=sizeLine) then some (.list (xs++ys)) else none
 | .tuple xs,.tuple ys=>if aq xs && aq ys && decide (xs.length+ys.length<=sizeLine) then some (.tuple (xs++ys)) else none
 | .str x,.str y=>if x.length+y.length<=sizeLine then some (.str (x++y)) else none
 | _,_=>none
def qJ:PyData->PyData->Option PyData
 | .int i,.int j=>if (-(2^64) < i/\i < 2^64)∨(-(2^64) < j/\j < 2^64) then some (.int (i*j)) else none
 | _,_=>none
def zN (xs:List PyData):PyData->M (Kd×PyData)
 | .int k=>if aq xs=true/\ -(2^63)<=k/\k < 2^63/\xs.length*k.toNat<=sizeLine then ag (.fr [],.list (List.replicate k.toNat xs).flatten) else none
 | _=>none
def isNew:Kd->Bool
 | .fr []=>true
 | _=>false
def zO (k:Kd)(x y:PyData):M (Kd×PyData):=if isNew k=true then (match x with
 | .list xs=>zN xs y
 | _=>none) else none
def D5 (a b:EF):EF:=λΓ=>ap (a Γ) λx=>ap (b Γ) λy=>zO x.1 x.2 y.2
def nu (n:Nat)(i:Int):Option Nat:=if 0<=i then (if i < n then some i.toNat else none) else if -(n:Int)<=i then some (i+n).toNat else none
def mP {α:Type}(xs:List α)(i:Int):Option α:=(nu xs.length i).bind λj=>xs[j]?
def j0:PyData->PyData->Option PyData
 | .list xs,.int i=>mP xs i
 | .tuple xs,.int i=>mP xs i
 | .str x,.int i=>if x.length<=sizeLine then (mP x.cps.toList i).map λc=> .str ⟨#[c]⟩ else none
 | _,_=>none
def hX:List PyData->Option PyData
 | [.list xs]=>some (.int xs.length)
 | [.tuple xs]=>some (.int xs.length)
 | [.str x]=>if x.length<=sizeLine then some (.int x.length) else none
 | _=>none
def j8:List PyData->Option PyData
 | [.list xs]=>if aq xs then some (.list xs) else none
 | [.tuple xs]=>if aq xs then some (.list xs) else none
 | _=>none
def eZ:List PyData->Option PyData
 | [.list xs]=>if aq xs then some (.tuple xs) else none
 | [.tuple xs]=>if aq xs then some (.tuple xs) else none
 | _=>none
def oQ (n:String):PyData->Bool
 | .none=>false
 | .bool _=>n== "bool" || n== "int"
 | .int _=>n== "int"
 | .str _=>n== "str"
 | .list _=>n== "list"
 | .tuple _=>n== "tuple"
 | .dict _=>n== "dict"
def uR (n:String)(a:EF):EF:=λΓ=>ap (a Γ) λx=>ag (.fr [],.bool (oQ n x.2))
def xo (i:Nat)(Γ:bf):bf:=match Γ[i]? with
 | some (some (_,d))=>Γ.set i (some (false,d))
 | _=>Γ
def xp (l:List Nat)(Γ:bf):bf:=l.foldl (λΓ i=>xo i Γ) Γ
def sU (Γ:bf):bf:=Γ.map λs=>s.map λp=>(false,p.2)
def iV (Γ:bf)(i:Nat)(k:Kd)(d:PyData):bf:=match k with
 | .fr []=>Γ.set i (some (true,d))
 | .fr (j :: l)=>(xp (j :: l) Γ).set i (some (false,d))
 | .base=>Γ.set i (some (false,d))
 | .any=>(sU Γ).set i (some (false,d))
def bY (i:Nat):GF:=λk d Γ=>some (iV Γ i k d)
def yG:Kd->Kd
 | .fr []=> .fr []
 | .fr (_ :: _)=> .any
 | .base=> .base
 | .any=> .any
def oR (Γ:bf):List Nat->Kd->List PyData->bf
 | i :: is,k,d :: ds=>oR (iV Γ i (cA k d) d) is k ds
 | _,_,_=>Γ
def jy (is:List Nat):GF:=λk d Γ=>match d with
 | .tuple ds=>if ds.length=is.length then some (oR Γ is (yG k) ds) else none
 | _=>none
def j9 (k:Kd)(Γ:bf):bf:=match k with
 | .fr []=>Γ
 | .fr (j :: l)=>xp (j :: l) Γ
 | .base=>Γ
 | .any=>sU Γ
noncomputable def itemsOf:PyData->Option (List PyData)
 | .list xs=>some xs
 | .tuple xs=>some xs
 | _=>none
def ny (e:EF):IF:=λΓ=>ap (e Γ) λx=>ap (mo (itemsOf x.2)) λds=>ag (x.1,ds)
def zP:PyData->M (Kd×List PyData)
 | .int n=>if -(2^62)<=n/\n < 2^62 then ag (.fr [],(List.range n.toNat).map λi=> .int (i:Nat)) else none
 | _=>none
def eK (e:EF):IF:=λΓ=>ap (e Γ) λx=>zP x.2
def kY (Γ:bf)(ix:List Nat):bf:=ix.map λk=>(Γ[k]?).join.map λp=>(false,p.2)
def c_ (ft:TF)(fe:EF)(cap:bf):List PyData->Option (List (Kd×PyData))
 | []=>some []
 | d :: ds=>match ft (some (false,d) :: cap) with
  | some (.ok true)=>match fe (some (false,d) :: cap) with
   | some (.ok x)=>(c_ ft fe cap ds).map (x :: ·)
   | _=>none
  | some (.ok false)=>c_ ft fe cap ds
  | _=>none
def gu:List (Kd×PyData)->Option Kd
 | []=>some (.fr [])
 | (.fr [],_) :: r=>gu r
 | (.base,_) :: r=>(gu r).map λ_=> .any
 | _ :: _=>none
def dN:TF:=λ_=>ag true
def cp (it:IF)(ix:List Nat)(ft:TF)(fe:EF):EF:=λΓ=>ap (it Γ) λx=>ap (mo (c_ ft fe (kY Γ ix) x.2)) λys=>ap (mo (gu ys)) λk=>if x.2.length<=100000 then ag (k,.list (ys.map Prod.snd)) else none
def aB (f g:SF):SF:=λΓ=>ap (f Γ) λo=>match o with
 | .nx Γ'=>g Γ'
 | o=>ag o
def cB:SF:=λΓ=>ag (.nx Γ)
def Mk:SF:=λΓ=>ag (.ct Γ)
def mU:Kd->Bool
 | .fr _=>true
 | _=>false
def bZ (e:EF):SF:=λΓ=>ap (e Γ) λx=>ag (.rt (mU x.1) x.2)
def Bp:SF:=λ_=>none
def aE (i:Nat)(e:EF):SF:=λΓ=>ap (e Γ) λx=>ag (.nx (iV Γ i x.1 x.2))
def ja (t:TF)(a b:SF):SF:=λΓ=>ap (t Γ) λc=>if c=true then a Γ else b Γ
def xq (i j:Nat):SF:=λΓ=>match Γ[j]? with
 | some (some (true,d))=>if bj d then ag (.nx (Γ.set i (some (true,d)))) else if i=j then none else ag (.nx ((Γ.set j none).set i (some (true,d))))
 | some (some (false,d))=>ag (.nx (iV Γ i (cA .base d) d))
 | _=>none
def zQ (g:GF)(e:EF):SF:=λΓ=>ap (e Γ) λx=>ap (mo (g x.1 x.2 Γ)) λΓ'=>ag (.nx Γ')
def aW (g:GF)(b:SF):List PyData->bf->M Out
 | [],Γ=>ag (.nx Γ)
 | d :: ds,Γ=>ap (mo (g (cA .base d) d Γ)) λΓ1=>ap (b Γ1) λo=>match o with
  | .nx Γ'=>aW g b ds Γ'
  | .ct Γ'=>aW g b ds Γ'
  | .bk Γ'=>ag (.nx Γ')
  | .rt o d=>ag (.rt o d)
def bx (it:IF)(g:GF)(b:SF):SF:=λΓ=>ap (it Γ) λx=>aW g b x.2 (j9 x.1 Γ)
def eM (n:Nat)(t:TF)(b:SF)(Γ:bf):M Out:=match n with
 | 0=>none
 | n+1=>ap (t Γ) λc=>if c=true then ap (b Γ) λo=>(match o with
   | .nx Γ'=>eM n t b Γ'
   | .ct Γ'=>eM n t b Γ'
   | .bk Γ'=>ag (.nx Γ')
   | .rt o d=>ag (.rt o d)) else ag (.nx Γ)
def uS:Nat:=1000000
def oS (n:Nat)(t:TF)(b:SF):SF:=λΓ=>eM n t b Γ
def iW (i:Nat)(e:EF):SF:=λΓ=>match Γ[i]? with
 | some (some (true,.list xs))=>ap (e Γ) λx=>match x.1 with
  | .fr []=>if xs.length < sizeLine then ag (.nx (Γ.set i (some (true,.list (xs++[x.2]))))) else none
  | .fr [j]=>if xs.length < sizeLine/\i≠j then ag (.nx ((Γ.set j none).set i (some (true,.list (xs++[x.2]))))) else none
  | _=>none
 | _=>none
def FZ:Kd->Bool
 | .fr []=>true
 | .base=>true
 | _=>false
def xr (k:Kd):PyData->Option (List PyData)
 | .list ys=>if FZ k=true then some ys else none
 | .tuple ys=>some ys
 | _=>none
def xt (i:Nat)(e:EF):SF:=λΓ=>match Γ[i]? with
 | some (some (true,.list xs))=>ap (e Γ) λx=>match xr x.1 x.2 with
  | some ys=>if aq ys=true/\xs.length+ys.length<=sizeLine then ag (.nx (Γ.set i (some (true,.list (xs++ys))))) else none
  | none=>none
 | _=>none
def zR (i:Nat)(j e:EF):SF:=λΓ=>ap (e Γ) λx=>match Γ[i]? with
 | some (some (true,.list xs))=>ap (j Γ) λy=>match y.2 with
  | .int n=>match nu xs.length n with
   | some m=>if bj x.2 && aq xs then ag (.nx (Γ.set i (some (true,.list (xs.set m x.2))))) else none
   | none=>none
  | _=>none
 | _=>none
def cP (n:Nat)(ds:List PyData):bf:=ds.map (λd=>some (false,d))++List.replicate (n - ds.length) none
def cF (n:Nat)(f:SF):FF:=λds=>ap (f (cP n ds)) λo=>match o with
 | .rt o d=>ag (o,d)
 | .nx _=>ag (true,.none)
 | _=>none
def uT:PyData->Option PyData
 | .list xs=>if aq xs then some (.tuple xs.reverse) else none
 | _=>none
def qK (x:PyData):List PyData->Option Nat
 | []=>none
 | y :: ys=>if PyData.eqv y x then some 0 else (qK x ys).map (· +1)
def Hi (n d:Nat):Option Int->Nat
 | none=>d
 | some v=>if v < 0 then (v+(n:Int)).toNat else min v.toNat n
noncomputable def cutD (xs:List PyData)(lo hi:Option Int):List PyData:=(xs.drop (Hi xs.length 0 lo)).take (Hi xs.length xs.length hi - Hi xs.length 0 lo)
def oI:PyData->M (Option Int)
 | .int n=>ag (some n)
 | _=>none
def oE:Option EF->bf->M (Option Int)
 | none,_=>ag none
 | some f,Γ=>ap (f Γ) λx=>oI x.2
def Lr (d:PyData)(lo hi:Option Int):Option PyData:=match d with
 | .list xs=>if aq xs=true then some (.list (cutD xs lo hi)) else none
 | .tuple xs=>if aq xs=true then some (.tuple (cutD xs lo hi)) else none
 | _=>none
def Ls (a:EF)(lo hi:Option EF):EF:=λΓ=>ap (a Γ) λx=>ap (oE lo Γ) λl=>ap (oE hi Γ) λh=>ap (mo (Lr x.2 l h)) λz=>ag (.fr [],z)
def D6 (k:Kd):PyData->M (Kd×List PyData)
 | .tuple xs=>ag (k,xs.reverse)
 | _=>none
def Bq (e:EF):IF:=λΓ=>ap (e Γ) λx=>D6 x.1 x.2
mutual
noncomputable def nest:Nat->PyData->Bool
 | _,.int _=>true
 | _,.none=>true
 | n+1,.tuple ds=>nests n ds
 | _,_=>false
noncomputable def nests:Nat->List PyData->Bool
 | _,[]=>true
 | n,d :: ds=>nest n d && nests n ds
end
def uU:Int:=4238894112
mutual
def fJ:PyData->Int
 | .int i=>hashInt i
 | .tuple xs=>reduceHash (Builtin.Tuple.tupleHashOf (jz xs))
 | _=>uU
def jz:List PyData->List Int
 | []=> []
 | d :: ds=>fJ d :: jz ds
end
noncomputable def da:PyData->Bool
 | .tuple ds=>nests 7 ds
 | _=>false
def xu:PyData->Bool
 | .int _=>true
 | _=>false
abbrev kZ:=List (PyData×PyData)
def gF (kvs:kZ):Bool:=kvs.all λp=>da p.1
def allI (kvs:kZ):Bool:=kvs.all λp=>xu p.1
def dO (kvs:kZ)(x:PyData):Bool:=(da x && gF kvs) || (xu x && allI kvs)
def lj (kvs:kZ)(x:PyData):Bool:=kvs.any λp=>PyData.eqv p.1 x
def jA (kvs:kZ)(x:PyData):Option PyData:=(kvs.find? λp=>PyData.eqv p.1 x).map (·.2)
def putK (kvs:kZ)(k v:PyData):kZ:=if lj kvs k=true then kvs.map λp=>if PyData.eqv p.1 k=true then (p.1,v) else p else kvs++[(k,v)]
def k9 (kvs more:kZ):kZ:=more.foldl (λacc p=>putK acc p.1 p.2) kvs
def dP (kvs:kZ):Bool:=aq (kvs.map (·.2))
def uV (x y:PyData):Option PyData:=match y with
 | .dict kvs=>if dO kvs x=true then some (.bool (lj kvs x)) else none
 | y=>Hh x y
def e7 (x y:PyData):Option PyData:=match y with
 | .dict kvs=>if dO kvs x=true then some (.bool (!lj kvs x)) else none
 | y=>eY x y
def D7 (x y:PyData):Option PyData:=match x with
 | .dict kvs=>if dO kvs y=true then jA kvs y else none
 | x=>j0 x y
def lO:EF:=λ_=>ag (.fr [],.dict [])
def uW (a b:EF):EF:=λΓ=>ap (a Γ) λx=>ap (b Γ) λy=>if dO [] x.2=true/\bj y.2=true then ag (.fr [],.dict [(x.2,y.2)]) else none
def oq:List PyData->Option PyData
 | [.dict kvs]=>if kvs.isEmpty=false/\gF kvs=true/\dP kvs=true/\(kvs.map λp=>fJ p.1).Nodup then some (.dict kvs) else none
 | _=>none
def D8 (i:Nat):Kd->Bool
 | .fr l=> !l.contains i
 | .base=>true
 | .any=>false
def uX (i:Nat)(k:Kd)(kvs:kZ):PyData->Option kZ
 | .dict more=>if D8 i k=true/\((kvs.isEmpty=false/\gF kvs=true/\gF more=true)∨(allI kvs=true/\allI more=true))/\dP kvs=true/\dP more=true/\kvs.length+more.length<=sizeLine then some (k9 kvs more) else none
 | _=>none
def rg (i:Nat)(e:EF):SF:=λΓ=>match Γ[i]? with
 | some (some (true,.dict kvs))=>ap (e Γ) λx=>match uX i x.1 kvs x.2 with
  | some kvs'=>ag (.nx (Γ.set i (some (true,.dict kvs'))))
  | none=>none
 | _=>none
def oT (i:Nat)(j e:EF):SF:=λΓ=>ap (e Γ) λx=>match Γ[i]? with
 | some (some (true,.dict kvs))=>ap (j Γ) λy=>if dO kvs y.2=true/\bj x.2=true/\dP kvs=true/\kvs.length < sizeLine then ag (.nx (Γ.set i (some (true,.dict (putK kvs y.2 x.2))))) else none
 | _=>none
def rh (i:Nat)(j e:EF):SF:=λΓ=>match Γ[i]? with
 | some (some (true,.dict _))=>oT i j e Γ
 | _=>zR i j e Γ
def yH:kZ->PyData->PyData->Option kZ
 | [],k,n=>some [(k,.list [n])]
 | (k',v) :: r,k,n=>if PyData.eqv k' k=true then (match v with
  | .list xs=>if aq xs=true/\xs.length < sizeLine then some ((k',.list (xs++[n])) :: r) else none
  | _=>none) else (yH r k n).map ((k',v) :: ·)
def dH:Nat->List PyData->List PyData
 | _,[]=> []
 | n,d :: ds=> .tuple [.int (n:Int),d] :: dH (n+1) ds
def D9 (k:Kd):PyData->M (Kd×List PyData)
 | .tuple xs=>ag (k,dH 0 xs)
 | _=>none
def sV (e:EF):IF:=λΓ=>ap (e Γ) λx=>D9 x.1 x.2
end Y
namespace L2
open PySem PySem.Spec PyProof.Rows Y
abbrev D_:=List (PyData×V×V)×Nat
def oU (a:Addr)(ks:D_)(h:Heap):Prop :=
 ks.1.length<=sizeLine/\(a==sysModules)=false/\((∀k∈ks.1,da k.1=true)∨(∀k∈ks.1,xu k.1=true))/\(ks.1.map (·.1)).Nodup/\∃o es,h.get? a=some o/\o.ExactDict/\o.data= .dict es ks.2/\
  Paired (λ(k:PyData×V×V) (e:DictEntry)=>e.hash=fJ k.1/\RelV k.2.1 e.key/\RelV k.2.2 e.val) ks.1 es.toList
def HO.dct (a:Addr)(ks:D_):HO:=.ext (oU a ks)
mutual
def aH (K:Frag)(H:Hp):PyData->V->Prop
 | .none,v=>v= .non
 | .bool b,v=>v= .bl b
 | .int i,v=>v= .int i
 | .str x,v=>v= .str x
 | .list xs,v=>∃a vs,v= .ref a/\fU K H a vs/\aw K H xs vs
 | .tuple xs,v=>∃a vs,v= .ref a/\dL K H a vs/\aw K H xs vs
 | .dict kvs,v=>∃a ks,v= .ref a/\Rd H a (.dct a ks)/\aR K H kvs ks.1
def aw (K:Frag)(H:Hp):List PyData->List V->Prop
 | [],vs=>vs=[]
 | d :: ds,vs=>∃v r,vs=v :: r/\aH K H d v/\aw K H ds r
def aR (K:Frag)(H:Hp):List (PyData×PyData)->List (PyData×V×V)->Prop
 | [],ks=>ks=[]
 | (k,d) :: r,ks=>∃kv v q,ks=(k,kv,v) :: q/\aH K H k kv/\aH K H d v/\aR K H r q
end
mutual
def IsT (K:Frag)(H:Hp):PyData->V->List Addr->Prop
 | .none,v,as=>v= .non/\as=[]
 | .bool b,v,as=>v= .bl b/\as=[]
 | .int i,v,as=>v= .int i/\as=[]
 | .str x,v,as=>v= .str x/\as=[]
 | .list xs,v,as=>∃a vs bs,v= .ref a/\H a=some (.lst vs)/\ay K H xs vs bs/\as=a :: bs
 | .tuple xs,v,as=>∃a vs,v= .ref a/\dL K H a vs/\ay K H xs vs as
 | .dict kvs,v,as=>∃a ks bs,v= .ref a/\H a=some (.dct a ks)/\aN K H kvs ks.1 bs/\as=a :: bs
def ay (K:Frag)(H:Hp):List PyData->List V->List Addr->Prop
 | [],vs,as=>vs=[]/\as=[]
 | d :: ds,vs,as=>∃v r a1 a2,vs=v :: r/\as=a1++a2/\IsT K H d v a1/\ay K H ds r a2
def aN (K:Frag)(H:Hp):List (PyData×PyData)->List (PyData×V×V)->List Addr->Prop
 | [],ks,as=>ks=[]/\as=[]
 | (k,d) :: r,ks,as=>∃kv v q a1 a2,ks=(k,kv,v) :: q/\as=a1++a2/\IsT K H k kv []/\IsT K H d v a1/\aN K H r q a2
end
section
variable {K:Frag}{H H':Hp}
theorem bB {i:Int}:aH K H (.int i) (.int i):=by simp only[aH]
theorem yI:aH K H .none .non:=by simp only[aH]
theorem cQ {b:Bool}:aH K H (.bool b) (.bl b):=by simp only[aH]
theorem yJ {x:Str}:aH K H (.str x) (.str x):=by simp only[aH]
theorem ba:aw K H [] []:=by simp only[aw]
theorem aX {d:PyData}{ds:List PyData}{v:V}{vs:List V}(h:aH K H d v)(t:aw K H ds vs):aw K H (d :: ds) (v :: vs):=by
 simp only[aw];exact⟨v,vs,rfl,h,t⟩
theorem ou {ds:List PyData}{a:Addr}{vs:List V}(h:dL K H a vs)(t:aw K H ds vs):aH K H (.tuple ds) (.ref a):=by
 simp only[aH];exact⟨a,vs,rfl,h,t⟩
theorem sW {ds:List PyData}{a:Addr}{vs:List V}(h:fU K H a vs)(t:aw K H ds vs):aH K H (.list ds) (.ref a):=by
 simp only[aH];exact⟨a,vs,rfl,h,t⟩
theorem aL {ds:List PyData}{v:V}(h:aH K H (.tuple ds) v):∃a vs,v= .ref a/\dL K H a vs/\aw K H ds vs:=by
 simpa only[aH] using h
theorem aY {ds:List PyData}{v:V}(h:aH K H (.list ds) v):∃a vs,v= .ref a/\fU K H a vs/\aw K H ds vs:=by
 simpa only[aH] using h
theorem cf {kvs:List (PyData×PyData)}{v:V}(h:aH K H (.dict kvs) v):∃a ks,v= .ref a/\Rd H a (.dct a ks)/\aR K H kvs ks.1:=by
 simpa only[aH] using h
theorem aD {i:Int}{v:V}(h:aH K H (.int i) v):v= .int i:=by simpa only[aH] using h
theorem hZ {i:Str}{v:V}(h:aH K H (.str i) v):v= .str i:=by simpa only[aH] using h
theorem je {i:Bool}{v:V}(h:aH K H (.bool i) v):v= .bl i:=by simpa only[aH] using h
theorem ll {v:V}(h:aH K H .none v):v= .non:=by simpa only[aH] using h
theorem am:∀{ds:List PyData} {vs:List V},aw K H ds vs->vs.length=ds.length
 | [],vs,h=>by simp only[aw] at h;subst h;rfl
 | d :: ds,vs,h=>by
  simp only[aw] at h
  obtain⟨v,r,rfl,_,t⟩:=h
  rw[Kz,Kz,am t]
theorem h9:∀{ds:List PyData} {vs:List V} {i:Nat} {d:PyData},aw K H ds vs->ds[i]? =some d->∃v,vs[i]? =some v/\aH K H d v
 | [],_,_,_,_,e=>by simp at e
 | c :: ds,vs,i,d,h,e=>by
  simp only[aw] at h
  obtain⟨v,r,rfl,hv,t⟩:=h
  cases i with
  | zero=>simp at e;subst e;exact⟨v,rfl,hv⟩
  | succ i=>
   obtain⟨w,h1,h2⟩:=h9 (i:=i) (d:=d) t (by simpa using e)
   exact⟨w,by simpa using h1,h2⟩
theorem g6:∀{ds:List PyData} {vs:List V} {i:Nat} {v:V},aw K H ds vs->vs[i]? =some v->∃d,ds[i]? =some d/\aH K H d v
 | [],vs,i,v,h,e=>by simp only[aw] at h;subst h;simp at e
 | c :: ds,vs,i,v,h,e=>by
  simp only[aw] at h
  obtain⟨v',r,rfl,hv,t⟩:=h
  cases i with
  | zero=>simp at e;subst e;exact⟨c,rfl,hv⟩
  | succ i=>
   obtain⟨w,h1,h2⟩:=g6 (i:=i) (v:=v) t (by simpa using e)
   exact⟨w,by simpa using h1,h2⟩
theorem eR:∀{ds es:List PyData} {vs ws:List V},aw K H ds vs->aw K H es ws->aw K H (ds++es) (vs++ws)
 | [],es,vs,ws,h,t=>by simp only[aw] at h;subst h;exact t
 | d :: ds,es,vs,ws,h,t=>by
  simp only[aw] at h
  obtain⟨v,r,rfl,hv,tl⟩:=h
  exact aX hv (eR tl t)
theorem zS {ds:List PyData}{d:PyData}{vs:List V}{v:V}(h:aw K H ds vs)(t:aH K H d v):aw K H (ds++[d]) (vs++[v]):=eR h (aX t ba)
theorem lQ:∀{ds:List PyData} {vs:List V},aw K H ds vs->aw K H ds.reverse vs.reverse
 | [],vs,h=>by simp only[aw] at h;subst h;exact ba
 | d :: ds,vs,h=>by
  simp only[aw] at h
  obtain⟨v,r,rfl,hv,tl⟩:=h
  rw[J7,J7]
  exact zS (lQ tl) hv
theorem rj:∀{ds:List PyData} {vs:List V} (n:Nat),aw K H ds vs->aw K H (ds.take n) (vs.take n)
 | _,_,0,_=>by simp only[YW];exact ba
 | [],vs,n+1,h=>by simp only[aw] at h;subst h;simp only[List.take_nil];exact ba
 | d :: ds,vs,n+1,h=>by
  simp only[aw] at h
  obtain⟨v,r,rfl,hv,tl⟩:=h
  exact aX hv (rj n tl)
theorem rl:∀{ds:List PyData} {vs:List V} (n:Nat),aw K H ds vs->aw K H (ds.drop n) (vs.drop n)
 | _,_,0,h=>h
 | [],vs,n+1,h=>by simp only[aw] at h;subst h;simp only[List.drop_nil];exact ba
 | d :: ds,vs,n+1,h=>by
  simp only[aw] at h
  obtain⟨v,r,rfl,hv,tl⟩:=h
  exact rl n tl
theorem uY:∀{ds:List PyData} {vs:List V} {d:PyData} {v:V} (n:Nat),aw K H ds vs->aH K H d v->aw K H (ds.set n d) (vs.set n v)
 | [],vs,_,_,n,h,_=>by simp only[aw] at h;subst h;simp only[List.set_nil];exact ba
 | c :: ds,vs,d,v,n,h,q=>by
  simp only[aw] at h
  obtain⟨v',r,rfl,hv,tl⟩:=h
  cases n with
  | zero=>exact aX q tl
  | succ n=>exact aX hv (uY n tl q)
theorem uZ:∀{ds:List PyData} {vs:List V} (k:Nat),aw K H ds vs->aw K H (List.replicate k ds).flatten (List.replicate k vs).flatten
 | _,_,0,_=>ba
 | _,_,k+1,h=>by
  rw[U0,U0,Y8,Y8]
  exact eR h (uZ k h)
theorem mV:∀(ns:List Int),aw K H (!5) (ns.map V.int)
 | []=>ba
 | n :: ns=>aX bB (mV ns)
theorem lR:∀{ns:List Int} {vs:List V},aw K H (!5) vs->vs=ns.map V.int
 | [],vs,h=>by simpa only[aw,Jk] using h
 | n :: ns,vs,h=>by
  simp only[aw,KJ] at h
  obtain⟨v,r,rfl,hv,tl⟩:=h
  rw[aD hv,lR tl,KJ]
theorem Same.lq {a:Addr}{xs:List V}(e:Same H H')(h:dL K H a xs):dL K H' a xs:=by
 rcases h with(h | ⟨o,h⟩) | h
 ·exact .inl (.inl (e _ _ h))
 ·exact .inl (.inr ⟨o,e _ _ h⟩)
 ·exact .inr h
theorem Same.rd {a:Addr}{u:HO}(e:Same H H')(h:Rd H a u):Rd H' a u:=by
 rcases h with h | ⟨o,h⟩
 ·exact .inl (e _ _ h)
 ·exact .inr ⟨o,e _ _ h⟩
mutual
theorem aH.same (e:Same H H'):∀(d:PyData) (v:V),aH K H d v->aH K H' d v
 | .none,v,h=>by simpa only[aH] using h
 | .bool b,v,h=>by simpa only[aH] using h
 | .int i,v,h=>by simpa only[aH] using h
 | .str x,v,h=>by simpa only[aH] using h
 | .list xs,v,h=>by
  simp only[aH] at h⊢
  obtain⟨a,vs,e1,h1,h2⟩:=h
  exact⟨a,vs,e1,e.seq h1,aw.same e xs vs h2⟩
 | .tuple xs,v,h=>by
  simp only[aH] at h⊢
  obtain⟨a,vs,e1,h1,h2⟩:=h
  exact⟨a,vs,e1,e.lq h1,aw.same e xs vs h2⟩
 | .dict kvs,v,h=>by
  simp only[aH] at h⊢
  obtain⟨a,ks,e1,h1,h2⟩:=h
  exact⟨a,ks,e1,e.rd h1,aR.same e kvs ks.1 h2⟩
theorem aw.same (e:Same H H'):∀(ds:List PyData) (vs:List V),aw K H ds vs->aw K H' ds vs
 | [],vs,h=>by simpa only[aw] using h
 | d :: ds,vs,h=>by
  simp only[aw] at h⊢
  obtain⟨v,r,e1,h1,h2⟩:=h
  exact⟨v,r,e1,aH.same e d v h1,aw.same e ds r h2⟩
theorem aR.same (e:Same H H'):∀(ds:List (PyData×PyData)) (ks:List (PyData×V×V)),aR K H ds ks->aR K H' ds ks
 | [],ks,h=>by simpa only[aR] using h
 | (k,d) :: r,ks,h=>by
  simp only[aR] at h⊢
  obtain⟨kv,v,q,e1,h1,h2,h3⟩:=h
  exact⟨kv,v,q,e1,aH.same e k kv h1,aH.same e d v h2,aR.same e r q h3⟩
end
theorem Same.upd {a:Addr}{o:HO}(h:H a=none):Same H (upd H a o):=λb u e=>by
 rw[aS (cY e h)];exact e
theorem Same.Hj {H0:Hp}{a:Addr}{o:HO}(s:Same H0 H)(h:H0 a=none):Same H0 (L2.upd H a o):=λb u e=>by
 rw[aS (cY e h)];exact s b u e
mutual
theorem IsT.same (e:Same H H'):∀(d:PyData) (v:V) (as:List Addr),IsT K H d v as->IsT K H' d v as
 | .none,v,as,h=>by simpa only[IsT] using h
 | .bool b,v,as,h=>by simpa only[IsT] using h
 | .int i,v,as,h=>by simpa only[IsT] using h
 | .str x,v,as,h=>by simpa only[IsT] using h
 | .list xs,v,as,h=>by
  simp only[IsT] at h⊢
  obtain⟨a,vs,bs,e1,h1,h2,h3⟩:=h
  exact⟨a,vs,bs,e1,e _ _ h1,ay.same e xs vs bs h2,h3⟩
 | .tuple xs,v,as,h=>by
  simp only[IsT] at h⊢
  obtain⟨a,vs,e1,h1,h2⟩:=h
  exact⟨a,vs,e1,e.lq h1,ay.same e xs vs as h2⟩
 | .dict kvs,v,as,h=>by
  simp only[IsT] at h⊢
  obtain⟨a,ks,bs,e1,h1,h2,h3⟩:=h
  exact⟨a,ks,bs,e1,e _ _ h1,aN.same e kvs ks.1 bs h2,h3⟩
theorem ay.same (e:Same H H'):∀(ds:List PyData) (vs:List V) (as:List Addr),ay K H ds vs as->ay K H' ds vs as
 | [],vs,as,h=>by simpa only[ay] using h
 | d :: ds,vs,as,h=>by
  simp only[ay] at h⊢
  obtain⟨v,r,a1,a2,e1,e2,h1,h2⟩:=h
  exact⟨v,r,a1,a2,e1,e2,IsT.same e d v a1 h1,ay.same e ds r a2 h2⟩
theorem aN.same (e:Same H H'):∀(ds:List (PyData×PyData)) (ks:List (PyData×V×V)) (as:List Addr),aN K H ds ks as->aN K H' ds ks as
 | [],ks,as,h=>by simpa only[aN] using h
 | (k,d) :: r,ks,as,h=>by
  simp only[aN] at h⊢
  obtain⟨kv,v,q,a1,a2,e1,e2,h1,h2,h3⟩:=h
  exact⟨kv,v,q,a1,a2,e1,e2,IsT.same e k kv [] h1,IsT.same e d v a1 h2,aN.same e r q a2 h3⟩
end
mutual
theorem IsT.toD:∀(d:PyData) (v:V) (as:List Addr),IsT K H d v as->aH K H d v
 | .none,v,as,h=>by simp only[IsT] at h;simp only[aH];exact h.1
 | .bool b,v,as,h=>by simp only[IsT] at h;simp only[aH];exact h.1
 | .int i,v,as,h=>by simp only[IsT] at h;simp only[aH];exact h.1
 | .str x,v,as,h=>by simp only[IsT] at h;simp only[aH];exact h.1
 | .list xs,v,as,h=>by
  simp only[IsT] at h;simp only[aH]
  obtain⟨a,vs,bs,e1,h1,h2,h3⟩:=h
  exact⟨a,vs,e1,fU.of h1,ay.toD xs vs bs h2⟩
 | .tuple xs,v,as,h=>by
  simp only[IsT] at h;simp only[aH]
  obtain⟨a,vs,e1,h1,h2⟩:=h
  exact⟨a,vs,e1,h1,ay.toD xs vs as h2⟩
 | .dict kvs,v,as,h=>by
  simp only[IsT] at h;simp only[aH]
  obtain⟨a,ks,bs,e1,h1,h2,h3⟩:=h
  exact⟨a,ks,e1,.inl h1,aN.toD kvs ks.1 bs h2⟩
theorem ay.toD:∀(ds:List PyData) (vs:List V) (as:List Addr),ay K H ds vs as->aw K H ds vs
 | [],vs,as,h=>by simp only[ay] at h;simp only[aw];exact h.1
 | d :: ds,vs,as,h=>by
  simp only[ay] at h;simp only[aw]
  obtain⟨v,r,a1,a2,e1,e2,h1,h2⟩:=h
  exact⟨v,r,e1,IsT.toD d v a1 h1,ay.toD ds r a2 h2⟩
theorem aN.toD:∀(ds:List (PyData×PyData)) (ks:List (PyData×V×V)) (as:List Addr),aN K H ds ks as->aR K H ds ks
 | [],ks,as,h=>by simp only[aN] at h;simp only[aR];exact h.1
 | (k,d) :: r,ks,as,h=>by
  simp only[aN] at h;simp only[aR]
  obtain⟨kv,v,q,a1,a2,e1,e2,h1,h2,h3⟩:=h
  exact⟨kv,v,q,e1,IsT.toD k kv [] h1,IsT.toD d v a1 h2,aN.toD r q a2 h3⟩
end
mutual
theorem aH.toT:∀(d:PyData) (v:V),bj d=true->aH K H d v->IsT K H d v []
 | .none,v,_,h=>by simp only[aH] at h;simp only[IsT];exact⟨h,trivial⟩
 | .bool b,v,_,h=>by simp only[aH] at h;simp only[IsT];exact⟨h,trivial⟩
 | .int i,v,_,h=>by simp only[aH] at h;simp only[IsT];exact⟨h,trivial⟩
 | .str x,v,_,h=>by simp only[aH] at h;simp only[IsT];exact⟨h,trivial⟩
 | .list xs,v,n,h=>by simp[bj] at n
 | .tuple xs,v,n,h=>by
  simp only[aH] at h;simp only[IsT]
  obtain⟨a,vs,e1,h1,h2⟩:=h
  exact⟨a,vs,e1,h1,aw.toT xs vs (by simpa [bj] using n) h2⟩
 | .dict kvs,v,n,h=>by simp[bj] at n
theorem aw.toT:∀(ds:List PyData) (vs:List V),aq ds=true->aw K H ds vs->ay K H ds vs []
 | [],vs,_,h=>by simp only[aw] at h;simp only[ay];exact⟨h,trivial⟩
 | d :: ds,vs,n,h=>by
  simp only[aw] at h;simp only[ay]
  obtain⟨v,r,e1,h1,h2⟩:=h
  have n':bj d=true/\aq ds=true:=by simpa [aq] using n
  exact⟨v,r,[],[],e1,rfl,aH.toT d v n'.1 h1,aw.toT ds r n'.2 h2⟩
end
mutual
theorem IsT.nil:∀(d:PyData) (v:V) (as:List Addr),bj d=true->IsT K H d v as->as=[]
 | .none,v,as,_,h=>by simp only[IsT] at h;exact h.2
 | .bool b,v,as,_,h=>by simp only[IsT] at h;exact h.2
 | .int i,v,as,_,h=>by simp only[IsT] at h;exact h.2
 | .str x,v,as,_,h=>by simp only[IsT] at h;exact h.2
 | .list xs,v,as,n,h=>by simp[bj] at n
 | .tuple xs,v,as,n,h=>by
  simp only[IsT] at h
  obtain⟨a,vs,e1,h1,h2⟩:=h
  exact ay.nil xs vs as (by simpa [bj] using n) h2
 | .dict kvs,v,as,n,h=>by simp[bj] at n
theorem ay.nil:∀(ds:List PyData) (vs:List V) (as:List Addr),aq ds=true->ay K H ds vs as->as=[]
 | [],vs,as,_,h=>by simp only[ay] at h;exact h.2
 | d :: ds,vs,as,n,h=>by
  simp only[ay] at h
  obtain⟨v,r,a1,a2,e1,e2,h1,h2⟩:=h
  have n':bj d=true/\aq ds=true:=by simpa [aq] using n
  rw[e2,IsT.nil d v a1 n'.1 h1,ay.nil ds r a2 n'.2 h2];rfl
end
def eX:HO->Prop
 | .lst _=>True
 | .ext _=>True
 | _=>False
mutual
theorem IsT.live:∀(d:PyData) (v:V) (as:List Addr),IsT K H d v as->∀a∈as,∃o,H a=some o/\eX o
 | .none,v,as,h=>by simp only[IsT] at h;rw[h.2];intro a ha;cases ha
 | .bool b,v,as,h=>by simp only[IsT] at h;rw[h.2];intro a ha;cases ha
 | .int i,v,as,h=>by simp only[IsT] at h;rw[h.2];intro a ha;cases ha
 | .str x,v,as,h=>by simp only[IsT] at h;rw[h.2];intro a ha;cases ha
 | .list xs,v,as,h=>by
  simp only[IsT] at h
  obtain⟨a,vs,bs,e1,h1,h2,rfl⟩:=h
  intro b hb
  rcases K0.mp hb with rfl | hb
  ·exact⟨_,h1,trivial⟩
  ·exact ay.live xs vs bs h2 b hb
 | .tuple xs,v,as,h=>by
  simp only[IsT] at h
  obtain⟨a,vs,e1,h1,h2⟩:=h
  exact ay.live xs vs as h2
 | .dict kvs,v,as,h=>by
  simp only[IsT] at h
  obtain⟨a,ks,bs,e1,h1,h2,rfl⟩:=h
  intro b hb
  rcases K0.mp hb with rfl | hb
  ·exact⟨_,h1,trivial⟩
  ·exact aN.live kvs ks.1 bs h2 b hb
theorem ay.live:∀(ds:List PyData) (vs:List V) (as:List Addr),ay K H ds vs as->∀a∈as,∃o,H a=some o/\eX o
 | [],vs,as,h=>by simp only[ay] at h;rw[h.2];intro a ha;cases ha
 | d :: ds,vs,as,h=>by
  simp only[ay] at h
  obtain⟨v,r,a1,a2,e1,rfl,h1,h2⟩:=h
  intro a ha
  rcases Kk.mp ha with ha | ha
  ·exact IsT.live d v a1 h1 a ha
  ·exact ay.live ds r a2 h2 a ha
theorem aN.live:∀(ds:List (PyData×PyData)) (ks:List (PyData×V×V)) (as:List Addr),aN K H ds ks as->∀a∈as,∃o,H a=some o/\eX o
 | [],ks,as,h=>by simp only[aN] at h;rw[h.2];intro a ha;cases ha
 | (k,d) :: r,ks,as,h=>by
  simp only[aN] at h
  obtain⟨kv,v,q,a1,a2,e1,rfl,h1,h2,h3⟩:=h
  intro a ha
  rcases Kk.mp ha with ha | ha
  ·exact IsT.live d v a1 h2 a ha
  ·exact aN.live r q a2 h3 a ha
end
theorem dL.upd {l:Addr}{o o':HO}{a:Addr}{xs:List V}(hl:H l=some o)(hm:eX o)(h:dL K H a xs):dL K (upd H l o') a xs:=by
 rcases h with(h | ⟨ob,h⟩) | h
 ·exact .inl (.inl (by rw[aS (FJ h hl (by intro z;subst z;exact hm))];exact h))
 ·exact .inl (.inr ⟨ob,by rw[aS (FJ h hl (by intro z;subst z;exact hm))];exact h⟩)
 ·exact .inr h
mutual
theorem IsT.upd {l:Addr}{o o':HO}(hl:H l=some o)(hm:eX o):∀(d:PyData) (v:V) (as:List Addr),l∉as->IsT K H d v as->IsT K (upd H l o') d v as
 | .none,v,as,_,h=>by simpa only[IsT] using h
 | .bool b,v,as,_,h=>by simpa only[IsT] using h
 | .int i,v,as,_,h=>by simpa only[IsT] using h
 | .str x,v,as,_,h=>by simpa only[IsT] using h
 | .list xs,v,as,n,h=>by
  simp only[IsT] at h⊢
  obtain⟨a,vs,bs,e1,h1,h2,rfl⟩:=h
  have n1:a≠l:=λe=>n (by rw[e];exact K8)
  exact⟨a,vs,bs,e1,by rw[aS n1];exact h1,ay.upd hl hm xs vs bs (λz=>n (K9 _ z)) h2,rfl⟩
 | .tuple xs,v,as,n,h=>by
  simp only[IsT] at h⊢
  obtain⟨a,vs,e1,h1,h2⟩:=h
  exact⟨a,vs,e1,h1.upd hl hm,ay.upd hl hm xs vs as n h2⟩
 | .dict kvs,v,as,n,h=>by
  simp only[IsT] at h⊢
  obtain⟨a,ks,bs,e1,h1,h2,rfl⟩:=h
  have n1:a≠l:=λe=>n (by rw[e];exact K8)
  exact⟨a,ks,bs,e1,by rw[aS n1];exact h1,aN.upd hl hm kvs ks.1 bs (λz=>n (K9 _ z)) h2,rfl⟩
theorem ay.upd {l:Addr}{o o':HO}(hl:H l=some o)(hm:eX o):∀(ds:List PyData) (vs:List V) (as:List Addr),l∉as->ay K H ds vs as->ay K (upd H l o') ds vs as
 | [],vs,as,_,h=>by simpa only[ay] using h
 | d :: ds,vs,as,n,h=>by
  simp only[ay] at h⊢
  obtain⟨v,r,a1,a2,e1,rfl,h1,h2⟩:=h
  exact⟨v,r,a1,a2,e1,rfl,IsT.upd hl hm d v a1 (λz=>n (KZ _ z)) h1,ay.upd hl hm ds r a2 (λz=>n (Kx _ z)) h2⟩
theorem aN.upd {l:Addr}{o o':HO}(hl:H l=some o)(hm:eX o):∀(ds:List (PyData×PyData)) (ks:List (PyData×V×V)) (as:List Addr),l∉as->aN K H ds ks as->aN K (upd H l o') ds ks as
 | [],ks,as,_,h=>by simpa only[aN] using h
 | (k,d) :: r,ks,as,n,h=>by
  simp only[aN] at h⊢
  obtain⟨kv,v,q,a1,a2,e1,rfl,h1,h2,h3⟩:=h
  exact⟨kv,v,q,a1,a2,e1,rfl,IsT.upd hl hm k kv [] (by intro z;cases z) h1,IsT.upd hl hm d v a1 (λz=>n (KZ _ z)) h2,aN.upd hl hm r q a2 (λz=>n (Kx _ z)) h3⟩
end
theorem jf:ay K H [] [] []:=by simp only[ay];exact⟨trivial,trivial⟩
theorem jg {d:PyData}{ds:List PyData}{v:V}{vs:List V}{a1 a2:List Addr}(h:IsT K H d v a1)(t:ay K H ds vs a2):ay K H (d :: ds) (v :: vs) (a1++a2):=by
 simp only[ay];exact⟨v,vs,a1,a2,rfl,rfl,h,t⟩
theorem yK {ds:List PyData}{a:Addr}{vs:List V}{as:List Addr}(h:dL K H a vs)(t:ay K H ds vs as):IsT K H (.tuple ds) (.ref a) as:=by
 simp only[IsT];exact⟨a,vs,rfl,h,t⟩
theorem dz {ds:List PyData}{a:Addr}{vs:List V}{as:List Addr}(h:H a=some (.lst vs))(t:ay K H ds vs as):IsT K H (.list ds) (.ref a) (a :: as):=by
 simp only[IsT];exact⟨a,vs,as,rfl,h,t,rfl⟩
theorem gM {kvs:List (PyData×PyData)}{a:Addr}{ks:D_}{as:List Addr}(h:H a=some (.dct a ks))(t:aN K H kvs ks.1 as):IsT K H (.dict kvs) (.ref a) (a :: as):=by
 simp only[IsT];exact⟨a,ks,as,rfl,h,t,rfl⟩
theorem bD {ds:List PyData}{v:V}{as:List Addr}(h:IsT K H (.list ds) v as):∃a vs bs,v= .ref a/\H a=some (.lst vs)/\ay K H ds vs bs/\as=a :: bs:=by
 simpa only[IsT] using h
theorem jB {ds:List PyData}{v:V}{as:List Addr}(h:IsT K H (.tuple ds) v as):∃a vs,v= .ref a/\dL K H a vs/\ay K H ds vs as:=by
 simpa only[IsT] using h
theorem db {kvs:List (PyData×PyData)}{v:V}{as:List Addr}(h:IsT K H (.dict kvs) v as):∃a ks bs,v= .ref a/\H a=some (.dct a ks)/\aN K H kvs ks.1 bs/\as=a :: bs:=by
 simpa only[IsT] using h
theorem bG {ds:List PyData}{vs:List V}{as:List Addr}(h:ay K H ds vs as):vs.length=ds.length:=am (ay.toD _ _ _ h)
theorem de:∀{ds es:List PyData} {vs ws:List V} {as bs:List Addr},ay K H ds vs as->ay K H es ws bs->ay K H (ds++es) (vs++ws) (as++bs)
 | [],es,vs,ws,as,bs,h,t=>by simp only[ay] at h;obtain⟨rfl,rfl⟩:=h;exact t
 | d :: ds,es,vs,ws,as,bs,h,t=>by
  simp only[ay] at h
  obtain⟨v,r,a1,a2,rfl,rfl,hv,tl⟩:=h
  rw[X7]
  exact jg hv (de tl t)
theorem oV:∀{ds:List PyData} {vs:List V} {as:List Addr} {i:Nat} {d:PyData},ay K H ds vs as->ds[i]? =some d->∃v bs,vs[i]? =some v/\IsT K H d v bs/\bs.Sublist as
 | [],_,_,_,_,_,e=>by simp at e
 | c :: ds,vs,as,i,d,h,e=>by
  simp only[ay] at h
  obtain⟨v,r,a1,a2,rfl,rfl,hv,tl⟩:=h
  cases i with
  | zero=>simp at e;subst e;exact⟨v,a1,rfl,hv,List.sublist_append_left _ _⟩
  | succ i=>
   obtain⟨w,bs,h1,h2,h3⟩:=oV (i:=i) (d:=d) tl (by simpa using e)
   exact⟨w,bs,by simpa using h1,h2,h3.trans (List.sublist_append_right _ _)⟩
end
def aQ (K:Frag)(H H':Hp)(d:PyData)(v:V):Prop:=∃as,IsT K H' d v as/\as.Nodup/\∀a∈as,H a=none
def VR (K:Frag)(B:Hp)(φ:Nat->List Addr)(H H':Hp):Kd->PyData->V->Prop
 | .fr l,d,v=>∃as,IsT K H' d v as/\as.Nodup/\∀a∈as,(∃i∈l,a∈φ i)∨H a=none
 | .base,d,v=>aH K B d v
 | .any,d,v=>aH K H' d v
structure Rep (K:Frag)(B:Hp)(φ:Nat->List Addr)(Γ:bf)(σ:St)(H:Hp):Prop where
 bs:Same B H
 len:Γ.length=σ.length
 sl:∀i o d,Γ[i]? =some (some (o,d))->∃v,σ[i]? =some (some v)/\if o=true then IsT K H d v (φ i) else aH K B d v
 nd:∀i,(φ i).Nodup
 nb:∀i,∀a∈φ i,B a=none/\∃o,H a=some o/\eX o
 dj:∀i j,i≠j->∀a∈φ i,a∉φ j
def Runs (K:Frag)(Ew:Str->Hp->Prop)(B:Hp)(φ:Nat->List Addr)(H:Hp)(m:M (Kd×PyData))(Q:VK):Prop :=
 (∃k d,m=some (.ok (k,d))/\∀v H',Same H H'->VR K B φ H H' k d v->Q v H')∨(∃c,m=some (.ex c)/\∀H',Same B H'->Ew c H')
def nO (Ew:Str->Hp->Prop)(B:Hp)(H:Hp)(m:M Bool)(Q:Bool->Hp->Prop):Prop :=
 (∃b,m=some (.ok b)/\∀H',Same H H'->Q b H')∨(∃c,m=some (.ex c)/\∀H',Same B H'->Ew c H')
def RV (K:Frag)(B H':Hp)(o:Bool)(d:PyData)(v:V):Prop :=
 if o=true then∃as,IsT K H' d v as/\as.Nodup/\∀a∈as,B a=none else aH K H' d v
def cS (K:Frag)(Ew:Str->Hp->Prop)(B:Hp)(m:M Out)(D:Ends):Prop :=
 match m with
 | some (.ok (.nx Γ))=>∀B' φ σ H,Same B B'->Rep K B' φ Γ σ H->D.nx σ H
 | some (.ok (.bk Γ))=>∀B' φ σ H,Same B B'->Rep K B' φ Γ σ H->D.bk σ H
 | some (.ok (.ct Γ))=>∀B' φ σ H,Same B B'->Rep K B' φ Γ σ H->D.ct σ H
 | some (.ok (.rt o d))=>∀v H',Same B H'->RV K B H' o d v->D.rt v H'
 | some (.ex c)=>∀H',Same B H'->Ew c H'
 | none=>False
def tD (K:Frag)(Ew:Str->Hp->Prop)(f:EF):TE:=λσ H Q=>∃B φ Γ,Rep K B φ Γ σ H/\Runs K Ew B φ H (f Γ) Q
def Hk (K:Frag)(Ew:Str->Hp->Prop)(f:TF):TT:=λσ H Q=>∃B φ Γ,Rep K B φ Γ σ H/\nO Ew B H (f Γ) Q
def JP (K:Frag)(Ew:Str->Hp->Prop)(f:SF):TS:=λD σ H=>∃B φ Γ,Rep K B φ Γ σ H/\cS K Ew B (f Γ) D
def DE (X:Cx)(K:Frag)(Ew:Str->Hp->Prop)(e:Expr)(f:EF):Prop:=PE X e (tD K Ew f)
def DT (X:Cx)(K:Frag)(Ew:Str->Hp->Prop)(e:Expr)(f:TF):Prop:=PT X e (Hk K Ew f)
def DW (X:Cx)(K:Frag)(Ew:Str->Hp->Prop)(e:Expr)(f:TF):Prop:=PW X e (Hk K Ew f)
def DS (X:Cx)(K:Frag)(Ew:Str->Hp->Prop)(s:Stmt)(f:SF):Prop:=PS X s (JP K Ew f)
def zT (X:Cx)(K:Frag)(Ew:Str->Hp->Prop)(s:List Stmt)(f:SF):Prop:=qC X s (JP K Ew f)
theorem PE.imp {X:Cx}{e:Expr}{t t':TE}(h:PE X e t)(i:∀σ H Q,t' σ H Q->t σ H Q):PE X e t':=λpins s σ H Q I q=>h pins s σ H Q I (i σ H Q q)
theorem PT.imp {X:Cx}{e:Expr}{t t':TT}(h:PT X e t)(i:∀σ H Q,t' σ H Q->t σ H Q):PT X e t':=λpins s σ H Q I q=>h pins s σ H Q I (i σ H Q q)
theorem PW.imp {X:Cx}{e:Expr}{t t':TT}(h:PW X e t)(i:∀σ H Q,t' σ H Q->t σ H Q):PW X e t':=λw pins s σ H Q I q=>h w pins s σ H Q I (i σ H Q q)
theorem PS.imp {X:Cx}{e:Stmt}{t t':TS}(h:PS X e t)(i:∀D σ H,t' D σ H->t D σ H):PS X e t':=λpins s σ H D I q=>h pins s σ H D I (i D σ H q)
theorem qC.imp {X:Cx}{e:List Stmt}{t t':TS}(h:qC X e t)(i:∀D σ H,t' D σ H->t D σ H):qC X e t':=λpins s σ H D I q=>h pins s σ H D I (i D σ H q)
section
variable {K:Frag}{B B' H H' j1:Hp}{φ:Nat->List Addr}{Γ:bf}{σ:St}{k:Kd}{d:PyData}{v:V}{Ew:Str->Hp->Prop}
theorem Rep.same (r:Rep K B φ Γ σ H)(s:Same H H'):Rep K B φ Γ σ H' where
 bs:=r.bs.trans s
 len:=r.len
 sl:=λi o d e=>by
  obtain⟨v,h1,h2⟩:=r.sl i o d e
  refine⟨v,h1,?_⟩
  cases o with
  | true=>rw[JW rfl] at h2⊢;exact IsT.same s _ _ _ h2
  | false=>rw[JZ K5] at h2⊢;exact h2
 nd:=r.nd
 nb:=λi a ha=>⟨(r.nb i a ha).1,let ⟨o,h1,h2⟩:=(r.nb i a ha).2;⟨o,s _ _ h1,h2⟩⟩
 dj:=r.dj
theorem VR.toD (r:Same B H')(h:VR K B φ H H' k d v):aH K H' d v:=by
 cases k with
 | fr l=>obtain⟨as,h1,_⟩:=h;exact IsT.toD _ _ _ h1
 | base=>exact aH.same r _ _ h
 | any=>exact h
theorem VR.same (h:VR K B φ H H' k d v)(s:Same H' j1):VR K B φ H j1 k d v:=by
 cases k with
 | fr l=>obtain⟨as,h1,h2,h3⟩:=h;exact⟨as,IsT.same s _ _ _ h1,h2,h3⟩
 | base=>exact h
 | any=>exact aH.same s _ _ h
theorem VR.from (h:VR K B φ H H' k d v)(s:Same j1 H):VR K B φ j1 H' k d v:=by
 cases k with
 | fr l=>obtain⟨as,h1,h2,h3⟩:=h;exact⟨as,h1,h2,λa ha=>(h3 a ha).imp id λz=>s.free z⟩
 | base=>exact h
 | any=>exact h
theorem VR.k_ (hn:bj d=true)(h:aH K H' d v)(l:List Nat):VR K B φ H H' (.fr l) d v:=⟨[],aH.toT _ _ hn h,X3,λa ha=>by cases ha⟩
theorem VR.cA (r:Same B H')(h:VR K B φ H H' k d v):VR K B φ H H' (cA k d) d v:=by
 unfold Y.cA
 by_cases hn:bj d=true
 ·rw[JW hn];exact VR.k_ hn (h.toD r) []
 ·rw[JZ hn];exact h
theorem VR.fresh:VR K B φ H H' (.fr []) d v↔aQ K H H' d v:=by
 constructor
 ·rintro⟨as,h1,h2,h3⟩
  exact⟨as,h1,h2,λa ha=>by rcases h3 a ha with⟨i,hi,_⟩ | z;cases hi;exact z⟩
 ·rintro⟨as,h1,h2,h3⟩
  exact⟨as,h1,h2,λa ha=> .inr (h3 a ha)⟩
theorem aQ.k_ (hn:bj d=true)(h:aH K H' d v):aQ K H H' d v:=⟨[],aH.toT _ _ hn h,X3,λa ha=>by cases ha⟩
theorem aQ.from (h:aQ K H H' d v)(s:Same j1 H):aQ K j1 H' d v:=by
 obtain⟨as,h1,h2,h3⟩:=h
 exact⟨as,h1,h2,λa ha=>s.free (h3 a ha)⟩
theorem aQ.lst {ds:List PyData}{a:Addr}{vs:List V}(hn:aq ds=true)(h:H' a=some (.lst vs))(t:aw K H' ds vs)(n:H a=none):aQ K H H' (.list ds) (.ref a) :=
 ⟨[a],dz h (aw.toT _ _ hn t),KU.mpr ⟨by simp,X3⟩,λb hb=>by rw[K7.mp hb];exact n⟩
theorem aQ.tup {ds:List PyData}{a:Addr}{vs:List V}(hn:aq ds=true)(h:dL K H' a vs)(t:aw K H' ds vs):aQ K H H' (.tuple ds) (.ref a) :=
 ⟨[],yK h (aw.toT _ _ hn t),X3,λb hb=>by cases hb⟩
theorem Runs.mono {m:M (Kd×PyData)}{Q Q':VK}(h:Runs K Ew B φ H m Q)(i:∀v H',Same H H'->Q v H'->Q' v H'):Runs K Ew B φ H m Q':=by
 rcases h with⟨k,d,e,h⟩ | h
 ·exact .inl ⟨k,d,e,λv H' s r=>i v H' s (h v H' s r)⟩
 ·exact .inr h
theorem Runs.bind {m:M (Kd×PyData)}{g:Kd×PyData->M (Kd×PyData)}{Q:VK}(r:Rep K B φ Γ σ H)(h:Runs K Ew B φ H (ap m g) Q) :
  Runs K Ew B φ H m (λv H1=>∃k d,m=some (.ok (k,d))/\VR K B φ H H1 k d v/\Rep K B φ Γ σ H1/\Same H H1/\Runs K Ew B φ H (g (k,d)) Q):=by
 match m,h with
 | some (.ok (k,d)),h=>exact .inl ⟨k,d,rfl,λv H1 s hv=>⟨k,d,rfl,hv,r.same s,s,h⟩⟩
 | some (.ex c),h=>
  refine .inr ⟨c,rfl,?_⟩
  rcases h with⟨k,d,e,_⟩ | ⟨c',e,h⟩
  ·cases e
  ·cases e;exact h
 | none,h=>
  exfalso
  rcases h with⟨k,d,e,_⟩ | ⟨c',e,h⟩
  ·cases e
  ·cases e
theorem Runs.later {m:M (Kd×PyData)}{Q:VK}{H1:Hp}(h:Runs K Ew B φ H m Q)(s:Same H H1):Runs K Ew B φ H1 m Q:=by
 rcases h with⟨k,d,e,h⟩ | h
 ·exact .inl ⟨k,d,e,λv H' s' hv=>h v H' (s.trans s') (hv.from s)⟩
 ·exact .inr h
theorem nO.later {m:M Bool}{Q:Bool->Hp->Prop}{H1:Hp}(h:nO Ew B H m Q)(s:Same H H1):nO Ew B H1 m Q:=by
 rcases h with⟨b,e,h⟩ | h
 ·exact .inl ⟨b,e,λH' s'=>h H' (s.trans s')⟩
 ·exact .inr h
theorem nO.bind {m:M Bool}{g:Bool->M Bool}{Q:Bool->Hp->Prop}(h:nO Ew B H (ap m g) Q) :
  nO Ew B H m (λb H1=>m=some (.ok b)/\Same H H1/\nO Ew B H1 (g b) Q):=by
 match m,h with
 | some (.ok b),h=>exact .inl ⟨b,rfl,λH1 s=>⟨rfl,s,h.later s⟩⟩
 | some (.ex c),h=>
  refine .inr ⟨c,rfl,?_⟩
  rcases h with⟨k,e,_⟩ | ⟨c',e,h⟩
  ·cases e
  ·cases e;exact h
 | none,h=>
  exfalso
  rcases h with⟨k,e,_⟩ | ⟨c',e,h⟩
  ·cases e
  ·cases e
end
def iX (X:Cx)(f:Value->Value->Sem Value)(g:PyData->PyData->Option PyData):Prop :=
 ∃r,oj X f r/\∀x y z u v H Q,g x y=some z->aH X.K H x u->aH X.K H y v->(∀w H',Same H H'->aQ X.K H H' z w->Q w H')->r u v H Q
def Nh (X:Cx)(f:Value->Sem Value)(g:PyData->Option PyData):Prop :=
 ∃r,Ln X f r/\∀x z u H Q,g x=some z->aH X.K H x u->(∀w H',Same H H'->aQ X.K H H' z w->Q w H')->r u H Q
def CallD (X:Cx)(f:Value)(g:List PyData->Option PyData):Prop :=
 ∃r,hJ X f r/\∀xs z us H Q,g xs=some z->aw X.K H xs us->(∀w H',Same H H'->aQ X.K H H' z w->Q w H')->r us H Q
def Ml (X:Cx)(g:PyData->PyData->Option PyData):Prop :=
 ∃r,Bg X r/\∀B φ H0 k x y z u v H Q,Same B H->g x y=some z->VR X.K B φ H0 H k x u->aH X.K H y v->(∀w,VR X.K B φ H0 H (cA k z) z w->Q w H)->r u v H Q
section
variable {X:Cx}{K:Frag}{Ew:Str->Hp->Prop}{pos:Pos}
theorem Ea {e:Expr}{c:V}{d:PyData}(h:PE X e (tC c))(hn:bj d=true)(hd:∀H,aH K H d c):DE X K Ew e (eC d):=h.imp λσ H Q q=>by
 obtain⟨B,φ,Γ,r,q⟩:=q
 rcases q with⟨k,d',e,q⟩ | ⟨c',e,q⟩
 ·cases e
  exact q _ H (Same.refl H) (VR.k_ hn (hd H) [])
 ·cases e
theorem ao {i:Int}{j pos}:DE X K Ew (.Constant (.int i) j pos) (eC (.int i)):=Ea Gs rfl λ_=>bB
theorem la {i:Bool}{j pos}:DE X K Ew (.Constant (.bool i) j pos) (eC (.bool i)):=Ea Ja rfl λ_=>cQ
theorem mW {j pos}:DE X K Ew (.Constant .none j pos) (eC .none):=Ea Gu rfl λ_=>yI
theorem af (i:Nat){x:Str}(hN:X.N[i]? =some x:=by rfl)(hv:Li X.env.scope x:=by first | exact Or.inl rfl | exact Or.inr (!4) | exact Or.inr (Or.inr rfl))(hd:(x==("__debug__":Str))=false:=by decide)
  (hcd:(x==("__classdict__":Str))=false:=by decide):DE X K Ew (.Name x pos) (eV i):=(A7 hN hv hd hcd).imp λσ H Q q=>by
 obtain⟨B,φ,Γ,r,q⟩:=q
 unfold eV at q
 match hg:Γ[i]?,q with
 | some (some (o,d)),q=>
  obtain⟨v,h1,h2⟩:=r.sl i o d hg
  refine⟨v,h1,?_⟩
  rcases q with⟨k,d',e,q⟩ | ⟨c',e,q⟩
  ·cases e
   refine q v H (Same.refl H) (VR.cA r.bs ?_)
   cases o with
   | true=>
    rw[JW rfl] at h2
    exact⟨_,h2,r.nd i,λa ha=> .inl ⟨i,by simp,ha⟩⟩
   | false=>
    rw[JZ K5] at h2
    exact h2
  ·cases e
 | some none,q=>rcases q with⟨k,d',e,q⟩ | ⟨c',e,q⟩ <;> cases e
 | none,q=>rcases q with⟨k,d',e,q⟩ | ⟨c',e,q⟩ <;> cases e
theorem oW {fa fb:EF}{g:Kd×PyData->Kd×PyData->M (Kd×PyData)}{σ:St}{H:Hp}{Q:VK}{Ni:V->V->Hp->Prop}(h:tD K Ew (λΓ=>ap (fa Γ) λx=>ap (fb Γ) λy=>g x y) σ H Q)
  (i:∀B φ Γ k x k' y u v H1 H2,Rep K B φ Γ σ H2->Same H H1->Same H1 H2->VR K B φ H H2 k x u->VR K B φ H1 H2 k' y v->Runs K Ew B φ H (g (k,x) (k',y)) Q->Ni u v H2) :
  tD K Ew fa σ H λu H1=>tD K Ew fb σ H1 λv H2=>Ni u v H2:=by
 obtain⟨B,φ,Γ,r,q⟩:=h
 refine⟨B,φ,Γ,r,(q.bind r).mono λu H1 s1 ⟨k,x,e1,v1,r1,_,q1⟩=> ?_⟩
 refine⟨B,φ,Γ,r1,((q1.later s1).bind r1).mono λv H2 s2 ⟨k',y,e2,v2,r2,_,q2⟩=> ?_⟩
 refine i B φ Γ k x k' y u v H1 H2 r2 s1 s2 (v1.same s2) v2 ?_
 rcases q1 with⟨k0,d0,e0,q0⟩ | ⟨c0,e0,q0⟩
 ·rw[e2] at e0
  exact .inl ⟨k0,d0,e0,q0⟩
 ·rw[e2] at e0
  exact .inr ⟨c0,e0,q0⟩
theorem fV {B:Hp}{φ:Nat->List Addr}{H:Hp}{o:Option PyData}{kf:PyData->Kd}{Q:VK}(h:Runs K Ew B φ H (ap (mo o) λz=>ag (kf z,z)) Q):∃z,o=some z/\∀v H',Same H H'->VR K B φ H H' (kf z) z v->Q v H':=by
 cases o with
 | none=>rcases h with⟨k,d',e,q⟩ | ⟨c',e,q⟩ <;> cases e
 | some z=>
  rcases h with⟨k,d',e,q⟩ | ⟨c',e,q⟩
  ·cases e;exact⟨z,rfl,q⟩
  ·cases e
theorem aM {a b:Expr}{op:Operator}{fa fb:EF}{g:PyData->PyData->Option PyData}(ho:iX X (binaryOp op) g)(ha:DE X K Ew a fa)(hb:DE X K Ew b fb)(hK:X.K=K:=by rfl):DE X K Ew (.BinOp a op b pos) (bp g fa fb):=by
 obtain⟨r,hr,hx⟩:=ho
 refine(FQ hr ha hb).imp λσ H Q q=>oW q λB φ Γ k x k' y u v H1 H2 r2 s1 s2 v1 v2 q=> ?_
 obtain⟨z,e,q⟩:=fV q
 rw[hK] at hx
 exact hx x y z u v H2 Q e (v1.toD r2.bs) (v2.toD r2.bs) λw H' s f=>q w H' ((s1.trans s2).trans s) (VR.fresh.mpr (f.from (s1.trans s2)))
theorem Br {a b:Expr}{op:CmpOp}{fa fb:EF}{g:PyData->PyData->Option PyData}(ho:iX X (compareOp op) g)(ha:DE X K Ew a fa)(hb:DE X K Ew b fb)(hm:behindInMarks op b=false)(hK:X.K=K:=by rfl) :
  DE X K Ew (.Compare a [op] [b] pos) (bp g fa fb):=by
 obtain⟨r,hr,hx⟩:=ho
 refine(DM hr ha hb hm).imp λσ H Q q=>oW q λB φ Γ k x k' y u v H1 H2 r2 s1 s2 v1 v2 q=> ?_
 obtain⟨z,e,q⟩:=fV q
 rw[hK] at hx
 exact hx x y z u v H2 Q e (v1.toD r2.bs) (v2.toD r2.bs) λw H' s f=>q w H' ((s1.trans s2).trans s) (VR.fresh.mpr (f.from (s1.trans s2)))
theorem JR {a:Expr}{op:UnaryOp}{fa:EF}{g:PyData->Option PyData}(ho:Nh X (unaryOp op) g)(ha:DE X K Ew a fa)(hK:X.K=K:=by rfl):DE X K Ew (.UnaryOp op a pos) (Bn g fa):=by
 obtain⟨r,hr,hx⟩:=ho
 refine(Jn hr ha).imp λσ H Q q=> ?_
 obtain⟨B,φ,Γ,r0,q⟩:=q
 refine⟨B,φ,Γ,r0,(q.bind r0).mono λu H1 s1 ⟨k,x,e1,v1,r1,_,q1⟩=> ?_⟩
 obtain⟨z,e,q⟩:=fV q1
 rw[hK] at hx
 exact hx x z u H1 Q e (v1.toD r1.bs) λw H' s f=>q w H' (s1.trans s) (VR.fresh.mpr (f.from s1))
theorem b9 {a b:Expr}{fa fb:EF}{g:PyData->PyData->Option PyData}(ho:Ml X g)(ha:DE X K Ew a fa)(hb:DE X K Ew b fb)(hs:sM b)(hK:X.K=K:=by rfl):DE X K Ew (.Subscript a b pos) (kF g fa fb):=by
 obtain⟨r,hr,hx⟩:=ho
 refine(FV hr ha hb hs).imp λσ H Q q=>oW q λB φ Γ k x k' y u v H1 H2 r2 s1 s2 v1 v2 q=> ?_
 obtain⟨z,e,q⟩:=fV (kf:=λz=>cA k z) q
 rw[hK] at hx
 exact hx B φ H k x y z u v H2 Q r2.bs e v1 (v2.toD r2.bs) λw hw=>q w H2 (s1.trans s2) hw
end
mutual
theorem gN:∀(d:PyData) (n:Nat),lay n d=true->d.canLay0=true/\d.depth<=n
 | .none,n,_=>by simp[PyData.canLay0,PyData.depth]
 | .bool _,n,_=>by simp[PyData.canLay0,PyData.depth]
 | .int _,n,_=>by simp[PyData.canLay0,PyData.depth]
 | .str x,n,h=>by
  have h':PyData.strOk x=true:=by cases n <;> simpa [lay] using h
  simp[PyData.canLay0,PyData.depth,h']
 | .list xs,0,h=>by simp[lay] at h
 | .list xs,n+1,h=>by
  have:=h_ xs n (by simpa [lay] using h)
  simp only[PyData.canLay0,PyData.depth]
  exact⟨this.1,by omega⟩
 | .tuple xs,0,h=>by simp[lay] at h
 | .tuple xs,n+1,h=>by
  have:=h_ xs n (by simpa [lay] using h)
  simp only[PyData.canLay0,PyData.depth]
  exact⟨this.1,by omega⟩
 | .dict _,n,h=>by cases n <;> simp[lay] at h
theorem h_:∀(ds:List PyData) (n:Nat),lays n ds=true->PyData.canLayAll0 ds=true/\PyData.depthAll ds<=n
 | [],n,_=>by simp[PyData.canLayAll0,PyData.depthAll]
 | d :: ds,n,h=>by
  have h':lay n d=true/\lays n ds=true:=by simpa [lays] using h
  have h1:=gN d n h'.1
  have h2:=h_ ds n h'.2
  simp only[PyData.canLayAll0,PyData.depthAll,h1.1,h2.1,XY,true_and]
  omega
end
section
variable {X:Cx}{pins:List (Addr×Obj)}{σ:St}{H:Hp}{s:Shared}
mutual
theorem aH.reads (I:Inv X pins σ H s):∀(d:PyData) (v:V) (u:Value),d.canLay0=true->aH X.K H d v->RelV v u->∃as,Reads s.heap u d as
 | .none,v,u,_,h,r=>by
  simp only[aH] at h;subst h
  cases(show u=Value.none from r);exact⟨_,.none⟩
 | .bool b,v,u,_,h,r=>by
  simp only[aH] at h;subst h
  cases(show u=Value.bool b from r);exact⟨_,.bool b⟩
 | .int i,v,u,_,h,r=>by
  simp only[aH] at h;subst h
  obtain⟨t,rfl⟩:=(show∃t,u=Value.int i t from r);exact⟨_,.int i t⟩
 | .str x,v,u,_,h,r=>by
  simp only[aH] at h;subst h
  obtain⟨t,rfl⟩:=(show∃t,u=Value.str x t from r);exact⟨_,.str x t⟩
 | .list xs,v,u,c,h,r=>by
  simp only[aH] at h
  obtain⟨a,vs,rfl,h1,h2⟩:=h
  cases(show u=Value.ref a from r)
  obtain⟨its,rv,⟨o,n,e,hc,_,hd⟩,_⟩:=I.list h1
  obtain⟨as,ra⟩:=aw.reads I xs vs its (by simpa [PyData.canLay0] using c) h2 rv
  exact⟨_,.list e hc hd (by simpa using ra)⟩
 | .tuple xs,v,u,c,h,r=>by
  simp only[aH] at h
  obtain⟨a,vs,rfl,h1,h2⟩:=h
  cases(show u=Value.ref a from r)
  obtain⟨its,rv,⟨o,e,hc,n,hd⟩,_⟩:=I.tuple h1
  obtain⟨as,ra⟩:=aw.reads I xs vs its (by simpa [PyData.canLay0] using c) h2 rv
  exact⟨_,.tuple e hc hd (by simpa using ra)⟩
 | .dict _,v,u,c,h,r=>by simp[PyData.canLay0] at c
theorem aw.reads (I:Inv X pins σ H s):∀(ds:List PyData) (vs:List V) (us:List Value),PyData.canLayAll0 ds=true->aw X.K H ds vs->Vals vs us->∃as,ReadsAll s.heap us ds as
 | [],vs,us,_,h,r=>by
  simp only[aw] at h;subst h;cases r;exact⟨_,.nil⟩
 | d :: ds,vs,us,c,h,r=>by
  simp only[aw] at h
  obtain⟨v,w,rfl,h1,h2⟩:=h
  have c':d.canLay0=true/\PyData.canLayAll0 ds=true:=by simpa [PyData.canLayAll0] using c
  cases r with
  | cons r1 r2=>
   obtain⟨as,ra⟩:=aH.reads I d v _ c'.1 h1 r1
   obtain⟨bs,rb⟩:=aw.reads I ds w _ c'.2 h2 r2
   exact⟨_,.cons ra rb⟩
end
end
theorem dM.yL {k:Nat}{A:Around}(r:dM k A):A.units+80 < cLine:=by have:=r.un;omega
section
variable {X:Cx}
theorem iX.of {f:Value->Value->Sem Value}{g:PyData->PyData->Option PyData}
  (h:∀(pins:List (Addr×Obj)) (s:Shared) (σ:St) (H:Hp) (x y z:PyData) (u v:V) (a b:Value) (Q:VK),Inv X pins σ H s->g x y=some z->aH X.K H x u->aH X.K H y v->RelV u a->RelV v b->
   (∀w H',Same H H'->aQ X.K H H' z w->Q w H')->wpAny (model X.prog X.w) X.A (f a b) (EP X pins σ Q) X.xe s):iX X f g :=
 ⟨λu v H Q=>∃x y z,g x y=some z/\aH X.K H x u/\aH X.K H y v/\∀w H',Same H H'->aQ X.K H H' z w->Q w H',
  λpins s σ H u v a b Q I ru rv ⟨x,y,z,e,hx,hy,q⟩=>h pins s σ H x y z u v a b Q I e hx hy ru rv q,
  λx y z u v H Q e hx hy q=>⟨x,y,z,e,hx,hy,q⟩⟩
theorem j_ (hu:X.A.units+80 < cLine):iX X (compareOp .Eq) uQ:=iX.of λpins s σ H x y z u v a b Q I e hx hy ru rv q=>by
 unfold uQ at e
 split at e
 ·rename_i c
  have c':lay 60 x=true/\lay 60 y=true:=by simpa using c
  have l1:=gN _ _ c'.1
  have l2:=gN _ _ c'.2
  obtain⟨as,ra⟩:=aH.reads I x u a l1.1 hx ru
  obtain⟨bs,rb⟩:=aH.reads I y v b l2.1 hy rv
  cases e
  exact SeqAt.compareEq_reads ra rb l1.1 l2.1 (!1) ⟨.bl _,H,I,rfl,q _ H (Same.refl H) (aQ.k_ rfl cQ)⟩
 ·cases e
theorem oX (hu:X.A.units+80 < cLine):iX X (compareOp .NotEq) zM:=iX.of λpins s σ H x y z u v a b Q I e hx hy ru rv q=>by
 unfold zM at e
 split at e
 ·rename_i c
  have c':lay 60 x=true/\lay 60 y=true:=by simpa using c
  have l1:=gN _ _ c'.1
  have l2:=gN _ _ c'.2
  obtain⟨as,ra⟩:=aH.reads I x u a l1.1 hx ru
  obtain⟨bs,rb⟩:=aH.reads I y v b l2.1 hy rv
  cases e
  exact SeqAt.compareNe_reads ra rb l1.1 l2.1 (!1) ⟨.bl _,H,I,rfl,q _ H (Same.refl H) (aQ.k_ rfl cQ)⟩
 ·cases e
theorem xw (hu:X.A.units+80 < cLine):iX X (compareOp .In) Hh:=iX.of λpins s σ H x y z u v a b Q I e hx hy ru rv q=>by
 cases y <;> simp only[Hh] at e <;> try (cases e;done)
 ·rename_i ys
  split at e
  ·rename_i c
   have c':lay 60 x=true/\lays 60 ys=true:=by simpa using c
   have l1:=gN _ _ c'.1
   have l2:=h_ _ _ c'.2
   obtain⟨as,ra⟩:=aH.reads I x u a l1.1 hx ru
   obtain⟨bs,rb⟩:=aH.reads I (.list ys) v b (by simpa [PyData.canLay0] using l2.1) hy rv
   cases e
   exact SeqAt.in_list_reads rb ra l2.1 l1.1 (!1) ⟨.bl _,H,I,rfl,q _ H (Same.refl H) (aQ.k_ rfl cQ)⟩
  ·cases e
 ·rename_i ys
  split at e
  ·rename_i c
   have c':lay 60 x=true/\lays 60 ys=true:=by simpa using c
   have l1:=gN _ _ c'.1
   have l2:=h_ _ _ c'.2
   obtain⟨as,ra⟩:=aH.reads I x u a l1.1 hx ru
   obtain⟨bs,rb⟩:=aH.reads I (.tuple ys) v b (by simpa [PyData.canLay0] using l2.1) hy rv
   cases e
   exact SeqAt.in_tuple_reads rb ra l2.1 l1.1 (!1) ⟨.bl _,H,I,rfl,q _ H (Same.refl H) (aQ.k_ rfl cQ)⟩
  ·cases e
theorem jh (hu:X.A.units+80 < cLine):iX X (compareOp .NotIn) eY:=iX.of λpins s σ H x y z u v a b Q I e hx hy ru rv q=>by
 cases y <;> simp only[eY] at e <;> try (cases e;done)
 ·rename_i ys
  split at e
  ·rename_i c
   have c':lay 60 x=true/\lays 60 ys=true:=by simpa using c
   have l1:=gN _ _ c'.1
   have l2:=h_ _ _ c'.2
   obtain⟨as,ra⟩:=aH.reads I x u a l1.1 hx ru
   obtain⟨bs,rb⟩:=aH.reads I (.list ys) v b (by simpa [PyData.canLay0] using l2.1) hy rv
   cases e
   exact SeqAt.notIn_list_reads rb ra l2.1 l1.1 (!1) ⟨.bl _,H,I,rfl,q _ H (Same.refl H) (aQ.k_ rfl cQ)⟩
  ·cases e
 ·rename_i ys
  split at e
  ·rename_i c
   have c':lay 60 x=true/\lays 60 ys=true:=by simpa using c
   have l1:=gN _ _ c'.1
   have l2:=h_ _ _ c'.2
   obtain⟨as,ra⟩:=aH.reads I x u a l1.1 hx ru
   obtain⟨bs,rb⟩:=aH.reads I (.tuple ys) v b (by simpa [PyData.canLay0] using l2.1) hy rv
   cases e
   exact SeqAt.notIn_tuple_reads rb ra l2.1 l1.1 (!1) ⟨.bl _,H,I,rfl,q _ H (Same.refl H) (aQ.k_ rfl cQ)⟩
  ·cases e
theorem Bs {K:Frag}{H:Hp}{x:PyData}{u:V}(h:aH K H x u):decide (u= .non)=jd x:=by
 cases x <;> simp only[aH] at h
 ·subst h;rfl
 ·subst h;rfl
 ·subst h;rfl
 ·subst h;rfl
 ·obtain⟨a,_,rfl,_⟩:=h;rfl
 ·obtain⟨a,_,rfl,_⟩:=h;rfl
 ·obtain⟨a,_,rfl,_⟩:=h;rfl
theorem zU:iX X (compareOp .IsNot) sT:=iX.of λpins s σ H x y z u v a b Q I e hx hy ru rv q=>by
 cases y <;> simp only[sT] at e <;> try (cases e;done)
 cases e
 have hv:=ll hy
 subst hv
 exact DL pins s σ H u .non a b Q I ru rv ⟨rfl,by rw[Bs hx];exact q _ H (Same.refl H) (aQ.k_ rfl cQ)⟩
theorem iX.ints {f:Value->Value->Sem Value}{C:Int->Int->Prop}{gv:Int->Int->V}{g:PyData->PyData->Option PyData}(h:oj X f (rI C gv))
  (hg:∀x y z,g x y=some z->∃i j,x= .int i/\y= .int j/\C i j/\bj z=true/\∀K H,aH K H z (gv i j)):iX X f g:=iX.of λpins s σ H x y z u v a b Q I e hx hy ru rv q=>by
 obtain⟨i,j,rfl,rfl,c,hn,hz⟩:=hg x y z e
 have h1:=aD hx
 have h2:=aD hy
 subst h1 h2
 exact h pins s σ H _ _ a b Q I ru rv ⟨i,j,rfl,rfl,c,q _ H (Same.refl H) (aQ.k_ hn (hz _ _))⟩
theorem iX.yM {f:Value->Value->Sem Value}{gv:Int->Int->V}{g:PyData->PyData->Option PyData}(h:oj X f (FP gv))
  (hg:∀x y z,g x y=some z->∃i j,x= .int i/\y= .int j/\bj z=true/\∀K H,aH K H z (gv i j)):iX X f g:=iX.of λpins s σ H x y z u v a b Q I e hx hy ru rv q=>by
 obtain⟨i,j,rfl,rfl,hn,hz⟩:=hg x y z e
 have h1:=aD hx
 have h2:=aD hy
 subst h1 h2
 exact h pins s σ H _ _ a b Q I ru rv ⟨i,j,rfl,rfl,q _ H (Same.refl H) (aQ.k_ hn (hz _ _))⟩
theorem lS:iX X (binaryOp .Sub) Y.qE:=iX.yM GS λx y z e=>by
 cases x <;> cases y <;> simp only[Y.qE] at e <;> cases e
 exact⟨_,_,rfl,rfl,rfl,λ_ _=>bB⟩
theorem Bt:iX X (compareOp .Lt) IP:=iX.yM Jp λx y z e=>by
 cases x <;> cases y <;> simp only[IP] at e <;> cases e
 exact⟨_,_,rfl,rfl,rfl,λ_ _=>cQ⟩
theorem xx:iX X (compareOp .Gt) IQ:=iX.yM Jr λx y z e=>by
 cases x <;> cases y <;> simp only[IQ] at e <;> cases e
 exact⟨_,_,rfl,rfl,rfl,λ_ _=>cQ⟩
theorem bC:iX X (binaryOp .Mod) gE:=iX.ints GV λx y z e=>by
 cases x <;> cases y <;> simp only[gE] at e <;> try (cases e;done)
 split at e
 ·rename_i c;cases e;exact⟨_,_,rfl,rfl,c,rfl,λ_ _=>bB⟩
 ·cases e
theorem ow:iX X (binaryOp .Pow) xn:=iX.ints GW λx y z e=>by
 cases x <;> cases y <;> simp only[xn] at e <;> try (cases e;done)
 split at e
 ·rename_i c;cases e;exact⟨_,_,rfl,rfl,c,rfl,λ_ _=>bB⟩
 ·cases e
theorem Eb:Nh X (unaryOp .USub) D4:=⟨_,GX,λx z u H Q e hx q=>by
 cases x <;> simp only[D4] at e <;> cases e
 have:=aD hx
 subst this
 exact⟨_,rfl,q _ H (Same.refl H) (aQ.k_ rfl bB)⟩⟩
theorem cq:iX X (binaryOp .FloorDiv) gq:=iX.of λpins s σ H x y z u v a b Q I e hx hy ru rv q=>by
 cases x <;> cases y <;> simp only[gq] at e <;> try (cases e;done)
 rename_i i j
 split at e
 ·rename_i c
  cases e
  have h1:=aD hx
  have h2:=aD hy
  subst h1 h2
  obtain⟨t,rfl⟩:=ru
  obtain⟨t',rfl⟩:=rv
  refine floordiv_int (!1) ?_ (.inl (PyProof.noPylong_of_log2 ?_))
  ·rw[Int.fdiv_eq_ediv_of_nonneg i (!1)]
   exact⟨.int (i / j),H,I.tok _,⟨_,rfl⟩,q _ H (Same.refl H) (aQ.k_ rfl bB)⟩
  ·have h3:j.natAbs.log2 < 64:=(Nat.log2_lt (!1)).mpr (!1)
   omega
 ·cases e
theorem cC:iX X (binaryOp .Add) gL:=iX.of λpins s σ H x y z u v a b Q I e hx hy ru rv q=>by
 cases x <;> cases y <;> simp only[gL] at e <;> try (cases e;done)
 ·cases e
  have h1:=aD hx
  have h2:=aD hy
  subst h1 h2
  exact GR pins s σ H _ _ a b Q I ru rv ⟨_,_,rfl,rfl,q _ H (Same.refl H) (aQ.k_ rfl bB)⟩
 ·rename_i x y
  split at e
  ·rename_i c
   cases e
   have h1:=hZ hx
   have h2:=hZ hy
   subst h1 h2
   obtain⟨t,rfl⟩:=ru
   obtain⟨t',rfl⟩:=rv
   exact add_str (λt' tk=>⟨.str (x++y),H,I.tok _,⟨_,rfl⟩,q _ H (Same.refl H) (aQ.k_ rfl yJ)⟩) c
  ·cases e
 ·rename_i xs ys
  split at e
  ·rename_i c
   have c':(aq xs=true/\aq ys=true)/\xs.length+ys.length<=sizeLine:=by simpa using c
   cases e
   obtain⟨p,vs,rfl,h1,h2⟩:=aY hx
   obtain⟨p',vs',rfl,h3,h4⟩:=aY hy
   cases ru;cases rv
   obtain⟨its,r1,⟨⟨c1,d1,OZ,N4⟩,n1,ho1,hc1,_,hd1⟩,_⟩:=I.list h1
   obtain⟨its2,r2,⟨⟨c2,d2,Nj,sl2⟩,n2,ho2,hc2,_,hd2⟩,_⟩:=I.list h3
   simp only at hc1 hd1 hc2 hd2
   subst hc1 hd1 hc2 hd2
   have hz:vs.length+vs'.length<=sizeLine:=by rw[am h2,am h4];exact c'.2
   have hz2:its.length+its2.length<=sizeLine:=by rw[←r1.length,←r2.length];exact hz
   refine concat_meets ⟨_,ho1,rfl⟩ ⟨_,ho2,rfl⟩ noFill_list_add seq_list_add PySem.F.slot_list_add PySem.F.entry_list_add (PySem.F.args_list_add_2 _ _) (list_addW p p' its.toArray its2.toArray n1 n2 d1 d2 N4 sl2 (by simpa using hz2)) ⟨ho1,ho2,?_⟩
   have ea:its.toArray++its2.toArray=(its++its2).toArray:=by simp
   rw[ea]
   have hf:=I.fresh
   refine⟨.ref _,_,I.JN (t':=s.toks) (r1.append r2) (by rw[K2];exact hz),rfl,q _ _ (Same.upd hf) ?_⟩
   exact aQ.lst (by rw[gm,c'.1.1,c'.1.2];rfl) ax (aw.same (Same.upd hf) _ _ (eR h2 h4)) hf
  ·cases e
 ·rename_i xs ys
  split at e
  ·rename_i c
   have c':(aq xs=true/\aq ys=true)/\xs.length+ys.length<=sizeLine:=by simpa using c
   cases e
   obtain⟨p,vs,rfl,h1,h2⟩:=aL hx
   obtain⟨p',vs',rfl,h3,h4⟩:=aL hy
   have l1:=am h2
   have l2:=am h4
   by_cases hn:vs=[]
   ·have hds:xs=[]:=List.eq_nil_of_length_eq_zero (by rw[←l1,hn];rfl)
    cases ru;cases rv
    obtain⟨its,r1,p1,_⟩:=I.tuple h1
    obtain⟨its2,r2,p2,_⟩:=I.tuple h3
    obtain⟨⟨cls,dd,data,sl⟩,ho,hc,n,hda⟩:=id p1
    obtain⟨⟨cls2,dd2,data2,sl2⟩,ho2,hc2,n2,hdb⟩:=id p2
    simp only at hc hda hc2 hdb
    subst hc hda hc2 hdb
    have hv:its=[]:=(r1.om).mpr hn
    exact concat_meets ⟨_,ho,rfl⟩ ⟨_,ho2,rfl⟩ noFill_tuple_add seq_tuple_add PySem.F.slot_tuple_add PySem.F.entry_tuple_add (PySem.F.args_tuple_add_2 _ _)
     (tuple_addW0 p p' its.toArray its2.toArray n n2 dd dd2 sl sl2 (by simp[hv])) ⟨ho,ho2,⟨.ref p',H,I,rfl,q _ H (Same.refl H) (aQ.k_ (by rw[bj,hds];exact c'.1.2) (by rw[hds];exact hy))⟩⟩
   ·refine DU pins s σ H _ _ a b Q I ru rv ⟨p,p',vs,vs',rfl,rfl,h1,h3,hn,by omega,λe=> ?_,λe t ht=> ?_⟩
    ·have hes:ys=[]:=List.eq_nil_of_length_eq_zero (by rw[←l2,e];rfl)
     exact q _ H (Same.refl H) (aQ.k_ (by rw[bj,hes,Xu];exact c'.1.1) (by rw[hes,Xu];exact hx))
    ·exact q _ _ (Same.upd ht) (aQ.tup (by rw[gm,c'.1.1,c'.1.2];rfl) (dL.of ax) (aw.same (Same.upd ht) _ _ (eR h2 h4)))
  ·cases e
end
section
variable {X:Cx}{K:Frag}{Ew:Str->Hp->Prop}{pos:Pos}{a b:Expr}{fa fb:EF}{ta tb:TF}
theorem yN {B:Hp}{φ:Nat->List Addr}{Γ:bf}{σ:St}{H:Hp}{Q:Bool->Hp->Prop}(r:Rep K B φ Γ σ H)(h:nO Ew B H (tE fa Γ) Q) :
  Runs K Ew B φ H (fa Γ) (λv H1=>∃c,v= .bl c/\Q c H1):=by
 unfold tE at h
 match hm:fa Γ,h with
 | some (.ok (k,d)),h=>
  refine .inl ⟨k,d,rfl,λv H' s hv=> ?_⟩
  cases d <;> try (rcases h with⟨t,e,_⟩ | ⟨c,e,_⟩ <;> cases e;done)
  rename_i t
  rcases h with⟨t',e,h⟩ | ⟨c,e,h⟩
  ·cases e
   have:=je (hv.toD (r.bs.trans s))
   exact⟨t,this,h H' s⟩
  ·cases e
 | some (.ex c),h=>
  rcases h with⟨t',e,h⟩ | ⟨c',e,h⟩
  ·cases e
  ·cases e;exact .inr ⟨c,rfl,h⟩
 | none,h=>rcases h with⟨t',e,h⟩ | ⟨c',e,h⟩ <;> cases e
theorem oY (ha:DE X K Ew a fa)(he:∀whole,isTrue a X.env whole=(do let v←whole;standAt a.pos;holding [v] (truthy v)):=by intro _;rfl):DT X K Ew a (tE fa) :=
 (Gv ha he).imp λσ H Q q=>by
  obtain⟨B,φ,Γ,r,q⟩:=q
  exact⟨B,φ,Γ,r,yN r q⟩
theorem bm {op:CmpOp}{g:PyData->PyData->Option PyData}(ho:iX X (compareOp op) g)(ha:DE X K Ew a fa)(hb:DE X K Ew b fb)(hm:behindInMarks op b=false)(hK:X.K=K:=by rfl) :
  DT X K Ew (.Compare a [op] [b] pos) (tE (bp g fa fb)):=by
 obtain⟨r,hr,hx⟩:=ho
 refine(DN hr ha hb hm).imp λσ H Q q=> ?_
 obtain⟨B,φ,Γ,r0,q⟩:=q
 refine oW (g:=λx y=>ap (mo (g x.2 y.2)) λz=>ag (.fr [],z)) (Q:=λv H1=>∃c,v= .bl c/\Q c H1) ⟨B,φ,Γ,r0,yN r0 q⟩ λB φ Γ k x k' y u v H1 H2 r2 s1 s2 v1 v2 q=> ?_
 obtain⟨z,e,q⟩:=fV (kf:=λ_=> .fr []) q
 rw[hK] at hx
 exact hx x y z u v H2 _ e (v1.toD r2.bs) (v2.toD r2.bs) λw H' s f=>q w H' ((s1.trans s2).trans s) (VR.fresh.mpr (f.from (s1.trans s2)))
theorem sX (ha:DT X K Ew a ta):DW X K Ew (.BoolOp .And [a] pos) ta:=DK ha
theorem Bu (ha:DT X K Ew a ta):DW X K Ew (.BoolOp .Or [a] pos) ta:=Gw ha
theorem xy {rest:List Expr}(ha:DT X K Ew a ta)(hb:DW X K Ew (.BoolOp .And (b :: rest) pos) tb):DW X K Ew (.BoolOp .And (a :: b :: rest) pos) (rf ta tb) :=
 (Gy ha hb).imp λσ H Q q=>by
  obtain⟨B,φ,Γ,r,q⟩:=q
  refine⟨B,φ,Γ,r,?_⟩
  have q':=nO.bind q
  rcases q' with⟨t,e,q'⟩ | q'
  ·refine .inl ⟨t,e,λH1 s1=> ?_⟩
   obtain⟨_,_,q2⟩:=q' H1 s1
   cases t with
   | true=>rw[JW rfl] at q2⊢;exact⟨B,φ,Γ,r.same s1,q2⟩
   | false=>
    rw[JZ K5] at q2⊢
    rcases q2 with⟨t',e',q2⟩ | ⟨c,e',_⟩
    ·cases e';exact q2 H1 (Same.refl H1)
    ·cases e'
  ·exact .inr q'
theorem F0 {rest:List Expr}(ha:DT X K Ew a ta)(hb:DW X K Ew (.BoolOp .Or (b :: rest) pos) tb):DW X K Ew (.BoolOp .Or (a :: b :: rest) pos) (zL ta tb) :=
 (Jb ha hb).imp λσ H Q q=>by
  obtain⟨B,φ,Γ,r,q⟩:=q
  refine⟨B,φ,Γ,r,?_⟩
  have q':=nO.bind q
  rcases q' with⟨t,e,q'⟩ | q'
  ·refine .inl ⟨t,e,λH1 s1=> ?_⟩
   obtain⟨_,_,q2⟩:=q' H1 s1
   cases t with
   | false=>rw[JZ K5] at q2⊢;exact⟨B,φ,Γ,r.same s1,q2⟩
   | true=>
    rw[JW rfl] at q2⊢
    rcases q2 with⟨t',e',q2⟩ | ⟨c,e',_⟩
    ·cases e';exact q2 H1 (Same.refl H1)
    ·cases e'
  ·exact .inr q'
theorem DW.dt (h:DW X K Ew a ta):DT X K Ew a ta:=PW.pt h
theorem sY (ha:DT X K Ew a ta):DT X K Ew (.UnaryOp .Not a pos) (lN ta):=(Gz ha).imp λσ H Q q=>by
 obtain⟨B,φ,Γ,r,q⟩:=q
 refine⟨B,φ,Γ,r,?_⟩
 have q':=nO.bind q
 rcases q' with⟨t,e,q'⟩ | q'
 ·refine .inl ⟨t,e,λH1 s1=> ?_⟩
  obtain⟨_,_,q2⟩:=q' H1 s1
  rcases q2 with⟨t',e',q2⟩ | ⟨c,e',_⟩
  ·cases e';exact q2 H1 (Same.refl H1)
  ·cases e'
 ·exact .inr q'
theorem F1 {c:Expr}(hc:DT X K Ew c ta)(ha:DE X K Ew a fa)(hb:DE X K Ew b fb):DE X K Ew (.IfExp c a b pos) (JO ta fa fb):=(A8 hc ha hb).imp λσ H Q q=>by
 obtain⟨B,φ,Γ,r,q⟩:=q
 refine⟨B,φ,Γ,r,?_⟩
 unfold JO at q
 match hm:ta Γ,q with
 | some (.ok t),q=>
  refine .inl ⟨t,rfl,λH1 s1=> ?_⟩
  cases t with
  | true=>rw[JW rfl];exact⟨B,φ,Γ,r.same s1,Runs.later q s1⟩
  | false=>rw[JZ K5];exact⟨B,φ,Γ,r.same s1,Runs.later q s1⟩
 | some (.ex c),q=>
  rcases q with⟨k,d,e,h⟩ | ⟨c',e,h⟩
  ·cases e
  ·cases e;exact .inr ⟨c,rfl,h⟩
 | none,q=>rcases q with⟨k,d,e,h⟩ | ⟨c',e,h⟩ <;> cases e
theorem Hl {op}(ha:DE X K Ew a fa):DE X K Ew (.BoolOp op [a] pos) fa:=GA ha
theorem yO {B:Hp}{φ:Nat->List Addr}{Γ:bf}{σ:St}{H:Hp}{Q Q':VK}{g:PyData->M (Kd×PyData)}(r:Rep K B φ Γ σ H)(h:Runs K Ew B φ H (ap (fa Γ) λx=>g x.2) Q)
  (hg:∀d,(∀t,d≠ .bool t)->g d=none) (i:∀t H1,Same H H1->Rep K B φ Γ σ H1->Runs K Ew B φ H1 (g (.bool t)) Q->Q' (.bl t) H1):Runs K Ew B φ H (fa Γ) Q':=by
 refine(h.bind r).mono λv H1 s1 ⟨k,d,e,hv,r1,_,q⟩=> ?_
 cases d with
 | bool t=>
  have:=je (hv.toD r1.bs)
  subst this
  exact i t H1 s1 r1 (q.later s1)
 | _=>
  exfalso
  rw[show g _=none from hg _ (by intro t z;cases z)] at q
  rcases q with⟨k,d,e,h⟩ | ⟨c',e,h⟩ <;> cases e
theorem Hm {rest:List Expr}(ha:DE X K Ew a fa)(hb:DE X K Ew (.BoolOp .And (b :: rest) pos) fb):DE X K Ew (.BoolOp .And (a :: b :: rest) pos) (Hg fa fb):=(GB ha hb).imp λσ H Q q=>by
 obtain⟨B,φ,Γ,r,q⟩:=q
 refine⟨B,φ,Γ,r,yO (g:=λd=>match d with | .bool true=>fb Γ | .bool false=>ag (.fr [],.bool false) | _=>none) r q (λd hd=> ?_) λt H1 s1 r1 q1=>⟨t,rfl,?_⟩⟩
 ·cases d <;> first | rfl | exact absurd rfl (hd _)
 ·cases t with
  | true=>rw[JW rfl];exact⟨B,φ,Γ,r1,q1⟩
  | false=>
   rw[JZ K5]
   rcases q1 with⟨k,d,e,h⟩ | ⟨c',e,h⟩
   ·cases e;exact h _ H1 (Same.refl H1) (VR.k_ rfl cQ [])
   ·cases e
theorem Hn (ha:DE X K Ew a fa):DE X K Ew (.UnaryOp .Not a pos) (Bo fa):=(GC ha).imp λσ H Q q=>by
 obtain⟨B,φ,Γ,r,q⟩:=q
 refine⟨B,φ,Γ,r,yO (g:=λd=>match d with | .bool t=>ag (.fr [],.bool (!t)) | _=>none) r q (λd hd=> ?_) λt H1 s1 r1 q1=>⟨t,rfl,?_⟩⟩
 ·cases d <;> first | rfl | exact absurd rfl (hd _)
 ·rcases q1 with⟨k,d,e,h⟩ | ⟨c',e,h⟩
  ·cases e;exact h _ H1 (Same.refl H1) (VR.k_ rfl cQ [])
  ·cases e
end
open Classical in
noncomputable def gG (φ:Nat->List Addr)(H:Hp):Hp:=λa=>if∃j,a∈φ j then none else H a
theorem cT {φ:Nat->List Addr}{H:Hp}{a:Addr}(h:∀j,a∉φ j):gG φ H a=H a:=by
 unfold gG;rw[JZ];rintro⟨j,z⟩;exact h j z
theorem yP {φ:Nat->List Addr}{H:Hp}{a:Addr}{j:Nat}(h:a∈φ j):gG φ H a=none:=by
 unfold gG;rw[JW ⟨j,h⟩]
theorem ji (φ:Nat->List Addr)(H:Hp):Same (gG φ H) H:=λa o e=>by
 unfold gG at e
 split at e
 ·cases e
 ·exact e
section
variable {K:Frag}{B B' H H':Hp}{φ:Nat->List Addr}{Γ:bf}{σ:St}{k:Kd}{d:PyData}{v:V}
theorem dL.toB {a:Addr}{xs:List V}(e:∀a o,H a=some o->¬ eX o->B' a=some o)(h:dL K H a xs):dL K B' a xs:=by
 rcases h with(h | ⟨o,h⟩) | h
 ·exact .inl (.inl (e _ _ h (λz=>z)))
 ·exact .inl (.inr ⟨o,e _ _ h (λz=>z)⟩)
 ·exact .inr h
mutual
theorem IsT.toB (e:∀a o,H a=some o->¬ eX o->B' a=some o):∀(d:PyData) (v:V) (as:List Addr),(∀a∈as,∀o,H a=some o->B' a=some o)->IsT K H d v as->aH K B' d v
 | .none,v,as,_,h=>by simp only[IsT] at h;simp only[aH];exact h.1
 | .bool b,v,as,_,h=>by simp only[IsT] at h;simp only[aH];exact h.1
 | .int i,v,as,_,h=>by simp only[IsT] at h;simp only[aH];exact h.1
 | .str x,v,as,_,h=>by simp only[IsT] at h;simp only[aH];exact h.1
 | .list xs,v,as,m,h=>by
  simp only[IsT] at h;simp only[aH]
  obtain⟨a,vs,bs,e1,h1,h2,rfl⟩:=h
  exact⟨a,vs,e1,fU.of (m a K8 _ h1),ay.toB e xs vs bs (λb hb=>m b (K9 _ hb)) h2⟩
 | .tuple xs,v,as,m,h=>by
  simp only[IsT] at h;simp only[aH]
  obtain⟨a,vs,e1,h1,h2⟩:=h
  exact⟨a,vs,e1,h1.toB e,ay.toB e xs vs as m h2⟩
 | .dict kvs,v,as,m,h=>by
  simp only[IsT] at h;simp only[aH]
  obtain⟨a,ks,bs,e1,h1,h2,rfl⟩:=h
  exact⟨a,ks,e1,.inl (m a K8 _ h1),aN.toB e kvs ks.1 bs (λb hb=>m b (K9 _ hb)) h2⟩
theorem ay.toB (e:∀a o,H a=some o->¬ eX o->B' a=some o):∀(ds:List PyData) (vs:List V) (as:List Addr),(∀a∈as,∀o,H a=some o->B' a=some o)->ay K H ds vs as->aw K B' ds vs
 | [],vs,as,_,h=>by simp only[ay] at h;simp only[aw];exact h.1
 | d :: ds,vs,as,m,h=>by
  simp only[ay] at h;simp only[aw]
  obtain⟨v,r,a1,a2,e1,rfl,h1,h2⟩:=h
  exact⟨v,r,e1,IsT.toB e d v a1 (λb hb=>m b (KZ _ hb)) h1,ay.toB e ds r a2 (λb hb=>m b (Kx _ hb)) h2⟩
theorem aN.toB (e:∀a o,H a=some o->¬ eX o->B' a=some o):∀(ds:List (PyData×PyData)) (ks:List (PyData×V×V)) (as:List Addr),(∀a∈as,∀o,H a=some o->B' a=some o)->aN K H ds ks as->aR K B' ds ks
 | [],ks,as,_,h=>by simp only[aN] at h;simp only[aR];exact h.1
 | (k,d) :: r,ks,as,m,h=>by
  simp only[aN] at h;simp only[aR]
  obtain⟨kv,v,q,a1,a2,e1,rfl,h1,h2,h3⟩:=h
  exact⟨kv,v,q,e1,IsT.toB e k kv [] (λb hb=>by cases hb) h1,IsT.toB e d v a1 (λb hb=>m b (KZ _ hb)) h2,aN.toB e r q a2 (λb hb=>m b (Kx _ hb)) h3⟩
end
theorem Rep.mu (r:Rep K B φ Γ σ H):∀a o,H a=some o->¬ eX o->gG φ H a=some o:=λa o e n=>by
 rw[cT]
 ·exact e
 ·intro j hj
  obtain⟨o',e',m⟩:=(r.nb j a hj).2
  rw[e] at e';cases e'
  exact n m
theorem Rep.sZ (r:Rep K B φ Γ σ H):Same B (gG φ H):=λa o e=>by
 rw[cT]
 ·exact r.bs a o e
 ·intro j hj
  rw[(r.nb j a hj).1] at e
  cases e
theorem Rep.base (r:Rep K B φ Γ σ H)(s:Same B B')(s':Same B' H)(n:∀j,∀a∈φ j,B' a=none):Rep K B' φ Γ σ H where
 bs:=s'
 len:=r.len
 sl:=λi o d e=>by
  obtain⟨v,h1,h2⟩:=r.sl i o d e
  refine⟨v,h1,?_⟩
  cases o with
  | true=>exact h2
  | false=>rw[JZ K5] at h2⊢;exact aH.same s _ _ h2
 nd:=r.nd
 nb:=λi a ha=>⟨n i a ha,(r.nb i a ha).2⟩
 dj:=r.dj
theorem Rep.cut (r:Rep K B φ Γ σ H):Rep K (gG φ H) φ Γ σ H:=r.base r.sZ (ji _ _) λj a ha=>yP ha
def zV (φ:Nat->List Addr)(i:Nat):Nat->List Addr:=λj=>if j=i then [] else φ j
theorem e_ {φ:Nat->List Addr}{i j:Nat}{a:Addr}(h:a∈zV φ i j):j≠i/\a∈φ j:=by
 unfold zV at h
 split at h
 ·cases h
 ·rename_i n;exact⟨n,h⟩
theorem Rep.less {ψ:Nat->List Addr}(r:Rep K B φ Γ σ H)(hψ:∀j,ψ j=φ j∨ψ j=[])(Γ':bf)(hl:Γ'.length=Γ.length)
  (hs:∀i o d,Γ'[i]? =some (some (o,d))->(Γ[i]? =some (some (o,d))/\(o=true->ψ i=φ i))∨(o=false/\ψ i=[]/\∃o',Γ[i]? =some (some (o',d)))) :
  Same B (gG ψ H)/\Rep K (gG ψ H) ψ Γ' σ H:=by
 have sub:∀j a,a∈ψ j->a∈φ j:=λj a ha=>by
  rcases hψ j with e | e
  ·rw[e] at ha;exact ha
  ·rw[e] at ha;cases ha
 have s1:Same B (gG ψ H):=λa o e=>by
  rw[cT]
  ·exact r.bs a o e
  ·intro j hj
   rw[(r.nb j a (sub j a hj)).1] at e
   cases e
 have mu:∀a o,H a=some o->¬ eX o->gG ψ H a=some o:=λa o e n=>by
  rw[cT]
  ·exact e
  ·intro j hj
   obtain⟨o',e',m⟩:=(r.nb j a (sub j a hj)).2
   rw[e] at e';cases e'
   exact n m
 refine⟨s1,ji _ _,hl.trans r.len,λi o d e=> ?_,λj=> ?_,λj a ha=>⟨yP ha,(r.nb j a (sub j a ha)).2⟩,λi j n a ha hb=>r.dj i j n a (sub i a ha) (sub j a hb)⟩
 ·rcases hs i o d e with⟨e1,e2⟩ | ⟨rfl,e2,o',e3⟩
  ·obtain⟨v,h1,h2⟩:=r.sl i o d e1
   refine⟨v,h1,?_⟩
   cases o with
   | true=>rw[JW rfl] at h2⊢;rw[e2 rfl];exact h2
   | false=>rw[JZ K5] at h2⊢;exact aH.same s1 _ _ h2
  ·obtain⟨v,h1,h2⟩:=r.sl i o' d e3
   refine⟨v,h1,?_⟩
   rw[JZ K5]
   cases o' with
   | false=>rw[JZ K5] at h2;exact aH.same s1 _ _ h2
   | true=>
    rw[JW rfl] at h2
    refine IsT.toB mu _ _ _ (λa ha o e=> ?_) h2
    rw[cT]
    ·exact e
    ·intro j hj
     by_cases hji:j=i
     ·subst hji;rw[e2] at hj;cases hj
     ·exact r.dj i j (Ne.symm hji) a ha (sub j a hj)
 ·rcases hψ j with e | e
  ·rw[e];exact r.nd j
  ·rw[e];exact X3
theorem Bv (i:Nat)(Γ:bf):(xo i Γ).length=Γ.length:=by
 unfold xo
 split <;> simp
theorem Rep.xo (r:Rep K B φ Γ σ H)(i:Nat):Same B (gG (zV φ i) H)/\Rep K (gG (zV φ i) H) (zV φ i) (xo i Γ) σ H:=by
 refine r.less (λj=> ?_) _ (Bv i Γ) λj o d e=> ?_
 ·unfold zV
  by_cases h:j=i
  ·exact .inr (JW h)
  ·exact .inl (JZ h)
 ·unfold Y.xo at e
  split at e
  ·rename_i o' d' hg
   by_cases h:j=i
   ·subst h
    have hj:j < Γ.length:=(X2.mp hg).1
    rw[XW hj] at e
    cases e
    exact .inr ⟨rfl,JW rfl,o',hg⟩
   ·rw[XQ (Ne.symm h)] at e
    exact .inl ⟨e,λ_=>JZ h⟩
  ·rename_i hg
   by_cases h:j=i
   ·subst h
    exact absurd e (hg o d)
   ·exact .inl ⟨e,λ_=>JZ h⟩
theorem Rep.xp:∀(l:List Nat) {B:Hp} {φ:Nat->List Addr} {Γ:bf},Rep K B φ Γ σ H->∃ψ,Same B (gG ψ H)/\Rep K (gG ψ H) ψ (xp l Γ) σ H/\(∀j a,a∈ψ j->a∈φ j)/\∀j∈l,ψ j=[]
 | [],B,φ,Γ,r=>⟨φ,r.sZ,r.cut,λ_ _ h=>h,λj hj=>by cases hj⟩
 | i :: l,B,φ,Γ,r=>by
  obtain⟨s1,r1⟩:=r.xo i
  obtain⟨ψ,s2,r2,h3,h4⟩:=Rep.xp l r1
  refine⟨ψ,s1.trans s2,r2,λj a ha=>(e_ (h3 j a ha)).2,λj hj=> ?_⟩
  rcases K0.mp hj with rfl | hj
  ·cases e:ψ j with
   | nil=>rfl
   | cons b t=>
    have:=e_ (h3 j b (by rw[e];exact K8))
    exact absurd rfl this.1
  ·exact h4 j hj
theorem Rep.sU (r:Rep K B φ Γ σ H):Same B H/\Rep K H (λ_=> []) (sU Γ) σ H:=by
 have h:=r.less (ψ:=λ_=> []) (λj=> .inr rfl) (Y.sU Γ) (by simp[Y.sU]) λj o d e=>by
  unfold Y.sU at e
  rw[KW] at e
  cases hg:Γ[j]? with
  | none=>rw[hg] at e;cases e
  | some s=>
   rw[hg] at e
   cases s with
   | none=>cases e
   | some p=>cases e;exact .inr ⟨rfl,rfl,p.1,rfl⟩
 have e:gG (λ_=> []) H=H:=by
  funext a
  exact cT λj hj=>by cases hj
 rw[e] at h
 exact h
def Av (K:Frag)(B:Hp)(φ:Nat->List Addr)(H:Hp):Kd->PyData->V->Prop
 | .fr l,d,v=>∃as,IsT K H d v as/\as.Nodup/\∀a∈as,(∃i∈l,a∈φ i)∨(B a=none/\∀j,a∉φ j)
 | .base,d,v=>aH K B d v
 | .any,d,v=>aH K H d v
theorem VR.av {H0:Hp}(r:Rep K B φ Γ σ H0)(h:VR K B φ H0 H k d v):Av K B φ H k d v:=by
 cases k with
 | fr l=>
  obtain⟨as,h1,h2,h3⟩:=h
  refine⟨as,h1,h2,λa ha=>(h3 a ha).imp id λz=>⟨r.bs.free z,λj hj=> ?_⟩⟩
  obtain⟨o,e,_⟩:=(r.nb j a hj).2
  rw[z] at e;cases e
 | base=>exact h
 | any=>exact h
theorem Rep.put {as:List Addr}(r:Rep K B φ Γ σ H)(i:Nat)(h:IsT K H d v as)(nd:as.Nodup)(hb:∀a∈as,B a=none/\∀j,j≠i->a∉φ j) :
  Rep K B (λj=>if j=i then as else φ j) (Γ.set i (some (true,d))) (σ.set i (some v)) H where
 bs:=r.bs
 len:=by rw[U1,U1];exact r.len
 sl:=λj o d' e=>by
  by_cases hj:j=i
  ·subst hj
   by_cases hlt:j < Γ.length
   ·rw[XW hlt] at e
    cases e
    refine⟨v,by rw[XW (by rw[←r.len];exact hlt)],?_⟩
    rw[JW rfl,JW rfl];exact h
   ·rw[Xz (by rw[U1];omega)] at e
    cases e
  ·rw[XQ (Ne.symm hj)] at e
   obtain⟨w,h1,h2⟩:=r.sl j o d' e
   refine⟨w,by rw[XQ (Ne.symm hj)];exact h1,?_⟩
   simp only[JZ hj]
   exact h2
 nd:=λj=>by
  by_cases hj:j=i
  ·simp only[JW hj];exact nd
  ·simp only[JZ hj];exact r.nd j
 nb:=λj a ha=>by
  by_cases hj:j=i
  ·simp only[JW hj] at ha;exact⟨(hb a ha).1,IsT.live _ _ _ h a ha⟩
  ·simp only[JZ hj] at ha;exact r.nb j a ha
 dj:=λj j' n a ha hb'=>by
  by_cases hj:j=i
  ·simp only[JW hj] at ha
   by_cases hj':j'=i
   ·exact n (hj.trans hj'.symm)
   ·simp only[JZ hj'] at hb';exact(hb a ha).2 j' hj' hb'
  ·simp only[JZ hj] at ha
   by_cases hj':j'=i
   ·simp only[JW hj'] at hb';exact(hb a hb').2 j hj ha
   ·simp only[JZ hj'] at hb';exact r.dj j j' n a ha hb'
theorem Rep.Ho (r:Rep K B φ Γ σ H)(i:Nat)(h:aH K B d v):Rep K B (zV φ i) (Γ.set i (some (false,d))) (σ.set i (some v)) H where
 bs:=r.bs
 len:=by rw[U1,U1];exact r.len
 sl:=λj o d' e=>by
  by_cases hj:j=i
  ·subst hj
   by_cases hlt:j < Γ.length
   ·rw[XW hlt] at e
    cases e
    refine⟨v,by rw[XW (by rw[←r.len];exact hlt)],?_⟩
    rw[JZ K5];exact h
   ·rw[Xz (by rw[U1];omega)] at e
    cases e
  ·rw[XQ (Ne.symm hj)] at e
   obtain⟨w,h1,h2⟩:=r.sl j o d' e
   refine⟨w,by rw[XQ (Ne.symm hj)];exact h1,?_⟩
   unfold zV
   simp only[JZ hj]
   exact h2
 nd:=λj=>by
  unfold zV
  by_cases hj:j=i
  ·simp only[JW hj];exact X3
  ·simp only[JZ hj];exact r.nd j
 nb:=λj a ha=>r.nb j a (e_ ha).2
 dj:=λj j' n a ha hb'=>r.dj j j' n a (e_ ha).2 (e_ hb').2
theorem Rep.kill (r:Rep K B φ Γ σ H)(i:Nat):Rep K B (zV φ i) (Γ.set i none) σ H where
 bs:=r.bs
 len:=by rw[U1];exact r.len
 sl:=λj o d' e=>by
  by_cases hj:j=i
  ·subst hj
   by_cases hlt:j < Γ.length
   ·rw[XW hlt] at e;cases e
   ·rw[Xz (by rw[U1];omega)] at e;cases e
  ·rw[XQ (Ne.symm hj)] at e
   obtain⟨w,h1,h2⟩:=r.sl j o d' e
   refine⟨w,h1,?_⟩
   unfold zV
   simp only[JZ hj]
   exact h2
 nd:=λj=>by
  unfold zV
  by_cases hj:j=i
  ·simp only[JW hj];exact X3
  ·simp only[JZ hj];exact r.nd j
 nb:=λj a ha=>r.nb j a (e_ ha).2
 dj:=λj j' n a ha hb'=>r.dj j j' n a (e_ ha).2 (e_ hb').2
theorem jC (r:Rep K B φ Γ σ H)(i:Nat)(h:Av K B φ H k d v):∃B' φ',Same B B'/\Rep K B' φ' (iV Γ i k d) (σ.set i (some v)) H:=by
 match k,h with
 | .fr [],h=>
  obtain⟨as,h1,h2,h3⟩:=h
  exact⟨B,_,Same.refl B,r.put i h1 h2 λa ha=>by
   rcases h3 a ha with⟨_,z,_⟩ | z
   ·cases z
   ·exact⟨z.1,λj _=>z.2 j⟩⟩
 | .fr (j :: l),h=>
  obtain⟨as,h1,h2,h3⟩:=h
  obtain⟨ψ,s1,r1,sub,hl⟩:=r.xp (j :: l)
  refine⟨_,_,s1,r1.Ho i ?_⟩
  refine IsT.toB (λa o e n=> ?_) _ _ _ (λa ha o e=> ?_) h1
  ·rw[cT]
   ·exact e
   ·intro j' hj'
    obtain⟨o',e',m⟩:=(r.nb j' a (sub j' a hj')).2
    rw[e] at e';cases e'
    exact n m
  ·rw[cT]
   ·exact e
   ·intro j' hj'
    rcases h3 a ha with⟨i',hi',z⟩ | z
    ·by_cases hij:i'=j'
     ·subst hij;rw[hl _ hi'] at hj';cases hj'
     ·exact r.dj i' j' hij a z (sub j' a hj')
    ·exact z.2 j' (sub j' a hj')
 | .base,h=>exact⟨B,_,Same.refl B,r.Ho i h⟩
 | .any,h=>
  obtain⟨s1,r1⟩:=r.sU
  exact⟨H,_,s1,r1.Ho i h⟩
end
section
variable {X:Cx}{K:Frag}{Ew:Str->Hp->Prop}{pos:Pos}{st:Stmt}{rest:List Stmt}{e:Expr}{fe:EF}{f g:SF}{t:TF}
theorem RV.base {B B' H':Hp}{o:Bool}{d:PyData}{v:V}(s:Same B B')(h:RV K B' H' o d v):RV K B H' o d v:=by
 unfold RV at h⊢
 cases o with
 | true=>
  rw[JW rfl] at h⊢
  obtain⟨as,h1,h2,h3⟩:=h
  exact⟨as,h1,h2,λa ha=>s.free (h3 a ha)⟩
 | false=>rw[JZ K5] at h⊢;exact h
theorem cS.base {B B':Hp}{m:M Out}{D:Ends}(s:Same B B')(h:cS K Ew B m D):cS K Ew B' m D:=by
 match m,h with
 | some (.ok (.nx Γ)),h=>exact λB2 φ σ H s2 r=>h B2 φ σ H (s.trans s2) r
 | some (.ok (.bk Γ)),h=>exact λB2 φ σ H s2 r=>h B2 φ σ H (s.trans s2) r
 | some (.ok (.ct Γ)),h=>exact λB2 φ σ H s2 r=>h B2 φ σ H (s.trans s2) r
 | some (.ok (.rt o d)),h=>exact λv H' s' rv=>h v H' (s.trans s') (rv.base s)
 | some (.ex c),h=>exact λH' s'=>h H' (s.trans s')
 | none,h=>exact h
theorem bq:zT X K Ew [] cB:=yu.imp λD σ H q=>by
 obtain⟨B,φ,Γ,r,q⟩:=q
 exact q B φ σ H (Same.refl B) r
theorem ae (h1:DS X K Ew st f)(h2:zT X K Ew rest g):zT X K Ew (st :: rest) (aB f g):=(oJ h1 h2).imp λD σ H q=>by
 obtain⟨B,φ,Γ,r,q⟩:=q
 refine⟨B,φ,Γ,r,?_⟩
 unfold aB at q
 match hm:f Γ,q with
 | some (.ok (.nx Γ')),q=>exact λB' φ' σ' H' s' r'=>⟨B',φ',Γ',r',cS.base s' q⟩
 | some (.ok (.bk Γ')),q=>exact q
 | some (.ok (.ct Γ')),q=>exact q
 | some (.ok (.rt o d)),q=>exact q
 | some (.ex c),q=>exact q
 | none,q=>cases q
theorem ak (h1:DS X K Ew st f):zT X K Ew [st] f:=sJ h1
theorem gx {g:Kd×PyData->bf->M Out}{σ:St}{H:Hp}{D:Ends}{R:VK}(h:JP K Ew (λΓ=>ap (fe Γ) λx=>g x Γ) D σ H)
  (i:∀B φ Γ k d v H1,Rep K B φ Γ σ H1->Av K B φ H1 k d v->cS K Ew B (g (k,d) Γ) D->R v H1):tD K Ew fe σ H R:=by
 obtain⟨B,φ,Γ,r,q⟩:=h
 refine⟨B,φ,Γ,r,?_⟩
 have q:cS K Ew B (ap (fe Γ) λx=>g x Γ) D:=q
 match hm:fe Γ,q with
 | some (.ok (k,d)),q=>exact .inl ⟨k,d,rfl,λv H1 s hv=>i B φ Γ k d v H1 (r.same s) (hv.av r) q⟩
 | some (.ex c),q=>exact .inr ⟨c,rfl,q⟩
 | none,q=>cases q
theorem Av.toD {B:Hp}{φ:Nat->List Addr}{H:Hp}{k:Kd}{d:PyData}{v:V}(s:Same B H)(h:Av K B φ H k d v):aH K H d v:=by
 cases k with
 | fr l=>obtain⟨as,h1,_⟩:=h;exact IsT.toD _ _ _ h1
 | base=>exact aH.same s _ _ h
 | any=>exact h
theorem aV (he:DE X K Ew e fe):DS X K Ew (.Return (some e) pos) (bZ fe):=(A9 he).imp λD σ H q=>
 gx (g:=λx _=>ag (.rt (mU x.1) x.2)) q λB φ Γ k d v H1 r a q=>by
  refine q v H1 r.bs ?_
  unfold RV
  cases k with
  | fr l=>
   simp only[mU,if_true]
   obtain⟨as,h1,h2,h3⟩:=a
   refine⟨as,h1,h2,λa ha=> ?_⟩
   rcases h3 a ha with⟨i,_,z⟩ | z
   ·exact(r.nb i a z).1
   ·exact z.1
  | base=>simp only[mU,XU,if_false];exact aH.same r.bs _ _ a
  | any=>simp only[mU,XU,if_false];exact a
theorem az {i:Nat}{x:Str}{pos':Pos}(hN:X.N.Nodup)(hi:X.N[i]? =some x)(hx:Loc X.env.scope x)(he:DE X K Ew e fe)(hs:swapsWith e (some (.Name x pos')) pos.line X.env=pure false:=by rfl)(hf:X.fn x=true∨X.env.scope.names.lookup x=some .local:=by first | exact .inl rfl | exact .inr rfl | assumption) :
  DS X K Ew (.Assign [.Name x pos'] e pos) (aE i fe):=(w_ (i:=i) hN hi hx he hs hf).imp λD σ H q=>
 gx (g:=λx Γ=>ag (.nx (iV Γ i x.1 x.2))) q λB φ Γ k d v H1 r a q=>by
  obtain⟨B',φ',s',r'⟩:=jC r i a
  exact q B' φ' _ H1 s' r'
theorem s_ {i j:Nat}{x y:Str}{pos' pos2:Pos}(hN:X.N.Nodup)(hi:X.N[i]? =some x)(hx:Loc X.env.scope x)(hj:PE X (.Name y pos2) (kX j))(hs:swapsWith (.Name y pos2) (some (.Name x pos')) pos.line X.env=pure false:=by rfl)(hf:X.fn x=true∨X.env.scope.names.lookup x=some .local:=by first | exact .inl rfl | exact .inr rfl | assumption) :
  DS X K Ew (.Assign [.Name x pos'] (.Name y pos2) pos) (xq i j):=(w_ (i:=i) hN hi hx hj hs hf).imp λD σ H q=>by
 obtain⟨B,φ,Γ,r,q⟩:=q
 unfold xq at q
 match hm:Γ[j]?,q with
 | some (some (true,d)),q=>
  obtain⟨v,h1,h2⟩:=r.sl j true d hm
  rw[JW rfl] at h2
  refine⟨v,h1,?_⟩
  by_cases hn:bj d=true
  ·simp only[hn,if_true] at q
   exact q B _ _ H (Same.refl B) (r.put i (aH.toT _ _ hn (IsT.toD _ _ _ h2)) X3 λa ha=>by cases ha)
  ·simp only[hn,if_false] at q
   by_cases hij:i=j
   ·simp only[hij,if_true] at q;exact False.elim q
   ·simp only[hij,if_false] at q
    refine q B _ _ H (Same.refl B) ((r.kill j).put i h2 (r.nd j) λa ha=>⟨(r.nb j a ha).1,λj' _ hj'=> ?_⟩)
    obtain⟨n1,n2⟩:=e_ hj'
    exact r.dj j' j n1 a n2 ha
 | some (some (false,d)),q=>
  obtain⟨v,h1,h2⟩:=r.sl j false d hm
  rw[JZ K5] at h2
  refine⟨v,h1,?_⟩
  obtain⟨B',φ',s',r'⟩:=jC (k:=cA .base d) r i (VR.av r (VR.cA r.bs (show VR K B φ H H .base d v from h2)))
  exact q B' φ' _ H s' r'
 | some none,q|none,q=>cases q
theorem dI {c:Expr}{a b:List Stmt}(hc:DT X K Ew c t)(ha:zT X K Ew a f)(hb:zT X K Ew b g):DS X K Ew (.If c a b pos) (ja t f g):=(FL hc ha hb).imp λD σ H q=>by
 obtain⟨B,φ,Γ,r,q⟩:=q
 refine⟨B,φ,Γ,r,?_⟩
 unfold ja at q
 match hm:t Γ,q with
 | some (.ok true),q=>exact .inl ⟨true,rfl,λH1 s=>by show(if true=true then _ else _);rw[JW rfl];exact⟨B,φ,Γ,r.same s,q⟩⟩
 | some (.ok false),q=>exact .inl ⟨false,rfl,λH1 s=>by show(if false=true then _ else _);rw[JZ K5];exact⟨B,φ,Γ,r.same s,q⟩⟩
 | some (.ex c),q=>exact .inr ⟨c,rfl,q⟩
 | none,q=>cases q
end
def Nk (K:Frag)(B:Hp)(φ:Nat->List Addr)(H:Hp):Kd->List PyData->List V->Prop
 | .fr l,ds,vs=>∃as,ay K H ds vs as/\as.Nodup/\∀a∈as,(∃i∈l,a∈φ i)∨(B a=none/\∀j,a∉φ j)
 | .base,ds,vs=>aw K B ds vs
 | .any,ds,vs=>aw K H ds vs
def tG (K:Frag)(g:GF):TG:=λv σ H Q=>∃B φ Γ k d Γ',Rep K B φ Γ σ H/\Av K B φ H k d v/\g k d Γ=some Γ'/\∀B' φ' σ',Same B B'->Rep K B' φ' Γ' σ' H->Q σ' H
def DG (X:Cx)(K:Frag)(e:Expr)(g:GF):Prop:=PG X e (tG K g)
theorem PG.imp {X:Cx}{e:Expr}{t t':TG}(h:PG X e t)(i:∀v σ H Q,t' v σ H Q->t v σ H Q):PG X e t':=λpins s σ H v u Q I r q=>h pins s σ H v u Q I r (i v σ H Q q)
def td:List Nat->FN
 | []=>Jg
 | i :: is=>FO (uJ i) (td is)
def oZ (σ:St):List Nat->List V->St
 | i :: is,v :: vs=>oZ (σ.set i (some v)) is vs
 | _,_=>σ
section
variable {X:Cx}{K:Frag}{Ew:Str->Hp->Prop}{pos:Pos}
theorem ci {i:Nat}{x:Str}(hN:X.N.Nodup)(hi:X.N[i]? =some x)(hx:Loc X.env.scope x)(hf:X.fn x=true∨X.env.scope.names.lookup x=some .local:=by first | exact .inl rfl | exact .inr rfl | assumption):DG X K (.Name x pos) (bY i) :=
 (bz (i:=i) hN hi hx hf).imp λv σ H Q q=>by
  obtain⟨B,φ,Γ,k,d,Γ',r,a,e,q⟩:=q
  cases e
  obtain⟨B',φ',s',r'⟩:=jC r i a
  exact q B' φ' _ s' r'
theorem lr:∀(is:List Nat) (vs:List V) (σ:St) (H:Hp) (Q:St->Hp->Prop),vs.length=is.length->Q (oZ σ is vs) H->td is vs σ H Q
 | [],[],σ,H,Q,_,q=>⟨rfl,q⟩
 | i :: is,v :: vs,σ,H,Q,hl,q=>⟨v,vs,rfl,lr is vs _ H Q (by simpa using hl) q⟩
 | [],_ :: _,_,_,_,hl,_=>by simp at hl
 | _ :: _,[],_,_,_,hl,_=>by simp at hl
def Nl:Kd->Prop
 | .fr []=>True
 | .fr (_ :: _)=>False
 | _=>True
theorem jk {H:Hp}{k:Kd}(hk:Nl k):∀(is:List Nat) (ds:List PyData) (vs:List V) {B:Hp} {φ:Nat->List Addr} {Γ:bf} {σ:St},ds.length=is.length->Rep K B φ Γ σ H->Nk K B φ H k ds vs->
  ∃B' φ',Same B B'/\Rep K B' φ' (oR Γ is k ds) (oZ σ is vs) H
 | [],[],vs,B,φ,Γ,σ,_,r,a=>⟨B,φ,Same.refl B,by unfold oZ oR;exact r⟩
 | [],_ :: _,_,_,_,_,_,hl,_,_=>by simp at hl
 | _ :: _,[],_,_,_,_,_,hl,_,_=>by simp at hl
 | i :: is,d :: ds,vs,B,φ,Γ,σ,hl,r,a=>by
  have hl':ds.length=is.length:=by simpa using hl
  match k,hk,a with
  | .fr [],_,a=>
   obtain⟨as,h1,h2,h3⟩:=a
   simp only[ay] at h1
   obtain⟨v,vr,a1,a2,rfl,rfl,hv,tl⟩:=h1
   have h3':∀a∈a1++a2,B a=none/\∀j,a∉φ j:=λa ha=>by
    rcases h3 a ha with⟨_,z,_⟩ | z
    ·cases z
    ·exact z
   have hnd:=Xj.mp h2
   by_cases hn:bj d=true
   ·have e1:a1=[]:=IsT.nil _ _ _ hn hv
    subst e1
    have r1:=r.put i hv X3 λa ha=>by cases ha
    obtain⟨B',φ',s',r'⟩:=jk (k:=.fr []) trivial is ds vr hl' r1 ⟨a2,tl,hnd.2.1,λa ha=> .inr ⟨(h3' a (Kx _ ha)).1,λj=>by
     by_cases hj:j=i
     ·simp only[JW hj];intro z;cases z
     ·simp only[JZ hj];exact(h3' a (Kx _ ha)).2 j⟩⟩
    refine⟨B',φ',s',?_⟩
    simp only[oR,oZ,cA,hn,if_true,iV]
    exact r'
   ·have r1:=r.put i hv hnd.1 λa ha=>⟨(h3' a (KZ _ ha)).1,λj _=>(h3' a (KZ _ ha)).2 j⟩
    obtain⟨B',φ',s',r'⟩:=jk (k:=.fr []) trivial is ds vr hl' r1 ⟨a2,tl,hnd.2.1,λa ha=> .inr ⟨(h3' a (Kx _ ha)).1,λj=>by
     by_cases hj:j=i
     ·simp only[JW hj];intro z;exact hnd.2.2 a z a ha rfl
     ·simp only[JZ hj];exact(h3' a (Kx _ ha)).2 j⟩⟩
    refine⟨B',φ',s',?_⟩
    simp only[oR,oZ,cA,hn,if_false,iV]
    exact r'
  | .base,_,a=>
   have a':aw K B (d :: ds) vs:=a
   simp only[aw] at a'
   obtain⟨v,vr,rfl,hv,tl⟩:=a'
   obtain⟨B1,φ1,s1,r1⟩:=jC (k:=cA .base d) r i (VR.av r (VR.cA r.bs (show VR K B φ H H .base d v from hv)))
   obtain⟨B',φ',s',r'⟩:=jk (k:=.base) trivial is ds vr hl' r1 (aw.same s1 _ _ tl)
   exact⟨B',φ',s1.trans s',r'⟩
  | .any,_,a=>
   have a':aw K H (d :: ds) vs:=a
   simp only[aw] at a'
   obtain⟨v,vr,rfl,hv,tl⟩:=a'
   obtain⟨B1,φ1,s1,r1⟩:=jC (k:=cA .any d) r i (VR.av r (VR.cA r.bs (show VR K B φ H H .any d v from hv)))
   obtain⟨B',φ',s',r'⟩:=jk (k:=.any) trivial is ds vr hl' r1 tl
   exact⟨B',φ',s1.trans s',r'⟩
theorem Av.tup {B:Hp}{φ:Nat->List Addr}{H:Hp}{k:Kd}{ds:List PyData}{v:V}(s:Same B H)(h:Av K B φ H k (.tuple ds) v):∃a vs,v= .ref a/\dL K H a vs/\Nk K B φ H (yG k) ds vs/\vs.length=ds.length:=by
 match k,h with
 | .fr [],h=>
  obtain⟨as,h1,h2,h3⟩:=h
  obtain⟨a,vs,e,q,t⟩:=jB h1
  exact⟨a,vs,e,q,⟨as,t,h2,h3⟩,bG t⟩
 | .fr (j :: l),h=>
  obtain⟨as,h1,h2,h3⟩:=h
  obtain⟨a,vs,e,q,t⟩:=jB h1
  exact⟨a,vs,e,q,ay.toD _ _ _ t,bG t⟩
 | .base,h=>
  obtain⟨a,vs,e,q,t⟩:=aL (show aH K B (.tuple ds) v from h)
  exact⟨a,vs,e,s.lq q,t,am t⟩
 | .any,h=>
  obtain⟨a,vs,e,q,t⟩:=aL (show aH K H (.tuple ds) v from h)
  exact⟨a,vs,e,q,t,am t⟩
theorem u0 (k:Kd):Nl (yG k):=by
 match k with
 | .fr []=>trivial
 | .fr (_ :: _)=>trivial
 | .base=>trivial
 | .any=>trivial
theorem o0 {es:List Expr}{k:Nat}{is:List Nat}(hc:X.calm=true)(hg:IN X es (td is))(hn:(assignEach es X.env).length=is.length:=by rfl)(hst:(assignEach es X.env).findIdx? (·.1)=none:=by rfl)(hK:X.K=K:=by rfl) :
  DG X K (.Tuple es k pos) (jy is):=(Ba (n:=is.length) hc hg hn hst).imp λv σ H Q q=>by
 obtain⟨B,φ,Γ,k,d,Γ',r,a,e,q⟩:=q
 cases d <;> simp only[jy] at e <;> try (cases e;done)
 rename_i ds
 split at e
 ·rename_i hl
  cases e
  obtain⟨a',vs,rfl,hq,av,hlen⟩:=a.tup r.bs
  refine⟨a',vs,rfl,by rw[hK];exact hq,by omega,lr _ _ _ _ _ (!1) ?_⟩
  obtain⟨B',φ',s',r'⟩:=jk (u0 k) is ds vs hl r av
  exact q B' φ' _ s' r'
 ·cases e
theorem Hq {tg e:Expr}{fe:EF}{g:GF}(he:DE X K Ew e fe)(hg:DG X K tg g)(hs:swapsWithSole [tg] e pos.line X.env=pure false:=by rfl)(hw:swappedStores [tg] e X.env=pure none:=by rfl)
  (h1:(assignEach [tg] X.env).map (·.2)=[assign tg X.env]:=by rfl):DS X K Ew (.Assign [tg] e pos) (zQ g fe):=(sK he hg hs hw h1).imp λD σ H q=>
 gx (g:=λx Γ=>ap (mo (g x.1 x.2 Γ)) λΓ'=>ag (.nx Γ')) q λB φ Γ k d v H1 r a q=>by
  cases e:g k d Γ with
  | none=>simp only[e] at q;exact False.elim q
  | some Γ'=>
   simp only[e] at q
   exact⟨B,φ,Γ,k,d,Γ',r,a,e,λB' φ' σ' s' r'=>q B' φ' σ' H1 s' r'⟩
structure tf (K:Frag)(B:Hp)(J:It)(ds:List PyData):Prop where
 go:∀i H,i < ds.length->Same B H->J.go i H
 yl:∀i H x H',i < ds.length->Same B H->J.Jh i H x H'->Same H H'/\∃d,ds[i]? =some d/\∀B2,Same B B2->(∀a o,H a=none->H' a=some o->B2 a=some o)->aH K B2 d x
 stop:∀H,Same B H->J.stop ds.length H
def u6 (K:Frag)(Ew:Str->Hp->Prop)(B H:Hp)(Γ:bf)(σ:St)(R:It->Hp->Prop)(m:M (Kd×List PyData)):Prop:=match m with
 | some (.ok (k,ds))=>∀J H1 B1 ψ,Same H H1->Same B B1->Rep K B1 ψ (j9 k Γ) σ H1->tf K B1 J ds->R J H1
 | some (.ex c)=>∀H',Same B H'->Ew c H'
 | none=>False
def tI (K:Frag)(Ew:Str->Hp->Prop)(it:IF):TI:=λσ H R=>∃B φ Γ,Rep K B φ Γ σ H/\u6 K Ew B H Γ σ R (it Γ)
def DI (X:Cx)(K:Frag)(Ew:Str->Hp->Prop)(tg e:Expr)(it:IF):Prop:=PI X tg e (tI K Ew it)
theorem PI.imp {X:Cx}{tg e:Expr}{t t':TI}(h:PI X tg e t)(i:∀σ H R,t' σ H R->t σ H R):PI X tg e t':=λpins s σ H R I q=>h pins s σ H R I (i σ H R q)
theorem Rep.j9 {B H:Hp}{φ:Nat->List Addr}{Γ:bf}{σ:St}{k:Kd}{d:PyData}{v:V}(r:Rep K B φ Γ σ H)(h:Av K B φ H k d v) :
  ∃B1 ψ,Same B B1/\Rep K B1 ψ (j9 k Γ) σ H/\aH K B1 d v:=by
 match k,h with
 | .fr [],h=>
  obtain⟨as,h1,h2,h3⟩:=h
  refine⟨gG φ H,φ,r.sZ,r.cut,IsT.toB r.mu _ _ _ (λa ha o e=> ?_) h1⟩
  rw[cT]
  ·exact e
  ·rcases h3 a ha with⟨_,z,_⟩ | z
   ·cases z
   ·exact z.2
 | .fr (j :: l),h=>
  obtain⟨as,h1,h2,h3⟩:=h
  obtain⟨ψ,s1,r1,sub,hl⟩:=r.xp (j :: l)
  refine⟨_,_,s1,r1,IsT.toB (λa o e n=> ?_) _ _ _ (λa ha o e=> ?_) h1⟩
  ·rw[cT]
   ·exact e
   ·intro j' hj'
    obtain⟨o',e',m⟩:=(r.nb j' a (sub j' a hj')).2
    rw[e] at e';cases e'
    exact n m
  ·rw[cT]
   ·exact e
   ·intro j' hj'
    rcases h3 a ha with⟨i',hi',z⟩ | z
    ·by_cases hij:i'=j'
     ·subst hij;rw[hl _ hi'] at hj';cases hj'
     ·exact r.dj i' j' hij a z (sub j' a hj')
    ·exact z.2 j' (sub j' a hj')
 | .base,h=>exact⟨B,φ,Same.refl B,r,h⟩
 | .any,h=>
  obtain⟨s1,r1⟩:=r.sU
  exact⟨H,_,s1,r1,h⟩
theorem rq {B:Hp}{a:Addr}{vs:List V}{ds:List PyData}(h:fU K B a vs)(t:aw K B ds vs):tf K B (LW K a) ds where
 go:=λi H hi s=>by
  have hl:=am t
  exact⟨vs,vs[i]'(!1),s.seq h,by simp⟩
 yl:=λi H x H' hi s y=>by
  obtain⟨rfl,y⟩:=y
  obtain⟨d,e,hd⟩:=g6 t (y vs (s.seq h))
  exact⟨Same.refl _,d,e,λB2 s2 _=>aH.same s2 _ _ hd⟩
 stop:=λH s=>⟨vs,s.seq h,by rw[am t];exact K1 _⟩
theorem Bw {B:Hp}{a:Addr}{vs:List V}{ds:List PyData}(h:dL K B a vs)(t:aw K B ds vs):tf K B (LX K a) ds where
 go:=λi H hi s=>by
  have hl:=am t
  exact⟨vs,vs[i]'(!1),s.lq h,by simp⟩
 yl:=λi H x H' hi s y=>by
  obtain⟨rfl,y⟩:=y
  obtain⟨d,e,hd⟩:=g6 t (y vs (s.lq h))
  exact⟨Same.refl _,d,e,λB2 s2 _=>aH.same s2 _ _ hd⟩
 stop:=λH s=>⟨vs,s.lq h,by rw[am t];exact K1 _⟩
theorem Bx {B:Hp}{m:Int}{n:Nat}:tf K B (Lm m n) ((List.range n).map λi=> .int (m+(i:Nat))) where
 go:=λi H hi s=>by
  show i < n
  simpa using hi
 yl:=λi H x H' hi s y=>by
  obtain⟨rfl,rfl⟩:=y
  have hi':i < n:=by simpa using hi
  exact⟨Same.refl _,.int (m+(i:Nat)),by simp[hi'],λB2 s2 _=>bB⟩
 stop:=λH s=>by
  show n<=_
  simp
theorem lU {fe:EF}{g:Kd×PyData->bf->M (Kd×List PyData)}{σ:St}{H:Hp}{R:It->Hp->Prop}{R1:VK}(h:tI K Ew (λΓ=>ap (fe Γ) λx=>g x Γ) σ H R)
  (i:∀B φ Γ k d v H1,Rep K B φ Γ σ H1->Same H H1->Av K B φ H1 k d v->u6 K Ew B H Γ σ R (g (k,d) Γ)->R1 v H1):tD K Ew fe σ H R1:=by
 obtain⟨B,φ,Γ,r,q⟩:=h
 refine⟨B,φ,Γ,r,?_⟩
 have q:u6 K Ew B H Γ σ R (ap (fe Γ) λx=>g x Γ):=q
 match hm:fe Γ,q with
 | some (.ok (k,d)),q=>exact .inl ⟨k,d,rfl,λv H1 s hv=>i B φ Γ k d v H1 (r.same s) s (hv.av r) q⟩
 | some (.ex c),q=>exact .inr ⟨c,rfl,q⟩
 | none,q=>cases q
theorem JS {tg l:Expr}{t t':TI}(h:PI X tg l t)(h':PI X tg l t'):PI X tg l (λσ H R=>t σ H R∨t' σ H R):=λpins s σ H R I q=>by
 rcases q with q | q
 ·exact h pins s σ H R I q
 ·exact h' pins s σ H R I q
theorem lu {tg l:Expr}{fe:EF}(hl:DE X K Ew l fe)(hK:X.K=K:=by rfl):DI X K Ew tg l (ny fe):=(JS (yw hl) (GL hl)).imp λσ H R q=>by
 have q0:=q
 obtain⟨B0,φ0,Γ0,r0,q0⟩:=q0
 have N5:(∃k xs,fe Γ0=some (.ok (k,.list xs)))∨(∃k xs,fe Γ0=some (.ok (k,.tuple xs)))∨∃c,fe Γ0=some (.ex c):=by
  unfold ny at q0
  match hm:fe Γ0,q0 with
  | some (.ok (k,.list xs)),q0=>exact .inl ⟨k,xs,rfl⟩
  | some (.ok (k,.tuple xs)),q0=>exact .inr (.inl ⟨k,xs,rfl⟩)
  | some (.ex c),q0=>exact .inr (.inr ⟨c,rfl⟩)
  | some (.ok (k,.none)),q0=>exact False.elim q0
  | some (.ok (k,.bool _)),q0=>exact False.elim q0
  | some (.ok (k,.int _)),q0=>exact False.elim q0
  | some (.ok (k,.str _)),q0=>exact False.elim q0
  | some (.ok (k,.dict _)),q0=>exact False.elim q0
  | none,q0=>exact False.elim q0
 rcases N5 with⟨k,xs,e⟩ | ⟨k,xs,e⟩ | ⟨c,e⟩
 ·left
  refine⟨B0,φ0,Γ0,r0,.inl ⟨k,_,e,λv H1 s hv=> ?_⟩⟩
  simp only[ny,e] at q0
  obtain⟨B1,ψ,s1,r1,hd⟩:=(r0.same s).j9 (hv.av r0)
  obtain⟨a,vs,rfl,h1,h2⟩:=aY hd
  rw[hK]
  exact⟨a,rfl,⟨vs,r1.bs.seq h1⟩,q0 _ H1 B1 ψ s s1 r1 (rq h1 h2)⟩
 ·right
  refine⟨B0,φ0,Γ0,r0,.inl ⟨k,_,e,λv H1 s hv=> ?_⟩⟩
  simp only[ny,e] at q0
  obtain⟨B1,ψ,s1,r1,hd⟩:=(r0.same s).j9 (hv.av r0)
  obtain⟨a,vs,rfl,h1,h2⟩:=aL hd
  rw[hK]
  exact⟨a,rfl,⟨vs,r1.bs.lq h1⟩,q0 _ H1 B1 ψ s s1 r1 (Bw h1 h2)⟩
 ·left
  simp only[ny,e] at q0
  exact⟨B0,φ0,Γ0,r0,.inr ⟨c,e,q0⟩⟩
theorem df {tg a:Expr}{fa:EF}{p:Pos}(hg:Gl X "range")(hm:X.mg "range" =none)(ha:DE X K Ew a fa)(hs:starEach [a] X.env=[(false,eval a X.env)]:=by rfl):DI X K Ew tg (.Call (.Name "range" p) [a] [] pos) (eK fa) :=
 (zE hg hm (bA ha cZ hs) hs).imp λσ H R q=>lU (g:=λx _=>zP x.2) q λB φ Γ k d v H1 r s av q=>by
  replace q:u6 K Ew B H Γ σ R (zP d):=q
  cases d <;> try (exact False.elim q)
  rename_i n
  have hv:=aD (av.toD r.bs)
  subst hv
  by_cases hn:-(2^62)<=n/\n < 2^62
  ·simp only[zP,JW hn] at q
   refine⟨n,rfl,hn.1,hn.2,q _ H1 B φ s (Same.refl B) r ?_⟩
   have:=Bx (K:=K) (B:=B) (m:=0) (n:=n.toNat)
   simpa only[Int.zero_add] using this
  ·simp only[zP,JZ hn] at q
   exact False.elim q
theorem a9 {tg iter:Expr}{body:List Stmt}{it:IF}{g:GF}{fb:SF}(hp:PassesOwn (model X.prog X.w) X.A X.env X.xe)(hc:X.calm=true)(hi:DI X K Ew tg iter it)(hg:DG X K tg g)(hb:zT X K Ew body fb)
  (hs:∀x,foldedSetIterable iter X.env x=pure x:=by intro _;rfl):DS X K Ew (.For tg iter body [] pos) (bx it g fb):=(xc hp hc hi hg hb hs).imp λD σ H q=>by
 obtain⟨B,φ,Γ,r,q⟩:=q
 refine⟨B,φ,Γ,r,?_⟩
 unfold bx at q
 match hm:it Γ,q with
 | some (.ok (k,ds)),q=>
  intro J H1 B1 ψ s0 s1 r1 io
  have q:cS K Ew B1 (aW g fb ds (j9 k Γ)) D:=cS.base s1 q
  refine⟨λi m σ H=>m=ds.length - i/\i<=ds.length/\∃B2 φ2 Γ2,Same B1 B2/\Rep K B2 φ2 Γ2 σ H/\cS K Ew B1 (aW g fb (ds.drop i) Γ2) D,⟨ds.length,by simp,Xx _,B1,ψ,_,Same.refl B1,r1,by simpa using q⟩,?_⟩
  rintro i m σ2 H2 ⟨rfl,hi2,B2,φ2,Γ2,s2,r2,q2⟩
  by_cases hlt:i < ds.length
  ·refine .inr ⟨io.go i H2 hlt (s2.trans r2.bs),λσ' H'=>∃B3 φ3 Γ3,Same B1 B3/\Rep K B3 φ3 Γ3 σ' H'/\cS K Ew B1 (aW g fb (ds.drop (i+1)) Γ3) D,λσ' H' h'=>⟨ds.length - (i+1),by omega,rfl,hlt,h'⟩,λx H' y=> ?_⟩
   obtain⟨s3,d,e,hd⟩:=io.yl i H2 x H' hlt (s2.trans r2.bs) y
   have r3:=r2.same s3
   have By:aH K (gG φ2 H') d x:=hd _ (s2.trans r3.sZ) λa o e1 e2=>by
    rw[cT]
    ·exact e2
    ·intro j hj
     obtain⟨o',e',_⟩:=(r2.nb j a hj).2
     rw[e1] at e';cases e'
   have ed:ds.drop i=d :: ds.drop (i+1):=by
    rw[U7 hlt]
    congr 1
    rw[K3 hlt] at e
    exact Option.some.inj e
   rw[ed] at q2
   have q3:=q2
   simp only[aW] at q3
   cases Bz:g (cA .base d) d Γ2 with
   | none=>simp only[Bz] at q3;exact False.elim q3
   | some Γ3=>
    simp only[Bz,bt,ar] at q3
    refine⟨gG φ2 H',φ2,Γ2,cA .base d,d,Γ3,r3.cut,VR.av r3.cut (VR.cA (ji _ _) (show VR K _ φ2 H' H' .base d x from By)),Bz,λB4 φ4 σ4 s4 r4=> ?_⟩
    have sB:Same B1 B4:=(s2.trans r3.sZ).trans s4
    refine⟨B4,φ4,Γ3,r4,?_⟩
    match hbm:fb Γ3,q3 with
    | some (.ok (.nx Γ')),q3=>exact λB' φ' σ' j1 s' r'=>⟨B',φ',Γ',sB.trans s',r',q3⟩
    | some (.ok (.ct Γ')),q3=>exact λB' φ' σ' j1 s' r'=>⟨B',φ',Γ',sB.trans s',r',q3⟩
    | some (.ok (.bk Γ')),q3=>exact λB' φ' σ' j1 s' r'=>q3 B' φ' σ' j1 (sB.trans s') r'
    | some (.ok (.rt o d)),q3=>exact λv j1 s' rv=>q3 v j1 (sB.trans s') (rv.base sB)
    | some (.ex c),q3=>exact λj1 s'=>q3 j1 (sB.trans s')
    | none,q3=>exact False.elim q3
  ·have e:i=ds.length:=by omega
   subst e
   rw[List.drop_length] at q2
   exact .inl ⟨io.stop H2 (s2.trans r2.bs),q2 B2 φ2 σ2 H2 s2 r2⟩
 | some (.ex c),q=>exact q
 | none,q=>cases q
theorem u7 (n:Nat){c:Expr}{body:List Stmt}{t:TF}{fb:SF}(hp:PassesOwn (model X.prog X.w) X.A X.env X.xe)(hc:DT X K Ew c t)(hb:zT X K Ew body fb):DS X K Ew (.While c body [] pos) (oS n t fb):=(Bb hp hc hb).imp λD σ H q=>by
 obtain⟨B,φ,Γ,r,q⟩:=q
 refine⟨λm σ H=>∃B2 φ2 Γ2,Same B B2/\Rep K B2 φ2 Γ2 σ H/\cS K Ew B (eM m t fb Γ2) D,⟨n,B,φ,Γ,Same.refl B,r,q⟩,?_⟩
 rintro m σ2 H2 ⟨B2,φ2,Γ2,s2,r2,q2⟩
 cases m with
 | zero=>exact False.elim q2
 | succ m=>
  refine⟨B2,φ2,Γ2,r2,?_⟩
  simp only[eM] at q2
  match hm:t Γ2,q2 with
  | some (.ok true),q2=>
   refine .inl ⟨true,rfl,λH3 s3=> ?_⟩
   show(if true=true then _ else _)
   rw[JW rfl]
   refine⟨λσ' H'=>∃B3 φ3 Γ3,Same B B3/\Rep K B3 φ3 Γ3 σ' H'/\cS K Ew B (eM m t fb Γ3) D,λσ' H' h=>⟨m,Uz _,h⟩,B2,φ2,Γ2,r2.same s3,?_⟩
   have q3:cS K Ew B (ap (fb Γ2) λo=>(match o with
    | .nx Γ'=>eM m t fb Γ'
    | .ct Γ'=>eM m t fb Γ'
    | .bk Γ'=>ag (.nx Γ')
    | .rt o d=>ag (.rt o d))) D:=q2
   match hbm:fb Γ2,q3 with
   | some (.ok (.nx Γ')),q3=>exact λB' φ' σ' j1 s' r'=>⟨B',φ',Γ',s2.trans s',r',q3⟩
   | some (.ok (.ct Γ')),q3=>exact λB' φ' σ' j1 s' r'=>⟨B',φ',Γ',s2.trans s',r',q3⟩
   | some (.ok (.bk Γ')),q3=>exact λB' φ' σ' j1 s' r'=>q3 B' φ' σ' j1 (s2.trans s') r'
   | some (.ok (.rt o d)),q3=>exact λv j1 s' rv=>q3 v j1 (s2.trans s') (rv.base s2)
   | some (.ex c),q3=>exact λj1 s'=>q3 j1 (s2.trans s')
   | none,q3=>exact False.elim q3
  | some (.ok false),q2=>
   refine .inl ⟨false,rfl,λH3 s3=> ?_⟩
   show(if false=true then _ else _)
   rw[JZ K5]
   exact q2 B2 φ2 σ2 H3 s2 (r2.same s3)
  | some (.ex c),q2=>exact .inr ⟨c,rfl,λH' s'=>q2 H' (s2.trans s')⟩
  | none,q2=>exact False.elim q2
end
def tj (K:Frag)(B:Hp)(φ:Nat->List Addr):Hp->Hp->List (Kd×PyData)->List V->Prop
 | _,_,[],vs=>vs=[]
 | H,H',x :: xs,vs=>∃v r H1,vs=v :: r/\Same H H1/\Same H1 H'/\VR K B φ H H1 x.1 x.2 v/\tj K B φ H1 H' xs r
def tA (K:Frag)(Ew:Str->Hp->Prop)(fs:List EF):TA:=λσ H Q=>∃B φ Γ,Rep K B φ Γ σ H/\match eArgs fs Γ with
 | some (.ok xs)=>∀vs H',Same H H'->tj K B φ H H' xs vs->Q vs H'
 | some (.ex c)=>∀H',Same B H'->Ew c H'
 | none=>False
def DA (X:Cx)(K:Frag)(Ew:Str->Hp->Prop)(es:List Expr)(fs:List EF):Prop:=PA X es (tA K Ew fs)
theorem PA.imp {X:Cx}{es:List Expr}{t t':TA}(h:PA X es t)(i:∀σ H Q,t' σ H Q->t σ H Q):PA X es t':=λpos pins s σ H Q I q=>h pos pins s σ H Q I (i σ H Q q)
section
variable {X:Cx}{K:Frag}{Ew:Str->Hp->Prop}{pos:Pos}{e:Expr}{es:List Expr}{fe:EF}{fs:List EF}
theorem aj:DA X K Ew [] []:=cZ.imp λσ H Q q=>by
 obtain⟨B,φ,Γ,r,q⟩:=q
 exact q [] H (Same.refl H) (by unfold tj;rfl)
theorem ab (h1:DE X K Ew e fe)(h2:DA X K Ew es fs)(hs:starEach (e :: es) X.env=(false,eval e X.env) :: starEach es X.env:=by rfl):DA X K Ew (e :: es) (fe :: fs):=(bA h1 h2 hs).imp λσ H Q q=>by
 obtain⟨B,φ,Γ,r,q⟩:=q
 refine⟨B,φ,Γ,r,?_⟩
 simp only[eArgs] at q
 match hm:fe Γ,q with
 | some (.ok (k,d)),q=>
  refine .inl ⟨k,d,rfl,λv H1 s1 hv=>⟨B,φ,Γ,r.same s1,?_⟩⟩
  match hm2:eArgs fs Γ,q with
  | some (.ok xs),q=>exact λvs H2 s2 hvs=>q (v :: vs) H2 (s1.trans s2) (by unfold tj;exact⟨v,vs,H1,rfl,s1,s2,hv,hvs⟩)
  | some (.ex c),q=>exact q
  | none,q=>cases q
 | some (.ex c),q=>exact .inr ⟨c,rfl,q⟩
 | none,q=>cases q
theorem tj.toD {B:Hp}{φ:Nat->List Addr}:∀{xs:List (Kd×PyData)} {vs:List V} {H H':Hp},Same B H->Same H H'->tj K B φ H H' xs vs->aw K H' (xs.map Prod.snd) vs
 | [],vs,H,H',_,_,h=>by unfold tj at h;subst h;exact ba
 | x :: xs,vs,H,H',s,s',h=>by
  unfold tj at h
  obtain⟨v,r,H1,rfl,s1,s2,hv,tl⟩:=h
  exact aX (aH.same s2 _ _ (hv.toD (s.trans s1))) (tj.toD (s.trans s1) s2 tl)
theorem tj.fresh {B:Hp}{φ:Nat->List Addr}:∀{xs:List (Kd×PyData)} {vs:List V} {H H':Hp},bO xs= .fr []->Same H H'->tj K B φ H H' xs vs->∃as,ay K H' (xs.map Prod.snd) vs as/\as.Nodup/\∀a∈as,H a=none
 | [],vs,H,H',_,_,h=>by unfold tj at h;subst h;exact⟨[],jf,X3,λa ha=>by cases ha⟩
 | (k,d) :: xs,vs,H,H',hk,s',h=>by
  match k,hk with
  | .fr [],hk=>
   unfold tj at h
   obtain⟨v,r,H1,rfl,s1,s2,hv,tl⟩:=h
   obtain⟨as,h1,h2,h3⟩:=VR.fresh.mp hv
   obtain⟨bs,g1,g2,g3⟩:=tj.fresh (xs:=xs) (by simpa [bO] using hk) s2 tl
   refine⟨as++bs,jg (IsT.same s2 _ _ _ h1) g1,Xj.mpr ⟨h2,g2,λa ha b hb e=> ?_⟩,λa ha=> ?_⟩
   ·subst e
    obtain⟨o,e,_⟩:=IsT.live _ _ _ h1 a ha
    rw[g3 a hb] at e;cases e
   ·rcases Kk.mp ha with ha | ha
    ·exact h3 a ha
    ·exact s1.free (g3 a ha)
  | .fr (_ :: _),hk=>simp[bO] at hk
  | .base,hk=>simp[bO] at hk
  | .any,hk=>simp[bO] at hk
theorem rz (xs:List (Kd×PyData)):bO xs= .fr []∨bO xs= .any:=by
 induction xs with
 | nil=>exact .inl rfl
 | cons x xs ih=>
  obtain⟨k,d⟩:=x
  match k with
  | .fr []=>simpa [bO] using ih
  | .fr (_ :: _)=>exact .inr rfl
  | .base=>exact .inr rfl
  | .any=>exact .inr rfl
theorem kG {Γ:bf}:∀{fs:List EF} {xs:List (Kd×PyData)},eArgs fs Γ=some (.ok xs)->xs.length=fs.length
 | [],xs,h=>by simp only[eArgs,ag] at h;cases h;rfl
 | f :: fs,xs,h=>by
  simp only[eArgs] at h
  match hf:f Γ,h with
  | some (.ok x),h=>
   match hr:eArgs fs Γ,h with
   | some (.ok ys),h=>cases h;rw[Kz,Kz,kG hr]
   | some (.ex c),h=>cases h
   | none,h=>cases h
  | some (.ex c),h=>cases h
  | none,h=>cases h
theorem tj.len {B:Hp}{φ:Nat->List Addr}:∀{xs:List (Kd×PyData)} {vs:List V} {H H':Hp},tj K B φ H H' xs vs->vs.length=xs.length
 | [],vs,H,H',h=>by unfold tj at h;subst h;rfl
 | x :: xs,vs,H,H',h=>by
  unfold tj at h
  obtain⟨v,r,H1,rfl,s1,s2,hv,tl⟩:=h
  rw[Kz,Kz,tl.len]
theorem oy {g:List (Kd×PyData)->M (Kd×PyData)}{σ:St}{H:Hp}{Q:VK}{R:List V->Hp->Prop}(h:tD K Ew (λΓ=>ap (eArgs fs Γ) g) σ H Q)
  (i:∀B φ Γ xs vs H1,Rep K B φ Γ σ H->Rep K B φ Γ σ H1->Same H H1->eArgs fs Γ=some (.ok xs)->tj K B φ H H1 xs vs->Runs K Ew B φ H (g xs) Q->R vs H1):tA K Ew fs σ H R:=by
 obtain⟨B,φ,Γ,r,q⟩:=h
 refine⟨B,φ,Γ,r,?_⟩
 replace q:Runs K Ew B φ H (ap (eArgs fs Γ) g) Q:=q
 match hm:eArgs fs Γ,q with
 | some (.ok xs),q=>exact λvs H1 s hv=>i B φ Γ xs vs H1 r (r.same s) s hm hv q
 | some (.ex c),q=>
  rcases q with⟨k,d,e,_⟩ | ⟨c',e,q⟩
  ·cases e
  ·cases e;exact q
 | none,q=>rcases q with⟨k,d,e,_⟩ | ⟨c',e,q⟩ <;> cases e
theorem dg {x1}(h:DA X K Ew es fs)(hl:fs.length<=1000:=by decide):DE X K Ew (.Tuple es x1 pos) (iU fs):=(GZ h).imp λσ H Q q=>
 oy (g:=λ(xs:List (Kd×PyData))=>ag (cA (bO xs) (.tuple (xs.map Prod.snd)),.tuple (xs.map Prod.snd))) q λB φ Γ xs vs H1 r r1 s hx hv q=>by
  have hz:vs.length<=1000:=by rw[hv.len,kG hx];exact hl
  refine⟨KY hz (by decide),λp hp=> ?_⟩
  rcases q with⟨k,d,e,q⟩ | ⟨c,e,q⟩
  ·cases e
   refine q _ _ (s.trans (Same.upd hp)) (VR.cA (r1.bs.trans (Same.upd hp)) ?_)
   rcases rz xs with hk | hk
   ·rw[hk]
    obtain⟨as,h1,h2,h3⟩:=hv.fresh hk s
    exact⟨as,yK (dL.of ax) (ay.same (Same.upd hp) _ _ _ h1),h2,λa ha=> .inr (h3 a ha)⟩
   ·rw[hk]
    exact ou (dL.of ax) (aw.same (Same.upd hp) _ _ (hv.toD r.bs s))
  ·cases e
theorem bv (h:DA X K Ew es fs)(hl:fs.length<=1000:=by decide):DE X K Ew (.List es pos) (cm fs):=(Bd h).imp λσ H Q q=>
 oy (g:=λ(xs:List (Kd×PyData))=>ag (bO xs,.list (xs.map Prod.snd))) q λB φ Γ xs vs H1 r r1 s hx hv q=>by
  have hz:vs.length<=1000:=by rw[hv.len,kG hx];exact hl
  refine⟨KY hz (by decide),λp hp=> ?_⟩
  rcases q with⟨k,d,e,q⟩ | ⟨c,e,q⟩
  ·cases e
   refine q _ _ (s.trans (Same.upd hp)) ?_
   rcases rz xs with hk | hk
   ·rw[hk]
    obtain⟨as,h1,h2,h3⟩:=hv.fresh hk s
    refine⟨p :: as,dz ax (ay.same (Same.upd hp) _ _ _ h1),KU.mpr ⟨λz=> ?_,h2⟩,λa ha=> .inr ?_⟩
    ·obtain⟨o,e,_⟩:=ay.live _ _ _ h1 p z
     rw[hp] at e;cases e
    ·rcases K0.mp ha with rfl | ha
     ·exact s.free hp
     ·exact h3 a ha
   ·rw[hk]
    exact sW (fU.of ax) (aw.same (Same.upd hp) _ _ (hv.toD r.bs s))
  ·cases e
theorem u9 {f:Value}{g:List PyData->Option PyData}{r:List V->Hp->VK->Prop}{σ:St}{H:Hp}{Q:VK}
  (hx:∀xs z us H Q,g xs=some z->aw K H xs us->(∀w H',Same H H'->aQ K H H' z w->Q w H')->r us H Q) (q:tD K Ew (iF g fs) σ H Q):L9 r (tA K Ew fs) σ H Q :=
 oy (g:=λ(xs:List (Kd×PyData))=>ap (mo (g (xs.map Prod.snd))) λz=>ag (.fr [],z)) q λB φ Γ xs vs H1 r0 r1 s hx' hv q=>by
  obtain⟨z,e,q⟩:=fV (kf:=λ_=> .fr []) q
  exact hx _ z vs H1 Q e (hv.toD r0.bs s) λw H' s' f=>q w H' (s.trans s') (VR.fresh.mpr (f.from s))
theorem bL {x:Str}{id:String}{p:Pos}{g:List PyData->Option PyData}{zW:List EF}(hc:CallD X (.builtin id) g)(hg:Gl X x)(hm:X.mg x=none)(hv:bootBuiltins x=some (.builtin id))(ha:DA X K Ew (e :: es) zW)(hK:X.K=K:=by rfl)(hn:x≠ "__name__":=by decide)(hdb:(x==("__debug__":Str))=false:=by decide)
  (he:starEach (e :: es) X.env=(false,eval e X.env) :: starEach es X.env:=by rfl) (hpl:(backTo pos (starEach es X.env)).any (·.1)=false:=by rfl):DE X K Ew (.Call (.Name x p) (e :: es) [] pos) (iF g zW):=by
 obtain⟨r,hr,hx⟩:=hc
 rw[hK] at hx
 exact(uL hr hg hm hv ha hn hdb he hpl).imp λσ H Q q=>u9 (f:=.builtin id) hx q
theorem bI {x:Str}{T:String}{p:Pos}{g:List PyData->Option PyData}{zW:List EF}(hc:CallD X (.type T) g)(hg:Gl X x)(hm:X.mg x=none)(hv:bootBuiltins x=some (.type T))(ha:DA X K Ew (e :: es) zW)(hK:X.K=K:=by rfl)(hn:x≠ "__name__":=by decide)(hdb:(x==("__debug__":Str))=false:=by decide)
  (he:starEach (e :: es) X.env=(false,eval e X.env) :: starEach es X.env:=by rfl) (hpl:(backTo pos (starEach es X.env)).any (·.1)=false:=by rfl):DE X K Ew (.Call (.Name x p) (e :: es) [] pos) (iF g zW):=by
 obtain⟨r,hr,hx⟩:=hc
 rw[hK] at hx
 exact(zH hr hg hm hv ha hn hdb he hpl).imp λσ H Q q=>u9 (f:=.type T) hx q
def jv (K:Frag)(n:Nat)(F:FF):Sp:=λvs H Q _=>∃ds,ds.length=n/\aw K H ds vs/\match F ds with
 | some (.ok (o,d))=>∀v H',Same H H'->RV K H H' o d v->Q v H'
 | _=>False
theorem Ec {n:Nat}{CX:yx}{k:Nat}{f:Addr}{fd:FuncData}{ps:List Str}{F:FF}{x:Str}{p:Pos}{zW:List EF}{E:XK}(G:jb X.prog X.w X.K X.mg X.base CX k f fd ps (jv K n F))(hr:dM k X.A)(hg:Gl X x)(hm:X.mg x=some (.ref f))(hk:keepIn X.K (.ref f)=true)(hb:Binds X.K fd ps [])(hx:Passes CX X E)
  (ha:DA X K Ew (e :: es) zW) (hn:zW.length=n:=by rfl) (hE:∀c H,¬ Ew c H:=by exact λ_ _ h=>h) (hdb:(x==("__debug__":Str))=false:=by decide) (he:starEach (e :: es) X.env=(false,eval e X.env) :: starEach es X.env:=by rfl) (hpl:(backTo pos (starEach es X.env)).any (·.1)=false:=by rfl) :
  DE X K Ew (.Call (.Name x p) (e :: es) [] pos) (aJ F zW):=(yy G hr hg hm hk hb .nil hx ha hdb he hpl).imp λσ H Q q=>
 oy (g:=λ(xs:List (Kd×PyData))=>ap (F (xs.map Prod.snd)) λr=>ag (cA (if r.1=true then .fr [] else .any) r.2,r.2)) q λB φ Γ xs vs H1 r r1 s hx' hv q=>by
  rw[Xu]
  refine⟨xs.map Prod.snd,by rw[K4,kG hx'];exact hn,hv.toD r.bs s,?_⟩
  match hF:F (xs.map Prod.snd),q with
  | some (.ok (o,d)),q=>
   intro v H' s' rv
   rcases q with⟨k,d',e,q⟩ | ⟨c,e,q⟩
   ·cases e
    refine q v H' (s.trans s') (VR.cA (r1.bs.trans s') ?_)
    unfold RV at rv
    cases o with
    | true=>
     rw[JW rfl] at rv⊢
     obtain⟨as,h1,h2,h3⟩:=rv
     exact⟨as,h1,h2,λa ha=> .inr (s.free (h3 a ha))⟩
    | false=>
     rw[JZ K5] at rv⊢
     exact rv
   ·cases e
  | some (.ex c),q=>
   rcases q with⟨k,d',e,q⟩ | ⟨c,e,q⟩
   ·cases e
   ·exact hE _ _ (q H1 r1.bs)
  | none,q=>rcases q with⟨k,d',e,q⟩ | ⟨c,e,q⟩ <;> cases e
theorem zX {H:Hp}{ds:List PyData}{vs:List V}(N:List Str)(h:aw K H ds vs):Rep K H (λ_=> []) (cP N.length ds) (start N vs) H where
 bs:=Same.refl H
 len:=by
  have:=am h
  unfold cP start
  simp[this]
 sl:=λi o d e=>by
  have hl:=am h
  unfold cP at e
  by_cases hi:i < ds.length
  ·rw[Xq (by simpa using hi),KW] at e
   cases hd:ds[i]? with
   | none=>rw[hd] at e;cases e
   | some d'=>
    rw[hd] at e
    cases e
    obtain⟨v,h1,h2⟩:=h9 h hd
    refine⟨v,?_,?_⟩
    ·unfold start
     rw[Xq (by simp;omega),KW,h1];rfl
    ·rw[JZ K5];exact h2
  ·rw[U2 (by simpa using hi),List.getElem?_replicate] at e
   split at e <;> cases e
 nd:=λ_=>X3
 nb:=λ_ a ha=>by cases ha
 dj:=λ_ _ _ a ha=>by cases ha
theorem Dy.N6 {P:Program}{w:World}{mg:Str->Option Value}{base:Heap}{x qual:Str}{st:Stmt}{f:Addr}{fd:FuncData}{N ps:List Str}{k:Nat}{fb:SF}(F:Dy K x qual st f fd)(S:aK N ps (ai st))
  (hbody:∀(cdv:Value) (A:Around) (outer:List Env) (s:Shared) (H:Hp) (E:XK),dM k (A.deeper (envOfC qual (ai st) s.heap.objs.size f cdv))->
   zT (qG yF P w K mg base N qual (ai st) f cdv A outer s H E).A1 K (λ_ _=>False) (ee st) fb):jb P w K mg base yF (k+1) f fd ps (jv K ps.length (cF N.length fb)):=by
 refine F.ok S (λvs H Q E h=> ?_) λcdv A outer s H vs Q E hr h=>⟨_,hbody cdv A outer s H E hr,?_⟩
 ·obtain⟨ds,h1,h2,_⟩:=h
  rw[am h2];exact h1
 ·obtain⟨ds,h1,h2,h3⟩:=h
  refine⟨H,_,_,zX N h2,?_⟩
  unfold cF at h3
  match hf:fb (cP N.length ds),h3 with
  | some (.ok (.rt o d)),h3=>exact h3
  | some (.ok (.nx Γ)),h3=>
   exact λB' φ σ H' s' r=>h3 .non H' (s'.trans r.bs) (by unfold RV;rw[JW rfl];exact⟨[],aH.toT _ _ rfl yI,X3,λa ha=>by cases ha⟩)
  | some (.ok (.bk Γ)),h3=>exact False.elim h3
  | some (.ok (.ct Γ)),h3=>exact False.elim h3
  | some (.ex c),h3=>exact False.elim h3
  | none,h3=>exact False.elim h3
end
section
variable {X:Cx}{K:Frag}{Ew:Str->Hp->Prop}{pos:Pos}
theorem VR.ofList {B:Hp}{φ:Nat->List Addr}{H0 H:Hp}{k:Kd}{ds:List PyData}{u:V}(s:Same B H)(h:VR K B φ H0 H k (.list ds) u) :
  ∃p vs,u= .ref p/\fU K H p vs/\vs.length=ds.length/\∀(j:Nat) (d:PyData),ds[j]? =some d->∃w,vs[j]? =some w/\VR K B φ H0 H k d w:=by
 cases k with
 | fr l=>
  obtain⟨as,h1,h2,h3⟩:=h
  obtain⟨a,vs,bs,rfl,e,t,rfl⟩:=bD h1
  refine⟨a,vs,rfl,fU.of e,bG t,λj d hd=> ?_⟩
  obtain⟨w,cs,hw,hT,sub⟩:=oV t hd
  have sub':cs.Sublist (a :: bs):=sub.trans (List.sublist_cons_self _ _)
  exact⟨w,hw,cs,hT,h2.sublist sub',λx hx=>h3 x (sub'.subset hx)⟩
 | base=>
  obtain⟨a,vs,rfl,e,t⟩:=aY (show aH K B (.list ds) u from h)
  exact⟨a,vs,rfl,s.seq e,am t,λj d hd=>h9 t hd⟩
 | any=>
  obtain⟨a,vs,rfl,e,t⟩:=aY (show aH K H (.list ds) u from h)
  exact⟨a,vs,rfl,e,am t,λj d hd=>h9 t hd⟩
theorem VR.JT {B:Hp}{φ:Nat->List Addr}{H0 H:Hp}{k:Kd}{ds:List PyData}{u:V}(s:Same B H)(h:VR K B φ H0 H k (.tuple ds) u) :
  ∃p vs,u= .ref p/\dL K H p vs/\vs.length=ds.length/\∀(j:Nat) (d:PyData),ds[j]? =some d->∃w,vs[j]? =some w/\VR K B φ H0 H k d w:=by
 cases k with
 | fr l=>
  obtain⟨as,h1,h2,h3⟩:=h
  obtain⟨a,vs,rfl,e,t⟩:=jB h1
  refine⟨a,vs,rfl,e,bG t,λj d hd=> ?_⟩
  obtain⟨w,cs,hw,hT,sub⟩:=oV t hd
  exact⟨w,hw,cs,hT,h2.sublist sub,λx hx=>h3 x (sub.subset hx)⟩
 | base=>
  obtain⟨a,vs,rfl,e,t⟩:=aL (show aH K B (.tuple ds) u from h)
  exact⟨a,vs,rfl,s.lq e,am t,λj d hd=>h9 t hd⟩
 | any=>
  obtain⟨a,vs,rfl,e,t⟩:=aL (show aH K H (.tuple ds) u from h)
  exact⟨a,vs,rfl,e,am t,λj d hd=>h9 t hd⟩
theorem rA {ds:List PyData}{vs:List V}{i:Int}{z:PyData}(hl:vs.length=ds.length)(h:mP ds i=some z):∃j:Nat,ds[j]? =some z/\∀w,vs[j]? =some w->G4 vs i=some w:=by
 unfold mP at h
 cases e:Y.nu ds.length i with
 | none=>rw[e] at h;cases h
 | some j=>
  rw[e] at h
  refine⟨j,h,λw hw=> ?_⟩
  unfold G4
  rw[show L2.nu vs.length i=Y.nu ds.length i by rw[hl];rfl,e]
  exact hw
theorem lV:Ml X j0:=⟨_,G7,λB φ H0 k x y z u v H Q s e hx hy q=>by
 cases x <;> cases y <;> simp only[j0] at e <;> try (cases e;done)
 ·rename_i x i
  split at e
  ·rename_i hz
   have h1:=hZ (hx.toD s)
   have h2:=aD hy
   subst h1 h2
   cases hc:mP x.cps.toList i with
   | none=>rw[hc] at e;cases e
   | some c=>
    rw[hc] at e
    cases e
    exact .inr (.inr ⟨x,i,c,rfl,rfl,hz,hc,q _ (by rw[show cA k (.str ⟨#[c]⟩)= .fr [] from rfl];exact VR.k_ rfl yJ [])⟩)
  ·cases e
 ·rename_i xs i
  have h2:=aD hy
  subst h2
  obtain⟨p,vs,rfl,hq,hl,hg⟩:=VR.ofList s hx
  obtain⟨j,hj,hw⟩:=rA hl e
  obtain⟨w,h3,h4⟩:=hg j z hj
  exact .inl ⟨p,vs,i,w,rfl,rfl,hq,hw w h3,q w (h4.cA s)⟩
 ·rename_i xs i
  have h2:=aD hy
  subst h2
  obtain⟨p,vs,rfl,hq,hl,hg⟩:=VR.JT s hx
  obtain⟨j,hj,hw⟩:=rA hl e
  obtain⟨w,h3,h4⟩:=hg j z hj
  exact .inr (.inl ⟨p,vs,i,w,rfl,rfl,hq,hw w h3,q w (h4.cA s)⟩)⟩
theorem dQ {H:Hp}{d:PyData}{us:List V}(h:aw K H [d] us):∃u,us=[u]/\aH K H d u:=by
 simp only[aw] at h
 obtain⟨v,r,rfl,hv,rfl⟩:=h
 exact⟨v,rfl,hv⟩
theorem bJ:CallD X (.builtin "len") hX:=⟨_,sO.or sP,λxs z us H Q e h q=>by
 match xs,e,h with
 | [.list ds],e,h=>
  cases e
  obtain⟨u,rfl,hu⟩:=dQ h
  obtain⟨a,vs,rfl,h1,h2⟩:=aY hu
  exact .inl ⟨a,vs,rfl,.inl h1,by rw[am h2];exact q _ H (Same.refl H) (aQ.k_ rfl bB)⟩
 | [.tuple ds],e,h=>
  cases e
  obtain⟨u,rfl,hu⟩:=dQ h
  obtain⟨a,vs,rfl,h1,h2⟩:=aL hu
  exact .inl ⟨a,vs,rfl,.inr h1,by rw[am h2];exact q _ H (Same.refl H) (aQ.k_ rfl bB)⟩
 | [.str x],e,h=>
  simp only[hX] at e
  split at e
  ·rename_i hz
   cases e
   obtain⟨u,rfl,hu⟩:=dQ h
   have:=hZ hu
   subst this
   exact .inr ⟨x,rfl,hz,q _ H (Same.refl H) (aQ.k_ rfl bB)⟩
  ·cases e⟩
theorem lw:CallD X (.type "list") j8:=⟨_,sQ,λxs z us H Q e h q=>by
 match xs,e,h with
 | [.list ds],e,h=>
  simp only[j8] at e
  split at e
  ·rename_i hn
   cases e
   obtain⟨u,rfl,hu⟩:=dQ h
   obtain⟨a,vs,rfl,h1,h2⟩:=aY hu
   exact⟨a,vs,rfl,.inl h1,λl hl=>q _ _ (Same.upd hl) (aQ.lst hn ax (aw.same (Same.upd hl) _ _ h2) hl)⟩
  ·cases e
 | [.tuple ds],e,h=>
  simp only[j8] at e
  split at e
  ·rename_i hn
   cases e
   obtain⟨u,rfl,hu⟩:=dQ h
   obtain⟨a,vs,rfl,h1,h2⟩:=aL hu
   exact⟨a,vs,rfl,.inr h1,λl hl=>q _ _ (Same.upd hl) (aQ.lst hn ax (aw.same (Same.upd hl) _ _ h2) hl)⟩
  ·cases e⟩
theorem b_:CallD X (.type "tuple") eZ:=⟨_,qI,λxs z us H Q e h q=>by
 match xs,e,h with
 | [.list ds],e,h=>
  simp only[eZ] at e
  split at e
  ·rename_i hn
   cases e
   obtain⟨u,rfl,hu⟩:=dQ h
   obtain⟨a,vs,rfl,h1,h2⟩:=aY hu
   exact⟨a,vs,rfl,.inl ⟨h1,λl hl=>q _ _ (Same.upd hl) (aQ.tup hn (dL.of ax) (aw.same (Same.upd hl) _ _ h2))⟩⟩
  ·cases e
 | [.tuple ds],e,h=>
  simp only[eZ] at e
  split at e
  ·rename_i hn
   cases e
   obtain⟨u,rfl,hu⟩:=dQ h
   obtain⟨a,vs,rfl,h1,h2⟩:=aL hu
   exact⟨a,vs,rfl,.inr ⟨h1,q _ H (Same.refl H) (aQ.k_ (by rw[bj];exact hn) hu)⟩⟩
  ·cases e⟩
def N7:PyData->String
 | .none=> "NoneType"
 | .bool _=> "bool"
 | .int _=> "int"
 | .str _=> "str"
 | .list _=> "list"
 | .tuple _=> "tuple"
 | .dict _=> "dict"
theorem Ed (K:Frag):∀n∈["int","bool","str","list","tuple","dict"],∀d:PyData,PySem.W.kitOne K (.type (N7 d)) (.type n)=some (oQ n d):=by
 intro n hn d
 simp only[K0,List.mem_nil_iff,or_false] at hn
 rcases hn with rfl | rfl | rfl | rfl | rfl | rfl <;> cases d <;> first | rfl | (unfold PySem.W.kitOne PySem.W.kitCls;decide+kernel)
theorem zY:hJ X (.builtin "isinstance") (λxs H Q=>∃x d n,xs=[x,.ty n]/\aH X.K H d x/\n∈["int","bool","str","list","tuple","dict"]/\Q (.bl (oQ n d)) H):=by
 intro pins s σ H xs us Q I r h
 obtain⟨x,d,n,rfl,hd,hn,q⟩:=h
 obtain⟨u,w,rfl,ru,zI⟩:=r.two
 cases(show w=Value.type n from zI)
 have e:=Ed X.K n hn d
 have fin:∀tk,EP X pins σ Q (.bool (oQ n d)) {s with toks:=tk}:=λtk=>⟨.bl _,H,I.tok tk,rfl,q⟩
 cases d with
 | none=>have:=ll hd;subst this;cases(show u=Value.none from ru);exact PySem.W.kia_one PySem.W.kitx_none I.zC True.intro e (λz=>nomatch z) fin
 | bool y=>have:=je hd;subst this;cases(show u=Value.bool y from ru);exact PySem.W.kia_one PySem.W.kitx_bool I.zC True.intro e (λz=>nomatch z) fin
 | int i=>have:=aD hd;subst this;obtain⟨t,q⟩:=(show∃t,u=Value.int i t from ru);cases q;exact PySem.W.kia_one PySem.W.kitx_int I.zC True.intro e (λz=>nomatch z) fin
 | str y=>have:=hZ hd;subst this;obtain⟨t,q⟩:=(show∃t,u=Value.str y t from ru);cases q;exact PySem.W.kia_one PySem.W.kitx_str I.zC True.intro e (λz=>nomatch z) fin
 | list ds=>
  obtain⟨a,vs,rfl,h1,_⟩:=aY hd
  cases(show u=Value.ref a from ru)
  obtain⟨its,rv,⟨o,n,h1,hc,_,hd⟩,_⟩:=I.list h1
  exact PySem.W.kia_one PySem.W.kitx_list I.zC ⟨_,h1,hc⟩ e (λz=>nomatch z) fin
 | tuple ds=>
  obtain⟨a,vs,rfl,h1,_⟩:=aL hd
  cases(show u=Value.ref a from ru)
  obtain⟨its,rv,⟨o,h1,hc,n,hd⟩,_⟩:=I.tuple h1
  exact PySem.W.kia_one PySem.W.kitx_tuple I.zC ⟨o,h1,hc⟩ e (λz=>nomatch z) fin
 | dict kvs=>
  obtain⟨a,ks,rfl,h1,_⟩:=cf hd
  cases(show u=Value.ref a from ru)
  obtain⟨⟨_,_,_,_,o,es,h1,hc,_⟩,_⟩:=h1.ok I.hok
  exact PySem.W.kia_one PySem.W.kitx_dict I.zC ⟨o,h1,hc.1⟩ e (λz=>nomatch z) fin
theorem tm {n:String}{x:Str}{a:Expr}{fa:EF}{p p2:Pos}(hn:n∈["int","bool","str","list","tuple","dict"])(hg:Gl X "isinstance")(hm:X.mg "isinstance" =none)(ha:DE X K Ew a fa)(ht:PE X (.Name x p2) (tC (.ty n)))(hK:X.K=K:=by rfl)
  (he:starEach [a,.Name x p2] X.env=(false,eval a X.env) :: starEach [.Name x p2] X.env:=by rfl) (he2:starEach [.Name x p2] X.env=(false,eval (.Name x p2) X.env) :: starEach [] X.env:=by rfl) (hpl:(backTo pos (starEach [.Name x p2] X.env)).any (·.1)=false:=by rfl) :
  DE X K Ew (.Call (.Name "isinstance" p) [a,.Name x p2] [] pos) (uR n fa):=(uL zY hg hm PyProof.Rows.boot_isinstance (bA ha (bA ht cZ he2) he) (by decide) (by decide) he hpl).imp λσ H Q q=>by
 obtain⟨B,φ,Γ,r,q⟩:=q
 refine⟨B,φ,Γ,r,(q.bind r).mono λu H1 s1 ⟨k,d,e1,v1,r1,_,q1⟩=> ?_⟩
 refine⟨u,d,n,rfl,by rw[hK];exact v1.toD r1.bs,hn,?_⟩
 rcases q1 with⟨k,d',e,q1⟩ | ⟨c,e,q1⟩
 ·cases e;exact q1 _ H1 s1 (VR.k_ rfl cQ [])
 ·cases e
theorem Rep.own {B H:Hp}{φ:Nat->List Addr}{Γ:bf}{σ:St}(r:Rep K B φ Γ σ H){i:Nat}{d:PyData}(h:Γ[i]? =some (some (true,d))):∃v,σ[i]? =some (some v)/\IsT K H d v (φ i):=by
 obtain⟨v,h1,h2⟩:=r.sl i true d h
 rw[JW rfl] at h2
 exact⟨v,h1,h2⟩
theorem Rep.chg {B H:Hp}{φ:Nat->List Addr}{Γ:bf}{σ:St}{i:Nat}{l:Addr}{o o':HO}{d:PyData}{v:V}{as:List Addr}(r:Rep K B φ Γ σ H)(hi:l∈φ i)(hl:H l=some o)(hm:eX o)(hv:σ[i]? =some (some v))
  (ht:IsT K (upd H l o') d v as) (hnd:as.Nodup) (hs:∀a∈as,a∈φ i∨(B a=none/\∀j,a∉φ j)) (hm':eX o'):Rep K B (λj=>if j=i then as else φ j) (Γ.set i (some (true,d))) σ (upd H l o'):=by
 have hB:B l=none:=(r.nb i l hi).1
 have hn:∀j,j≠i->l∉φ j:=λj hj z=>r.dj j i hj l z hi
 have r1:Rep K B φ (Γ.set i none) σ (upd H l o'):={
  bs:=r.bs.Hj hB
  len:=by rw[U1];exact r.len
  sl:=λj o d' e=>by
   by_cases hj:j=i
   ·subst hj
    by_cases hlt:j < Γ.length
    ·rw[XW hlt] at e;cases e
    ·rw[Xz (by rw[U1];omega)] at e;cases e
   ·rw[XQ (Ne.symm hj)] at e
    obtain⟨w,h1,h2⟩:=r.sl j o d' e
    refine⟨w,h1,?_⟩
    cases o with
    | true=>rw[JW rfl] at h2⊢;exact IsT.upd hl hm _ _ _ (hn j hj) h2
    | false=>rw[JZ K5] at h2⊢;exact h2
  nd:=r.nd
  nb:=λj a ha=>by
   refine⟨(r.nb j a ha).1,?_⟩
   by_cases hal:a=l
   ·subst hal;exact⟨o',ax,hm'⟩
   ·obtain⟨o2,e2,m2⟩:=(r.nb j a ha).2
    exact⟨o2,by rw[aS hal];exact e2,m2⟩
  dj:=r.dj}
 have r2:=r1.put i ht hnd λa ha=>by
  rcases hs a ha with z | z
  ·exact⟨(r.nb i a z).1,λj hj hz=>r.dj j i hj a hz z⟩
  ·exact⟨z.1,λj _=>z.2 j⟩
 rw[List.set_set] at r2
 have e:σ.set i (some v)=σ:=by
  apply List.ext_getElem?
  intro j
  by_cases hj:j=i
  ·subst hj
   have hlt:j < σ.length:=(X2.mp hv).1
   rw[XW hlt,hv]
  ·rw[XQ (Ne.symm hj)]
 rw[e] at r2
 exact r2
variable {o e:Expr}{fe:EF}{apos cpos:Pos}
theorem eN {i:Nat}(ho:PE X o (kX i))(he:DE X K Ew e fe)(hK:X.K=K:=by rfl)
  (hbase:attributeBase o "append" X.env (eval o X.env)=eval o X.env:=by rfl)
  (hfew:((backTo cpos (starEach [e] X.env)).all (λx=> !x.1) && (backToKw cpos (keywordEach [] X.env)).all (λx=>x.1.isSome)
   && decide (([e]:List Expr).length+([]:List Keyword).length+(if ([]:List Keyword).isEmpty then 0 else 1) < 30))=true:=by rfl)
  (hline:(apos.endLine==cpos.line)=true:=by rfl) (hs:starEach [e] X.env=(false,eval e X.env) :: starEach [] X.env:=by rfl) (hplain:(backTo cpos (starEach [] X.env)).any (·.1)=false:=by rfl)
  (hsw:swapsWith (.Call (.Attribute o "append" apos) [e] [] cpos) none pos.line X.env=pure false:=by rfl) :
  DS X K Ew (.Expr (.Call (.Attribute o "append" apos) [e] [] cpos) pos) (iW i fe) :=
 (kE (yD PySem.F.plainAttrs_list PySem.F.slot_list_append PySem.F.type_list_append mT ho (bA he cZ hs) hbase hfew hline hs hplain) hsw).imp λD σ H q=>by
  obtain⟨B,φ,Γ,r,q⟩:=q
  unfold iW at q
  match hg:Γ[i]?,q with
  | some (some (true,.list xs)),q=>
   obtain⟨v,hv,hT⟩:=r.own hg
   obtain⟨l,vs,bs,rfl,hl,ht,hφ⟩:=bD hT
   refine⟨.ref l,hv,.inl ⟨rfl,vs,fU.of hl⟩,B,φ,Γ,r,?_⟩
   match hm:fe Γ,q with
   | some (.ok (k,d)),q=>
    refine .inl ⟨k,d,rfl,λy H1 s1 hy=> ?_⟩
    have r1:=r.same s1
    have hl1:=s1 _ _ hl
    have hlen:vs.length=xs.length:=bG ht
    have av:=hy.av r
    have hli:l∈φ i:=by rw[hφ];exact K8
    match k,q,av with
    | .fr [],q,av=>
     by_cases hz:xs.length < sizeLine
     ·replace q:cS K Ew B (ag (.nx (Γ.set i (some (true,.list (xs++[d])))))) D:=by simpa only[ap,JW hz] using q
      refine⟨l,vs,y,rfl,rfl,hl1,by omega,?_⟩
      obtain⟨as,h1,h2,h3⟩:=av
      have h3':∀a∈as,B a=none/\∀j,a∉φ j:=λa ha=>by
       rcases h3 a ha with⟨_,z,_⟩ | z
       ·cases z
       ·exact z
      have J_:l∉as:=λz=>(h3' l z).2 i hli
      have hnd:=r.nd i
      rw[hφ] at hnd
      have hnb:l∉bs:=(KU.mp hnd).1
      refine q B _ σ _ (Same.refl B) (r1.chg (d:=.list (xs++[d])) (as:=l :: (bs++as)) hli hl1 trivial hv ?_ ?_ ?_ trivial)
      ·exact dz ax (de (ay.upd hl1 trivial _ _ _ hnb (ay.same s1 _ _ _ ht)) (by
        have:=jg (IsT.upd (o':=.lst (vs++[y])) hl1 trivial _ _ _ J_ h1) (jf (K:=K))
        rwa [Xu] at this))
      ·refine KU.mpr ⟨λz=> ?_,Xj.mpr ⟨(KU.mp hnd).2,h2,λa ha b hb e=> ?_⟩⟩
       ·rcases Kk.mp z with z | z
        ·exact hnb z
        ·exact J_ z
       ·subst e
        exact(h3' a hb).2 i (by rw[hφ];exact K9 _ ha)
      ·intro a ha
       rcases K0.mp ha with rfl | ha
       ·exact .inl hli
       ·rcases Kk.mp ha with ha | ha
        ·exact .inl (by rw[hφ];exact K9 _ ha)
        ·exact .inr (h3' a ha)
     ·simp only[ap,JZ hz] at q
      exact False.elim q
    | .fr [j],q,av=>
     by_cases hz:xs.length < sizeLine/\i≠j
     ·replace q:cS K Ew B (ag (.nx ((Γ.set j none).set i (some (true,.list (xs++[d])))))) D:=by simpa only[ap,JW hz] using q
      refine⟨l,vs,y,rfl,rfl,hl1,by omega,?_⟩
      obtain⟨as,h1,h2,h3⟩:=av
      have h3':∀a∈as,a∈φ j∨(B a=none/\∀j',a∉φ j'):=λa ha=>by
       rcases h3 a ha with⟨j',z,z2⟩ | z
       ·rw[K7.mp z] at z2;exact .inl z2
       ·exact .inr z
      have J_:l∉as:=λz=>by
       rcases h3' l z with z | z
       ·exact r.dj i j hz.2 l hli z
       ·exact z.2 i hli
      have hnd:=r.nd i
      rw[hφ] at hnd
      have hnb:l∉bs:=(KU.mp hnd).1
      have r2:=r1.kill j
      have hdi:zV φ j i=φ i:=JZ hz.2
      refine q B _ σ _ (Same.refl B) (r2.chg (d:=.list (xs++[d])) (as:=l :: (bs++as)) (by rw[hdi];exact hli) hl1 trivial hv ?_ ?_ ?_ trivial)
      ·exact dz ax (de (ay.upd hl1 trivial _ _ _ hnb (ay.same s1 _ _ _ ht)) (by
        have:=jg (IsT.upd (o':=.lst (vs++[y])) hl1 trivial _ _ _ J_ h1) (jf (K:=K))
        rwa [Xu] at this))
      ·refine KU.mpr ⟨λz=> ?_,Xj.mpr ⟨(KU.mp hnd).2,h2,λa ha b hb e=> ?_⟩⟩
       ·rcases Kk.mp z with z | z
        ·exact hnb z
        ·exact J_ z
       ·subst e
        have hai:a∈φ i:=by rw[hφ];exact K9 _ ha
        rcases h3' a hb with z | z
        ·exact r.dj i j hz.2 a hai z
        ·exact z.2 i hai
      ·intro a ha
       rw[hdi]
       rcases K0.mp ha with rfl | ha
       ·exact .inl hli
       ·rcases Kk.mp ha with ha | ha
        ·exact .inl (by rw[hφ];exact K9 _ ha)
        ·rcases h3' a ha with z | z
         ·refine .inr ⟨(r.nb j a z).1,λj' hj'=> ?_⟩
          obtain⟨n1,n2⟩:=e_ hj'
          exact r.dj j' j n1 a n2 z
         ·exact .inr ⟨z.1,λj' hj'=>z.2 j' (e_ hj').2⟩
     ·simp only[ap,JZ hz] at q
      exact False.elim q
    | .fr (_ :: _ :: _),q,_=>exact False.elim q
    | .base,q,_=>exact False.elim q
    | .any,q,_=>exact False.elim q
   | some (.ex c),q=>exact .inr ⟨c,rfl,q⟩
   | none,q=>cases q
  | some (some (true,.none)),q|some (some (true,.bool _)),q|some (some (true,.int _)),q|some (some (true,.str _)),q|some (some (true,.tuple _)),q|some (some (true,.dict _)),q|some (some (false,_)),q|some none,q|none,q=>cases q
end
section
variable {K:Frag}{H H':Hp}
theorem dL.mv {a:Addr}{xs:List V}(e:∀a o,H a=some o->¬ eX o->H' a=some o)(h:dL K H a xs):dL K H' a xs:=dL.toB e h
mutual
theorem IsT.mv (e:∀a o,H a=some o->¬ eX o->H' a=some o):∀(d:PyData) (v:V) (as:List Addr),(∀a∈as,∀o,H a=some o->H' a=some o)->IsT K H d v as->IsT K H' d v as
 | .none,v,as,_,h=>by simpa only[IsT] using h
 | .bool b,v,as,_,h=>by simpa only[IsT] using h
 | .int i,v,as,_,h=>by simpa only[IsT] using h
 | .str x,v,as,_,h=>by simpa only[IsT] using h
 | .list xs,v,as,m,h=>by
  simp only[IsT] at h⊢
  obtain⟨a,vs,bs,e1,h1,h2,rfl⟩:=h
  exact⟨a,vs,bs,e1,m a K8 _ h1,ay.mv e xs vs bs (λb hb=>m b (K9 _ hb)) h2,rfl⟩
 | .tuple xs,v,as,m,h=>by
  simp only[IsT] at h⊢
  obtain⟨a,vs,e1,h1,h2⟩:=h
  exact⟨a,vs,e1,h1.mv e,ay.mv e xs vs as m h2⟩
 | .dict kvs,v,as,m,h=>by
  simp only[IsT] at h⊢
  obtain⟨a,ks,bs,e1,h1,h2,rfl⟩:=h
  exact⟨a,ks,bs,e1,m a K8 _ h1,aN.mv e kvs ks.1 bs (λb hb=>m b (K9 _ hb)) h2,rfl⟩
theorem ay.mv (e:∀a o,H a=some o->¬ eX o->H' a=some o):∀(ds:List PyData) (vs:List V) (as:List Addr),(∀a∈as,∀o,H a=some o->H' a=some o)->ay K H ds vs as->ay K H' ds vs as
 | [],vs,as,_,h=>by simpa only[ay] using h
 | d :: ds,vs,as,m,h=>by
  simp only[ay] at h⊢
  obtain⟨v,r,a1,a2,e1,rfl,h1,h2⟩:=h
  exact⟨v,r,a1,a2,e1,rfl,IsT.mv e d v a1 (λb hb=>m b (KZ _ hb)) h1,ay.mv e ds r a2 (λb hb=>m b (Kx _ hb)) h2⟩
theorem aN.mv (e:∀a o,H a=some o->¬ eX o->H' a=some o):∀(ds:List (PyData×PyData)) (ks:List (PyData×V×V)) (as:List Addr),(∀a∈as,∀o,H a=some o->H' a=some o)->aN K H ds ks as->aN K H' ds ks as
 | [],ks,as,_,h=>by simpa only[aN] using h
 | (k,d) :: r,ks,as,m,h=>by
  simp only[aN] at h⊢
  obtain⟨kv,v,q,a1,a2,e1,rfl,h1,h2,h3⟩:=h
  exact⟨kv,v,q,a1,a2,e1,rfl,IsT.mv e k kv [] (λb hb=>by cases hb) h1,IsT.mv e d v a1 (λb hb=>m b (KZ _ hb)) h2,aN.mv e r q a2 (λb hb=>m b (Kx _ hb)) h3⟩
end
end
open Classical in
noncomputable def ic (D:Addr)(H:Hp):Hp:=λa=>if a=D then none else H a
theorem iG {D a:Addr}{H:Hp}(h:a≠D):ic D H a=H a:=by unfold ic;rw[JZ h]
theorem jl {D:Addr}{H:Hp}:ic D H D=none:=by unfold ic;rw[JW rfl]
theorem kH {D:Addr}{H:Hp}:Same (ic D H) H:=λa o e=>by
 by_cases h:a=D
 ·subst h;rw[jl] at e;cases e
 ·rw[iG h] at e;exact e
theorem kI {D:Addr}{H H':Hp}(s:Same H H'):Same (ic D H) (ic D H'):=λa o e=>by
 by_cases h:a=D
 ·subst h;rw[jl] at e;cases e
 ·rw[iG h] at e⊢;exact s a o e
theorem rB {D:Addr}{H0 H:Hp}(h:H0 D=none)(s:Same H0 H):Same H0 (ic D H):=λa o e=>by
 rw[iG (cY e h)];exact s a o e
theorem u_ {D:Addr}{H:Hp}{o:HO}:ic D (upd H D o)=ic D H:=by
 funext a
 by_cases h:a=D
 ·subst h;rw[jl,jl]
 ·rw[iG h,iG h,aS h]
theorem zZ {xs:List (Kd×PyData)}{x:Kd×PyData}(h:gu (xs++[x])=some (.fr [])):gu xs=some (.fr [])/\x.1= .fr []:=by
 induction xs with
 | nil=>
  obtain⟨k,d⟩:=x
  match k,h with
  | .fr [],h=>exact⟨rfl,rfl⟩
  | .fr (_ :: _),h=>simp[gu] at h
  | .base,h=>simp[gu] at h
  | .any,h=>simp[gu] at h
 | cons y xs ih=>
  obtain⟨k,d⟩:=y
  match k,h with
  | .fr [],h=>
   simp only[U8,gu] at h⊢
   exact ih h
  | .fr (_ :: _),h=>simp[gu] at h
  | .base,h=>
   simp only[U8,gu] at h
   cases e:gu (xs++[x]) with
   | none=>rw[e] at h;cases h
   | some k=>rw[e] at h;cases h
  | .any,h=>simp[gu] at h
theorem BA {xs:List (Kd×PyData)}{k:Kd}(h:gu xs=some k):(k= .fr []∨k= .any)/\∀x∈xs,x.1= .fr []∨x.1= .base:=by
 induction xs generalizing k with
 | nil=>cases h;exact⟨.inl rfl,λx hx=>by cases hx⟩
 | cons y xs ih=>
  obtain⟨k',d⟩:=y
  match k',h with
  | .fr [],h=>
   simp only[gu] at h
   obtain⟨h1,h2⟩:=ih h
   exact⟨h1,λx hx=>by rcases K0.mp hx with rfl | hx;exact .inl rfl;exact h2 x hx⟩
  | .fr (_ :: _),h=>simp[gu] at h
  | .base,h=>
   simp only[gu] at h
   cases e:gu xs with
   | none=>rw[e] at h;cases h
   | some k2=>
    rw[e] at h;cases h
    obtain⟨h1,h2⟩:=ih e
    exact⟨.inr rfl,λx hx=>by rcases K0.mp hx with rfl | hx;exact .inr rfl;exact h2 x hx⟩
  | .any,h=>simp[gu] at h
abbrev Ee:Str->Hp->Prop:=λ_ _=>False
section
variable {X:Cx}{K:Frag}{Ew:Str->Hp->Prop}{pos px:Pos}{scope:Scope}{v:Str}{F:List Str}{ix:List Nat}{elt iter:Expr}{ifs:List Expr}{it:IF}{ft:TF}{fe:EF}
theorem gO {Y:Cx}:D0 Y [] (Hk K Ee dN):=λpins s σ H Q I q=>by
 obtain⟨B,φ,Γ,r,q⟩:=q
 rcases q with⟨b,e,q⟩ | ⟨c,e,q⟩
 ·cases e;exact D1 pins s σ H Q I (q H (Same.refl H))
 ·cases e
theorem yQ {Y:Cx}{c:Expr}(h:DT Y K Ee c ft):D0 Y [c] (Hk K Ee ft):=D2 h
theorem BB {B H H1 H':Hp}{φ:Nat->List Addr}{Γ:bf}{σ:St}{D:Addr}{d:PyData}{x:V}(r:Rep K B φ Γ σ H)(s0:Same H H1)(hD:H1 D=none)(s1:Same H1 H')(hx:aH K (ic D H') d x) :
  Rep K (ic D H') (λ_=> []) (some (false,d) :: kY Γ ix) (some x :: li σ ix) H' where
 bs:=kH
 len:=by unfold kY li;simp
 sl:=λi o d' e=>by
  cases i with
  | zero=>
   have e':some (some (false,d))=some (some (o,d')):=e
   cases e'
   exact⟨x,rfl,by rw[JZ K5];exact hx⟩
  | succ i=>
   have e':(kY Γ ix)[i]? =some (some (o,d')):=e
   unfold kY at e'
   rw[KW] at e'
   cases hk:ix[i]? with
   | none=>rw[hk] at e';cases e'
   | some k=>
    rw[hk] at e'
    have e2:(Γ[k]?).join.map (λp=>(false,p.2))=some (o,d'):=Option.some.inj e'
    cases hg:Γ[k]? with
    | none=>rw[hg] at e2;cases e2
    | some s=>
     rw[hg] at e2
     cases s with
     | none=>cases e2
     | some p=>
      obtain⟨o',d2⟩:=p
      cases e2
      obtain⟨w,h1,h2⟩:=r.sl k o' d2 hg
      have hw:aH K H d2 w:=by
       cases o' with
       | true=>rw[JW rfl] at h2;exact IsT.toD _ _ _ h2
       | false=>rw[JZ K5] at h2;exact aH.same r.bs _ _ h2
      refine⟨w,?_,?_⟩
      ·show(li σ ix)[i]? =_
       unfold li
       rw[KW,hk,Uy,h1];rfl
      ·rw[JZ K5]
       exact aH.same (rB hD s1) _ _ (aH.same s0 _ _ hw)
 nd:=λ_=>X3
 nb:=λ_ a ha=>by cases ha
 dj:=λ_ _ _ a ha=>by cases ha
theorem yR {σ:St}{H:Hp}{Q:VK}(q:tD K Ew (cp it ix ft fe) σ H Q):Bm (tI K Ew it) ix (Hk K Ee ft) (tD K Ee fe) σ H Q:=by
  obtain⟨B,φ,Γ,r,q⟩:=q
  refine⟨B,φ,Γ,r,?_⟩
  replace q:Runs K Ew B φ H (ap (it Γ) λx=>ap (mo (c_ ft fe (kY Γ ix) x.2)) λys=>ap (mo (gu ys)) λk=>if x.2.length<=100000 then ag (k,.list (ys.map Prod.snd)) else none) Q:=q
  match hm:it Γ,q with
  | some (.ok (k0,ds)),q=>
   intro J H1 B1 ψ s0 sB r1 io D hD
   replace q:Runs K Ew B φ H (ap (mo (c_ ft fe (kY Γ ix) ds)) λys=>ap (mo (gu ys)) λk=>if ds.length<=100000 then ag (k,.list (ys.map Prod.snd)) else none) Q:=q
   match hys:c_ ft fe (kY Γ ix) ds,q with
   | none,q=>rcases q with⟨k,d,e,_⟩ | ⟨c,e,_⟩ <;> cases e
   | some ys,q=>
    replace q:Runs K Ew B φ H (ap (mo (gu ys)) λk=>if ds.length<=100000 then ag (k,.list (ys.map Prod.snd)) else none) Q:=q
    match hkk:gu ys,q with
    | none,q=>rcases q with⟨k,d,e,_⟩ | ⟨c,e,_⟩ <;> cases e
    | some kk,q=>
     replace q:Runs K Ew B φ H (if ds.length<=100000 then ag (kk,.list (ys.map Prod.snd)) else none) Q:=q
     have hlen:ds.length<=100000:=Decidable.byContradiction λhn=>by
      rw[JZ hn] at q
      rcases q with⟨k,d,e,_⟩ | ⟨c,e,_⟩ <;> cases e
     rw[JW hlen] at q
     have q:∀v H',Same H H'->VR K B φ H H' kk (.list (ys.map Prod.snd)) v->Q v H':=by
      rcases q with⟨k,d,e,q⟩ | ⟨c,e,_⟩
      ·cases e;exact q
      ·cases e
     obtain⟨hk1,hk2⟩:=BA hkk
     refine⟨λi m zs Hc=>m=ds.length - i/\i<=ds.length/\Same H1 Hc/\Hc D=some (.lst zs)/\zs.length<=i/\∃done rest,c_ ft fe (kY Γ ix) (ds.drop i)=some rest/\ys=done++rest/\
      aw K (ic D Hc) (done.map Prod.snd) zs/\(gu done=some (.fr [])->∃as,ay K (ic D Hc) (done.map Prod.snd) zs as/\as.Nodup/\∀a∈as,H1 a=none),
      ⟨ds.length,by simp,Xx _,Same.upd hD,ax,Xx _,[],ys,by simpa using hys,rfl,ba,λ_=>⟨[],jf,X3,λa ha=>by cases ha⟩⟩,?_⟩
     rintro i m zs Hc ⟨rfl,hi2,sc,IS,Nm,done,rest,hrest,BC,hel,hfr⟩
     refine⟨IS,?_⟩
     by_cases hlt:i < ds.length
     ·refine .inr ⟨io.go i Hc hlt (r1.bs.trans sc),λx H' hy=> ?_⟩
      obtain⟨s3,d,hd,hitem⟩:=io.yl i Hc x H' hlt (r1.bs.trans sc) hy
      have sc':=sc.trans s3
      have Mn:B1 D=none:=by
       cases e:B1 D with
       | none=>rfl
       | some o=>have:=r1.bs _ _ e;rw[hD] at this;cases this
      have hx:aH K (ic D H') d x:=hitem _ (rB Mn (r1.bs.trans sc')) λa o e1 e2=>by
       rw[iG]
       ·exact e2
       ·rintro rfl;rw[IS] at e1;cases e1
      have rin:=BB (ix:=ix) r s0 hD sc' hx
      have ed:ds.drop i=d :: ds.drop (i+1):=by
       rw[U7 hlt]
       congr 1
       rw[K3 hlt] at hd
       exact Option.some.inj hd
      rw[ed] at hrest
      simp only[c_] at hrest
      refine⟨ic D H',λ_=> [],some (false,d) :: kY Γ ix,rin,?_⟩
      match hft:ft (some (false,d) :: kY Γ ix),hrest with
      | some (.ok true),hrest=>
       refine .inl ⟨true,rfl,λH3 s4=> ?_⟩
       show(if true=true then _ else _)
       rw[JW rfl]
       refine⟨ic D H',λ_=> [],some (false,d) :: kY Γ ix,rin.same s4,?_⟩
       match hfe:fe (some (false,d) :: kY Γ ix),hrest with
       | some (.ok (k,d2)),hrest=>
        refine .inl ⟨k,d2,rfl,λw H4 s5 hv=> ?_⟩
        have Mo:H' D=some (.lst zs):=s3 _ _ IS
        have Lq:H3 D=some (.lst zs):=s4 _ _ Mo
        have Nn:H4 D=some (.lst zs):=s5 _ _ Lq
        replace hrest:(c_ ft fe (kY Γ ix) (ds.drop (i+1))).map ((k,d2) :: ·)=some rest:=hrest
        cases hr2:c_ ft fe (kY Γ ix) (ds.drop (i+1)) with
        | none=>rw[hr2] at hrest;cases hrest
        | some F2=>
         rw[hr2] at hrest
         have hrr:(k,d2) :: F2=rest:=Option.some.inj hrest
         have hmem:(k,d2)∈ys:=by rw[BC,←hrr];exact Kx _ K8
         have Np:Same (ic D Hc) (ic D H4):=kI ((s3.trans s4).trans s5)
         have N8:Same (ic D H') (ic D H4):=kI (s4.trans s5)
         have Nq:∀{as:List Addr},(∀a∈as,H3 a=none)->IsT K H4 d2 w as->IsT K (ic D H4) d2 w as:=λ{as} hn hT=>by
          refine IsT.mv (λa o e n=> ?_) _ _ _ (λa ha o e=> ?_) hT
          ·rw[iG]
           ·exact e
           ·rintro rfl;rw[Nn] at e;cases e;exact n trivial
          ·rw[iG]
           ·exact e
           ·rintro rfl;rw[hn _ ha] at Lq;cases Lq
         have hfresh:∀{l:List Nat},VR K (ic D H') (λ_=> []) H3 H4 (.fr l) d2 w->∃as,IsT K H4 d2 w as/\as.Nodup/\∀a∈as,H3 a=none:=λ{l} ⟨as,h1,h2,h3⟩=>⟨as,h1,h2,λa ha=>by
          rcases h3 a ha with⟨_,_,z⟩ | z
          ·cases z
          ·exact z⟩
         refine⟨Nn,Xv (show zs.length<=100000 by omega) (by decide),ds.length - (i+1),by omega,rfl,hlt,(sc'.trans (s4.trans s5)).Hj hD,ax,by rw[K2,X5];omega,done++[(k,d2)],F2,hr2,by rw[BC,←hrr,X7];rfl,?_,λhk=> ?_⟩
         ·rw[u_,X0]
          refine eR (aw.same Np _ _ hel) (aX ?_ ba)
          rcases hk2 _ hmem with e | e
          ·have e':k= .fr []:=e
           subst e'
           obtain⟨as,h1,h2,h3⟩:=hfresh hv
           exact IsT.toD _ _ _ (Nq h3 h1)
          ·have e':k= .base:=e
           subst e'
           exact aH.same N8 _ _ hv
         ·obtain⟨hk3,N9⟩:=zZ hk
          have e':k= .fr []:=N9
          subst e'
          obtain⟨as,h1,h2,h3⟩:=hfresh hv
          obtain⟨bs,g1,g2,g3⟩:=hfr hk3
          rw[u_,X0]
          refine⟨bs++as,de (ay.same Np _ _ _ g1) ?_,Xj.mpr ⟨g2,h2,λa ha b hb e=> ?_⟩,λa ha=> ?_⟩
          ·have:=jg (Nq h3 h1) (jf (K:=K))
           rwa [Xu] at this
          ·subst e
           obtain⟨o,eo,_⟩:=ay.live _ _ _ g1 a ha
           have:=s4 _ _ (s3 _ _ (kH _ _ eo))
           rw[h3 a hb] at this;cases this
          ·rcases Kk.mp ha with ha | ha
           ·exact g3 a ha
           ·exact(sc'.trans s4).free (h3 a ha)
       | some (.ex c),hrest=>cases hrest
       | none,hrest=>cases hrest
      | some (.ok false),hrest=>
       refine .inl ⟨false,rfl,λH3 s4=> ?_⟩
       show(if false=true then _ else _)
       rw[JZ K5]
       refine⟨ds.length - (i+1),by omega,rfl,hlt,sc'.trans s4,s4 _ _ (s3 _ _ IS),by omega,done,rest,hrest,BC,aw.same (kI (s3.trans s4)) _ _ hel,λhk=> ?_⟩
       obtain⟨bs,g1,g2,g3⟩:=hfr hk
       exact⟨bs,ay.same (kI (s3.trans s4)) _ _ _ g1,g2,g3⟩
      | some (.ex c),hrest=>cases hrest
      | none,hrest=>cases hrest
     ·have e:i=ds.length:=by omega
      subst e
      refine .inl ⟨io.stop Hc (r1.bs.trans sc),?_⟩
      rw[List.drop_length] at hrest
      simp only[c_] at hrest
      cases hrest
      rw[Xu] at BC
      subst BC
      refine q _ Hc (s0.trans sc) ?_
      rcases hk1 with e | e
      ·subst e
       obtain⟨bs,g1,g2,g3⟩:=hfr hkk
       refine⟨D :: bs,dz IS (ay.same kH _ _ _ g1),KU.mpr ⟨λz=> ?_,g2⟩,λa ha=> .inr ?_⟩
       ·obtain⟨o,eo,_⟩:=ay.live _ _ _ g1 D z
        rw[jl] at eo;cases eo
       ·rcases K0.mp ha with rfl | ha
        ·exact s0.free hD
        ·exact s0.free (g3 a ha)
      ·subst e
       exact sW (fU.of IS) (aw.same kH _ _ hel)
  | some (.ex c),q=>
   rcases q with⟨k,d,e,_⟩ | ⟨c',e,q⟩
   ·cases e
   ·cases e;exact q
  | none,q=>rcases q with⟨k,d,e,_⟩ | ⟨c,e,_⟩ <;> cases e
theorem gP (hc:X.calm=true)(O:gD X scope v F ix)(hi:DI X K Ew (.Name v px) iter it)
  (sS:∀cl fp s H C,D0 (bN X scope cl (v :: F) fp s H C) ifs (Hk K Ee ft)) (helt:∀cl fp s H C,DE (bN X scope cl (v :: F) fp s H C) K Ee elt fe)
  (hs:∀x,foldedSetIterable iter X.env x=pure x:=by intro _;rfl):DE X K Ew (.ListComp elt [⟨.Name v px,iter,ifs,0⟩] scope pos) (cp it ix ft fe) :=
 (D3 hc O hi sS helt hs).imp λσ H Q q=>yR q
theorem o3 {i:Nat}{x:Str}{py spos:Pos}(hN:X.N.Nodup)(hxi:X.N[i]? =some x)(hx:Loc X.env.scope x)(hc:X.calm=true)(O:gD X scope v F ix)(hi:DI X K Ew (.Name v px) iter it)
  (sS:∀cl fp s H C,D0 (bN X scope cl (v :: F) fp s H C) ifs (Hk K Ee ft)) (helt:∀cl fp s H C,DE (bN X scope cl (v :: F) fp s H C) K Ee elt fe)
  (hsw:swapsWith (.ListComp elt [⟨.Name v px,iter,ifs,0⟩] scope pos) (some (.Name x py)) spos.line X.env=pure true)
  (hs:∀x,foldedSetIterable iter X.env x=pure x:=by intro _;rfl) (hf:X.fn x=true∨X.env.scope.names.lookup x=some .local:=by first | exact .inl rfl | exact .inr rfl | assumption) :
  DS X K Ew (.Assign [.Name x py] (.ListComp elt [⟨.Name v px,iter,ifs,0⟩] scope pos) spos) (aE i (cp it ix ft fe)) :=
 (xm (i:=i) hN hxi hx hc O hi sS helt hsw hs hf).imp λD σ H q=>yR (gx (g:=λx Γ=>ag (.nx (iV Γ i x.1 x.2))) q λB φ Γ k d v H1 r a q=>by
  obtain⟨B',φ',s',r'⟩:=jC r i a
  exact q B' φ' _ H1 s' r')
end
theorem BD:typeLookup (.type "list_reverseiterator") "__len__" =pure none:=by(rw[typeLookup_type,builtinLookup_eq_fast]);(kernel_rfl)
theorem Ef:typeLookup (.type "list_reverseiterator") "__length_hint__" =pure (some (.builtin "list_reverseiterator.__length_hint__")):=by(rw[typeLookup_type,builtinLookup_eq_fast]);(kernel_rfl)
section
variable {prog:Program}{w:World}{A:Around}{E:Z5}{s:Shared}{I:Addr}{fp wr:List Addr}{G:Array GenState->Array GenState->Prop}{n:Nat}{P:Nat->Value->Prop}{St:Nat->Shared->Prop}
theorem xA {Q:List Value->Shared->Prop}(W:WalksS prog w A.in1 I fp wr G n P St)(hT:∀i s,St i s->s.TypeIs (.ref I) "list_reverseiterator")(st0:St 0 s)(hfp:∀b∈fp,b < s.heap.objs.size)(hI:I∈fp)
  (hn:n<=sizeLine) (hQ:∀s' acc,Moved wr G s s'->ItemsOf P acc n->Q acc.toList s'):wpAny (!3) A (collect (.ref I)) Q E s:=by
 have nS:s.heap.objs.size∉fp:=λhm=>U5 _ (hfp _ hm)
 have nI:s.heap.objs.size≠I:=λe=>nS (e ▸ hI)
 unfold collect
 refine JY (wpAny_runValue (codeAny_builtin F.entry_proto_collect ?_));rw[Around.under_plainId F.plain_proto_collect _]
 show wpAny _ A.in1 (newList [] >>=λl=>again (.builtin "list.__iadd__" ⟨[l,.ref I],[]⟩)) _ _ s
 refine JY (Z7 ?_);refine JJ ⟨plainId_quiet F.plain_list_iadd _,codeAny_builtin F.entry_list_iadd ?_⟩;rw[Around.under_plainId F.plain_list_iadd _]
 have st1:=W.frame 0 s (s.heap.push {cls:=.type "list",data:=.seq ([]:List Value).toArray}) s.toks st0 (K1 _) (λb _ o e=>K6 _ e)
 have new1:(s.heap.push {cls:=.type "list",data:=.seq ([]:List Value).toArray}).get? s.heap.objs.size=some {cls:=.type "list",data:=.seq ([]:List Value).toArray}:=(Ky _ rfl)
 have h1:Builtin.List.listSameRef (.ref s.heap.objs.size) (.ref I)=false:=by(simp[Builtin.List.listSameRef,nI])
 show wpAny _ A.in1 (Builtin.List.listExtendWith (.ref s.heap.objs.size) (.ref I) (.ref s.heap.objs.size)) _ _ _;unfold Builtin.List.listExtendWith
 refine JY (wpAny_typeOf (hT 0 _ st1) ?_)
 rw[JZ (by rw[h1];decide)];refine JY (W.self 0 _ _ _ st1 ?_);refine JY (Z9 ?_);unfold Builtin.List.listLengthHint
 refine JY (Z6 (hT 0 _ st1) BD ?_)
 show wpAny _ A.in1 (specialOf (Value.ref I) (Str.ofString "__length_hint__") >>=_) _ _ _;refine JY (Z6 (hT 0 _ st1) Ef ?_)
 generalize hid:("list_reverseiterator.__length_hint__":String)=id0
 wp_delta
 rw[show splitId id0=some ("list_reverseiterator","__length_hint__") from by subst hid;decide+kernel]
 subst hid
 refine JY (wpAny_isInstance (b:=true) (hT 0 _ st1) (by rw[isSubtype_type];kernel_rfl) ?_);refine JJ ?_;rw[JZ (by decide)]
 refine JJ ⟨plainId_quiet F.plain_extend_loop _,codeAny_extend_loopS W hn _ nS _ n 0 _ _ _ rfl (Xx _) st1 new1 (ItemsOf.nil P) λs' acc' c' hm hS' hacc=> ?_⟩
 show wpAny _ A (load s.heap.objs.size >>=_) _ _ s';refine JY (wpAny_load hS' ?_)
 exact JJ (hQ s' acc' (Moved.drop_new (o:={cls:=.type "list",data:=.seq ([]:List Value).toArray}) (tk:=s.toks) hm (K1 _)) hacc)
theorem va {Q1:Z5}(W:WalksS prog w A.in1.in1 I fp wr G n P St)(hT:∀i s,St i s->s.TypeIs (.ref I) "list_reverseiterator")(st0:St 0 s)(hfp:∀b∈fp,b < s.heap.objs.size)(hI:I∈fp)
  (hn:n<=sizeLine) (h:∀s' acc,Moved wr G s s'->ItemsOf P acc n->Q1 (.ref s'.heap.objs.size) {s' with heap:=s'.heap.push {cls:=.type "tuple",data:=.seq acc}}) :
  codeAny (!3) A (.call (.builtin "tuple.__new__") ⟨[.type "tuple",.ref I],[]⟩) (wants Q1 E) s:=by
 refine codeAny_of_tree ?_
 show wpAny _ A.in1 (do checkBuiltinCall "tuple.__new__" ⟨[.type "tuple",.ref I],[]⟩;again (.builtin "tuple.__new__" ⟨[.type "tuple",.ref I],[]⟩)) _ _ s;refine JY (wpAny_of_eq (F.newCall_tuple_1 _) (JJ ⟨plainId_quiet F.plain_tuple_new _,codeAny_builtin F.entry_tuple_new ?_⟩))
 rw[Around.under_plainId F.plain_tuple_new _];have hsub:=sub_tuple_self;have hinit:=init_tuple_lookup;have hmh:=madeHere_tuple;have hTI:=hT 0 s st0
 wp_walk using wpAny_typeOf hTI,xA W hT st0 hfp hI hn
 intro s' acc hm hacc
 show wpAny _ _ (Builtin.Tuple.tupleExact acc.toList.toArray >>=λv=>ret v) _ _ _;unfold Builtin.Tuple.tupleExact
 refine JY (Z7 ?_ (by show acc.toList.toArray.size<=sizeLine;(simp only[Array.toArray_toList]);(rw[hacc.1]);exact hn));refine JJ ?_
 have e:acc.toList.toArray=acc:=(by simp)
 rw[e];exact h s' acc hm hacc
theorem tq {Q:Z5}(W:WalksS prog w A.in1.in1.in1 I fp wr G n P St)(hT:∀i s,St i s->s.TypeIs (.ref I) "list_reverseiterator")(st0:St 0 s)(hfp:∀b∈fp,b < s.heap.objs.size)(hI:I∈fp)
  (hn:n<=sizeLine) (hQ:∀s' acc,Moved wr G s s'->ItemsOf P acc n->Q (.ref s'.heap.objs.size) {s' with heap:=s'.heap.push {cls:=.type "tuple",data:=.seq acc}}):wpAny (!3) A (call (.type "tuple") [.ref I]) Q E s:=by
 refine callType_codes (Q₁:=λobj s1=>s1.TypeIs obj "tuple" /\Q obj s1) F.called_tuple (F.typeCall_tuple_1 _) F.entry_object_init (va W hT st0 hfp hI hn λs' acc hm hacc=>⟨⟨_,Ky _ rfl,rfl⟩,hQ s' acc hm hacc⟩) λobj s1 q=> ?_
 exact⟨q.1,F.args_object_init_2 obj _,object_init_meets F.called_tuple.init.lookup F.called_tuple.made (by decide) prog w A.in1 _ s1 ⟨q.1,rfl,q.2⟩⟩
end
section
variable {X:Cx}{K:Frag}{Ew:Str->Hp->Prop}{pos pos2 p p2:Pos}{a e o:Expr}{ta:TE}{fa fe:EF}{apos cpos:Pos}
def Eg (K:Frag)(ta:TE):TE:=λσ H Q=>ta σ H λx H1=>∃q ys,x= .ref q/\fU K H1 q ys/\∀t,H1 t=none->Q (.ref t) (upd H1 t (.tup ys.reverse))
theorem z0 {its:List Value}{acc:Array Value}(h:ItemsOf (λi v=>its.toArray[its.toArray.size - 1 - i]? =some v) acc its.toArray.size):acc=its.reverse.toArray:=by
 apply Array.ext'
 apply List.ext_getElem?
 intro i
 have hs:acc.toList.length=its.length:=by simpa using h.1
 by_cases hi:i < its.length
 ·have hi':i < acc.toList.length:=by omega
  have e1:acc.toList[i]? =some (acc.toList[i]'hi'):=K3 hi'
  have e2:=h.2 i (acc.toList[i]'hi') (by rw[←Uu];exact e1)
  rw[e1,List.getElem?_reverse hi,←e2]
  simp
 ·rw[Xz (!1),Xz (by simp;omega)]
theorem z8 (hc:X.calm=true)(hg:Gl X "tuple")(hm:X.mg "tuple" =none)(hg2:Gl X "reversed")(hm2:X.mg "reversed" =none)(ha:PE X a ta)
  (hs:starEach [a] X.env=(false,eval a X.env) :: starEach [] X.env:=by rfl) (hpl:(backTo pos2 (starEach [] X.env)).any (·.1)=false:=by rfl)
  (hs2:starEach [.Call (.Name "reversed" p2) [a] [] pos2] X.env=(false,eval (.Call (.Name "reversed" p2) [a] [] pos2) X.env) :: starEach [] X.env:=by rfl) (o4:(backTo pos (starEach [] X.env)).any (·.1)=false:=by rfl)
  (hnil:backTo pos (starEach [] X.env)=[]:=by rfl) :
  PE X (.Call (.Name "tuple" p) [.Call (.Name "reversed" p2) [a] [] pos2] [] pos) (Eg X.K ta):=by
 intro pins s σ H Q I h
 refine wpAny_Call_Name_kw (fM I hg hm PyProof.Rows.boot_tuple ?_)
 refine PyProof.Rows.callWith_type1 ?_ hs2 o4
 rw[hs2]
 show wpAny _ _ (spliced ((false,eval (.Call (.Name "reversed" p2) [a] [] pos2) X.env) :: backTo pos (starEach [] X.env))) _ _ s
 refine Calls.spliced_cons ?_
 refine wpAny_Call_Name_kw (fM I hg2 hm2 PyProof.Rows.boot_reversed ?_)
 refine PyProof.Rows.callWith_type1 (cX (bA ha cZ hs pos2 pins s σ H (λvs H1=>match vs with
  | [x]=>∃q ys,x= .ref q/\fU X.K H1 q ys/\∀t,H1 t=none->Q (.ref t) (upd H1 t (.tup ys.reverse))
  | _=>False) I h) λus s1 ⟨vs,H1,I1,r1,q1⟩=> ?_) hs hpl
 match vs,r1,q1 with
 | [x],r1,q1=>
  obtain⟨q,ys,rfl,hq,fin⟩:=q1
  obtain⟨u,rfl,ru⟩:=r1.one
  cases ru
  obtain⟨its,rv,pl,hz⟩:=I1.list hq
  refine call_reversed_list pl.isList ?_
  rw[hnil]
  refine Calls.spliced_nil ?_
  have hfr:=I1.fresh
  have I2:Inv X pins σ H1 {s1 with heap:=s1.heap.push (revObj q ((its.toArray.size:Int) - 1))}:=I1.kept (t':=s1.toks) λb u e=>K6 _ e
  have hit:(s1.heap.push (revObj q ((its.toArray.size:Int) - 1))).IsRevIter s1.heap.objs.size q ((its.toArray.size:Int) - 1):=⟨_,Ky _ rfl,rfl,rfl⟩
  have N_:(s1.heap.push (revObj q ((its.toArray.size:Int) - 1))).IsList q its.toArray:=pl.isList.at λo e=>K6 _ e
  have hq1:q < s1.heap.objs.size:=let ⟨o,_,e,_⟩:=pl;Kv e
  have hne:q≠s1.heap.objs.size:=X1 hq1
  have hh:X.A.in1.in1.in1.handled=none:=I1.ok.hd hc
  have hl:=rv.length
  refine tq (Walks.toS (Walks.listRev (prog:=X.prog) (w:=X.w) hh s1.heap.objs.size q hne its.toArray)) (λi s st=>st.2.1.typeIs) ⟨Xx _,by simpa using hit,N_⟩ (λb hb=> ?_) (by simp) (by rw[Kj];omega) λs' acc hm hacc=> ?_
  ·have:b=s1.heap.objs.size∨b=q:=by simpa using hb
   show b < (s1.heap.push _).objs.size
   rw[XX]
   rcases this with z | z
   ·rw[z];exact Uz _
   ·rw[z];exact UX hq1
  ·rw[z0 hacc]
   obtain⟨h',g',d',t',os'⟩:=s'
   obtain rfl:g'=s1.gens:=hm.gens
   obtain rfl:d'=s1.drawn:=hm.drawn
   obtain rfl:os'=s1.os:=hm.os
   have fo:=I1.nM (H':=H1) (K1 s1.heap.objs.size) hfr
   have I3:Inv X pins σ H1 {s1 with heap:=h',toks:=t'}:=Inv.turned (s:={s1 with heap:=s1.heap.push (revObj q ((its.toArray.size:Int) - 1))}) (h':=h') (t':=t') (it:=s1.heap.objs.size) I2 (λb o hb e=>hm.heap b o (by simpa using hb) e) hfr fo.2.1 fo.2.2.2.1 fo.2.2.2.2.1 fo.2.2.2.2.2
   refine⟨.ref h'.objs.size,_,I3.laid (t':=t') (a:=h'.objs.size) (o:=.tup ys.reverse) (λb u e=>K6 _ e) (K1 _) ⟨by rw[Uk];exact hz,its.reverse,rv.reverse,IsTup.new _ _⟩,rfl,fin _ I3.fresh⟩
 | [],r1,q1=>exact False.elim q1
 | _ :: _ :: _,r1,q1=>exact False.elim q1
theorem rC (hc:X.calm=true)(hg:Gl X "tuple")(hm:X.mg "tuple" =none)(hg2:Gl X "reversed")(hm2:X.mg "reversed" =none)(ha:DE X K Ew a fa)(hK:X.K=K:=by rfl)
  (hs:starEach [a] X.env=(false,eval a X.env) :: starEach [] X.env:=by rfl) (hpl:(backTo pos2 (starEach [] X.env)).any (·.1)=false:=by rfl)
  (hs2:starEach [.Call (.Name "reversed" p2) [a] [] pos2] X.env=(false,eval (.Call (.Name "reversed" p2) [a] [] pos2) X.env) :: starEach [] X.env:=by rfl) (o4:(backTo pos (starEach [] X.env)).any (·.1)=false:=by rfl)
  (hnil:backTo pos (starEach [] X.env)=[]:=by rfl) :
  DE X K Ew (.Call (.Name "tuple" p) [.Call (.Name "reversed" p2) [a] [] pos2] [] pos) (Bn uT fa):=(z8 hc hg hm hg2 hm2 ha hs hpl hs2 o4 hnil).imp λσ H Q q=>by
 obtain⟨B,φ,Γ,r0,q⟩:=q
 refine⟨B,φ,Γ,r0,(q.bind r0).mono λu H1 s1 ⟨k,x,e1,v1,r1,_,q1⟩=> ?_⟩
 obtain⟨z,e,q⟩:=fV (kf:=λ_=> .fr []) q1
 cases x <;> simp only[uT] at e <;> try (cases e;done)
 split at e
 ·rename_i xs hn
  cases e
  obtain⟨p,vs,rfl,h1,h2⟩:=aY (v1.toD r1.bs)
  rw[hK]
  refine⟨p,vs,rfl,h1,λt ht=>q _ _ (s1.trans (Same.upd ht)) (VR.fresh.mpr (aQ.tup ?_ (dL.of ax) (aw.same (Same.upd ht) _ _ (lQ h2))))⟩
  exact aU.mpr λx hx=>aU.mp hn x (Uw.mp hx)
 ·cases e
theorem jD:iX X (binaryOp .Mult) qJ:=iX.ints GU λx y z e=>by
 cases x <;> cases y <;> simp only[qJ] at e <;> try (cases e;done)
 split at e
 ·rename_i c;cases e;exact⟨_,_,rfl,rfl,c,rfl,λ_ _=>bB⟩
 ·cases e
theorem Runs.no {B H:Hp}{φ:Nat->List Addr}{Q:VK}(h:Runs K Ew B φ H none Q):False:=by
 rcases h with⟨k,d,e,_⟩ | ⟨c,e,_⟩ <;> cases e
theorem Runs.ret {B H:Hp}{φ:Nat->List Addr}{Q:VK}{k:Kd}{d:PyData}(h:Runs K Ew B φ H (ag (k,d)) Q):∀v H',Same H H'->VR K B φ H H' k d v->Q v H':=by
 rcases h with⟨k',d',e,q⟩ | ⟨c,e,_⟩
 ·cases e;exact q
 ·cases e
theorem BE {k:Kd}(h:isNew k=true):k= .fr []:=by
 match k,h with
 | .fr [],_=>rfl
theorem BF {B H:Hp}{φ:Nat->List Addr}{Q:VK}{k:Kd}{x y:PyData}(h:Runs K Ew B φ H (zO k x y) Q):∃xs n,k= .fr []/\x= .list xs/\y= .int n/\
  (aq xs=true/\ -(2^63)<=n/\n < 2^63/\xs.length*n.toNat<=sizeLine)/\∀v H',Same H H'->VR K B φ H H' (.fr []) (.list (List.replicate n.toNat xs).flatten) v->Q v H':=by
 unfold zO at h
 by_cases hk:isNew k=true
 ·rw[JW hk] at h
  cases x <;> try (exact(Runs.no h).elim)
  rename_i xs
  replace h:Runs K Ew B φ H (zN xs y) Q:=h
  cases y <;> try (exact(Runs.no h).elim)
  rename_i n
  by_cases hc:aq xs=true/\ -(2^63)<=n/\n < 2^63/\xs.length*n.toNat<=sizeLine
  ·rw[zN,JW hc] at h
   exact⟨xs,n,BE hk,rfl,rfl,hc,h.ret⟩
  ·rw[zN,JZ hc] at h
   exact(Runs.no h).elim
 ·rw[JZ hk] at h
  exact(Runs.no h).elim
theorem BG {b:Expr}{fb:EF}(ha:DE X K Ew a fa)(hb:DE X K Ew b fb):DE X K Ew (.BinOp a .Mult b pos) (D5 fa fb) :=
 (FQ Hb ha hb).imp λσ H Q q=>oW (g:=λx y=>zO x.1 x.2 y.2) q λB φ Γ k x k' y u v H1 H2 r2 s1 s2 v1 v2 q=>by
  obtain⟨xs,n,rfl,rfl,rfl,⟨hn,c1,c2,c3⟩,q⟩:=BF q
  obtain⟨as,h1,h2,h3⟩:=v1
  obtain⟨l,vs,bs,rfl,hl,ht,rfl⟩:=bD h1
  have hv:=aD (v2.toD r2.bs)
  subst hv
  have hd:=ay.toD _ _ _ ht
  exact⟨l,n,vs,rfl,rfl,hl,c1,c2,by rw[am hd];exact c3,λp hp=>q _ _ ((s1.trans s2).trans (Same.upd hp)) (VR.fresh.mpr (aQ.from (aQ.lst (uP hn _) ax (aw.same (Same.upd hp) _ _ (uZ _ hd)) hp) (s1.trans s2)))⟩
open AutoSeq1 in
theorem Eh (T:String)(hT:T= "list" ∨T= "tuple")(l b:Addr)(xs ys:Array Value)(n m:Nat)(dd:Option Addr)(sl:Array (Option Value))(h0:¬ (!xs.isEmpty && Builtin.List.listTooLong (xs.size+ys.size))=true)(h1:xs.size<=sizeLine)(h2:xs.size+ys.size<=sizeLine+1)(hlb:l≠b) :
  Meets (Builtin.«list.extend» ⟨[.ref l,.ref b],[]⟩) (λ_ R s=>s.heap.get? l=some {cls:=.type "list",data:=.seq xs n}/\s.heap.get? b=some ⟨.type T,dd,.seq ys m,sl⟩/\R (.ok (.ret Value.none)) {s with heap:=s.heap.update l (Obj.mapSeq λx=>x++ys)}) :=
 .of_wp λprog w A R s q=>by
  obtain⟨hp,g,d,tk,os⟩:=s
  obtain⟨hl,hb,q⟩:=q
  have f1:=AutoSeq1.idx_int;have f2:=AutoSeq1.sub_tuple_tuple;have f3:=AutoSeq1.sub_list_list;have f4:=AutoSeq1.sub_tuple_list;have f5:=AutoSeq1.sub_list_tuple
  have hz:(xs++ys).size<=sizeLine+1:=by(rw[Array.size_append]);exact h2
  rcases hT with rfl | rfl
  ·(wp_walk using (wpAny_updateSeq hl rfl (hz:=h1) (_hz':=hz)),wpAny_loadPart' hl,wpAny_loadPart' hb);exact⟨_,rfl,q⟩
  ·(wp_walk using (wpAny_updateSeq hl rfl (hz:=h1) (_hz':=hz)),wpAny_loadPart' hl,wpAny_loadPart' hb);exact⟨_,rfl,q⟩
def BH (K:Frag):V->List V->Hp->VK->Prop:=λx vs H Q=>∃l b xs zs,x= .ref l/\vs=[.ref b]/\H l=some (.lst xs)/\(l=b->∃o,K.lookup b=some o)/\(fU K H b zs∨dL K H b zs)/\xs.length+zs.length<=sizeLine/\Q .non (upd H l (.lst (xs++zs)))
theorem yS:JM X "list.extend" (BH X.K):=by
 intro pins s σ H x vs v us Q I rx rv h
 obtain⟨l,b,xs,zs,rfl,rfl,hH,hlb,hB,hz,q⟩:=h
 replace hlb:l≠b:=λz=>by
  obtain⟨o,ho⟩:=hlb z
  have:=(I.bs b o (I.ok.mod.Lg b o ho)).2
  rw[←z,hH] at this
  cases this
 cases rx
 obtain⟨u,rfl,ru⟩:=rv.one
 cases ru
 obtain⟨z,its,n,r,hl,e⟩:=I.DX hH
 have main:∀(T:String) (hT:T= "list" ∨T= "tuple") (its2:List Value) (dd:Option Addr) (sl:Array (Option Value)) (m:Nat),Vals zs its2->s.heap.get? b=some ⟨.type T,dd,.seq its2.toArray m,sl⟩->wpAny (model X.prog X.w) X.A (call (.builtin "list.extend") [.ref l,.ref b]) (EP X pins σ Q) X.xe s:=λT hT its2 dd sl m r2 e2=>by
  have hl2:=r2.length
  have hsz:its.toArray.size+its2.toArray.size<=sizeLine:=by rw[Kj,Kj];omega
  have Bj:¬ (!its.toArray.isEmpty && Builtin.List.listTooLong (its.toArray.size+its2.toArray.size))=true:=λw=>by
   rw[uN hsz,Bool.and_false] at w
   cases w
  refine call_meets F.slot_list_extend ⟨_,e,rfl⟩ F.entry_list_extend (F.args_list_extend_2 _ _) (Eh T hT l b its.toArray its2.toArray n m dd sl Bj (by rw[Kj];omega) (!1) hlb) ⟨e,e2,?_⟩
  refine⟨.non,_,I.G_ (t':=s.toks) (its':=its++its2) hH e (by simp) (r.append r2) ?_,rfl,q⟩
  (rw[K2]);omega
 rcases hB with hB | hB
 ·obtain⟨its2,r2,⟨⟨c2,d2,Nj,sl2⟩,n2,ho2,hc2,_,hd2⟩,hz2⟩:=I.list hB
  simp only at hc2 hd2
  subst hc2 hd2
  exact main "list" (.inl rfl) its2 d2 sl2 n2 r2 ho2
 ·obtain⟨its2,r2,⟨⟨c2,d2,Nj,sl2⟩,ho2,hc2,n2,hd2⟩,hz2⟩:=I.tuple hB
  simp only at hc2 hd2
  subst hc2 hd2
  exact main "tuple" (.inr rfl) its2 d2 sl2 n2 r2 ho2
theorem Hr {i:Nat}(ho:PE X o (kX i))(he:DE X K Ew e fe)(hK:X.K=K:=by rfl)
  (hbase:attributeBase o "extend" X.env (eval o X.env)=eval o X.env:=by rfl)
  (hfew:((backTo cpos (starEach [e] X.env)).all (λx=> !x.1) && (backToKw cpos (keywordEach [] X.env)).all (λx=>x.1.isSome)
   && decide (([e]:List Expr).length+([]:List Keyword).length+(if ([]:List Keyword).isEmpty then 0 else 1) < 30))=true:=by rfl)
  (hline:(apos.endLine==cpos.line)=true:=by rfl) (hs:starEach [e] X.env=(false,eval e X.env) :: starEach [] X.env:=by rfl) (hplain:(backTo cpos (starEach [] X.env)).any (·.1)=false:=by rfl)
  (hsw:swapsWith (.Call (.Attribute o "extend" apos) [e] [] cpos) none pos.line X.env=pure false:=by rfl) :
  DS X K Ew (.Expr (.Call (.Attribute o "extend" apos) [e] [] cpos) pos) (xt i fe) :=
 (kE (yD PySem.F.plainAttrs_list PySem.F.slot_list_extend PySem.F.type_list_extend yS ho (bA he cZ hs) hbase hfew hline hs hplain) hsw).imp λD σ H q=>by
  obtain⟨B,φ,Γ,r,q⟩:=q
  unfold xt at q
  match hg:Γ[i]?,q with
  | some (some (true,.list xs)),q=>
   obtain⟨v,hv,hT⟩:=r.own hg
   obtain⟨l,vs,bs,rfl,hl,ht,hφ⟩:=bD hT
   refine⟨.ref l,hv,.inl ⟨rfl,vs,fU.of hl⟩,B,φ,Γ,r,?_⟩
   match hm:fe Γ,q with
   | some (.ok (k,d)),q=>
    refine .inl ⟨k,d,rfl,λy H1 s1 hy=> ?_⟩
    have r1:=r.same s1
    have hl1:=s1 _ _ hl
    have hlen:vs.length=xs.length:=bG ht
    have hli:l∈φ i:=by rw[hφ];exact K8
    replace q:cS K Ew B (match xr k d with
     | some ys=>if aq ys=true/\xs.length+ys.length<=sizeLine then ag (.nx (Γ.set i (some (true,.list (xs++ys))))) else none
     | none=>none) D:=q
    have hd:=hy.toD r1.bs
    have hnd:=r.nd i
    rw[hφ] at hnd
    have hnb:l∉bs:=(KU.mp hnd).1
    have main:∀(b:Addr) (ws:List V) (ys:List PyData),y= .ref b->xr k d=some ys->(l=b->∃o,K.lookup b=some o)->(fU K H1 b ws∨dL K H1 b ws)->aw K H1 ys ws->BH X.K (.ref l) [y] H1 λ_ H1=>D.nx σ H1:=λb ws ys ey ei Mp hb hws=>by
     rw[ei] at q
     by_cases hc:aq ys=true/\xs.length+ys.length<=sizeLine
     ·replace q:cS K Ew B (ag (.nx (Γ.set i (some (true,.list (xs++ys)))))) D:=by simpa only[JW hc] using q
      subst ey
      refine⟨l,b,vs,ws,rfl,rfl,hl1,by rw[hK];exact Mp,by rw[hK];exact hb,by rw[am hws];omega,?_⟩
      refine q B _ σ _ (Same.refl B) (r1.chg (d:=.list (xs++ys)) (as:=l :: bs) hli hl1 trivial hv ?_ hnd (λa ha=> .inl (by rw[hφ];exact ha)) trivial)
      have h1:=ay.upd (o':=.lst (vs++ws)) hl1 trivial _ _ _ hnb (ay.same s1 _ _ _ ht)
      have h2:=ay.upd (o':=.lst (vs++ws)) hl1 trivial _ _ _ (show l∉[] by simp) (aw.toT _ _ hc.1 hws)
      have h3:=de h1 h2
      rw[Xu] at h3
      exact dz ax h3
     ·simp only[JZ hc] at q
      exact False.elim q
    cases d <;> try (exact False.elim q)
    ·rename_i ys
     match k,hy,q,main with
     | .fr [],hy,q,main=>
      obtain⟨as,h1,h2,h3⟩:=hy
      obtain⟨b,ws,cs,ey,hb,hws,rfl⟩:=bD h1
      refine main b ws ys ey rfl (λz=> ?_) (.inl (fU.of hb)) (ay.toD _ _ _ hws)
      rcases h3 b K8 with⟨_,w,_⟩ | w
      ·cases w
      ·rw[←z,hl] at w;cases w
     | .base,hy,q,main=>
      obtain⟨b,ws,ey,hb,hws⟩:=aY (show aH K B (.list ys) y from hy)
      refine main b ws ys ey rfl (λz=> ?_) (.inl (r1.bs.seq hb)) (aw.same r1.bs _ _ hws)
      have hB:=(r.nb i l hli).1
      rcases hb with(w | ⟨o,w⟩) | ⟨o,_,_,w,_⟩
      ·rw[←z,hB] at w;cases w
      ·rw[←z,hB] at w;cases w
      ·exact⟨o,w⟩
     | .fr (_ :: _),hy,q,main=>exact False.elim q
     | .any,hy,q,main=>exact False.elim q
    ·rename_i ys
     obtain⟨b,ws,ey,hb,hws⟩:=aL hd
     refine main b ws ys ey rfl (λz=> ?_) (.inr hb) hws
     rcases hb with(w | ⟨o,w⟩) | ⟨o,_,_,w,_⟩
     ·rw[←z,hl1] at w;cases w
     ·rw[←z,hl1] at w;cases w
     ·exact⟨o,w⟩
   | some (.ex c),q=>exact .inr ⟨c,rfl,q⟩
   | none,q=>cases q
  | some (some (true,.none)),q|some (some (true,.bool _)),q|some (some (true,.int _)),q|some (some (true,.str _)),q|some (some (true,.tuple _)),q|some (some (true,.dict _)),q|some (some (false,_)),q|some none,q|none,q=>cases q
end
section
variable {X:Cx}{K:Frag}{Ew:Str->Hp->Prop}{pos pos2 p p2:Pos}{a e o j:Expr}{ta:TE}{fa fe fj:EF}{apos cpos:Pos}
theorem tu {i:Nat}(ho:PE X o (kX i))(hj:DE X K Ew j fj)(he:DE X K Ew e fe)
  (ha:∀v,assign (.Subscript o j p) X.env v=(do
   let ov←holding [v] (eval o X.env)
   let iv←holding [v,ov] (eval j X.env)
   standAt p
   holding [v,ov,iv] (setItem ov iv v)
   release [v,ov,iv] []):=by intro _;rfl)
  (hs:swapsWithSole [.Subscript o j p] e pos.line X.env=pure false:=by rfl) (hw:swappedStores [.Subscript o j p] e X.env=pure none:=by rfl)
  (h1:(assignEach [.Subscript o j p] X.env).map (·.2)=[assign (.Subscript o j p) X.env]:=by rfl):DS X K Ew (.Assign [.Subscript o j p] e pos) (zR i fj fe) :=
 (sK he (w9 ho hj set_list ha) hs hw h1).imp λD σ H q=>
  gx (g:=λx Γ=>match Γ[i]? with
   | some (some (true,.list xs))=>ap (fj Γ) λy=>match y.2 with
    | .int n=>match Y.nu xs.length n with
     | some m=>if bj x.2 && aq xs then ag (.nx (Γ.set i (some (true,.list (xs.set m x.2))))) else none
     | none=>none
    | _=>none
   | _=>none) q λB φ Γ k d y H1 r av q=>by
   match hg:Γ[i]?,q with
   | some (some (true,.list xs)),q=>
    obtain⟨v,hv,hT⟩:=r.own hg
    obtain⟨l,vs,bs,rfl,hl,ht,hφ⟩:=bD hT
    have hli:l∈φ i:=by rw[hφ];exact K8
    refine⟨.ref l,hv,B,φ,Γ,r,?_⟩
    match hm:fj Γ,q with
    | some (.ok (k',d')),q=>
     refine .inl ⟨k',d',rfl,λw H2 s2 hw=> ?_⟩
     have r2:=r.same s2
     cases d' <;> try (exact False.elim q)
     rename_i n
     have:=aD (hw.toD r2.bs)
     subst this
     replace q:cS K Ew B (match Y.nu xs.length n with
      | some m=>if bj d && aq xs then ag (.nx (Γ.set i (some (true,.list (xs.set m d))))) else none
      | none=>none) D:=q
     match hix:Y.nu xs.length n,q with
     | some m,q=>
      replace q:cS K Ew B (if bj d && aq xs then ag (.nx (Γ.set i (some (true,.list (xs.set m d))))) else none) D:=q
      by_cases hc:(bj d && aq xs)=true
      ·rw[JW hc] at q
       have hc':bj d=true/\aq xs=true:=by simpa using hc
       have hlen:=bG ht
       refine⟨l,vs,n,m,rfl,rfl,s2 _ _ hl,by rw[hlen];exact hix,?_⟩
       have hbs:bs=[]:=ay.nil _ _ _ hc'.2 ht
       subst hbs
       have hds:=aw.same s2 _ _ (ay.toD _ _ _ ht)
       have hdd:=aH.same s2 _ _ (av.toD r.bs)
       have hns:aq (xs.set m d)=true:=aU.mpr λx hx=>by
        rcases List.mem_or_eq_of_mem_set hx with z | z
        ·exact aU.mp hc'.2 x z
        ·rw[z];exact hc'.1
       have hnew:=ay.upd (o':=.lst (vs.set m y)) (s2 _ _ hl) trivial _ _ _ (show l∉[] by simp) (aw.toT _ _ hns (uY m hds hdd))
       exact q B _ σ _ (Same.refl B) (r2.chg (d:=.list (xs.set m d)) (as:=[l]) hli (s2 _ _ hl) trivial hv (dz ax hnew) (KU.mpr ⟨by simp,X3⟩) (λa ha=> .inl (by rw[K7.mp ha];exact hli)) trivial)
      ·rw[JZ hc] at q
       exact False.elim q
     | none,q=>cases q
    | some (.ex c),q=>exact .inr ⟨c,rfl,q⟩
    | none,q=>cases q
   | some (some (true,.none)),q|some (some (true,.bool _)),q|some (some (true,.int _)),q|some (some (true,.str _)),q|some (some (true,.tuple _)),q|some (some (true,.dict _)),q|some (some (false,_)),q|some none,q|none,q=>cases q
end
theorem BJ {X:Cx}{K:Frag}{Ew:Str->Hp->Prop}{st:Stmt}:DS X K Ew st Bp:=A_.imp λD σ H q=>by
 obtain⟨B,φ,Γ,r,q⟩:=q
 exact False.elim q
theorem Mq {P:Program}{w:World}{K:Frag}{mg:Str->Option Value}{base:Heap}{x qual:Str}{st:Stmt}{f:Addr}{fd:FuncData}{N ps:List Str}(k n m:Nat){fb:SF}(hn:N.length=n)(hm:ps.length=m)(F:Dy K x qual st f fd)(S:aK N ps (ai st))
  (hbody:∀(cdv:Value) (A:Around) (outer:List Env) (s:Shared) (H:Hp) (E:XK),dM k (A.deeper (envOfC qual (ai st) s.heap.objs.size f cdv))->
   zT (qG yF P w K mg base N qual (ai st) f cdv A outer s H E).A1 K (λ_ _=>False) (ee st) fb):jb P w K mg base yF (k+1) f fd ps (jv K m (cF n fb)):=by
 subst hn hm
 exact F.N6 S hbody
theorem BK {K:Frag}{H:Hp}{a:Addr}{ns:List Int}{F:FF}(hS:fU K H a (ns.map V.int))(h:∃o,F [.list (!5)]=some (.ok (o,.bool true))):jv K 1 F [.ref a] H (λv _=>v= .bl true) λ_ _ _=>False:=by
 obtain⟨o,h⟩:=h
 refine⟨[.list (!5)],rfl,aX (sW hS (mV ns)) ba,?_⟩
 rw[h]
 intro v H' s r
 unfold RV at r
 cases o with
 | true=>rw[JW rfl] at r;obtain⟨as,h1,_⟩:=r;exact je (IsT.toD _ _ _ h1)
 | false=>rw[JZ K5] at r;exact je r
section
variable {prog:Program}{w:World}{A:Around}{E:Z5}{s:Shared}
theorem k6 {t sl:Addr}{items:Array Value}{vl vu:Value}{lo hi:Option Int}{Q:Z5}(ht:IsTup s.heap t items)(hs:s.heap.IsSliceOf sl vl vu .none)(pl:IsPart vl lo)(pu:IsPart vu hi)
  (hw:HT.dJ items.size 0 lo=0/\HT.dJ items.size items.size hi=items.size) (h:Q (.ref t) s):wpAny (!3) A (getItem (.ref t) (.ref sl)) Q E s:=by
 obtain⟨os,hos,hcs,hds⟩:=id hs
 have hTs:s.TypeIs (.ref sl) "slice":=⟨os,hos,hcs⟩
 unfold getItem
 try with_reducible refine Z9 ?_
 first | refine JY (JJ ?_) | skip
 refine JY (wpAny_sequenceKey ht.typeIs (by decide) ?_)
 refine JY (wpAny_callSpecial?_slot (name:=Str.ofString "__getitem__") ht.typeIs PyProof.Rows.slot_tuple_getitem
  (Z8 PyProof.Rows.slot_tuple_getitem ht.typeIs entry_tuple_getitem ?_ (args_tuple_getitem _ _)))
 show wpAny _ _ (Builtin.Tuple.tupleItemsOf (.ref t) >>=_) _ _ s
 refine JY (tupleItemsOf_ ht ?_)
 refine JY (wpAny_typeOf hTs ?_)
 rw[JW (by decide)]
 refine JY (HT.jc hs pl pu ?_)
 have hyes:(((HT.dJ items.size 0 lo:Nat):Int)==0 && (1:Int)==1 && (HT.dJ items.size items.size hi - HT.dJ items.size 0 lo)==items.size)=true:=by
  rw[hw.1,hw.2];simp
 show wpAny _ _ (if (((HT.dJ items.size 0 lo:Nat):Int)==0 && (1:Int)==1 && (HT.dJ items.size items.size hi - HT.dJ items.size 0 lo)==items.size)=true then _ else _) _ _ s
 rw[JW hyes]
 unfold Builtin.Tuple.tupleIsExact
 refine JY ?_
 first
  | exact JY (wpAny_typeOf ht.typeIs (JJ (JY (wpAny_rule (JJ ⟨_,rfl,JJ h⟩)))))
  | (
    refine JY (wpAny_typeOf ht.typeIs (JJ ?_))
    rw[JW (by decide)]
    exact JY (wpAny_rule (JJ ⟨_,rfl,JJ h⟩)))
end
theorem vb {K:Frag}{H:Hp}{ds:List PyData}{vs:List V}(h:aw K H ds vs)(lo hi:Option Int):aw K H (cutD ds lo hi) (uM vs lo hi):=by
 have e:cutD ds lo hi=(ds.drop (HT.dJ ds.length 0 lo)).take (HT.dJ ds.length ds.length hi - HT.dJ ds.length 0 lo):=rfl
 rw[e]
 unfold uM
 rw[am h]
 exact rj _ (rl _ h)
theorem o5 {ds:List PyData}(h:aq ds=true)(lo hi:Option Int):aq (cutD ds lo hi)=true:=aU.mpr λx hx=>aU.mp h x (U3 (U4 hx))
section
variable {X:Cx}{K:Frag}{Ew:Str->Hp->Prop}{pos p2:Pos}{e:Expr}{fe:EF}{lo hi st:Option Expr}{fl fh fs:Option EF}
def Mr (K:Frag):V->Option Int->Option Int->Hp->VK->Prop:=λx lo hi H Q=>∃d z,aH K H d x/\Lr d lo hi=some z/\∀v H',Same H H'->aQ K H H' z v->Q v H'
theorem Ms:FT X (Mr X.K):=by
 intro pins s σ H x v vl vu lo hi sl Q I rx hs pl pu h
 obtain⟨d,z,hd,hz,q⟩:=h
 cases d <;> simp only[Lr] at hz <;> try (cases hz;done)
 ·rename_i ds
  split at hz
  ·rename_i hn
   cases hz
   obtain⟨a,xs,rfl,hx,hi'⟩:=aY hd
   exact DV pins s σ H _ v vl vu lo hi sl Q I rx hs pl pu ⟨a,xs,rfl,hx,λp hp=>q _ _ (Same.upd hp) (aQ.lst (o5 hn lo hi) ax (aw.same (Same.upd hp) _ _ (vb hi' lo hi)) hp)⟩
  ·cases hz
 ·rename_i ds
  split at hz
  ·rename_i hn
   cases hz
   obtain⟨a,xs,rfl,hx,hi'⟩:=aL hd
   by_cases hw:HT.dJ xs.length 0 lo=0/\HT.dJ xs.length xs.length hi=xs.length
   ·cases rx
    obtain⟨its,r,ht,hz⟩:=I.tuple hx
    have hlen:its.toArray.size=xs.length:=by rw[Kj];exact r.length.symm
    refine⟨"tuple",_,PyProof.Rows.slot_tuple_getitem.lookup,ht.typeIs,?_⟩
    refine k6 ht hs pl pu (by rw[hlen];exact hw) ⟨.ref a,H,I,rfl,q _ H (Same.refl H) (aQ.k_ (by rw[bj];exact o5 hn lo hi) ?_)⟩
    have e:cutD ds lo hi=ds:=by
     have e:cutD ds lo hi=(ds.drop (HT.dJ ds.length 0 lo)).take (HT.dJ ds.length ds.length hi - HT.dJ ds.length 0 lo):=rfl
     rw[e,←am hi',hw.1,hw.2,Y4,Nat.sub_zero]
     exact XZ (by rw[am hi'];exact K1 _)
    rw[e]
    exact hd
   ·exact G3 pins s σ H _ v vl vu lo hi sl Q I rx hs pl pu ⟨a,xs,rfl,hx,hw,λp hp=>q _ _ (Same.upd hp) (aQ.tup (o5 hn lo hi) (dL.of ax) (aw.same (Same.upd hp) _ _ (vb hi' lo hi)))⟩
  ·cases hz
def tO (K:Frag)(Ew:Str->Hp->Prop)(f:Option EF):TO:=λσ H Q=>∃B φ Γ,Rep K B φ Γ σ H/\((∃o,oE f Γ=some (.ok o)/\∀H',Same H H'->Q o H')∨(∃c,oE f Γ=some (.ex c)/\∀H',Same B H'->Ew c H'))
def Lu (X:Cx)(K:Frag)(Ew:Str->Hp->Prop)(e:Option Expr)(f:Option EF):Prop:=PO X e (tO K Ew f)
theorem PO.imp {X:Cx}{e:Option Expr}{t t':TO}(h:PO X e t)(i:∀σ H Q,t' σ H Q->t σ H Q):PO X e t':=λpins s σ H Q I q=>h pins s σ H Q I (i σ H Q q)
theorem BL:Lu X K Ew none none:=DQ.imp λσ H Q q=>by
 obtain⟨B,φ,Γ,r,q⟩:=q
 rcases q with⟨o,e,q⟩ | ⟨c,e,_⟩
 ·cases e;exact q H (Same.refl H)
 ·cases e
theorem BM (he:DE X K Ew e fe):Lu X K Ew (some e) (some fe):=(DR he).imp λσ H Q q=>by
 obtain⟨B,φ,Γ,r,q⟩:=q
 refine⟨B,φ,Γ,r,?_⟩
 have e0:oE (some fe) Γ=ap (fe Γ) λx=>oI x.2:=rfl
 rw[e0] at q
 match hm:fe Γ,q with
 | some (.ok (k,d)),q=>
  refine .inl ⟨k,d,rfl,λv H' s hv=> ?_⟩
  cases d <;> try (rcases q with⟨o,e,_⟩ | ⟨c,e,_⟩ <;> cases e;done)
  rename_i n
  have:=aD (hv.toD (r.bs.trans s))
  subst this
  rcases q with⟨o,e,q⟩ | ⟨c,e,_⟩
  ·cases e;exact⟨n,rfl,q H' s⟩
  ·cases e
 | some (.ex c),q=>
  rcases q with⟨o,e,q⟩ | ⟨c',e,q⟩
  ·cases e
  ·cases e;exact .inr ⟨c,rfl,q⟩
 | none,q=>rcases q with⟨o,e,_⟩ | ⟨c,e,_⟩ <;> cases e
theorem yT {fo:Option EF}{B H:Hp}{φ:Nat->List Addr}{Γ:bf}{σ:St}{g:Option Int->M (Kd×PyData)}{Q:VK}{R:Option Int->Hp->Prop}(r:Rep K B φ Γ σ H)(h:Runs K Ew B φ H (ap (oE fo Γ) g) Q)
  (i:∀o H1,Same H H1->Rep K B φ Γ σ H1->Runs K Ew B φ H1 (g o) Q->R o H1):tO K Ew fo σ H R:=by
 refine⟨B,φ,Γ,r,?_⟩
 match hm:oE fo Γ,h with
 | some (.ok o),h=>exact .inl ⟨o,rfl,λH1 s=>i o H1 s (r.same s) (Runs.later h s)⟩
 | some (.ex c),h=>
  rcases h with⟨k,d,e,_⟩ | ⟨c',e,h⟩
  ·cases e
  ·cases e;exact .inr ⟨c,rfl,h⟩
 | none,h=>exact(Runs.no h).elim
theorem Ka (he:DE X K Ew e fe)(hl:Lu X K Ew lo fl)(hu:Lu X K Ew hi fh)(hK:X.K=K:=by rfl):DE X K Ew (.Subscript e (.Slice lo hi none p2) pos) (Ls fe fl fh):=(Bf Ms he hl hu).imp λσ H Q q=>by
 obtain⟨B,φ,Γ,r,q⟩:=q
 refine⟨B,φ,Γ,r,(q.bind r).mono λu H1 s1 ⟨k,x,e1,v1,r1,_,q1⟩=> ?_⟩
 refine yT r1 (q1.later s1) λl H2 s2 r2 q2=>yT r2 q2 λh H3 s3 r3 q3=> ?_
 obtain⟨z,ez,q⟩:=fV (kf:=λ_=> .fr []) q3
 rw[hK]
 exact⟨x,z,aH.same (s2.trans s3) _ _ (v1.toD r1.bs),ez,λv H' s f=>q v H' s (VR.fresh.mpr f)⟩
end
theorem yU:Manifest.owners.lookup (String.ofList ['d','e','s','r','e','v','e','r'].reverse)=some Manifest.sig_reversed:=by(kernel_rfl)
theorem dR:Slot "reversed" "__next__" "reversed.__next__" :=
 .of (owner:="reversed") (n:="__next__") (by(rw[typeLookup_type,builtinLookup_eq_fast]);kernel_rfl) (by decide+kernel) (by decide+kernel) (by decide+kernel) (by first | exact .inl (by decide+kernel) | exact .inr (by decide+kernel)) (by(rw[isSubtype_type]);kernel_rfl)
theorem lX:entryFor table "reversed.__next__" =some Builtin.«reversed.__next__»:=entryFor_of_tree (by(kernel_rfl))
theorem lY (a:Value):argsOk "reversed.__next__" ⟨[a],[]⟩:=by
 unfold argsOk;rw[signature?_of (id:="reversed.__next__") (n:=['_','_','t','x','e','n','_','_']) (o:=['d','e','s','r','e','v','e','r']) (by(kernel_rfl)) yU];(kernel_rfl)
theorem lb:Slot "reversed" "__iter__" "reversed.__iter__" :=
 .of (owner:="reversed") (n:="__iter__") (by(rw[typeLookup_type,builtinLookup_eq_fast]);kernel_rfl) (by decide+kernel) (by decide+kernel) (by decide+kernel) (by first | exact .inl (by decide+kernel) | exact .inr (by decide+kernel)) (by(rw[isSubtype_type]);kernel_rfl)
theorem tv (a:Value):argsOk "reversed.__iter__" ⟨[a],[]⟩:=by
 unfold argsOk;rw[signature?_of (id:="reversed.__iter__") (n:=['_','_','r','e','t','i','_','_']) (o:=['d','e','s','r','e','v','e','r']) (by(kernel_rfl)) yU];(kernel_rfl)
theorem tw:entryFor table "reversed.__iter__" =some Builtin.«dict_keyiterator.__iter__» :=
 entryFor_alias (id':="dict_keyiterator.__iter__") (by(kernel_rfl)) (by first | rfl | decide+kernel | (unfold String.splitOn;simp+decide [String.splitOnAux])) (by decide+kernel) (by(kernel_rfl))
theorem z9:typeLookup (.type "tuple") "__reversed__" =pure none:=by(rw[typeLookup_type,builtinLookup_eq_fast]);(kernel_rfl)
theorem tx:isSubtype (.type "tuple") (.type "dict")=pure false:=by(rw[isSubtype_type]);(kernel_rfl)
def mX (t:Addr)(i:Int):Obj:={cls:=.type "reversed",data:=.fields #[.ref t,rawInt i]}
def nA (h:Heap)(a t:Addr)(i:Int):Prop:=h.get? a=some (mX t i)
section
variable {prog:Program}{w:World}{A:Around}{E:Z5}{s:Shared}
theorem tz {t:Addr}{items:Array Value}{Q1:Z5}(ht:IsTup s.heap t items)(hz:items.size<=sizeLine)
  (h:∀tk,Q1 (.ref s.heap.objs.size) {s with heap:=s.heap.push (mX t ((items.size:Int) - 1)),toks:=tk}) :
  codeAny (!3) A (.call (.builtin "reversed.__new__") ⟨[.type "reversed",.ref t],[]⟩) (wants Q1 E) s:=by
 refine codeAny_of_tree ?_
 show wpAny _ A.in1 (do checkBuiltinCall "reversed.__new__" ⟨[.type "reversed",.ref t],[]⟩;again (.builtin "reversed.__new__" ⟨[.type "reversed",.ref t],[]⟩)) _ _ s;refine JY (wpAny_of_eq (F.newCall_reversed_1 _) (JJ ⟨plainId_quiet F.plain_reversed_new _,codeAny_builtin F.entry_reversed_new ?_⟩))
 rw[Around.under_plainId F.plain_reversed_new _];unfold Builtin.«reversed.__new__»
 refine JY (wpAny_of_eq (newClass_reversed _) ?_)
 try dsimp only
 refine JY (wpAny_of_eq (a:=()) (by first | rfl | kernel_rfl) ?_);refine JY (wpAny_of_eq (a:=()) (by first | rfl | kernel_rfl) ?_)
 try dsimp only
 refine JY (Z6 ht.typeIs z9 ?_)
 have hT:=ht.typeIs
 have hd:=tx
 have hget:=PyProof.Rows.slot_tuple_getitem.lookup
 show wpAny _ _ (_ >>=_) _ _ _
 refine JY ?_
 wp_delta
 refine JY (wpAny_isInstance hT hd ?_);rw[JZ K5]
 refine JY (Z6 hT hget ?_)
 try dsimp only
 rw[JW (by decide+kernel)]
 refine JJ ?_
 rw[JZ (by decide)]
 have Mt:=j6
 refine JY (len_tuple ht (!1) ?_)
 refine JY (wpAny_of_eq (a:=some ((items.size:Nat):Int)) (by first | rfl | kernel_rfl) ?_)
 try dsimp only
 refine JY ?_
 wp_delta
 exact Z7 (JJ (h _))
theorem lx:TypeCalled "reversed" "reversed.__new__" "object.__init__" :=
 ⟨by decide+kernel,by decide+kernel,⟨_,_,F.mro_reversed⟩,F.made_reversed,by decide+kernel,by(rw[isSubtype_type]);kernel_rfl,.of (owner:="object") (n:="__init__") (by(rw[typeLookup_type,builtinLookup_eq_fast]);kernel_rfl) (by decide+kernel) (by decide+kernel) (by decide+kernel) (by first | exact .inl (by decide+kernel) | exact .inr (by decide+kernel)) (by(rw[isSubtype_type]);kernel_rfl)⟩
theorem BN {t:Addr}{items:Array Value}{Q:Z5}(ht:IsTup s.heap t items)(hz:items.size<=sizeLine)
  (h:∀tk,Q (.ref s.heap.objs.size) {s with heap:=s.heap.push (mX t ((items.size:Int) - 1)),toks:=tk}):wpAny (!3) A (call (.type "reversed") [.ref t]) Q E s:=by
 refine callType_codes (Q₁:=λobj s1=>s1.TypeIs obj "reversed" /\Q obj s1) lx (F.typeCall_reversed_1 _) F.entry_object_init (tz ht hz λtk=>⟨⟨_,Ky _ rfl,rfl⟩,h tk⟩) λobj s1 q=> ?_
 exact⟨q.1,F.args_object_init_2 obj _,object_init_meets lx.init.lookup lx.made (by decide) prog w A.in1 _ s1 ⟨q.1,rfl,q.2⟩⟩
theorem eO {it t:Addr}{i:Int}(h:nA s.heap it t i):s.TypeIs (.ref it) "reversed":=⟨_,h,rfl⟩
theorem BO {it t:Addr}{i:Nat}{items:Array Value}{x:Value}{Q:Option Value->Shared->Prop}(hit:nA s.heap it t (i:Int))(ht:IsTup s.heap t items)(hz:items.size<=sizeLine)(hx:items[i]? =some x)
  (hQ:∀h' tk,nA h' it t ((i:Int) - 1)->Heap.SameBut it s.heap h'->Q (some x) {s with heap:=h',toks:=tk}):wpAny (!3) A (pyNext (.ref it)) Q E s:=by
 unfold pyNext
 refine JY (wpAny_attempt (wpAny_callSpecial?_slot (name:=Str.ofString "__next__") (eO hit) dR (Z8 dR (eO hit) lX ?_ (lY _))))
 unfold Builtin.«reversed.__next__»
 refine JY (wpAny_of_eq (a:=(Value.ref it,[])) rfl ?_)
 try dsimp only
 refine JY (wpAny_field hit rfl (x:=.ref t) rfl ?_)
 refine JY (wpAny_field hit rfl (x:=rawInt (i:Int)) rfl ?_)
 show wpAny _ _ (if (i:Int) < 0 then _ else _) _ _ _
 rw[JZ (!1)]
 refine JY (Z6 ht.typeIs PyProof.Rows.slot_tuple_getitem.lookup ?_)
 rw[JZ (by decide)]
 refine JY (wpAny_mkInt ?_)
 have hi:i < items.size:=(Array.getElem?_eq_some_iff.mp hx).1
 have Mt:=j6
 have hg:wpAny (!3) A.in1 (getItem (.ref t) (.int (i:Int) s.toks)) (λr s'=>r=x/\s'={s with toks:=s.toks+1}) (λ_ _=>False) {s with toks:=s.toks+1} :=
  getItem_tuple (k:=(i:Int)) (j:=i) ht (!1) (!1) (seqIndex_of (!1) (!1)) hx ⟨rfl,rfl⟩
 refine JY (wpAny_attempt (wpAny_mono hg (λr s' q=> ?_) λ_ _ q=>False.elim q))
 obtain⟨rfl,rfl⟩:=q
 refine JY (wpAny_field hit rfl (x:=rawInt (i:Int)) rfl ?_)
 show wpAny _ _ (setField (.ref it) 1 (rawInt ((i:Int) - 1)) >>=_) _ _ _
 refine JY (wpAny_setField hit rfl (by simp) ?_)
 refine JJ ⟨_,rfl,JJ (hQ _ _ ?_ (Heap.SameBut.update ..))⟩
 exact Xw (Obj.mapFields (·.setIfInBounds 1 (rawInt ((i:Int) - 1)))) hit rfl
theorem Ei {it t:Addr}{Q:Option Value->Shared->Prop}(hh:A.handled=none)(hit:nA s.heap it t (-1))
  (hQ:∀h' tk,Heap.ExtBut it s.heap h'->Q none {s with heap:=h',toks:=tk}):wpAny (!3) A (pyNext (.ref it)) Q E s:=by
 unfold pyNext
 refine JY (wpAny_attempt (wpAny_callSpecial?_slot (name:=Str.ofString "__next__") (eO hit) dR (Z8 dR (eO hit) lX ?_ (lY _))))
 unfold Builtin.«reversed.__next__»
 refine JY (wpAny_of_eq (a:=(Value.ref it,[])) rfl ?_)
 try dsimp only
 refine JY (wpAny_field hit rfl (x:=.ref t) rfl ?_)
 refine JY (wpAny_field hit rfl (x:=rawInt (-1)) rfl ?_)
 show wpAny _ _ (if (-1:Int) < 0 then _ else _) _ _ _
 rw[JW (by decide)]
 refine JY (wpAny_rule ?_)
 refine JY ?_
 wp_delta
 refine JY (wpAny_setField hit rfl (by simp) ?_)
 have hit2:=Xw (Obj.mapFields (·.setIfInBounds 1 (rawInt (-1)))) hit rfl
 refine wpAny_setField hit2 rfl (by simp) ?_
 refine JY ?_
 (first | show wpAny _ _ (newExc (.type "StopIteration") [] >>=_) _ _ _ | (wp_delta;show wpAny _ _ (newExc (.type "StopIteration") [] >>=_) _ _ _))
 refine JY ?_;simp only[newExc,newTuple];refine JY (Z7 ?_ (by size_fits));refine JY (m:=firstArgMember _ _) (wpAny_of_eq (a:=Value.none) (by first | rfl | (simp only[firstArgMember];rfl)) ?_);refine Z7 ?_ (by size_fits)
 simp only[raiseNew];refine JY (wpAny_handled ?_);(first | rw[show A.in1.handled=none from hh] | rw[hh])
 refine JY (JJ (wpAny_throw ?_));refine JY (wpAny_isInstance (T:="StopIteration") (b:=true) ⟨_,Ky _ rfl,rfl⟩ isSubtype_stop ?_)
 exact JJ (hQ _ _ ((((Heap.SameBut.update ..).extBut.trans (Heap.SameBut.update ..).extBut).push _).push _))
theorem vc {it t:Addr}{i:Int}{Q:Z5}(hit:nA s.heap it t i)(h:Q (.ref it) s):wpAny (!3) A (pyIter (.ref it)) Q E s:=by
 refine wpAny_pyIter_slot (eO hit) lb (Z8 lb (eO hit) tw ?_ (tv _))
 show wpAny _ _ (ret (.ref it)) _ _ s;exact JJ ⟨_,rfl,"reversed",_,eO hit,dR.lookup,h⟩
end
def Lw (K:Frag)(a:Addr)(n:Nat):It :=
 ⟨λi H=>i < n/\∃xs,dL K H a xs/\xs.length=n,λi H x H'=>H'=H/\∀xs,dL K H a xs->xs[n - 1 - i]? =some x,λi _=>n<=i⟩
theorem BP {P:Program}{w:World}{K:Frag}{tg:Expr}(a it:Addr)(n:Nat):Turn P w K tg (Lw K a n) [it] it (λi h=>i<=n/\nA h it a ((n:Int) - 1 - i)) where
 mem:=by simp
 obj:=λi h st b hb=>by
  have z:b=it:=by simpa using hb
  subst z
  exact⟨_,st.2,λv z=>by cases z⟩
 keep:=λi h h' st k=>⟨st.1,k it (by simp) _ st.2⟩
 item:=by
  intro X hP hw hK hc i pins s σ H E I hf st hg;subst hP hw hK
  obtain⟨hi,xs,hq,hl⟩:=hg
  obtain⟨its,rv,p,hz⟩:=I.tuple hq
  have hx:xs[n - 1 - i]? =some (xs[n - 1 - i]'(!1)):=K3 _
  obtain⟨u,hu,ru⟩:=rv.get hx
  obtain⟨f0,f1,f2,f3,f4,f5⟩:=hf it (by simp)
  have hlen:=rv.length
  have hst:=st.2
  rw[show(n:Int) - 1 - (i:Int)=((n - 1 - i:Nat):Int) by omega] at hst
  refine BO (i:=n - 1 - i) (x:=u) hst p (by rw[Kj];omega) (by simpa using hu) λh' tk st' sb=> ?_
  have I1:Inv X pins σ H {s with heap:=h',toks:=tk}:=I.turned (t':=tk) (λb o hb e=>(sb.2 b hb).trans e) f0 f1 f3 f4 f5
  rw[show((n - 1 - i:Nat):Int) - 1=(n:Int) - 1 - ((i+1:Nat):Int) by omega] at st'
  exact⟨u,rfl,yv (s:={s with heap:=h',toks:=tk}) st' rfl rfl (by decide) ⟨_,H,I1,ru,⟨rfl,λys hy=>by rw[I.mS hy hq];exact hx⟩,⟨by omega,st'⟩,λb hb=>(hf b hb).1⟩⟩
 done:=by
  intro X hP hw hK hc i pins s σ H E I hf st hg;subst hP hw hK
  have hi:n<=i:=hg
  obtain⟨f0,f1,f2,f3,f4,f5⟩:=hf it (by simp)
  have hst:=st.2
  rw[show(n:Int) - 1 - (i:Int)= -1 by have:=st.1;omega] at hst
  exact Ei (I.ok.hd hc) hst λh' tk eb=>⟨rfl,I.turned (t':=tk) (λb o hb e=>eb b o hb e) f0 f1 f3 f4 f5⟩
 self:=λA i s Q E st h=>vc st.2 h
section
variable {X:Cx}{K:Frag}{Ew:Str->Hp->Prop}{pos p:Pos}{tg a:Expr}{ta:TE}{fa:EF}
def Mu (K:Frag)(ta:TE):TI:=λσ H R=>ta σ H λx H1=>∃q xs,x= .ref q/\dL K H1 q xs/\R (Lw K q xs.length) H1
theorem Hs (hg:Gl X "reversed")(hm:X.mg "reversed" =none)(ha:PE X a ta)(hs:starEach [a] X.env=[(false,eval a X.env)]:=by rfl):PI X tg (.Call (.Name "reversed" p) [a] [] pos) (Mu X.K ta):=by
 intro pins s σ H R I h
 refine Call_ (fM I hg hm PyProof.Rows.boot_reversed (PyProof.Rows.callWith_type1 (cX (bA ha cZ hs pos pins s σ H (λvs H1=>match vs with
  | [x]=>∃q xs,x= .ref q/\dL X.K H1 q xs/\R (Lw X.K q xs.length) H1
  | _=>False) I h) λus s1 ⟨vs,H1,I1,r1,q1⟩=> ?_) hs rfl))
 match vs,r1,q1 with
 | [x],r1,q1=>
  obtain⟨q,xs,rfl,hq,fin⟩:=q1
  obtain⟨u,rfl,ru⟩:=r1.one
  cases ru
  obtain⟨its,rv,pl,hz⟩:=I1.tuple hq
  have hl:=rv.length
  refine BN pl (by rw[Kj];omega) λtk=> ?_
  have I2:Inv X pins σ H1 {s1 with heap:=s1.heap.push (mX q ((its.toArray.size:Int) - 1)),toks:=tk}:=I1.kept (t':=tk) λb u e=>K6 _ e
  have hit:nA (s1.heap.push (mX q ((its.toArray.size:Int) - 1))) s1.heap.objs.size q ((its.toArray.size:Int) - 1):=Ky _ rfl
  refine vc hit ⟨s1.heap.objs.size,[s1.heap.objs.size],_,_,H1,rfl,I2,BP q _ xs.length,⟨Xx _,?_⟩,λb hb=> ?_,fin⟩
  ·have e:((its.toArray.size:Int) - 1)=(xs.length:Int) - 1 - ((0:Nat):Int):=by rw[Kj,←hl];simp
   exact(congrArg (λz=>nA (s1.heap.push (mX q ((its.toArray.size:Int) - 1))) s1.heap.objs.size q z) e).mp hit
  ·have e:b=s1.heap.objs.size:=by simpa using hb
   subst e
   exact I1.nM (K1 _) I1.fresh
 | [],r1,q1=>exact False.elim q1
 | _ :: _ :: _,r1,q1=>exact False.elim q1
theorem BQ {B:Hp}{a:Addr}{vs:List V}{ds:List PyData}(h:dL K B a vs)(t:aw K B ds vs):tf K B (Lw K a vs.length) ds.reverse where
 go:=λi H hi s=>by
  have hl:=am t
  exact⟨by rw[Uk] at hi;omega,vs,s.lq h,rfl⟩
 yl:=λi H x H' hi s y=>by
  obtain⟨rfl,y⟩:=y
  have hl:=am t
  rw[Uk] at hi
  obtain⟨d,e,hd⟩:=g6 t (y vs (s.lq h))
  exact⟨Same.refl _,d,by rw[List.getElem?_reverse hi,←hl];exact e,λB2 s2 _=>aH.same s2 _ _ hd⟩
 stop:=λH s=>by
  show vs.length<=_
  rw[Uk,am t];exact K1 _
theorem Ht (hc:X.calm=true)(hg:Gl X "reversed")(hm:X.mg "reversed" =none)(ha:DE X K Ew a fa)(hK:X.K=K:=by rfl)(hs:starEach [a] X.env=[(false,eval a X.env)]:=by rfl):DI X K Ew tg (.Call (.Name "reversed" p) [a] [] pos) (Bq fa) :=
 (Hs hg hm ha hs).imp λσ H R q=>lU (g:=λx _=>D6 x.1 x.2) q λB φ Γ k d v H1 r s av q=>by
  replace q:u6 K Ew B H Γ σ R (D6 k d):=q
  cases d <;> try (exact False.elim q)
  rename_i ds
  obtain⟨B1,ψ,s1,r1,hd⟩:=r.j9 av
  obtain⟨a,vs,rfl,h1,h2⟩:=aL hd
  rw[hK]
  exact⟨a,vs,rfl,r1.bs.lq h1,q _ H1 B1 ψ s s1 r1 (BQ h1 h2)⟩
end
end L2
namespace Y
open PySem
def o8 (xs:List PyData):PyData->Option (Nat×List PyData)
 | .int k=>(nu xs.length k).bind λm=>match xs[m]? with
  | some (.list ys)=>if aq ys then some (m,ys) else none
  | _=>none
 | _=>none
theorem xB {xs:List PyData}{d:PyData}{p:Nat×List PyData}(h:o8 xs d=some p):∃k,d= .int k/\nu xs.length k=some p.1/\xs[p.1]? =some (.list p.2)/\aq p.2=true:=by
 obtain⟨k,rfl⟩:∃k,d= .int k:=by
  cases d <;> first | exact⟨_,rfl⟩ | exact absurd h (by simp[o8])
 simp only[o8] at h
 cases e:nu xs.length k with
 | none=>rw[e] at h;cases h
 | some m=>
  rw[e] at h
  simp only[Option.bind_some] at h
  split at h
  ·rename_i ys hy
   split at h
   ·rename_i hn
    cases h
    exact⟨k,rfl,e,hy,hn⟩
   ·cases h
  ·cases h
def Kb (k:Nat):PyData->Bool
 | .int i=>i==(k:Int)
 | _=>false
def in4:PyData->Bool
 | .int i=>decide (0<=i) && decide (i < 4)
 | _=>false
def vd (xs:List PyData):List PyData:=(([0,1,2,3]:List Nat).filter λk=>xs.any (Kb k)).map λ(k:Nat)=> .int (k:Int)
def ka:PyData->Option PyData
 | .list xs=>if xs.all in4=true then some (.list (vd xs)) else none
 | _=>none
def Lx:PyData->PyData->Option PyData
 | .int i,.int j=>some (.bool (decide (j<=i)))
 | _,_=>none
theorem yV (i j:Int):Lx (.int i) (.int j)=some (.bool (decide (j<=i))):=rfl
end Y
namespace L2
open PySem PySem.Spec PyProof.Rows Y
section
variable {K:Frag}{B H:Hp}{φ:Nat->List Addr}{Γ:bf}{σ:St}
theorem tF:∀{xs:List PyData} {vs:List V} {bs:List Addr} {m:Nat} {ys:List PyData},ay K H xs vs bs->bs.Nodup->xs[m]? =some (.list ys)->aq ys=true->
  ∃b ws,vs[m]? =some (.ref b)/\H b=some (.lst ws)/\ay K H ys ws []/\b∈bs/\∀ys' ws',ay K (upd H b (.lst ws')) ys' ws' []->ay K (upd H b (.lst ws')) (xs.set m (.list ys')) vs bs
 | [],vs,bs,m,ys,h,_,e,_=>by simp at e
 | x :: xs,vs,bs,0,ys,h,nd,e,hn=>by
  simp only[ay] at h
  obtain⟨v,r,a1,a2,rfl,rfl,h1,h2⟩:=h
  have ex:x= .list ys:=by simpa using e
  subst ex
  obtain⟨b,ws,cs,rfl,hb,ht,rfl⟩:=bD h1
  have hc:=ay.nil _ _ _ hn ht
  subst hc
  refine⟨b,ws,rfl,hb,ht,by simp,λys' ws' h'=> ?_⟩
  simp only[List.set_cons_zero,ay]
  have nb:b∉a2:=by
   have:=KU.mp (show(b :: a2).Nodup by simpa using nd)
   exact this.1
  exact⟨.ref b,r,[b],a2,rfl,rfl,dz ax h',ay.upd hb trivial _ _ _ nb h2⟩
 | x :: xs,vs,bs,m+1,ys,h,nd,e,hn=>by
  simp only[ay] at h
  obtain⟨v,r,a1,a2,rfl,rfl,h1,h2⟩:=h
  obtain⟨n1,n2,n3⟩:=Xj.mp nd
  obtain⟨b,ws,e1,hb,ht,hm,hs⟩:=tF h2 n2 (by simpa using e) hn
  refine⟨b,ws,by simpa using e1,hb,ht,Kx _ hm,λys' ws' h'=> ?_⟩
  simp only[List.set_cons_succ,ay]
  exact⟨v,r,a1,a2,rfl,rfl,IsT.upd hb trivial _ _ _ (λz=>n3 _ z _ hm rfl) h1,hs ys' ws' h'⟩
end
end L2
namespace L2
open PySem Y
mutual
def vf:PyData->Nat
 | .tuple xs=>tH xs+1
 | _=>1
def tH:List PyData->Nat
 | []=>0
 | d :: ds=>vf d+tH ds
end
mutual
def gK (h:Heap):PyData->Value->Prop
 | .int i,v=>∃t,v= .int i t
 | .none,v=>v= .none
 | .tuple ds,v=>∃a o items n,v= .ref a/\h.get? a=some o/\o.cls= .type "tuple" /\o.data= .seq items n/\gQ h ds items.toList
 | _,_=>False
def gQ (h:Heap):List PyData->List Value->Prop
 | [],vs=>vs=[]
 | d :: ds,vs=>∃v r,vs=v :: r/\gK h d v/\gQ h ds r
end
mutual
theorem gK.reads {h:Heap}:∀(d:PyData) (v:Value),gK h d v->Reads h v d []
 | .int i,v,x=>by simp only[gK] at x;obtain⟨t,rfl⟩:=x;exact .int i t
 | .none,v,x=>by simp only[gK] at x;subst x;exact .none
 | .tuple ds,v,x=>by
  simp only[gK] at x
  obtain⟨a,o,items,n,rfl,h1,h2,h3,h4⟩:=x
  exact .tuple h1 h2 h3 (gQ.reads ds _ h4)
 | .bool _,v,x=>by simp only[gK] at x
 | .str _,v,x=>by simp only[gK] at x
 | .list _,v,x=>by simp only[gK] at x
 | .dict _,v,x=>by simp only[gK] at x
theorem gQ.reads {h:Heap}:∀(ds:List PyData) (vs:List Value),gQ h ds vs->ReadsAll h vs ds []
 | [],vs,x=>by simp only[gQ] at x;subst x;exact .nil
 | d :: ds,vs,x=>by
  simp only[gQ] at x
  obtain⟨v,r,rfl,h1,h2⟩:=x
  exact .cons (gK.reads d v h1) (gQ.reads ds r h2)
end
mutual
theorem jm:∀(n:Nat) (d:PyData),nest n d=true->d.canLay0=true
 | _,.int _,_=>rfl
 | _,.none,_=>rfl
 | n+1,.tuple ds,x=>by rw[nest] at x;simp only[PyData.canLay0];exact rD n ds x
 | 0,.tuple _,x=>by simp[nest] at x
 | 0,.bool _,x=>by simp[nest] at x
 | 0,.str _,x=>by simp[nest] at x
 | 0,.list _,x=>by simp[nest] at x
 | 0,.dict _,x=>by simp[nest] at x
 | _+1,.bool _,x=>by simp[nest] at x
 | _+1,.str _,x=>by simp[nest] at x
 | _+1,.list _,x=>by simp[nest] at x
 | _+1,.dict _,x=>by simp[nest] at x
theorem rD:∀(n:Nat) (ds:List PyData),nests n ds=true->PyData.canLayAll0 ds=true
 | _,[],_=>rfl
 | n,d :: ds,x=>by
  rw[nests,X9] at x
  simp only[PyData.canLayAll0,jm n d x.1,rD n ds x.2,XY]
end
mutual
theorem o9:∀(n:Nat) (d:PyData),nest n d=true->d.depth<=n+1
 | _,.int _,_=>by simp[PyData.depth]
 | _,.none,_=>by simp[PyData.depth]
 | n+1,.tuple ds,x=>by rw[nest] at x;have:=nB n ds x;simp only[PyData.depth];omega
 | 0,.tuple _,x=>by simp[nest] at x
 | 0,.bool _,x=>by simp[nest] at x
 | 0,.str _,x=>by simp[nest] at x
 | 0,.list _,x=>by simp[nest] at x
 | 0,.dict _,x=>by simp[nest] at x
 | _+1,.bool _,x=>by simp[nest] at x
 | _+1,.str _,x=>by simp[nest] at x
 | _+1,.list _,x=>by simp[nest] at x
 | _+1,.dict _,x=>by simp[nest] at x
theorem nB:∀(n:Nat) (ds:List PyData),nests n ds=true->PyData.depthAll ds<=n+1
 | _,[],_=>by simp[PyData.depthAll]
 | n,d :: ds,x=>by
  rw[nests,X9] at x
  have h1:=o9 n d x.1
  have h2:=nB n ds x.2
  simp only[PyData.depthAll];omega
end
mutual
theorem o_:∀(n:Nat) (x y:PyData),nest n x=true->nest n y=true->PyData.eqv x y=true->x=y
 | _,.none,.none,_,_,_=>rfl
 | _,.int i,.int j,_,_,h=>by simp[PyData.eqv] at h;rw[h]
 | n+1,.tuple xs,.tuple ys,hx,hy,h=>by
  rw[nest] at hx hy
  simp only[PyData.eqv] at h
  rw[rE n xs ys hx hy h]
 | 0,.tuple _,_,hx,_,_=>by simp[nest] at hx
 | 0,_,.tuple _,_,hy,_=>by simp[nest] at hy
 | _,.none,.int _,_,_,h=>by simp[PyData.eqv] at h
 | _,.none,.tuple _,_,_,h=>by simp[PyData.eqv] at h
 | _,.int _,.none,_,_,h=>by simp[PyData.eqv] at h
 | _,.int _,.tuple _,_,_,h=>by simp[PyData.eqv] at h
 | _,.tuple _,.none,_,_,h=>by simp[PyData.eqv] at h
 | _,.tuple _,.int _,_,_,h=>by simp[PyData.eqv] at h
 | n,.bool _,_,hx,_,_=>by cases n <;> simp[nest] at hx
 | n,.str _,_,hx,_,_=>by cases n <;> simp[nest] at hx
 | n,.list _,_,hx,_,_=>by cases n <;> simp[nest] at hx
 | n,.dict _,_,hx,_,_=>by cases n <;> simp[nest] at hx
 | n,_,.bool _,_,hy,_=>by cases n <;> simp[nest] at hy
 | n,_,.str _,_,hy,_=>by cases n <;> simp[nest] at hy
 | n,_,.list _,_,hy,_=>by cases n <;> simp[nest] at hy
 | n,_,.dict _,_,hy,_=>by cases n <;> simp[nest] at hy
theorem rE:∀(n:Nat) (xs ys:List PyData),nests n xs=true->nests n ys=true->PyData.eqvAll xs ys=true->xs=ys
 | _,[],[],_,_,_=>rfl
 | n,x :: xs,y :: ys,hx,hy,h=>by
  rw[nests,X9] at hx hy
  simp only[PyData.eqvAll,X9] at h
  rw[o_ n x y hx.1 hy.1 h.1,rE n xs ys hx.2 hy.2 h.2]
 | _,[],_ :: _,_,_,h=>by simp[PyData.eqvAll] at h
 | _,_ :: _,[],_,_,h=>by simp[PyData.eqvAll] at h
end
section
variable {prog:Program}{w:World}{A:Around}{E:Z5}{s:Shared}
theorem z_ {Q:Int->Shared->Prop}(hu:A.units < cLine)(h:Q uU {s with toks:=s.toks+1}):wpAny (!3) A (pyHash .none) Q E s:=by
 have hT:=typeIs_none s
 unfold pyHash;unfold pyHashByItsType
 refine JY (wpAny_cRoomFor_or (.inr hu) ?_);refine JY (Z6 hT F.slot_NoneType_hash.lookup ?_)
 rw[JZ (by decide)]
 refine JY (Z6 hT F.slot_NoneType_hash.lookup ?_)
 show wpAny _ _ (callSpecialIfBoundUnlessNone? .none "__hash__" _ >>=_) Q E s
 refine JY (wpAny_callSpecialIfBoundUnlessNone?_slot hT F.slot_NoneType_hash (Z8 F.slot_NoneType_hash hT F.entry_NoneType_hash ?_ (F.args_NoneType_hash_1 _)))
 show wpAny _ _ (retInt 0xFCA86420) _ _ s
 refine wpAny_ret_mkInt ?_
 exact JJ h
mutual
theorem yW:∀(n:Nat) (d:PyData) {A:Around} {E:Z5} {s:Shared} {v:Value} {Q:Int->Shared->Prop},nest n d=true->gK s.heap d v->A.units+n < cLine->Q (fJ d) {s with toks:=s.toks+vf d}->wpAny (!3) A (pyHash v) Q E s
 | n,.int i,A,E,s,v,Q,_,x,_,h=>by
  simp only[gK] at x;obtain⟨t,rfl⟩:=x
  exact(intKind prog w).pyHash (k:=i) (by simp[intKind,Value.isInt]) h
 | n,.none,A,E,s,v,Q,_,x,hu,h=>by
  simp only[gK] at x;subst x
  exact z_ (!1) h
 | n+1,.tuple ds,A,E,s,v,Q,hn,x,hu,h=>by
  rw[nest] at hn
  simp only[gK] at x
  obtain⟨a,o,items,m,rfl,ho,hc,hd,hi⟩:=x
  have hT:s.TypeIs (.ref a) "tuple":=⟨o,ho,hc⟩
  unfold pyHash;unfold pyHashByItsType
  refine JY (wpAny_cRoomFor_or (.inr (!1)) ?_);refine JY (Z6 hT F.slot_tuple_hash.lookup ?_)
  rw[JZ (by rw[beq_builtin_none];decide)]
  refine JY (Z6 hT F.slot_tuple_hash.lookup ?_)
  show wpAny (!3) A (callSpecialIfBoundUnlessNone? (.ref a) "__hash__" _ >>=_) Q E s
  refine JY (wpAny_callSpecialIfBoundUnlessNone?_slot hT F.slot_tuple_hash (Z8 F.slot_tuple_hash hT F.entry_tuple_hash ?_ (F.args_tuple_hash_1 _)))
  show wpAny (!3) A.in1 (Builtin.Tuple.tupleItemsOf (.ref a) >>=_) _ _ s
  refine JY (wpAny_tupleItemsOf ho hd ?_);refine JY ?_
  rw[←Array.forIn_toList]
  refine rF n ds #[] hn hi (by show A.units+1+n < cLine;omega) λb hb=> ?_
  rw[YU] at hb
  show wpAny (!3) A.in1 (retInt (Builtin.Tuple.tupleHashOf b.toList)) _ _ _
  rw[hb]
  refine wpAny_ret_mkInt ?_
  simp only[fJ,reduceHash,vf] at h
  show wpAny (!3) A (if (decide (-(2:Int)^63<=Builtin.Tuple.tupleHashOf (jz ds)) && decide (Builtin.Tuple.tupleHashOf (jz ds) < 2^63))=true then _ else _) Q E _
  by_cases hr:(decide (-(2:Int)^63<=Builtin.Tuple.tupleHashOf (jz ds)) && decide (Builtin.Tuple.tupleHashOf (jz ds) < 2^63))=true
  ·rw[JW hr];rw[JW hr] at h
   exact JJ (by simpa [Nat.add_assoc] using h)
  ·rw[JZ hr];rw[JZ hr] at h
   exact JY (wpAny_rule (JJ (by simpa [Nat.add_assoc] using h)))
 | 0,.tuple _,_,_,_,_,_,hn,_,_,_=>by simp[nest] at hn
 | n,.bool _,_,_,_,_,_,hn,_,_,_=>by cases n <;> simp[nest] at hn
 | n,.str _,_,_,_,_,_,hn,_,_,_=>by cases n <;> simp[nest] at hn
 | n,.list _,_,_,_,_,_,hn,_,_,_=>by cases n <;> simp[nest] at hn
 | n,.dict _,_,_,_,_,_,hn,_,_,_=>by cases n <;> simp[nest] at hn
theorem rF:∀(n:Nat) (ds:List PyData) {A:Around} {E:Z5} {s:Shared} {vs:List Value} {Q:Array Int->Shared->Prop} (b0:Array Int),nests n ds=true->gQ s.heap ds vs->A.units+n < cLine->
  (∀b:Array Int,b.toList=b0.toList++jz ds->Q b {s with toks:=s.toks+tH ds})->
  wpAny (!3) A (forIn vs b0 λx r=>do let y←pyHash x;pure (ForInStep.yield (r.push y))) Q E s
 | _,[],A,E,s,vs,Q,b0,_,x,_,h=>by
  simp only[gQ] at x;subst x
  rw[List.forIn_nil]
  exact JJ (h b0 (by simp[jz]))
 | n,d :: ds,A,E,s,vs,Q,b0,hn,x,hu,h=>by
  simp only[gQ] at x
  obtain⟨v,r,rfl,h1,h2⟩:=x
  rw[nests,X9] at hn
  rw[Jj]
  refine JY (JY (yW n d hn.1 h1 hu (JJ ?_)))
  refine rF n ds (s:={s with toks:=s.toks+vf d}) (b0.push (fJ d)) hn.2 h2 hu λb hb=> ?_
  have:=h b (by rw[hb];simp[jz])
  simpa [tH,Nat.add_assoc] using this
end
mutual
theorem vg:∀(n:Nat) (d:PyData) {A:Around} {E:Z5} {s:Shared} {v:Value} {Q:Bool->Shared->Prop},nest n d=true->gK s.heap d v->Q true s->wpAny (!3) A (eqIsQuiet n v) Q E s
 | n,.int i,A,E,s,v,Q,_,x,h=>by
  simp only[gK] at x;obtain⟨t,rfl⟩:=x
  rw[eqIsQuiet_byValue n rfl];exact JJ h
 | n,.none,A,E,s,v,Q,_,x,h=>by
  simp only[gK] at x;subst x
  rw[eqIsQuiet_byValue n rfl];exact JJ h
 | n+1,.tuple ds,A,E,s,v,Q,hn,x,h=>by
  rw[nest] at hn
  simp only[gK] at x
  obtain⟨a,o,items,m,rfl,ho,hc,hd,hi⟩:=x
  have hT:s.TypeIs (.ref a) "tuple":=⟨o,ho,hc⟩
  unfold eqIsQuiet
  refine JY (Z6 hT F.slot_tuple_eq.lookup ?_);dsimp only
  refine JY (wpAny_isInstance hT isSubtype_tuple_tuple ?_)
  simp only[Bool.not_true,XU,if_false]
  refine JY (wpAny_seqItems ho hd ?_);refine JY ?_
  show wpAny (!3) A (forIn items _ _) _ E s
  rw[←Array.forIn_toList]
  exact rG n ds hn hi (JJ h)
 | 0,.tuple _,_,_,_,_,_,hn,_,_=>by simp[nest] at hn
 | n,.bool _,_,_,_,_,_,hn,_,_=>by cases n <;> simp[nest] at hn
 | n,.str _,_,_,_,_,_,hn,_,_=>by cases n <;> simp[nest] at hn
 | n,.list _,_,_,_,_,_,hn,_,_=>by cases n <;> simp[nest] at hn
 | n,.dict _,_,_,_,_,_,hn,_,_=>by cases n <;> simp[nest] at hn
theorem rG:∀(n:Nat) (ds:List PyData) {A:Around} {E:Z5} {s:Shared} {vs:List Value} {Q:Option Bool×PUnit->Shared->Prop},nests n ds=true->gQ s.heap ds vs->Q (none,PUnit.unit) s->
  wpAny (!3) A (forIn vs ((none,PUnit.unit):Option Bool×PUnit) λx r=>do let y←eqIsQuiet n x;if (!y)=true then pure (ForInStep.done (some false,PUnit.unit)) else pure (ForInStep.yield (none,PUnit.unit))) Q E s
 | _,[],A,E,s,vs,Q,_,x,h=>by
  simp only[gQ] at x;subst x
  rw[List.forIn_nil]
  exact JJ h
 | n,d :: ds,A,E,s,vs,Q,hn,x,h=>by
  simp only[gQ] at x
  obtain⟨v,r,rfl,h1,h2⟩:=x
  rw[nests,X9] at hn
  rw[Jj]
  refine JY (JY (vg n d hn.1 h1 ?_))
  simp only[Bool.not_true,XU,if_false]
  exact JJ (rG n ds hn.2 h2 h)
end
end
section
variable {prog:Program}{w:World}{K:Type}[DecidableEq K]{knd:HeapKind prog w K}{A:Around}{E:Z5}{s:Shared}
theorem Mv {d a:Addr}{xs:List (K×Addr×Value)}{k:K}{v:Value}{Q:Unit->Shared->Prop}(hu:knd.room A)(hkey:knd.is s.heap k a)(hm:s.heap.DictOfH knd d xs)(hsz:xs.length<=sizeLine)
  (hQ:∀h',h'.DictOfH knd d (storedH xs k a v)->Heap.SameBut d s.heap h'->Q () {s with heap:=h'}):wpAny (!3) A (dictSetHashed d (.ref a) (knd.hash k) v) Q E s:=by
 obtain⟨o,es,ep,ho,hc,hd,he,his,hn⟩:=hm
 have hes:es.size<=sizeLine:=by rw[size_of_entries he];exact hsz
 unfold dictSetHashed
 refine Z9 ?_
 refine JY (wpAny_dictFind_heap hu hkey ho hd he his hn (λhno=> ?_) λj p hj=> ?_)
 ·have h1:=storedH_new (atKey_none_of_get hno) a v
  refine JY (wpAny_rule (wpAny_updateDictKeys (hz:=hes) ho hd (hQ _ ⟨_,_,ep+1,Xw _ ho (Obj.isFreed_of_dict (Obj.data_mapDictKeys hd _)),hc.mapDictKeys _,Obj.data_mapDictKeys hd _,?_,λx hx=> ?_,?_⟩ (Heap.SameBut.update ..))))
  ·rw[h1];simp[he,entryOfKey]
  ·rw[h1] at hx
   rcases Kk.mp hx with hx | hx
   ·exact knd.keeps (his x hx) ho hd (Heap.SameBut.update ..)
   ·rw[K7.mp hx];exact knd.keeps hkey ho hd (Heap.SameBut.update ..)
  ·rw[h1,X0,Xj]
   refine⟨hn,KU.mpr ⟨by simp,X3⟩,λx hx y hy e=>not_mem_keys_of_get hno ?_⟩
   have hy':y=k:=by simpa using hy
   rw[←hy',←e];exact hx
 ·have h1:=storedH_old (atKey_of_get hn hj) a v
  refine JY (wpAny_rule (JY (wpAny_updateDict ho hd (wpAny_point (hQ _ ⟨_,_,ep,Xw _ ho (Obj.isFreed_of_dict (Obj.data_mapDict hd _)),hc.mapDict _,Obj.data_mapDict hd _,?_,λx hx=> ?_,?_⟩ (Heap.SameBut.update ..))))))
  ·rw[h1]
   have:=modify_map_putAt (entryOfKey knd) (λe:DictEntry=>{e with val:=v}) k v (λ_ _=>rfl) hn hj
   rw[←he] at this;obtain⟨l⟩:=es;simpa using this
  ·rw[h1] at hx
   obtain⟨y,hy,rfl⟩:=Kw.mp hx
   unfold putAt;split <;> exact knd.keeps (his y hy) ho hd (Heap.SameBut.update ..)
  ·rw[h1,keys_map_putAt];exact hn
def fc (xs more:List (K×Addr×Value)):List (K×Addr×Value):=more.foldl (λacc x=>storedH acc x.1 x.2.1 x.2.2) xs
theorem vh (xs:List (K×Addr×Value))(k:K)(a:Addr)(v:Value):(storedH xs k a v).length<=xs.length+1:=by
 unfold storedH;split
 ·rw[K4];omega
 ·rw[K2,X5];exact K1 _
theorem nC:∀(more xs:List (K×Addr×Value)),(fc xs more).length<=xs.length+more.length
 | [],xs=>K1 _
 | x :: more,xs=>by
  have h1:=nC more (storedH xs x.1 x.2.1 x.2.2)
  have h2:=vh xs x.1 x.2.1 x.2.2
  show(fc (storedH xs x.1 x.2.1 x.2.2) more).length<=_
  rw[Kz];omega
theorem tJ {xs more:List (K×Addr×Value)}{i:Nat}{x:K×Addr×Value}(h:more[i]? =some x):fc xs (more.take (i+1))=storedH (fc xs (more.take i)) x.1 x.2.1 x.2.2:=by
 unfold fc;rw[J8,h,List.foldl_append];rfl
theorem Hu {nm:String}{d o:Addr}{xs more:List (K×Addr×Value)}{Q:Unit->Shared->Prop}(hu:knd.room A)(hdo:d≠o)(hoS:(o==sysModules)=false)(hx0:xs≠[])
  (hd:s.heap.DictOfH knd d xs) (ho:s.heap.DictOfH knd o more) (hsz:xs.length+more.length<=sizeLine)
  (hQ:∀h',h'.DictOfH knd d (fc xs more)->Heap.SameBut d s.heap h'->Q () {s with heap:=h'}):wpAny (!3) A (Builtin.Dict.mergeDict nm d o) Q E s:=by
 obtain⟨od,esd,epd,hod,hcd,hdd,hed,Mw,hnd⟩:=id hd
 obtain⟨oo,eso,epo,hoo,hco,hdo',heo,Hv,hno⟩:=id ho
 have hlen:eso.size=more.length:=size_of_entries heo
 unfold Builtin.Dict.mergeDict
 rw[JZ (by simpa using hdo)]
 unfold Builtin.Dict.showsAll
 rw[JZ (by rw[hoS];exact K5)]
 refine JY (JJ ?_);refine JY (wpAny_dictEntries hoo hdo' ?_)
 have loop:wpAny (!3) A (do
   let epoch←dictEpoch o;let l←dictEntries o
   forIn [:l.size] PUnit.unit λi (_:PUnit)=>(do
     let l'←dictEntries o
     match l'[i]? with
      | some e=>do
       holding [e.key,e.val] (dictSetHashed d e.key e.hash e.val)
       let ep'←dictEpoch o
       if (
         ep' !=epoch)=true then do
         (unsupported (toString nm++toString ":source-changed-during-callback"):Sem PUnit);pure (ForInStep.yield PUnit.unit)
        else pure (ForInStep.yield PUnit.unit)
      | _=>do
       (unsupported "internal:dict-merge":Sem PUnit);pure (ForInStep.yield PUnit.unit):Sem (ForInStep PUnit))
   pure ()) Q E s:=by
  refine JY (wpAny_dictEpoch hoo hdo' ?_);refine JY (wpAny_dictEntries hoo hdo' ?_);refine JY ?_
  rw[Std.Legacy.Range.forIn_eq_forIn_range'];simp only[Std.Legacy.Range.size,Nat.sub_zero,Nat.add_sub_cancel,Nat.div_one]
  refine wpAny_forIn_list _ (λrest _ s'=>∃h' i,s'={s with heap:=h'}/\rest=List.range' i (eso.size - i)/\i<=eso.size/\h'.DictOfH knd d (fc xs (more.take i))/\h'.get? o=some oo/\Heap.SameBut d s.heap h')
   _ ?_ ?_ _ _ ⟨s.heap,0,rfl,by simp,Xx _,by simpa [fc] using hd,hoo,Heap.SameBut.refl _ _⟩
  ·rintro x rest b s' ⟨h',i,rfl,hr,hi,hd',hoo',hs'⟩
   have hlt:i < eso.size:=Nat.lt_of_not_le λh=>by rw[Nat.sub_eq_zero_of_le h] at hr;simp at hr
   obtain⟨rfl,hrest⟩:x=i/\rest=List.range' (i+1) (eso.size - (i+1)):=by
    rw[show eso.size - i=(eso.size - (i+1))+1 by omega,List.range'_succ] at hr;injection hr with h1 h2;exact⟨h1,h2⟩
   refine JY (wpAny_dictEntries hoo' hdo' ?_)
   have Nr:x < more.length:=by omega
   have hkv:more[x]? =some more[x]:=K3 Nr
   have hen:eso[x]? =some (entryOfKey knd more[x]):=by rw[entry_at heo x,hkv];rfl
   rw[hen]
   have hmx:(fc xs (more.take x)).length<=sizeLine:=by
    have e1:=nC (more.take x) xs
    rw[Xk] at e1;omega
   have hkx:knd.is h' more[x].1 more[x].2.1:=knd.keeps (Hv _ (Uv Nr)) hod hdd hs'
   refine JY (Z9 (Mv (s:={s with heap:=h'}) hu hkx hd' hmx λh'' hd'' hs''=> ?_))
   have hoo'':h''.get? o=some oo:=(hs''.2 o (Ne.symm hdo)).trans hoo'
   refine JY (wpAny_dictEpoch hoo'' hdo' ?_)
   rw[JZ (by simp)]
   exact JJ ⟨h'',x+1,rfl,hrest,hlt,by rw[tJ hkv];exact hd'',hoo'',hs'.trans hs''⟩
  ·rintro b s' ⟨h',i,rfl,hr,hi,hd',hoo',hs'⟩
   have hin:i=eso.size:=Jy hi (Nat.le_of_not_lt λh=>by
    rw[show eso.size - i=(eso.size - (i+1))+1 by omega,List.range'_succ] at hr;exact nomatch hr)
   refine JJ (hQ h' ?_ hs')
   rw[hin,hlen,J4] at hd';exact hd'
 dsimp only
 split
 ·refine JY (wpAny_dictEntries hod hdd ?_)
  split
  ·rename_i hemp
   have h0:esd= #[]:=Array.isEmpty_iff.mp hemp
   rw[h0] at hed
   exact absurd (by simpa using hed) hx0
  ·exact loop
 ·exact loop
theorem pb {α:Type}(f:α->Int)(c:Int):∀(l:List α),(l.map f).Nodup->(l.filter λx=>f x==c).length<=1
 | [],_=>Xx _
 | x :: l,h=>by
  rw[KJ,KU] at h
  rw[Y5]
  by_cases hx:(f x==c)=true
  ·rw[JW hx,Kz]
   have:l.filter (λx=>f x==c)=[]:=List.filter_eq_nil_iff.mpr λy hy hz=>h.1 (by
    rw[eq_of_beq hx,←eq_of_beq hz];exact Yu hy)
   rw[this];exact K1 _
  ·rw[JZ hx];exact pb f c l h.2
theorem Kc {nm:String}{d o:Addr}{more:List (K×Addr×Value)}{Q:Unit->Shared->Prop}(hdo:d≠o)(hoS:(o==sysModules)=false)(hm0:more≠[])
  (hT:∀x∈more,s.TypeIs (.ref x.2.1) "tuple") (hh:(more.map λx=>knd.hash x.1).Nodup)
  (hd:s.heap.DictOfH knd d []) (ho:s.heap.DictOfH knd o more) (hsz:more.length<=sizeLine)
  (hQ:∀h',h'.DictOfH knd d more->Heap.SameBut d s.heap h'->Q () {s with heap:=h'}):wpAny (!3) A (Builtin.Dict.mergeDict nm d o) Q E s:=by
 obtain⟨od,esd,epd,hod,hcd,hdd,hed,Mw,hnd⟩:=id hd
 obtain⟨oo,eso,epo,hoo,hco,hdo',heo,Hv,hno⟩:=id ho
 have hlen:eso.size=more.length:=size_of_entries heo
 have h0:esd= #[]:=by obtain⟨l⟩:=esd;simpa using hed
 subst h0
 unfold Builtin.Dict.mergeDict
 rw[JZ (by simpa using hdo)]
 unfold Builtin.Dict.showsAll
 rw[JZ (by rw[hoS];exact K5)]
 refine JY (JJ ?_);refine JY (wpAny_dictEntries hoo hdo' ?_)
 have few:(eso.all λe=>(keyPart e.key).isSome)=false:=by
  obtain⟨x,r,rfl⟩:=List.exists_cons_of_ne_nil hm0
  obtain⟨l⟩:=eso
  simp only at heo
  subst heo
  simp[entryOfKey,keyPart]
 dsimp only
 rw[few]
 simp only[Bool.and_false,Bool.not_false,if_true]
 refine JY (wpAny_dictEntries hod hdd ?_)
 rw[JW (show(#[]:Array DictEntry).isEmpty=true from rfl)]
 refine JY ?_
 unfold Builtin.Dict.entriesForEmpty
 refine JY (wpAny_dictEntries hoo hdo' ?_);refine JY ?_
 rw[←Array.forIn_toList]
 refine wpAny_forIn_list _ (λrest _ s'=>s'=s/\∀e∈rest,e∈eso.toList) _ ?_ ?_ _ _ ⟨rfl,λe he=>he⟩
 ·rintro e rest b s' ⟨rfl,hr⟩
  obtain⟨x,hx,rfl⟩:∃x∈more,entryOfKey knd x=e:=by
   have:=hr e K8
   rw[heo] at this
   obtain⟨x,hx,he⟩:=Kw.mp this
   exact⟨x,hx,he⟩
  have hT1:=hT x hx
  have hone:¬ (eso.filter λy=>y.hash==(entryOfKey knd x).hash).size > 1:=by
   have e1:(eso.toList.map DictEntry.hash).Nodup:=by rw[heo,KQ];exact hh
   have:=pb DictEntry.hash (entryOfKey knd x).hash eso.toList e1
   rw[←Kq,Array.toList_filter];omega
  unfold Builtin.Dict.quietEq
  refine JY ?_
  show wpAny (!3) A (specialOf (.ref x.2.1) "__eq__" >>=_) _ E _
  refine JY (Z6 hT1 F.slot_tuple_eq.lookup (JJ ?_))
  rw[show((some (Value.builtin "tuple.__eq__")==some (Value.builtin "object.__eq__"))=false) by decide]
  simp only[Bool.not_false,if_true]
  rw[JZ hone]
  exact JJ ⟨rfl,λe he=>hr e (K9 _ he)⟩
 ·rintro b s' ⟨rfl,_⟩
  refine JJ ?_
  have hne:eso.isEmpty=false:=by
   cases hz:eso.isEmpty with
   | false=>rfl
   | true=>rw[Array.isEmpty_iff.mp hz] at hlen;exact absurd (Yz.mp hlen.symm) hm0
  rw[hne]
  simp only[Bool.not_false,if_true]
  refine JY (wpAny_updateDictKeysTo hod hdd (JJ (hQ _ ⟨_,_,epd+1,Xw _ hod (Obj.isFreed_of_dict (Obj.data_mapDictKeys hdd _)),hcd.mapDictKeys _,Obj.data_mapDictKeys hdd _,heo,λx hx=>knd.keeps (Hv x hx) hod hdd (Heap.SameBut.update ..),hno⟩ (Heap.SameBut.update ..))) (!1))
end
mutual
theorem gK.keep {h h':Heap}(k:∀b o items n,h.get? b=some o->o.data= .seq items n->h'.get? b=some o):∀(d:PyData) (v:Value),gK h d v->gK h' d v
 | .int i,v,x=>by simp only[gK] at x⊢;exact x
 | .none,v,x=>by simp only[gK] at x⊢;exact x
 | .tuple ds,v,x=>by
  simp only[gK] at x⊢
  obtain⟨a,o,items,n,rfl,h1,h2,h3,h4⟩:=x
  exact⟨a,o,items,n,rfl,k a o items n h1 h3,h2,h3,gQ.keep k ds _ h4⟩
 | .bool _,v,x=>by simp only[gK] at x
 | .str _,v,x=>by simp only[gK] at x
 | .list _,v,x=>by simp only[gK] at x
 | .dict _,v,x=>by simp only[gK] at x
theorem gQ.keep {h h':Heap}(k:∀b o items n,h.get? b=some o->o.data= .seq items n->h'.get? b=some o):∀(ds:List PyData) (vs:List Value),gQ h ds vs->gQ h' ds vs
 | [],vs,x=>by simp only[gQ] at x⊢;exact x
 | d :: ds,vs,x=>by
  simp only[gQ] at x⊢
  obtain⟨v,r,rfl,h1,h2⟩:=x
  exact⟨v,r,rfl,gK.keep k d v h1,gQ.keep k ds r h2⟩
end
def NK:={ds:List PyData // nests 7 ds=true}
noncomputable instance:DecidableEq NK:=λ_ _=>Classical.propDecidable _
def NK.d (k:NK):PyData:=.tuple k.1
theorem NK.n (k:NK):nest 8 k.d=true:=by rw[NK.d,nest];exact k.2
theorem NK.inj {x y:NK}(h:x.d=y.d):x=y:=Subtype.ext (PyData.tuple.inj h)
noncomputable def bE (prog:Program)(w:World):HeapKind prog w NK where
 is:=λh k a=>gK h k.d (.ref a)
 hash:=λk=>fJ k.d
 draws:=λk=>vf k.d
 room:=λA=>A.units+10 < cLine
 inj:=λ{h a x y} hx hy=>NK.inj (SeqAt.Reads.unique _ _ _ _ _ (jm 8 _ x.n) (gK.reads _ _ hx) (gK.reads _ _ hy))
 keeps:=λ{h h' k a d o es ep} x ho hd hs=>gK.keep (λb ob items n hb hdb=>(hs.2 b λe=>by subst e;rw[ho] at hb;cases hb;rw[hd] at hdb;cases hdb).trans hb) _ _ x
 pyHash:=λ{A E s k a Q} hu x h=>yW 8 k.d k.n x (!1) h
 eqBool:=λ{A E s x y a b Q} hu hx hy h=>by
  have h1:=SeqAt.eqAt_reads x.d y.d A s (.ref a) (.ref b) [] [] (gK.reads _ _ hx) (gK.reads _ _ hy) (jm 8 _ x.n) (jm 8 _ y.n) (by
   have:=o9 8 _ x.n
   have:min x.d.depth y.d.depth<=9:=KY (Nat.min_le_left _ _) this
   omega)
  refine h1 prog w E Q ?_
  have e:PyData.eqv x.d y.d=decide (x=y):=by
   rw[Yj,JU]
   refine⟨λz=>NK.inj (o_ 8 _ _ x.n y.n z),λz=> ?_⟩
   rw[z];exact SeqAt.eqv_refl _ (jm 8 _ y.n)
  rw[e];exact h
 quiet:=λ{A E s k a Q} x h=>vg 8 k.d k.n x h
section
variable {prog:Program}{w:World}{K:Type}[DecidableEq K]{knd:HeapKind prog w K}{A:Around}{E:Z5}{s:Shared}
theorem tK {h h':Heap}{d:Addr}{xs:List (K×Addr×Value)}(hm:h.DictOfH knd d xs)(k:∀b o,h.get? b=some o->h'.get? b=some o)(hi:∀x∈xs,knd.is h' x.1 x.2.1):h'.DictOfH knd d xs:=by
 obtain⟨o,es,ep,ho,hc,hd,he,his,hn⟩:=hm
 exact⟨o,es,ep,k _ _ ho,hc,hd,he,hi,hn⟩
theorem Ke {o:Addr}{more:List (K×Addr×Value)}{Q:Z5}(hoS:(o==sysModules)=false)(ho:s.heap.DictOfH knd o more)(hm0:more≠[])(hsz:more.length<=sizeLine)
  (hT:∀x∈more,s.TypeIs (.ref x.2.1) "tuple") (hh:(more.map λx=>knd.hash x.1).Nodup)
  (hi:∀x∈more,knd.is (s.heap.push {cls:=.type "dict",data:=.dict #[]}) x.1 x.2.1)
  (h:∀h',h'.DictOfH knd s.heap.objs.size more->Heap.SameBut s.heap.objs.size (s.heap.push {cls:=.type "dict",data:=.dict #[]}) h'->Q (.ref s.heap.objs.size) {s with heap:=h'}) :
  wpAny (!3) A (call (.type "dict") [.ref o]) Q E s:=by
 refine callType_codes (Q₁:=λobj s₁=>obj= .ref s.heap.objs.size/\s₁={s with heap:=s.heap.push {cls:=.type "dict",data:=.dict #[]}}) F.kt_called_dict (F.kt_typeCall_dict_1 _) F.entry_dict_init (kt_code_dict_new _ ⟨rfl,rfl⟩) λobj s₁ hs₁=> ?_
 obtain⟨rfl,rfl⟩:=hs₁
 have hk:∀b u,s.heap.get? b=some u->(s.heap.push {cls:=.type "dict",data:=.dict #[]}).get? b=some u:=λb u e=>K6 _ e
 have hnew:(s.heap.push {cls:=.type "dict",data:=.dict #[]}).DictOfH knd s.heap.objs.size []:=Heap.DictOfH.new s.heap
 have ho':=tK ho hk hi
 have hdo:s.heap.objs.size≠o:=by
  obtain⟨_,_,_,hg,_⟩:=ho
  exact λe=>absurd (Kv hg) (by rw[e];exact U5 _)
 have hT1:Shared.TypeIs {s with heap:=s.heap.push {cls:=.type "dict",data:=.dict #[]}} (.ref s.heap.objs.size) "dict":=hnew.typeIs (s:={s with heap:=s.heap.push {cls:=.type "dict",data:=.dict #[]}})
 have hT2:Shared.TypeIs {s with heap:=s.heap.push {cls:=.type "dict",data:=.dict #[]}} (.ref o) "dict":=ho'.typeIs (s:={s with heap:=s.heap.push {cls:=.type "dict",data:=.dict #[]}})
 refine⟨hT1,F.args_dict_init_2 _ _,?_⟩
 unfold Builtin.«dict.__init__»;refine JY ?_
 unfold Builtin.Dict.selfAndRest;refine JY (wpAny_notOrdered_dict hT1 ?_)
 show wpAny (!3) _ (pure (s.heap.objs.size,[Value.ref o])) _ _ _;refine JJ ?_
 show wpAny (!3) _ (Builtin.Dict.updateFrom "dict.__init__" s.heap.objs.size (.ref o) [] .none) _ _ _;unfold Builtin.Dict.updateFrom
 refine JY (wpAny_typeOf hT2 ?_);rw[JZ (by decide)]
 refine JY ?_;unfold Builtin.Dict.merge;refine JY ?_;unfold Builtin.Dict.readDirectly
 refine JY (wpAny_isInstance hT2 isSubtype_dict_dict ?_);simp only[Bool.not_true,XU,if_false]
 refine JY (Z6 hT2 F.slot_dict_iter.lookup (JJ ?_));simp only[beq_self_eq_true,if_true];refine JY (JJ ?_)
 refine Kc (s:={s with heap:=s.heap.push {cls:=.type "dict",data:=.dict #[]}}) hdo hoS hm0 (λx hx=>let ⟨ob,e,c⟩:=hT x hx;⟨ob,hk _ _ e,c⟩) hh hnew ho' hsz λh' hd' hs'=> ?_
 show wpAny (!3) _ (Builtin.Dict.addKeywords s.heap.objs.size [] >>=_) _ _ _
 exact JY (JJ (JJ ⟨rfl,h h' hd' hs'⟩))
theorem Ej (d o:Addr)(hdo:d≠o)(hoS:(o==sysModules)=false) :
  MeetsIn prog w (Builtin.«dict.update» ⟨[.ref d,.ref o],[]⟩) (λA R s=>knd.room A.in1/\∃xs more,xs≠[]/\s.heap.DictOfH knd d xs/\s.heap.DictOfH knd o more/\xs.length+more.length<=sizeLine/\
   ∀h',h'.DictOfH knd d (fc xs more)->Heap.SameBut d s.heap h'->R (.ok (.ret .none)) {s with heap:=h'}) :=
 .of_wp λA R s ⟨hu,xs,more,hx0,hd,ho,hsz,h⟩=>by
  unfold Builtin.«dict.update»;refine JY ?_
  unfold Builtin.Dict.selfAndRest;refine JY (wpAny_notOrdered_dict hd.typeIs ?_)
  show wpAny (!3) _ (pure (d,[Value.ref o])) _ _ s;refine JJ ?_
  show wpAny (!3) _ (Builtin.Dict.updateFrom "dict.update" d (.ref o) [] .none) _ _ s;unfold Builtin.Dict.updateFrom
  refine JY (wpAny_typeOf ho.typeIs ?_);rw[JZ (by decide)]
  refine JY ?_;unfold Builtin.Dict.merge;refine JY ?_;unfold Builtin.Dict.readDirectly
  refine JY (wpAny_isInstance ho.typeIs isSubtype_dict_dict ?_);simp only[Bool.not_true,XU,if_false]
  refine JY (Z6 ho.typeIs F.slot_dict_iter.lookup (JJ ?_));simp only[beq_self_eq_true,if_true];refine JY (JJ ?_)
  refine Hu hu hdo hoS hx0 hd ho hsz λh' hd' hs'=> ?_
  show wpAny (!3) _ (Builtin.Dict.addKeywords d [] >>=_) _ _ _
  exact JY (JJ (JJ ⟨.none,rfl,h h' hd' hs'⟩))
end
end L2
namespace L2
open PySem PySem.Spec PyProof.Rows Y
section
variable {X:Cx}{pins:List (Addr×Obj)}{σ:St}{H:Hp}{s:Shared}
mutual
theorem aH.BR (I:Inv X pins σ H s):∀(n:Nat) (d:PyData) (v:V) (u:Value),nest n d=true->aH X.K H d v->RelV v u->gK s.heap d u
 | n,.int i,v,u,_,h,r=>by
  have:=aD h
  subst this
  obtain⟨t,rfl⟩:=r
  simp only[gK];exact⟨t,rfl⟩
 | n,.none,v,u,_,h,r=>by
  have:=ll h
  subst this
  cases r
  simp only[gK]
 | n+1,.tuple ds,v,u,hn,h,r=>by
  rw[Y.nest] at hn
  obtain⟨a,vs,rfl,h1,h2⟩:=aL h
  cases r
  obtain⟨its,rv,⟨o,e,hc,m,hd⟩,_⟩:=I.tuple h1
  simp only[gK]
  exact⟨a,o,its.toArray,m,rfl,e,hc,hd,by simpa using aw.BR I n ds vs its hn h2 rv⟩
 | 0,.tuple _,_,_,hn,_,_=>by simp[Y.nest] at hn
 | n,.bool _,_,_,hn,_,_=>by cases n <;> simp[Y.nest] at hn
 | n,.str _,_,_,hn,_,_=>by cases n <;> simp[Y.nest] at hn
 | n,.list _,_,_,hn,_,_=>by cases n <;> simp[Y.nest] at hn
 | n,.dict _,_,_,hn,_,_=>by cases n <;> simp[Y.nest] at hn
theorem aw.BR (I:Inv X pins σ H s):∀(n:Nat) (ds:List PyData) (vs:List V) (us:List Value),nests n ds=true->aw X.K H ds vs->Vals vs us->gQ s.heap ds us
 | n,[],vs,us,_,h,r=>by
  simp only[aw] at h;subst h;cases r;simp only[gQ]
 | n,d :: ds,vs,us,hn,h,r=>by
  rw[nests,X9] at hn
  simp only[aw] at h
  obtain⟨v,w,rfl,h1,h2⟩:=h
  cases r with
  | cons r1 r2=>
   simp only[gQ]
   exact⟨_,_,rfl,aH.BR I n d v _ hn.1 h1 r1,aw.BR I n ds w _ hn.2 h2 r2⟩
end
end
section
variable {K:Frag}{H:Hp}
theorem g7:∀{kvs:List (PyData×PyData)} {ks:List (PyData×V×V)},aR K H kvs ks->ks.map (·.1)=kvs.map (·.1)
 | [],ks,t=>by simp only[aR] at t;subst t;rfl
 | (k,d) :: r,ks,t=>by
  simp only[aR] at t
  obtain⟨kv,v,q,rfl,_,_,h3⟩:=t
  rw[KJ,KJ,g7 h3]
end
theorem lZ {k:PyData}(h:da k=true):∃ds,k= .tuple ds/\nests 7 ds=true:=by
 cases k <;> first | exact⟨_,rfl,h⟩ | exact absurd h (by simp[da])
mutual
theorem BS:∀(n:Nat) (d:PyData),nest n d=true->bj d=true
 | _,.int _,_=>rfl
 | _,.none,_=>rfl
 | n+1,.tuple ds,x=>by rw[Y.nest] at x;rw[bj];exact mY n ds x
 | 0,.tuple _,x=>by simp[Y.nest] at x
 | n,.bool _,x=>by cases n <;> simp[Y.nest] at x
 | n,.str _,x=>by cases n <;> simp[Y.nest] at x
 | n,.list _,x=>by cases n <;> simp[Y.nest] at x
 | n,.dict _,x=>by cases n <;> simp[Y.nest] at x
theorem mY:∀(n:Nat) (ds:List PyData),nests n ds=true->aq ds=true
 | _,[],_=>rfl
 | n,d :: ds,x=>by
  rw[nests,X9] at x
  rw[aq,BS n d x.1,mY n ds x.2];rfl
end
theorem l4 {k:PyData}(h:da k=true):bj k=true:=by
 obtain⟨ds,rfl,h⟩:=lZ h
 rw[bj];exact mY 7 ds h
theorem xC (x y:NK):PyData.eqv x.d y.d=decide (x=y):=by
 rw[Yj,JU]
 refine⟨λz=>NK.inj (o_ 8 _ _ x.n y.n z),λz=> ?_⟩
 rw[z];exact SeqAt.eqv_refl _ (jm 8 _ y.n)
def Rk (q:PyData×V×V)(x:NK×Addr×Value):Prop:=q.1=x.1.d/\q.2.1= .ref x.2.1/\RelV q.2.2 x.2.2
theorem tM:∀{ks:List (PyData×V×V)} {xs:List (NK×Addr×Value)},Paired Rk ks xs->ks.map (·.1)=xs.map (·.1.d)
 | _,_,.nil=>rfl
 | _,_,.cons r t=>by rw[KJ,KJ,r.1,tM t]
theorem Paired.len {α β:Type}{F:α->β->Prop}:∀{l:List α} {m:List β},Paired F l m->l.length=m.length
 | _,_,.nil=>rfl
 | _,_,.cons _ t=>by rw[Kz,Kz,Paired.len t]
theorem vi {ks:List (PyData×V×V)}{xs:List (NK×Addr×Value)}(p:Paired Rk ks xs):(ks.map (·.1)).Nodup↔(xs.map (·.1)).Nodup:=by
 rw[tM p]
 have e:xs.map (·.1.d)=(xs.map (·.1)).map NK.d:=by rw[KQ];rfl
 rw[e]
 exact⟨λh=>List.Pairwise.of_map _ (λa b hab e=>hab (by rw[e])) h,λh=>List.Pairwise.map _ (λa b hab e=>hab (NK.inj e)) h⟩
section
variable {X:Cx}{pins:List (Addr×Obj)}{σ:St}{H:Hp}{s:Shared}
theorem BU (I:Inv X pins σ H s):∀{kvs:List (PyData×PyData)} {ks:List (PyData×V×V)} {es:List DictEntry},aR X.K H kvs ks->(∀k∈ks,da k.1=true)->
  Paired (λ(k:PyData×V×V) (e:DictEntry)=>e.hash=fJ k.1/\RelV k.2.1 e.key/\RelV k.2.2 e.val) ks es->
  ∃xs,Paired Rk ks xs/\es=xs.map (entryOfKey (bE X.prog X.w))/\∀x∈xs,gK s.heap x.1.d (.ref x.2.1)
 | [],ks,es,t,_,p=>by
  simp only[aR] at t;subst t;cases p
  exact⟨[],.nil,rfl,λx hx=>by cases hx⟩
 | (k,d) :: r,ks,es,t,hk,p=>by
  simp only[aR] at t
  obtain⟨kv,v,q,rfl,h1,h2,h3⟩:=t
  cases p with
  | @cons _ e _ es' hp pt=>
   obtain⟨xs,p1,e1,k1⟩:=BU I h3 (λx hx=>hk x (K9 _ hx)) pt
   obtain⟨ds,rfl,hn⟩:=lZ (hk _ K8)
   obtain⟨b,vs,rfl,g1,g2⟩:=aL h1
   obtain⟨eh,ek,ev⟩:=e
   obtain⟨q1,q2,q3⟩:=hp
   cases(show ek=Value.ref b from q2)
   have Oa:eh=fJ (.tuple ds):=q1
   subst Oa
   refine⟨(⟨ds,hn⟩,b,ev) :: xs,.cons ⟨rfl,rfl,q3⟩ p1,by rw[e1];rfl,λx hx=> ?_⟩
   rcases K0.mp hx with rfl | hx
   ·exact aH.BR I 8 (.tuple ds) (.ref b) (.ref b) (by rw[Y.nest];exact hn) h1 rfl
   ·exact k1 x hx
theorem tP {P:PyData->Bool}{kvs:List (PyData×PyData)}{ks:List (PyData×V×V)}(t:aR X.K H kvs ks)(h:(kvs.all λp=>P p.1)=true):∀k∈ks,P k.1=true:=λk hk=>by
 have:k.1∈kvs.map (·.1):=by rw[←g7 t];exact Yu hk
 obtain⟨p,hp,e⟩:=Kw.mp this
 rw[←e];exact Y3.mp h p hp
theorem jE (I:Inv X pins σ H s){a:Addr}{kvs:List (PyData×PyData)}{ks:D_}(e:Rd H a (.dct a ks))(t:aR X.K H kvs ks.1)(ht:gF kvs=true) :
  ∃xs,s.heap.DictOfH (bE X.prog X.w) a xs/\Paired Rk ks.1 xs/\(a==sysModules)=false/\ks.1.length<=sizeLine/\∀x∈xs,gK s.heap x.1.d (.ref x.2.1):=by
 obtain⟨⟨hl,hs,hk,hn,o,es,ho,hc,hd,p⟩,_⟩:=(show dG X.prog X.w H s.heap a (.dct a ks) from e.ok I.hok)
 obtain⟨xs,p1,e1,k1⟩:=BU I t (tP t ht) p
 exact⟨xs,⟨o,es,ks.2,ho,hc,hd,e1,k1,(vi p1).mp hn⟩,p1,hs,hl,k1⟩
theorem Inv.big' (I:Inv X pins σ H s):sysModules < s.heap.objs.size:=by
 have h:mainGlobals < s.heap.objs.size:=(I.mod.glob.keeps I.bk).lt
 exact Nat.lt_trans (by decide) h
end
theorem jF {P:Program}{w:World}{h':Heap}{a:Addr}:∀{ks:List (PyData×V×V)} {xs:List (NK×Addr×Value)},ks.length<=sizeLine->(a==sysModules)=false->Paired Rk ks xs->h'.DictOfH (bE P w) a xs->∃ep,oU a (ks,ep) h':=by
 intro ks xs hl hs p dd
 obtain⟨o,es,ep,ho,hc,hd,he,his,hn⟩:=dd
 have key:∀{ks:List (PyData×V×V)} {xs:List (NK×Addr×Value)},Paired Rk ks xs->(∀k∈ks,da k.1=true)/\Paired (λ(k:PyData×V×V) (e:DictEntry)=>e.hash=fJ k.1/\RelV k.2.1 e.key/\RelV k.2.2 e.val) ks (xs.map (entryOfKey (bE P w))):=by
  intro ks xs p
  induction p with
  | nil=>exact⟨(λk hk=>by cases hk),.nil⟩
  | @cons q x qs xs r t ih=>
   refine⟨λk hk=> ?_,?_⟩
   ·rcases K0.mp hk with rfl | hk
    ·rw[r.1];exact x.1.2
    ·exact ih.1 k hk
   ·exact .cons ⟨by rw[r.1];rfl,by rw[r.2.1];rfl,r.2.2⟩ ih.2
 obtain⟨k1,k2⟩:=key p
 exact⟨ep,hl,hs,.inl k1,(vi p).mpr hn,o,es,ho,hc,hd,by rw[he];exact k2⟩
theorem jG {P:Program}{w:World}{H:Hp}{h':Heap}{a:Addr}{ks:D_}(h:oU a ks h'):dG P w H h' a (.dct a ks):=by
 refine⟨h,?_,λh1 h2 q k=> ?_⟩
 ·obtain⟨_,_,_,_,o,_,ho,_⟩:=h;exact⟨o,ho⟩
 ·obtain⟨a1,a2,a3,a4,o,es,ho,r⟩:=q
  exact⟨a1,a2,a3,a4,o,es,k o ho,r⟩
def qD (q:PyData×V×V)(x:Int×Value):Prop:=q.1= .int x.1/\q.2.1= .int x.1/\RelV q.2.2 x.2
theorem vk:∀{ks:List (PyData×V×V)} {xs:List (Int×Value)},Paired qD ks xs->ks.map (·.1)=xs.map λx=>PyData.int x.1
 | _,_,.nil=>rfl
 | _,_,.cons r t=>by rw[KJ,KJ,r.1,vk t]
theorem rH {ks:List (PyData×V×V)}{xs:List (Int×Value)}(p:Paired qD ks xs):(ks.map (·.1)).Nodup↔(xs.map (·.1)).Nodup:=by
 rw[vk p]
 have e:(xs.map λx=>PyData.int x.1)=(xs.map (·.1)).map PyData.int:=by rw[KQ];rfl
 rw[e]
 exact⟨λh=>List.Pairwise.of_map _ (λa b hab e=>hab (by rw[e])) h,λh=>List.Pairwise.map _ (λa b hab e=>hab (PyData.int.inj e)) h⟩
theorem pc {k:PyData}(h:xu k=true):∃i,k= .int i:=by
 cases k <;> first | exact⟨_,rfl⟩ | exact absurd h (by simp[xu])
section
variable {X:Cx}{pins:List (Addr×Obj)}{σ:St}{H:Hp}{s:Shared}
theorem yX:∀{kvs:List (PyData×PyData)} {ks:List (PyData×V×V)} {es:List DictEntry},aR X.K H kvs ks->(∀k∈ks,xu k.1=true)->
  Paired (λ(k:PyData×V×V) (e:DictEntry)=>e.hash=fJ k.1/\RelV k.2.1 e.key/\RelV k.2.2 e.val) ks es->
  ∃xs,Paired qD ks xs/\Pairs (intKind X.prog X.w) es xs/\∀e∈es,∃k,(intKind X.prog X.w).is k e.key=true/\e.hash=(intKind X.prog X.w).hash k
 | [],ks,es,t,_,p=>by
  simp only[aR] at t;subst t;cases p
  exact⟨[],.nil,.nil,λe he=>by cases he⟩
 | (k,d) :: r,ks,es,t,hk,p=>by
  simp only[aR] at t
  obtain⟨kv,v,q,rfl,h1,h2,h3⟩:=t
  cases p with
  | @cons _ e _ es' hp pt=>
   obtain⟨xs,p1,e1,k1⟩:=yX h3 (λx hx=>hk x (K9 _ hx)) pt
   obtain⟨i,rfl⟩:=pc (hk _ K8)
   have:=aD h1
   subst this
   obtain⟨q1,⟨tk,q2⟩,q3⟩:=hp
   have hi:(intKind X.prog X.w).is i e.key=true:=by rw[q2];simp[intKind,Value.isInt]
   refine⟨(i,e.val) :: xs,.cons ⟨rfl,rfl,q3⟩ p1,.cons hi rfl e1,λx hx=> ?_⟩
   rcases K0.mp hx with z | z
   ·subst z;exact⟨i,hi,q1⟩
   ·exact k1 x z
theorem iH (I:Inv X pins σ H s){a:Addr}{kvs:List (PyData×PyData)}{ks:D_}(e:Rd H a (.dct a ks))(t:aR X.K H kvs ks.1)(ht:allI kvs=true) :
  ∃xs,s.heap.DictOf (intKind X.prog X.w) a xs/\Paired qD ks.1 xs/\(a==sysModules)=false/\ks.1.length<=sizeLine:=by
 obtain⟨⟨hl,hs,hk,hn,o,es,ho,hc,hd,p⟩,_⟩:=(show dG X.prog X.w H s.heap a (.dct a ks) from e.ok I.hok)
 obtain⟨xs,p1,e1,k1⟩:=yX t (tP t ht) p
 exact⟨xs,⟨o,es,ks.2,ho,hc,hd,λe he=>k1 e (by simpa using he),e1,(rH p1).mp hn⟩,p1,hs,hl⟩
end
theorem pd {P:Program}{w:World}{h':Heap}{a:Addr}{ks:List (PyData×V×V)}{xs:List (Int×Value)}(hl:ks.length<=sizeLine)(hs:(a==sysModules)=false)(p:Paired qD ks xs)(dd:h'.DictOf (intKind P w) a xs):∃ep,oU a (ks,ep) h':=by
 obtain⟨o,es,ep,ho,hc,hd,hk,hp,hn⟩:=dd
 have key:∀{ks:List (PyData×V×V)} {xs:List (Int×Value)} {es:List DictEntry},Paired qD ks xs->Pairs (intKind P w) es xs->(∀e∈es,∃k,(intKind P w).is k e.key=true/\e.hash=(intKind P w).hash k)->
   (∀k∈ks,xu k.1=true)/\Paired (λ(k:PyData×V×V) (e:DictEntry)=>e.hash=fJ k.1/\RelV k.2.1 e.key/\RelV k.2.2 e.val) ks es:=by
  intro ks xs es p
  induction p generalizing es with
  | nil=>intro q _;cases q;exact⟨(λk hk=>by cases hk),.nil⟩
  | @cons q x qs xs r t ih=>
   intro pq hk
   cases pq with
   | @cons e _ es' _ h1 h2 h3=>
    obtain⟨i1,i2⟩:=ih h3 λe he=>hk e (K9 _ he)
    obtain⟨k,k1,k2⟩:=hk e K8
    have:k=x.1:=(intKind P w).inj _ _ _ k1 h1
    subst this
    obtain⟨tk,et⟩:=Value.isInt_shape h1
    refine⟨λz hz=> ?_,.cons ⟨by rw[r.1];exact k2,by rw[r.2.1];exact⟨tk,et⟩,by rw[h2];exact r.2.2⟩ i2⟩
    rcases K0.mp hz with rfl | hz
    ·rw[r.1];rfl
    ·exact i1 z hz
 obtain⟨k1,k2⟩:=key p hp λe he=>hk e (by simpa using he)
 exact⟨ep,hl,hs,.inr k1,(rH p).mpr hn,o,es,ho,hc,hd,k2⟩
def l5 (ks:List (PyData×V×V))(k:PyData)(kv v:V):List (PyData×V×V):=if (ks.any λp=>PyData.eqv p.1 k)=true then ks.map λp=>if PyData.eqv p.1 k=true then (p.1,p.2.1,v) else p else ks++[(k,kv,v)]
def pe (ks ms:List (PyData×V×V)):List (PyData×V×V):=ms.foldl (λacc p=>l5 acc p.1 p.2.1 p.2.2) ks
theorem kJ (k:NK):∀{ks:List (PyData×V×V)} {xs:List (NK×Addr×Value)},Paired Rk ks xs->(atKey xs k).isSome=ks.any λq=>PyData.eqv q.1 k.d
 | _,_,.nil=>rfl
 | _,_,.cons (a:=q) (b:=x) r t=>by
  have ih:=kJ k t
  rw[YX,r.1,xC,←ih]
  unfold atKey
  rw[U6]
  cases hd:decide (x.1=k) <;> simp
theorem pj {f:PyData×V×V->PyData×V×V}{g:NK×Addr×Value->NK×Addr×Value}(h:∀q x,Rk q x->Rk (f q) (g x)):∀{ks:List (PyData×V×V)} {xs:List (NK×Addr×Value)},Paired Rk ks xs->Paired Rk (ks.map f) (xs.map g)
 | _,_,.nil=> .nil
 | _,_,.cons r t=> .cons (h _ _ r) (pj h t)
theorem kb {q:PyData×V×V}{x:NK×Addr×Value}(h:Rk q x):∀{ks:List (PyData×V×V)} {xs:List (NK×Addr×Value)},Paired Rk ks xs->Paired Rk (ks++[q]) (xs++[x])
 | _,_,.nil=> .cons h .nil
 | _,_,.cons r t=> .cons r (kb h t)
theorem pk {ks:List (PyData×V×V)}{xs:List (NK×Addr×Value)}(p:Paired Rk ks xs)(k:NK)(a:Addr){v:V}{u:Value}(rv:RelV v u):Paired Rk (l5 ks k.d (.ref a) v) (storedH xs k a u):=by
 unfold l5 storedH
 rw[kJ k p]
 split
 ·refine pj (λq x r=> ?_) p
  unfold putAt
  rw[r.1,xC]
  by_cases hx:x.1=k
  ·rw[JW (JV hx),JW hx];exact⟨rfl,r.2.1,rv⟩
  ·rw[JZ (by rw[JQ hx];exact K5),JZ hx];exact r
 ·exact kb ⟨rfl,rfl,rv⟩ p
theorem nD:∀{ms:List (PyData×V×V)} {ys:List (NK×Addr×Value)},Paired Rk ms ys->∀{ks:List (PyData×V×V)} {xs:List (NK×Addr×Value)},Paired Rk ks xs->Paired Rk (pe ks ms) (fc xs ys)
 | _,_,.nil,_,_,p=>p
 | _,_,.cons (a:=q) (b:=y) r t,ks,xs,p=>by
  have h1:=pk p y.1 y.2.1 r.2.2
  rw[←r.1,←r.2.1] at h1
  exact nD t h1
theorem Hw (i j:Int):PyData.eqv (.int i) (.int j)=decide (i=j):=by
 have:PyData.eqv (.int i) (.int j)=(i==j):=by simp[PyData.eqv]
 rw[this,Yj];simp
theorem l6 (k:Int):∀{ks:List (PyData×V×V)} {xs:List (Int×Value)},Paired qD ks xs->(valueAt xs k).isSome=(ks.any λq=>PyData.eqv q.1 (.int k))/\(xs.any λkv=>decide (kv.1=k))=(ks.any λq=>PyData.eqv q.1 (.int k))
 | _,_,.nil=>⟨rfl,rfl⟩
 | _,_,.cons (a:=q) (b:=x) r t=>by
  obtain⟨h1,h2⟩:=l6 k t
  rw[YX,YX,r.1,Hw,←h2]
  refine⟨?_,rfl⟩
  rw[h2,←h1]
  unfold valueAt
  rw[U6]
  cases hd:decide (x.1=k) <;> simp[hd]
theorem nE {f:PyData×V×V->PyData×V×V}{g:Int×Value->Int×Value}(h:∀q x,qD q x->qD (f q) (g x)):∀{ks:List (PyData×V×V)} {xs:List (Int×Value)},Paired qD ks xs->Paired qD (ks.map f) (xs.map g)
 | _,_,.nil=> .nil
 | _,_,.cons r t=> .cons (h _ _ r) (nE h t)
theorem l7 {q:PyData×V×V}{x:Int×Value}(h:qD q x):∀{ks:List (PyData×V×V)} {xs:List (Int×Value)},Paired qD ks xs->Paired qD (ks++[q]) (xs++[x])
 | _,_,.nil=> .cons h .nil
 | _,_,.cons r t=> .cons r (l7 h t)
theorem nF {ks:List (PyData×V×V)}{xs:List (Int×Value)}(p:Paired qD ks xs)(k:Int){v:V}{u:Value}(rv:RelV v u):Paired qD (l5 ks (.int k) (.int k) v) (stored xs k u):=by
 unfold l5 stored
 rw[(l6 k p).2]
 split
 ·refine nE (λq x r=> ?_) p
  rw[r.1,Hw]
  by_cases hx:x.1=k
  ·rw[JW (JV hx),JW hx];exact⟨rfl,r.2.1,rv⟩
  ·rw[JZ (by rw[JQ hx];exact K5),JZ hx];exact r
 ·exact l7 ⟨rfl,rfl,rv⟩ p
theorem l8:∀{ms:List (PyData×V×V)} {ys:List (Int×Value)},Paired qD ms ys->∀{ks:List (PyData×V×V)} {xs:List (Int×Value)},Paired qD ks xs->Paired qD (pe ks ms) (merged xs ys)
 | _,_,.nil,_,_,p=>p
 | _,_,.cons (a:=q) (b:=y) r t,ks,xs,p=>by
  have h1:=nF p y.1 r.2.2
  rw[←r.1,←r.2.1] at h1
  exact l8 t h1
theorem pr (ks:List (PyData×V×V))(k:PyData)(kv v:V):(l5 ks k kv v).length<=ks.length+1:=by
 unfold l5;split
 ·rw[K4];omega
 ·rw[K2,X5];exact K1 _
theorem rJ:∀(ms ks:List (PyData×V×V)),(pe ks ms).length<=ks.length+ms.length
 | [],ks=>K1 _
 | m :: ms,ks=>by
  have h1:=rJ ms (l5 ks m.1 m.2.1 m.2.2)
  have h2:=pr ks m.1 m.2.1 m.2.2
  show(pe (l5 ks m.1 m.2.1 m.2.2) ms).length<=_
  rw[Kz];omega
section
variable {K:Frag}{H:Hp}
theorem gy {kvs:List (PyData×PyData)}{ks:List (PyData×V×V)}(t:aR K H kvs ks):ks.length=kvs.length:=by
 have:=congrArg List.length (g7 t);simpa using this
theorem kc {kvs:List (PyData×PyData)}{ks:List (PyData×V×V)}(t:aR K H kvs ks)(k:PyData):(ks.any λq=>PyData.eqv q.1 k)=lj kvs k:=by
 have h1:∀{α:Type} (l:List (PyData×α)),(l.any λq=>PyData.eqv q.1 k)=(l.map (·.1)).any λx=>PyData.eqv x k:=λl=>by rw[List.any_map];rfl
 unfold lj
 rw[h1,h1,g7 t]
theorem pz {k d:PyData}{v:V}(hv:aH K H d v):∀{kvs:List (PyData×PyData)} {ks:List (PyData×V×V)},aR K H kvs ks->
  aR K H (kvs.map λp=>if PyData.eqv p.1 k=true then (p.1,d) else p) (ks.map λp=>if PyData.eqv p.1 k=true then (p.1,p.2.1,v) else p)
 | [],ks,t=>by simp only[aR] at t;subst t;simp only[Jk,aR]
 | (k',d') :: r,ks,t=>by
  simp only[aR] at t
  obtain⟨kv,v',q,rfl,h1,h2,h3⟩:=t
  rw[KJ,KJ]
  by_cases he:PyData.eqv k' k=true
  ·simp only[JW he,aR];exact⟨kv,v,_,rfl,h1,hv,pz hv h3⟩
  ·simp only[JZ he,aR];exact⟨kv,v',_,rfl,h1,h2,pz hv h3⟩
theorem rK {k d:PyData}{kv v:V}(hk:aH K H k kv)(hv:aH K H d v):∀{kvs:List (PyData×PyData)} {ks:List (PyData×V×V)},aR K H kvs ks->aR K H (kvs++[(k,d)]) (ks++[(k,kv,v)])
 | [],ks,t=>by simp only[aR] at t;subst t;simp only[YU,aR];exact⟨kv,v,[],rfl,hk,hv,rfl⟩
 | (k',d') :: r,ks,t=>by
  simp only[aR] at t
  obtain⟨kv',v',q,rfl,h1,h2,h3⟩:=t
  rw[U8,U8]
  simp only[aR]
  exact⟨kv',v',_,rfl,h1,h2,rK hk hv h3⟩
theorem pA {kvs:List (PyData×PyData)}{ks:List (PyData×V×V)}{k d:PyData}{kv v:V}(t:aR K H kvs ks)(hk:aH K H k kv)(hv:aH K H d v):aR K H (putK kvs k d) (l5 ks k kv v):=by
 unfold putK l5
 rw[kc t]
 split
 ·exact pz hv t
 ·exact rK hk hv t
theorem rM:∀{more:List (PyData×PyData)} {ms:List (PyData×V×V)},aR K H more ms->∀{kvs:List (PyData×PyData)} {ks:List (PyData×V×V)},aR K H kvs ks->aR K H (k9 kvs more) (pe ks ms)
 | [],ms,t,kvs,ks,h=>by simp only[aR] at t;subst t;exact h
 | (k,d) :: r,ms,t,kvs,ks,h=>by
  simp only[aR] at t
  obtain⟨kv,v,q,rfl,h1,h2,h3⟩:=t
  exact rM h3 (pA h h1 h2)
theorem kK:∀{kvs:List (PyData×PyData)} {ks:List (PyData×V×V)},aR K H kvs ks->(∀p∈kvs,bj p.1=true)->dP kvs=true->aN K H kvs ks []
 | [],ks,t,_,_=>by simp only[aR] at t;subst t;simp only[aN];exact⟨trivial,trivial⟩
 | (k,d) :: r,ks,t,hk,hn=>by
  simp only[aR] at t
  obtain⟨kv,v,q,rfl,h1,h2,h3⟩:=t
  have hn':bj d=true/\dP r=true:=by
   unfold dP at hn;rw[KJ,aq,X9] at hn;exact hn
  simp only[aN]
  exact⟨kv,v,q,[],[],rfl,rfl,aH.toT _ _ (hk _ K8) h1,aH.toT _ _ hn'.1 h2,kK h3 (λp hp=>hk p (K9 _ hp)) hn'.2⟩
theorem l9:∀{kvs:List (PyData×PyData)} {ks:List (PyData×V×V)} {as:List Addr},aN K H kvs ks as->dP kvs=true->as=[]
 | [],ks,as,t,_=>by simp only[aN] at t;exact t.2
 | (k,d) :: r,ks,as,t,hn=>by
  simp only[aN] at t
  obtain⟨kv,v,q,a1,a2,rfl,rfl,h1,h2,h3⟩:=t
  have hn':bj d=true/\dP r=true:=by
   unfold dP at hn;rw[KJ,aq,X9] at hn;exact hn
  rw[IsT.nil _ _ _ hn'.1 h2,l9 h3 hn'.2];rfl
end
section
variable {K:Frag}{H:Hp}
mutual
theorem IsT.pB:∀(d:PyData) (v:V) (as:List Addr),IsT K H d v as->as=[]->bj d=true
 | .none,_,_,_,_=>rfl
 | .bool _,_,_,_,_=>rfl
 | .int _,_,_,_,_=>rfl
 | .str _,_,_,_,_=>rfl
 | .list xs,v,as,h,e=>by obtain⟨a,vs,bs,_,_,_,z⟩:=bD h;rw[e] at z;cases z
 | .dict xs,v,as,h,e=>by obtain⟨a,vs,bs,_,_,_,z⟩:=db h;rw[e] at z;cases z
 | .tuple xs,v,as,h,e=>by
  obtain⟨a,vs,_,_,h2⟩:=jB h
  rw[bj];exact ay.pB xs vs as h2 e
theorem ay.pB:∀(ds:List PyData) (vs:List V) (as:List Addr),ay K H ds vs as->as=[]->aq ds=true
 | [],_,_,_,_=>rfl
 | d :: ds,vs,as,h,e=>by
  simp only[ay] at h
  obtain⟨v,r,a1,a2,rfl,rfl,h1,h2⟩:=h
  have:=List.append_eq_nil_iff.mp e
  rw[aq,IsT.pB d v a1 h1 this.1,ay.pB ds r a2 h2 this.2];rfl
end
theorem oz:∀{kvs:List (PyData×PyData)} {ks:List (PyData×V×V)} {as:List Addr},aN K H kvs ks as->∀p∈kvs,bj p.1=true
 | [],ks,as,t,p,hp=>by cases hp
 | (k,d) :: r,ks,as,t,p,hp=>by
  simp only[aN] at t
  obtain⟨kv,v,q,a1,a2,rfl,rfl,h1,h2,h3⟩:=t
  rcases K0.mp hp with rfl | hp
  ·exact IsT.pB _ _ _ h1 rfl
  ·exact oz h3 p hp
end
theorem pC {kvs:List (PyData×PyData)}{k d:PyData}(h:dP kvs=true)(hd:bj d=true):dP (putK kvs k d)=true:=by
 unfold dP at h⊢
 rw[aU] at h⊢
 intro x hx
 unfold putK at hx
 split at hx
 ·rw[KQ] at hx
  obtain⟨p,hp,rfl⟩:=Kw.mp hx
  simp only[Function.comp]
  split
  ·exact hd
  ·exact h _ (Yu hp)
 ·rw[X0] at hx
  rcases Kk.mp hx with hx | hx
  ·exact h x hx
  ·have:x=d:=by simpa using hx
   rw[this];exact hd
theorem rN:∀{more kvs:List (PyData×PyData)},dP more=true->dP kvs=true->dP (k9 kvs more)=true
 | [],kvs,_,h=>h
 | (k,d) :: r,kvs,hm,h=>by
  have hn':bj d=true/\dP r=true:=by
   unfold dP at hm;rw[KJ,aq,X9] at hm;exact hm
  exact rN (kvs:=putK kvs k d) hn'.2 (pC h hn'.1)
end L2
namespace L2
open PySem PySem.Spec PyProof.Rows Y
section
variable {X:Cx}{K:Frag}{Ew:Str->Hp->Prop}
theorem g8 {kvs:kZ}{x:PyData}(h:dO kvs x=true):(∃ds,x= .tuple ds/\nests 7 ds=true/\gF kvs=true)∨(∃i,x= .int i/\allI kvs=true):=by
 unfold dO at h
 rw[Bool.or_eq_true,X9,X9] at h
 rcases h with⟨a,b⟩ | ⟨a,b⟩
 ·obtain⟨ds,e,n⟩:=lZ a;exact .inl ⟨ds,e,n,b⟩
 ·obtain⟨i,e⟩:=pc a;exact .inr ⟨i,e,b⟩
theorem Hx (hu:X.A.units+80 < cLine){pins:List (Addr×Obj)}{s:Shared}{σ:St}{H:Hp}{x:PyData}{kvs:kZ}{u v:V}{a b:Value}{Q:VK}(I:Inv X pins σ H s)(hk:dO kvs x=true)(hx:aH X.K H x u)(hy:aH X.K H (.dict kvs) v)(ru:RelV u a)(rv:RelV v b)
  (q:∀w H',Same H H'->aQ X.K H H' (.bool (lj kvs x)) w->Q w H'):wpAny (model X.prog X.w) X.A (compareOp .In a b) (EP X pins σ Q) X.xe s:=by
 obtain⟨ad,ks,rfl,hr,t⟩:=cf hy
 cases(show b=Value.ref ad from rv)
 rcases g8 hk with⟨ds,rfl,hn,ht⟩ | ⟨i,rfl,ht⟩
 ·obtain⟨xs,dd,p,hs,hl,_⟩:=jE I hr t ht
  obtain⟨bk,vs,rfl,g1,g2⟩:=aL hx
  cases(show a=Value.ref bk from ru)
  obtain⟨kk,hkk⟩:∃kk:NK,kk.d= .tuple ds:=⟨⟨ds,hn⟩,rfl⟩
  have tQ:gK s.heap kk.d (.ref bk):=by rw[hkk];exact aH.BR I 8 (.tuple ds) (.ref bk) (.ref bk) (by rw[Y.nest];exact hn) hx rfl
  refine wpAny_in_heap (knd:=bE X.prog X.w) (k:=kk) (show X.A.units+1+10 < cLine by omega) tQ hs dd ?_
  rw[kJ _ p,kc t,hkk]
  exact⟨.bl _,H,I.tok _,rfl,q _ H (Same.refl H) (aQ.k_ rfl cQ)⟩
 ·obtain⟨xs,dd,p,hs,hl⟩:=iH I hr t ht
  have:=aD hx
  subst this
  obtain⟨tk,rfl⟩:=ru
  refine wpAny_in_of (knd:=intKind X.prog X.w) (k:=i) (by simp[intKind,Value.isInt]) hs dd.mapOf ?_
  rw[(l6 i p).1,kc t]
  exact⟨.bl _,H,I.tok _,rfl,q _ H (Same.refl H) (aQ.k_ rfl cQ)⟩
theorem Aa (hu:X.A.units+80 < cLine){pins:List (Addr×Obj)}{s:Shared}{σ:St}{H:Hp}{x:PyData}{kvs:kZ}{u v:V}{a b:Value}{Q:VK}(I:Inv X pins σ H s)(hk:dO kvs x=true)(hx:aH X.K H x u)(hy:aH X.K H (.dict kvs) v)(ru:RelV u a)(rv:RelV v b)
  (q:∀w H',Same H H'->aQ X.K H H' (.bool (!lj kvs x)) w->Q w H'):wpAny (model X.prog X.w) X.A (compareOp .NotIn a b) (EP X pins σ Q) X.xe s:=by
 obtain⟨ad,ks,rfl,hr,t⟩:=cf hy
 cases(show b=Value.ref ad from rv)
 rcases g8 hk with⟨ds,rfl,hn,ht⟩ | ⟨i,rfl,ht⟩
 ·obtain⟨xs,dd,p,hs,hl,_⟩:=jE I hr t ht
  obtain⟨bk,vs,rfl,g1,g2⟩:=aL hx
  cases(show a=Value.ref bk from ru)
  obtain⟨kk,hkk⟩:∃kk:NK,kk.d= .tuple ds:=⟨⟨ds,hn⟩,rfl⟩
  have tQ:gK s.heap kk.d (.ref bk):=by rw[hkk];exact aH.BR I 8 (.tuple ds) (.ref bk) (.ref bk) (by rw[Y.nest];exact hn) hx rfl
  refine wpAny_notIn_heap (knd:=bE X.prog X.w) (k:=kk) (show X.A.units+1+10 < cLine by omega) tQ hs dd ?_
  rw[kJ _ p,kc t,hkk]
  exact⟨.bl _,H,I.tok _,rfl,q _ H (Same.refl H) (aQ.k_ rfl cQ)⟩
 ·obtain⟨xs,dd,p,hs,hl⟩:=iH I hr t ht
  have:=aD hx
  subst this
  obtain⟨tk,rfl⟩:=ru
  refine wpAny_notIn_of (knd:=intKind X.prog X.w) (k:=i) (by simp[intKind,Value.isInt]) hs dd.mapOf ?_
  rw[(l6 i p).1,kc t]
  exact⟨.bl _,H,I.tok _,rfl,q _ H (Same.refl H) (aQ.k_ rfl cQ)⟩
theorem yY (hu:X.A.units+80 < cLine):iX X (compareOp .In) uV:=iX.of λpins s σ H x y z u v a b Q I e hx hy ru rv q=>by
 cases y with
 | dict kvs=>
  simp only[uV] at e
  split at e
  ·rename_i hk
   cases e
   exact Hx hu I hk hx hy ru rv q
  ·cases e
 | _=>
  obtain⟨r,op,lift⟩:=xw (X:=X) hu
  refine op pins s σ H u v a b Q I ru rv (lift x _ z u v H Q ?_ hx hy q)
  exact e
theorem lz (hu:X.A.units+80 < cLine):iX X (compareOp .NotIn) e7:=iX.of λpins s σ H x y z u v a b Q I e hx hy ru rv q=>by
 cases y with
 | dict kvs=>
  simp only[e7] at e
  split at e
  ·rename_i hk
   cases e
   exact Aa hu I hk hx hy ru rv q
  ·cases e
 | _=>
  obtain⟨r,op,lift⟩:=jh (X:=X) hu
  refine op pins s σ H u v a b Q I ru rv (lift x _ z u v H Q ?_ hx hy q)
  exact e
theorem vm:hJ X (.type "dict") (λus H Q=>∃a kvs ks,us=[.ref a]/\Rd H a (.dct a ks)/\aR X.K H kvs ks.1/\gF kvs=true/\kvs.isEmpty=false/\(kvs.map λp=>fJ p.1).Nodup/\∀l ep,H l=none->Q (.ref l) (upd H l (.dct l (ks.1,ep)))):=by
 intro pins s σ H us vs Q I r h
 obtain⟨a,kvs,ks,rfl,hr,t,hat,h0,hh,q⟩:=h
 obtain⟨u,rfl,rx⟩:=vals1 r
 cases(show u=Value.ref a from rx)
 obtain⟨xs,dd,p,hs,hl,hk⟩:=jE I hr t hat
 have hpl:=Paired.len p
 have hkl:=gy t
 have hx0:xs≠[]:=λz=>by
  rw[z] at hpl
  have:kvs.length=0:=by rw[←hkl,hpl];rfl
  rw[Yz.mp this] at h0;cases h0
 refine Ke (knd:=bE X.prog X.w) hs dd hx0 (!1) (λx hx=> ?_) ?_ (λx hx=> ?_) λh' rO sb=> ?_
 ·have:=hk x hx
  simp only[NK.d,gK] at this
  obtain⟨b,o,items,n,e,h1,h2,_⟩:=this
  cases e
  exact⟨o,h1,h2⟩
 ·have e1:(xs.map λx=>(bE X.prog X.w).hash x.1)=(ks.1.map (·.1)).map fJ:=by rw[tM p,KQ];rfl
  rw[e1,g7 t,KQ];exact hh
 ·exact gK.keep (λb o items n hb _=>K6 _ hb) _ _ (hk x hx)
 ·obtain⟨ep,ph⟩:=jF hl (beq_eq_false_iff_ne.mpr (Ne.symm (X1 I.big'))) p rO
  refine⟨.ref s.heap.objs.size,_,I.laid (a:=s.heap.objs.size) (o:=.dct s.heap.objs.size (ks.1,ep)) (t':=s.toks) (λb u hb=> ?_) (K1 _) (jG ph),rfl,q _ ep I.fresh⟩
  exact(sb.2 b (X1 (Kv hb))).trans (K6 _ hb)
theorem Ek {kvs:List (PyData×PyData)}{ks:List (PyData×V×V)}{H:Hp}(t:aR K H kvs ks)(hk:∀k∈ks,da k.1=true):∀p∈kvs,bj p.1=true:=λp hp=>by
 have:p.1∈ks.map (·.1):=by rw[g7 t];exact Yu hp
 obtain⟨k,hk1,e⟩:=Kw.mp this
 rw[←e];exact l4 (hk k hk1)
theorem xD:CallD X (.type "dict") oq:=⟨_,vm,
 λxs z us H Q e h q=>by
  match xs,e,h with
  | [.dict kvs],e,h=>
   simp only[oq] at e
   split at e
   ·rename_i hc
    cases e
    obtain⟨u,rfl,hu⟩:=dQ h
    obtain⟨a,ks,rfl,hr,t⟩:=cf hu
    have hk:=tP (X:=X) t hc.2.1
    exact⟨a,kvs,ks,rfl,hr,t,hc.2.1,hc.1,hc.2.2.2,λl ep hl=>q _ _ (Same.upd hl) ⟨[l],gM ax (kK (aR.same (Same.upd hl) _ _ t) (Ek t hk) hc.2.2.1),KU.mpr ⟨by simp,X3⟩,λb hb=>by rw[K7.mp hb];exact hl⟩⟩
   ·cases e⟩
end
section
variable {X:Cx}{K:Frag}{Ew:Str->Hp->Prop}{pos pos2 p p2:Pos}{a e o j:Expr}{ta:TE}{fa fe fj:EF}{apos cpos:Pos}
def Kf (K:Frag):V->V->V->Hp->(Hp->Prop)->Prop:=λo i v H Q=>∃a ks kvs k,o= .ref a/\H a=some (.dct a ks)/\aR K H kvs ks.1/\aH K H k i/\dO kvs k=true/\ks.1.length < sizeLine/\∀ep,Q (upd H a (.dct a (l5 ks.1 k i v,ep)))
theorem yZ (hu:X.A.units+80 < cLine):GH X (Kf X.K):=by
 intro pins s σ H o i v ov iv u Q I ro ri rv h
 obtain⟨a,ks,kvs,k,rfl,hH,t,hk,hkt,hl,q⟩:=h
 cases(show ov=Value.ref a from ro)
 rcases g8 hkt with⟨ds,rfl,hn,ht⟩ | ⟨n,rfl,ht⟩
 ·obtain⟨b,vs,rfl,_,_⟩:=aL hk
  cases(show iv=Value.ref b from ri)
  obtain⟨xs,dd,p,hs,hl0,_⟩:=jE I (.inl hH) t ht
  have hpl:=Paired.len p
  obtain⟨kk,hkk⟩:∃kk:NK,kk.d= .tuple ds:=⟨⟨ds,hn⟩,rfl⟩
  have tQ:gK s.heap kk.d (.ref b):=by rw[hkk];exact aH.BR I 8 (.tuple ds) (.ref b) (.ref b) (by rw[Y.nest];exact hn) hk rfl
  refine wpAny_setItem_heap (knd:=bE X.prog X.w) (k:=kk) (hsz:=by omega) (show X.A.units+1+10 < cLine by omega) tQ dd λh' rO sb=> ?_
  have hp:=pk p kk b rv
  rw[hkk] at hp
  have hlen:=pr ks.1 (.tuple ds) (.ref b) v
  obtain⟨ep,ph⟩:=jF (!1) hs hp rO
  refine⟨_,I.write (x:=a) (e:=a) (by rw[hH];trivial) (.inl rfl) (λc w hc hw=>(sb.2 c hc).trans hw) ?_ (jG ph),q ep⟩
  obtain⟨ob,_,_,ho,_⟩:=rO
  exact⟨ob,ho⟩
 ·have:=aD hk
  subst this
  obtain⟨tk,rfl⟩:=ri
  obtain⟨xs,dd,p,hs,hl0⟩:=iH I (.inl hH) t ht
  have hpl:=Paired.len p
  refine wpAny_setItem_pairs (knd:=intKind X.prog X.w) (k:=n) (hsz:=by omega) (by simp[intKind,Value.isInt]) dd λh' rO sb=> ?_
  have hp:=nF p n rv
  have hlen:=pr ks.1 (.int n) (.int n) v
  obtain⟨ep,ph⟩:=pd (!1) hs hp rO
  refine⟨_,I.write (x:=a) (e:=a) (by rw[hH];trivial) (.inl rfl) (λc w hc hw=>(sb.2 c hc).trans hw) ?_ (jG ph),q ep⟩
  obtain⟨ob,_,_,ho,_⟩:=rO
  exact⟨ob,ho⟩
theorem tR {kvs:kZ}{x:PyData}(h:dO kvs x=true):bj x=true:=by
 rcases g8 h with⟨ds,rfl,hn,_⟩ | ⟨i,rfl,_⟩
 ·exact l4 hn
 ·rfl
theorem Em (hu:X.A.units+80 < cLine){i:Nat}(ho:PE X o (kX i))(hj:DE X K Ew j fj)(he:DE X K Ew e fe)(hK:X.K=K:=by rfl)
  (ha:∀v,assign (.Subscript o j p) X.env v=(do
   let ov←holding [v] (eval o X.env)
   let iv←holding [v,ov] (eval j X.env)
   standAt p
   holding [v,ov,iv] (setItem ov iv v)
   release [v,ov,iv] []):=by intro _;rfl)
  (hs:swapsWithSole [.Subscript o j p] e pos.line X.env=pure false:=by rfl) (hw:swappedStores [.Subscript o j p] e X.env=pure none:=by rfl)
  (h1:(assignEach [.Subscript o j p] X.env).map (·.2)=[assign (.Subscript o j p) X.env]:=by rfl):DS X K Ew (.Assign [.Subscript o j p] e pos) (oT i fj fe) :=
 (sK he (w9 ho hj (yZ hu) ha) hs hw h1).imp λD σ H q=>
  gx (g:=λx Γ=>match Γ[i]? with
   | some (some (true,.dict kvs))=>ap (fj Γ) λy=>if dO kvs y.2=true/\bj x.2=true/\dP kvs=true/\kvs.length < sizeLine then ag (.nx (Γ.set i (some (true,.dict (putK kvs y.2 x.2))))) else none
   | _=>none) q λB φ Γ k d y H1 r av q=>by
   subst hK
   match hg:Γ[i]?,q with
   | some (some (true,.dict kvs)),q=>
    obtain⟨v,hv,hT⟩:=r.own hg
    obtain⟨l,ks,bs,rfl,hl,ht,hφ⟩:=db hT
    have hli:l∈φ i:=by rw[hφ];exact K8
    refine⟨.ref l,hv,B,φ,Γ,r,?_⟩
    match hm:fj Γ,q with
    | some (.ok (k',d')),q=>
     refine .inl ⟨k',d',rfl,λw H2 s2 hw=> ?_⟩
     have r2:=r.same s2
     replace q:cS X.K Ew B (if dO kvs d'=true/\bj d=true/\dP kvs=true/\kvs.length < sizeLine then ag (.nx (Γ.set i (some (true,.dict (putK kvs d' d))))) else none) D:=q
     by_cases hc:dO kvs d'=true/\bj d=true/\dP kvs=true/\kvs.length < sizeLine
     ·rw[JW hc] at q
      obtain⟨c1,c2,c3,c4⟩:=hc
      have hbs:bs=[]:=l9 ht c3
      subst hbs
      have hdk:=aR.same s2 _ _ (aN.toD _ _ _ ht)
      have hkd:=hw.toD r2.bs
      have hdd:=aH.same s2 _ _ (av.toD r.bs)
      refine⟨l,ks,kvs,d',rfl,s2 _ _ hl,hdk,hkd,c1,by rw[gy hdk];exact c4,λep=> ?_⟩
      have hkn:∀p∈kvs,bj p.1=true:=λp hp=>by
       have:=ht
       exact oz ht p hp
      have Hy:=pA hdk hkd hdd
      have hn2:∀p∈putK kvs d' d,bj p.1=true:=λp hp=>by
       unfold putK at hp
       split at hp
       ·obtain⟨q',hq',rfl⟩:=Kw.mp hp
        split
        ·exact hkn q' hq'
        ·exact hkn q' hq'
       ·rcases Kk.mp hp with hp | hp
        ·exact hkn p hp
        ·rw[K7.mp hp];exact tR c1
      have hnew:=aN.upd (o':=.dct l (l5 ks.1 d' w y,ep)) (s2 _ _ hl) trivial _ _ _ (show l∉[] by simp) (kK Hy hn2 (pC c3 c2))
      exact q B _ σ _ (Same.refl B) (r2.chg (d:=.dict (putK kvs d' d)) (as:=[l]) hli (s2 _ _ hl) trivial hv (gM ax hnew) (KU.mpr ⟨by simp,X3⟩) (λa ha=> .inl (by rw[K7.mp ha];exact hli)) trivial)
     ·rw[JZ hc] at q
      exact False.elim q
    | some (.ex c),q=>exact .inr ⟨c,rfl,q⟩
    | none,q=>cases q
   | some (some (true,.none)),q|some (some (true,.bool _)),q|some (some (true,.int _)),q|some (some (true,.str _)),q|some (some (true,.tuple _)),q|some (some (true,.list _)),q|some (some (false,_)),q|some none,q|none,q=>cases q
end
section
variable {X:Cx}{K:Frag}{Ew:Str->Hp->Prop}{pos pos2 p p2:Pos}{a e o j:Expr}{ta:TE}{fa fe fj:EF}{apos cpos:Pos}
theorem DS.or {st:Stmt}{f f1 f2:SF}(h1:DS X K Ew st f1)(h2:DS X K Ew st f2)(hf:∀Γ,f Γ=f1 Γ∨f Γ=f2 Γ):DS X K Ew st f:=λpins s σ H D I q=>by
 obtain⟨B,φ,Γ,r,q⟩:=q
 rcases hf Γ with z | z
 ·exact h1 pins s σ H D I ⟨B,φ,Γ,r,by rw[←z];exact q⟩
 ·exact h2 pins s σ H D I ⟨B,φ,Γ,r,by rw[←z];exact q⟩
theorem y0 (hu:X.A.units+80 < cLine){i:Nat}(ho:PE X o (kX i))(hj:DE X K Ew j fj)(he:DE X K Ew e fe)(hK:X.K=K:=by rfl)
  (ha:∀v,assign (.Subscript o j p) X.env v=(do
   let ov←holding [v] (eval o X.env)
   let iv←holding [v,ov] (eval j X.env)
   standAt p
   holding [v,ov,iv] (setItem ov iv v)
   release [v,ov,iv] []):=by intro _;rfl)
  (hs:swapsWithSole [.Subscript o j p] e pos.line X.env=pure false:=by rfl) (hw:swappedStores [.Subscript o j p] e X.env=pure none:=by rfl)
  (h1:(assignEach [.Subscript o j p] X.env).map (·.2)=[assign (.Subscript o j p) X.env]:=by rfl):DS X K Ew (.Assign [.Subscript o j p] e pos) (rh i fj fe):=by
 refine DS.or (Em hu ho hj he hK ha hs hw h1) (tu ho hj he ha hs hw h1) λΓ=> ?_
 unfold rh
 match hg:Γ[i]? with
 | some (some (true,.dict kvs))=>exact .inl rfl
 | some (some (true,.none))=>exact .inr rfl
 | some (some (true,.bool _))=>exact .inr rfl
 | some (some (true,.int _))=>exact .inr rfl
 | some (some (true,.str _))=>exact .inr rfl
 | some (some (true,.tuple _))=>exact .inr rfl
 | some (some (true,.list _))=>exact .inr rfl
 | some (some (false,_))=>exact .inr rfl
 | some none=>exact .inr rfl
 | none=>exact .inr rfl
theorem En {kvs:List (PyData×PyData)}{k d:PyData}(h:∀p∈kvs,bj p.1=true)(hk:bj k=true):∀p∈putK kvs k d,bj p.1=true:=λp hp=>by
 unfold putK at hp
 split at hp
 ·obtain⟨q',hq',rfl⟩:=Kw.mp hp
  split
  ·exact h q' hq'
  ·exact h q' hq'
 ·rcases Kk.mp hp with hp | hp
  ·exact h p hp
  ·rw[K7.mp hp];exact hk
theorem vo:∀{more kvs:List (PyData×PyData)},(∀p∈more,bj p.1=true)->(∀p∈kvs,bj p.1=true)->∀p∈k9 kvs more,bj p.1=true
 | [],kvs,_,h=>h
 | (k,d) :: r,kvs,hm,h=>vo (kvs:=putK kvs k d) (λp hp=>hm p (K9 _ hp)) (En h (hm _ K8))
def Nt (H:Hp)(x:V):Prop:=∃a ks,x= .ref a/\Rd H a (.dct a ks)
theorem BV {pins:List (Addr×Obj)}{σ:St}{H:Hp}{s:Shared}{x:V}{v:Value}(I:Inv X pins σ H s)(r:RelV x v)(t:Nt H x):s.TypeIs v "dict" /\∀b,v= .ref b->∃ob,s.heap.get? b=some ob/\ob.dict=none:=by
 obtain⟨a,ks,rfl,hr⟩:=t
 cases(show v=Value.ref a from r)
 obtain⟨⟨_,_,_,_,o,es,ho,hc,_⟩,_⟩:=(show dG X.prog X.w H s.heap a (.dct a ks) from hr.ok I.hok)
 refine⟨⟨o,ho,hc.1⟩,λb e=> ?_⟩
 cases e
 exact⟨o,ho,hc.2.1⟩
def Ob (r:V->List V->Hp->VK->Prop)(to:TE)(t:TA):TE:=λσ H Q=>to σ H λx H1=>Nt H1 x/\t σ H1 λxs H2=>r x xs H2 Q
theorem F3 {es:List Expr}{to:TE}{t:TA}{name:Str}{id:String}{r:V->List V->Hp->VK->Prop}(slot:Slot "dict" name id)(hty:typeOf (.builtin id)=pure (.type "method_descriptor"))(hm:FU X id r)(ho:PE X o to)(ha:PA X (e :: es) t)
  (hbase:attributeBase o name X.env (eval o X.env)=eval o X.env)
  (hfew:((backTo cpos (starEach (e :: es) X.env)).all (λx=> !x.1) && (backToKw cpos (keywordEach [] X.env)).all (λx=>x.1.isSome)
   && decide ((e :: es).length+([]:List Keyword).length+(if ([]:List Keyword).isEmpty then 0 else 1) < 30))=true)
  (hline:(apos.endLine==cpos.line)=true) (hs:starEach (e :: es) X.env=(false,eval e X.env) :: starEach es X.env) (hplain:(backTo cpos (starEach es X.env)).any (·.1)=false) :
  PE X (.Call (.Attribute o name apos) (e :: es) [] cpos) (Ob r to t):=by
 intro pins s σ H Q I h
 refine wpAny_Call_method_late hbase hfew hline rfl (cX (ho pins s σ H _ I h) λv s1 ⟨x,H1,I1,r1,ty,q1⟩=> ?_)
 obtain⟨h1,h2⟩:=BV I1 r1 ty
 refine⟨"dict",id,PySem.F.plainAttrs_dict,slot,hty,h1,h2,?_⟩
 have hA:=ha cpos pins s1 σ H1 _ I1 q1
 rw[hs] at hA⊢
 refine Calls.callWith_builtin (by show(false || (backTo cpos (starEach es X.env)).any (·.1))=false;rw[hplain] <;> rfl) (Calls.evalArgs_plain ?_)
 exact cX hA λus s2 ⟨vs,H2,I2,r2,q2⟩=>hm pins s2 σ H2 x vs v us Q I2 r1 r2 q2
def Kg (kvs more:kZ):Prop:=(kvs.isEmpty=false/\gF kvs=true/\gF more=true)∨(allI kvs=true/\allI more=true)
def Mx (K:Frag):V->List V->Hp->VK->Prop:=λx vs H Q=>∃a b kvs ks more ms,x= .ref a/\vs=[.ref b]/\a≠b/\H a=some (.dct a ks)/\aR K H kvs ks.1/\Rd H b (.dct b ms)/\aR K H more ms.1/\Kg kvs more/\kvs.length+more.length<=sizeLine/\∀ep,Q .non (upd H a (.dct a (pe ks.1 ms.1,ep)))
theorem Hz (hu:X.A.units+80 < cLine):JM X "dict.update" (Mx X.K):=by
 intro pins s σ H x vs v us Q I rx rv h
 obtain⟨a,b,kvs,ks,more,ms,rfl,rfl,hab,hH,t,hr,t2,hok,hz,q⟩:=h
 cases(show v=Value.ref a from rx)
 obtain⟨u,rfl,ru⟩:=rv.one
 cases(show u=Value.ref b from ru)
 have e3:=gy t
 have e4:=gy t2
 have hlen:=rJ ms.1 ks.1
 rcases hok with⟨h0,at1,at2⟩ | ⟨Oc,Od⟩
 ·obtain⟨xs,dd,p,hs,hl,_⟩:=jE I (.inl hH) t at1
  obtain⟨ys,dd2,p2,hs2,hl2,_⟩:=jE I hr t2 at2
  have e1:=Paired.len p
  have e2:=Paired.len p2
  have hx0:xs≠[]:=λz=>by
   rw[z] at e1
   have:kvs.length=0:=by rw[←e3,e1];rfl
   rw[Yz.mp this] at h0;cases h0
  refine call_meetsIn PySem.F.slot_dict_update dd.typeIs PySem.F.entry_dict_update (PySem.F.args_dict_update_2 _ _) (Ej (knd:=bE X.prog X.w) a b hab hs2) ⟨show X.A.units+1+10 < cLine by omega,xs,ys,hx0,dd,dd2,by omega,λh' rO sb=> ?_⟩
  obtain⟨ep,ph⟩:=jF (!1) hs (nD p2 p) rO
  refine⟨.non,_,I.write (x:=a) (e:=a) (t':=s.toks) (by rw[hH];trivial) (.inl rfl) (λc w hc hw=>(sb.2 c hc).trans hw) ?_ (jG ph),rfl,q ep⟩
  obtain⟨ob,_,_,ho,_⟩:=rO
  exact⟨ob,ho⟩
 ·obtain⟨xs,dd,p,hs,hl⟩:=iH I (.inl hH) t Oc
  obtain⟨ys,dd2,p2,hs2,hl2⟩:=iH I hr t2 Od
  have e1:=Paired.len p
  have e2:=Paired.len p2
  refine call_meetsIn PySem.F.slot_dict_update dd.typeIs PySem.F.entry_dict_update (PySem.F.args_dict_update_2 _ _) (meets_dict_update (intKind X.prog X.w) a b hab hs2) ⟨xs,ys,dd,dd2,by omega,λh' rO _ sb=> ?_⟩
  obtain⟨ep,ph⟩:=pd (!1) hs (l8 p2 p) rO
  refine⟨.non,_,I.write (x:=a) (e:=a) (t':=s.toks) (by rw[hH];trivial) (.inl rfl) (λc w hc hw=>(sb.2 c hc).trans hw) ?_ (jG ph),rfl,q ep⟩
  obtain⟨ob,_,_,ho,_⟩:=rO
  exact⟨ob,ho⟩
theorem BW (hu:X.A.units+80 < cLine){i:Nat}(ho:PE X o (kX i))(he:DE X K Ew e fe)(hK:X.K=K:=by rfl)
  (hbase:attributeBase o "update" X.env (eval o X.env)=eval o X.env:=by rfl)
  (hfew:((backTo cpos (starEach [e] X.env)).all (λx=> !x.1) && (backToKw cpos (keywordEach [] X.env)).all (λx=>x.1.isSome)
   && decide (([e]:List Expr).length+([]:List Keyword).length+(if ([]:List Keyword).isEmpty then 0 else 1) < 30))=true:=by rfl)
  (hline:(apos.endLine==cpos.line)=true:=by rfl) (hs:starEach [e] X.env=(false,eval e X.env) :: starEach [] X.env:=by rfl) (hplain:(backTo cpos (starEach [] X.env)).any (·.1)=false:=by rfl)
  (hsw:swapsWith (.Call (.Attribute o "update" apos) [e] [] cpos) none pos.line X.env=pure false:=by rfl) :
  DS X K Ew (.Expr (.Call (.Attribute o "update" apos) [e] [] cpos) pos) (rg i fe) :=
 (kE (F3 PySem.F.slot_dict_update PySem.F.type_dict_update (Hz hu) ho (bA he cZ hs) hbase hfew hline hs hplain) hsw).imp λD σ H q=>by
  subst hK
  obtain⟨B,φ,Γ,r,q⟩:=q
  unfold rg at q
  match hg:Γ[i]?,q with
  | some (some (true,.dict kvs)),q=>
   obtain⟨v,hv,hT⟩:=r.own hg
   obtain⟨l,ks,bs,rfl,hl,ht,hφ⟩:=db hT
   have hli:l∈φ i:=by rw[hφ];exact K8
   refine⟨.ref l,hv,⟨l,ks,rfl,.inl hl⟩,B,φ,Γ,r,?_⟩
   match hm:fe Γ,q with
   | some (.ok (k,d)),q=>
    refine .inl ⟨k,d,rfl,λy H1 s1 hy=> ?_⟩
    have r1:=r.same s1
    have hl1:=s1 _ _ hl
    replace q:cS X.K Ew B (match uX i k kvs d with
     | some kvs'=>ag (.nx (Γ.set i (some (true,.dict kvs'))))
     | none=>none) D:=q
    cases d <;> try (exact False.elim q)
    rename_i more
    by_cases hc:D8 i k=true/\((kvs.isEmpty=false/\gF kvs=true/\gF more=true)∨(allI kvs=true/\allI more=true))/\dP kvs=true/\dP more=true/\kvs.length+more.length<=sizeLine
    ·simp only[uX,JW hc] at q
     obtain⟨c1,c2,c3,c4,c5⟩:=hc
     have hd:=hy.toD r1.bs
     obtain⟨b,ms,rfl,hr,t2⟩:=cf hd
     have hbs:bs=[]:=l9 ht c3
     subst hbs
     have hdk:=aR.same s1 _ _ (aN.toD _ _ _ ht)
     have hlb:l≠b:=λz=>by
      subst z
      cases k with
      | fr js=>
       obtain⟨as,h1,h2,h3⟩:=hy
       obtain⟨a',ks',bs',e1,e2,e3,e4⟩:=db h1
       cases e1
       rcases h3 l (by rw[e4];exact K8) with⟨jj,hj1,hj2⟩ | z
       ·by_cases hji:jj=i
        ·subst hji
         simp only[D8,Bool.not_eq_true',List.contains_eq_mem,decide_eq_false_iff_not] at c1
         exact c1 hj1
        ·exact r.dj jj i hji l hj2 hli
       ·rw[hl] at z;cases z
      | base=>
       have hb:aH X.K B (.dict more) (.ref l):=hy
       obtain⟨a',ks',e1,e2,_⟩:=cf hb
       cases e1
       have hn:=(r.nb i l hli).1
       rcases e2 with e2 | ⟨_,e2⟩ <;> (rw[hn] at e2;cases e2)
      | any=>simp[D8] at c1
     have hkn:=oz ht
     have htn:∀p∈k9 kvs more,bj p.1=true:=vo (λp hp=>by
      rcases c2 with⟨_,_,z⟩ | ⟨_,z⟩
      ·exact l4 (Y3.mp z p hp)
      ·obtain⟨i,e⟩:=pc (Y3.mp z p hp);rw[e];rfl) hkn
     refine⟨l,b,kvs,ks,more,ms,rfl,rfl,hlb,hl1,hdk,hr,t2,c2,c5,λep=> ?_⟩
     have hnew:=aN.upd (o':=.dct l (pe ks.1 ms.1,ep)) hl1 trivial _ _ _ (show l∉[] by simp) (kK (rM t2 hdk) htn (rN c4 c3))
     exact q B _ σ _ (Same.refl B) (r1.chg (d:=.dict (k9 kvs more)) (as:=[l]) hli hl1 trivial hv (gM ax hnew) (KU.mpr ⟨by simp,X3⟩) (λa ha=> .inl (by rw[K7.mp ha];exact hli)) trivial)
    ·simp only[uX,JZ hc] at q
     exact False.elim q
   | some (.ex c),q=>exact .inr ⟨c,rfl,q⟩
   | none,q=>cases q
  | some (some (true,.none)),q|some (some (true,.bool _)),q|some (some (true,.int _)),q|some (some (true,.str _)),q|some (some (true,.tuple _)),q|some (some (true,.list _)),q|some (some (false,_)),q|some none,q|none,q=>cases q
end
section
variable {X:Cx}{K:Frag}{Ew:Str->Hp->Prop}{pos:Pos}{ke ve:Expr}{fk fv:EF}
theorem BX {prog:Program}{w:World}{A:Around}{E:Z5}{s:Shared}{env:Env}{ke ve:Expr}{pos:Pos}{Q:Z5}
  (h:wpAny (!3) A (eval ke env) (λkv s₁=>wpAny (!3) A (eval ve env) (λvv s₂=>wpAny (!3) A (dictSet s.heap.objs.size kv vv) (λ_ s₃=>Q (.ref s.heap.objs.size) s₃) E s₂) E s₁) E
   {s with heap:=s.heap.push {cls:=.type "dict",data:=.dict #[]}}):wpAny (!3) A (eval (.Dict [some ke] [ve] pos) env) Q E s:=by
 rw[arm_eval_Dict]
 have hsh:(evalEachOpt [some ke] env).zip ((evalEach [ve] env).map λv=>do let x←v;standAt pos;pure x)=[(eval ke env,do let x←eval ve env;standAt pos;pure x)].map λp=>(some p.1,p.2):=rfl
 rw[hsh,dictDisplay_pairs _ (by simp) (by simp)]
 refine JY (wpAny_standAt ?_);refine JY ?_
 unfold subDict
 refine JY (wpAny_alloc ?_);refine JY (Z9 ?_)
 rw[JW (by simp)]
 refine JY (evalPairs_cons (wpAny_mono h (λkv s₁ h₁=>JY (wpAny_mono h₁ (λvv s₂ h₂=> ?_) λ_ _ e=>e)) λ_ _ e=>e))
 refine JY (wpAny_standAt (JJ (evalPairs_nil (Z9 ?_))))
 rw[Jj]
 refine JY (JY (JY (wpAny_mono h₂ (λ_ s₃ h₃=>JJ ?_) λ_ _ e=>e)))
 dsimp only;rw[List.forIn_nil]
 exact JJ (JJ (JJ (JJ h₃)))
theorem oA (hK:X.K=K:=by rfl):DE X K Ew (.Dict [] [] pos) lO:=by
 subst hK
 intro pins s σ H Q I q
 obtain⟨B,φ,Γ,r,q⟩:=q
 have hp:H s.heap.objs.size=none:=I.fresh
 have hd0:(s.heap.push {cls:=.type "dict",data:=.dict #[]}).DictOfH (bE X.prog X.w) s.heap.objs.size []:=Heap.DictOfH.new s.heap
 have hs0:(s.heap.objs.size==sysModules)=false:=beq_eq_false_iff_ne.mpr (Ne.symm (X1 I.big'))
 obtain⟨F4,Mz⟩:=jF (ks:=[]) (Xx _) hs0 .nil hd0
 have I1:Inv X pins σ (upd H s.heap.objs.size (.dct s.heap.objs.size ([],F4))) {s with heap:=s.heap.push {cls:=.type "dict",data:=.dict #[]},toks:=s.toks} :=
  I.laid (λ_ _ e=>K6 _ e) (K1 _) (jG Mz)
 rcases q with⟨_,_,e,q⟩ | ⟨_,e,_⟩
 ·cases e
  refine wpAny_Dict_empty ⟨.ref s.heap.objs.size,_,I1,rfl,q _ _ (Same.upd hp) (VR.fresh.mpr ⟨[s.heap.objs.size],gM ax (by simp only[aN];exact⟨trivial,trivial⟩),KU.mpr ⟨by simp,X3⟩,λa ha=>by rw[K7.mp ha];exact hp⟩)⟩
 ·cases e
theorem y4 (hu:X.A.units+80 < cLine)(hk:DE X K Ew ke fk)(hv:DE X K Ew ve fv)(hK:X.K=K:=by rfl):DE X K Ew (.Dict [some ke] [ve] pos) (uW fk fv):=by
 subst hK
 intro pins s σ H Q I q
 obtain⟨B,φ,Γ,r,q⟩:=q
 have hp:H s.heap.objs.size=none:=I.fresh
 have hd0:(s.heap.push {cls:=.type "dict",data:=.dict #[]}).DictOfH (bE X.prog X.w) s.heap.objs.size []:=Heap.DictOfH.new s.heap
 have hs0:(s.heap.objs.size==sysModules)=false:=beq_eq_false_iff_ne.mpr (Ne.symm (X1 I.big'))
 obtain⟨F4,Mz⟩:=jF (ks:=[]) (Xx _) hs0 .nil hd0
 have I1:Inv X pins σ (upd H s.heap.objs.size (.dct s.heap.objs.size ([],F4))) {s with heap:=s.heap.push {cls:=.type "dict",data:=.dict #[]},toks:=s.toks} :=
  I.laid (λ_ _ e=>K6 _ e) (K1 _) (jG Mz)
 generalize hP:s.heap.objs.size=P at*
 have s1:Same H (upd H P (.dct P ([],F4))):=Same.upd hp
 have r1:=r.same s1
 have q:Runs X.K Ew B φ H (ap (fk Γ) λx=>ap (fv Γ) λy=>if dO [] x.2=true/\bj y.2=true then ag (.fr [],.dict [(x.2,y.2)]) else none) Q:=q
 have hroom:(bE X.prog X.w).room X.A:=show X.A.units+10 < cLine by omega
 match hm:fk Γ,q with
 | some (.ok (k,d)),q=>
  replace q:Runs X.K Ew B φ H (ap (fv Γ) λy=>if dO [] d=true/\bj y.2=true then ag (.fr [],.dict [(d,y.2)]) else none) Q:=q
  match hm2:fv Γ,q with
  | some (.ok (k2,d2)),q=>
   replace q:Runs X.K Ew B φ H (if dO [] d=true/\bj d2=true then ag (.fr [],.dict [(d,d2)]) else none) Q:=q
   by_cases hc:dO [] d=true/\bj d2=true
   ·rw[JW hc] at q
    obtain⟨c1,c2⟩:=hc
    rcases q with⟨_,_,e,q⟩ | ⟨c,e,_⟩
    ·cases e
     subst hP
     refine BX (cX (hk pins _ σ _ (λv H2=>Same (upd H s.heap.objs.size (.dct s.heap.objs.size ([],F4))) H2/\VR X.K B φ (upd H s.heap.objs.size (.dct s.heap.objs.size ([],F4))) H2 k d v) I1 ⟨B,φ,Γ,r1,.inl ⟨k,d,hm,λv H2 s2 hv2=>⟨s2,hv2⟩⟩⟩) λu st1 ⟨x,H2,I2,rx,s12,vx⟩=> ?_)
     have r2:=r1.same s12
     refine cX (hv pins _ σ _ (λv H3=>Same H2 H3/\VR X.K B φ H2 H3 k2 d2 v) I2 ⟨B,φ,Γ,r2,.inl ⟨k2,d2,hm2,λv H3 s3 F5=>⟨s3,F5⟩⟩⟩) λu2 st2 ⟨y,H3,I3,ry,Ly,vy⟩=> ?_
     have r3:=r2.same Ly
     have hkd:=aH.same Ly _ _ (vx.toD r2.bs)
     have Oe:=vy.toD r3.bs
     have hp3:H3 s.heap.objs.size=some (.dct s.heap.objs.size ([],F4)):=Ly _ _ (s12 _ _ ax)
     have fin:∀(h':Heap) (t':Nat),Heap.SameBut s.heap.objs.size st2.heap h'->(∃ep,oU s.heap.objs.size ([(d,x,y)],ep) h')->EP X pins σ Q (.ref s.heap.objs.size) {st2 with heap:=h',toks:=t'}:=λh' t' sb ⟨ep,ph⟩=>by
      refine⟨.ref s.heap.objs.size,_,I3.write (x:=s.heap.objs.size) (e:=s.heap.objs.size) (t':=t') (by rw[hp3];trivial) (.inl rfl) (λc w hc hw=>(sb.2 c hc).trans hw) ?_ (jG ph),rfl,?_⟩
      ·obtain⟨_,_,_,_,ob,_,ho,_⟩:=ph;exact⟨ob,ho⟩
      ·have sA:Same H H3:=s1.trans (s12.trans Ly)
       refine q _ _ (sA.Hj hp) (VR.fresh.mpr ⟨[s.heap.objs.size],gM ax ?_,KU.mpr ⟨by simp,X3⟩,λa ha=>by rw[K7.mp ha];exact hp⟩)
       have hdk:aR X.K H3 [(d,d2)] [(d,x,y)]:=by simp only[aR];exact⟨_,_,_,rfl,hkd,Oe,rfl⟩
       have htk:=kK hdk (λp hp=>by rw[K7.mp hp];exact tR c1) (show dP [(d,d2)]=true by unfold dP;rw[KJ,Jk,aq,aq,c2];rfl)
       exact aN.upd hp3 trivial _ _ _ (show s.heap.objs.size∉[] by simp) htk
     rcases g8 c1 with⟨ds,rfl,hn,_⟩ | ⟨n,rfl,_⟩
     ·obtain⟨b,vs,rfl,_,_⟩:=aL hkd
      cases(show u=Value.ref b from rx)
      obtain⟨xs,dd,p,hs,hl,_⟩:=jE I3 (.inl hp3) (show aR X.K H3 [] [] by simp only[aR]) rfl
      cases p
      obtain⟨kk,hkk⟩:∃kk:NK,kk.d= .tuple ds:=⟨⟨ds,hn⟩,rfl⟩
      refine wpAny_dictSet_heap (knd:=bE X.prog X.w) (k:=kk) (hsz:=Xx _) hroom (by show gK _ kk.d _;rw[hkk];exact aH.BR I3 8 (.tuple ds) (.ref b) (.ref b) (by rw[Y.nest];exact hn) hkd rfl) dd λh' rO sb=>fin h' _ sb ?_
      have hpr:Paired Rk [(PyData.tuple ds,V.ref b,y)] [(kk,b,u2)]:=.cons ⟨hkk.symm,rfl,ry⟩ .nil
      exact jF (ks:=[(PyData.tuple ds,V.ref b,y)]) (show 1<=sizeLine by decide) hs0 hpr rO
     ·have:=aD hkd
      subst this
      obtain⟨tk,rfl⟩:=rx
      obtain⟨xs,dd,p,hs,hl⟩:=iH I3 (.inl hp3) (show aR X.K H3 [] [] by simp only[aR]) rfl
      cases p
      refine wpAny_dictSet_pairs (knd:=intKind X.prog X.w) (k:=n) (hsz:=Xx _) (by simp[intKind,Value.isInt]) dd λh' rO sb=>fin h' _ sb ?_
      have hpr:Paired qD [(PyData.int n,V.int n,y)] [(n,u2)]:=.cons ⟨rfl,rfl,ry⟩ .nil
      exact pd (ks:=[(PyData.int n,V.int n,y)]) (show 1<=sizeLine by decide) hs0 hpr rO
    ·cases e
   ·rw[JZ hc] at q
    rcases q with⟨_,_,e,_⟩ | ⟨_,e,_⟩ <;> cases e
  | some (.ex c),q=>
   rcases q with⟨_,_,e,_⟩ | ⟨c',e,q⟩
   ·cases e
   ·cases e
    subst hP
    refine BX (cX (hk pins _ σ _ (λv H2=>Same (upd H s.heap.objs.size (.dct s.heap.objs.size ([],F4))) H2) I1 ⟨B,φ,Γ,r1,.inl ⟨k,d,hm,λv H2 s2 hv2=>s2⟩⟩) λu st1 ⟨x,H2,I2,rx,s12⟩=> ?_)
    exact cX (hv pins _ σ _ (λv H3=>False) I2 ⟨B,φ,Γ,r1.same s12,.inr ⟨c,hm2,q⟩⟩) λu2 st2 ⟨_,_,_,_,z⟩=>False.elim z
  | none,q=>rcases q with⟨_,_,e,_⟩ | ⟨_,e,_⟩ <;> cases e
 | some (.ex c),q=>
  rcases q with⟨_,_,e,_⟩ | ⟨c',e,q⟩
  ·cases e
  ·cases e
   subst hP
   exact BX (cX (hk pins _ σ _ (λv H2=>False) I1 ⟨B,φ,Γ,r1,.inr ⟨c,hm,q⟩⟩) λu st1 ⟨_,_,_,_,z⟩=>False.elim z)
 | none,q=>rcases q with⟨_,_,e,_⟩ | ⟨_,e,_⟩ <;> cases e
end
end L2
namespace Y
open PySem
def Ab (i:Nat)(fk:EF)(j:Nat):SF:=λΓ=>match Γ[i]? with
 | some (some (true,.dict kvs))=>ap (fk Γ) λx=>match Γ[j]? with
  | some (some (_,.int n))=>if da x.2=true/\gF kvs=true/\kvs.length < sizeLine then (match yH kvs x.2 (.int n) with
   | some kvs'=>ag (.nx (Γ.set i (some (true,.dict kvs'))))
   | none=>none) else none
  | _=>none
 | _=>none
def Ac (k:Kd):PyData->M (Kd×List PyData)
 | .dict kvs=>if gF kvs=true then ag (k,kvs.map λp=> .tuple [p.1,p.2]) else none
 | _=>none
def tS (e:EF):IF:=λΓ=>ap (e Γ) λx=>Ac x.1 x.2
def pD:PyData->Option PyData
 | .int n=>if 0<=n/\n<=100000 then some (.list ((List.range n.toNat).map λi=> .int (i:Nat))) else none
 | _=>none
def intOf:PyData->Option Int
 | .int i=>some i
 | _=>none
def tU:List Int->Int
 | []=>0
 | i :: l=>l.foldl (λa b=>if b < a then b else a) i
def rP:List PyData->Option PyData
 | [.list xs]=>(xs.mapM intOf).bind λl=>if l.isEmpty=false then some (.int (tU l)) else none
 | _=>none
def insI (x:Int):List Int->List Int
 | []=> [x]
 | y :: l=>if x<=y then x :: y :: l else y :: insI x l
def vp (l:List Int):List Int:=l.foldr insI []
end Y
namespace L2
open PySem PySem.Spec PyProof.Rows Y
def iY (ks:List (PyData×V×V))(k:PyData):Option V:=(ks.find? λp=>PyData.eqv p.1 k).map (·.2.2)
theorem tV (k:NK):∀{ks:List (PyData×V×V)} {xs:List (NK×Addr×Value)},Paired Rk ks xs->(∀w,iY ks k.d=some w->∃p,atKey xs k=some p/\RelV w p.2)/\(iY ks k.d=none->atKey xs k=none)
 | _,_,.nil=>⟨λw h=>by simp[iY] at h,λ_=>rfl⟩
 | _,_,.cons (a:=q) (b:=x) r t=>by
  obtain⟨h1,h2⟩:=tV k t
  unfold iY atKey at*
  rw[U6,U6,r.1,xC]
  cases hd:decide (x.1=k) with
  | true=>
   refine⟨λw h=> ?_,λh=>by simp at h⟩
   simp only[Uy,Option.some.injEq] at h⊢
   subst h
   exact⟨_,rfl,r.2.2⟩
  | false=>exact⟨h1,h2⟩
theorem vq (k:Int):∀{ks:List (PyData×V×V)} {xs:List (Int×Value)},Paired qD ks xs->∀w,iY ks (.int k)=some w->∃u,valueAt xs k=some u/\RelV w u
 | _,_,.nil=>λw h=>by simp[iY] at h
 | _,_,.cons (a:=q) (b:=x) r t=>by
  have h1:=vq k t
  unfold iY valueAt at*
  rw[U6,U6,r.1,Hw]
  cases hd:decide (x.1=k) with
  | true=>
   intro w h
   simp only[Uy,Option.some.injEq] at h⊢
   subst h
   exact⟨_,rfl,r.2.2⟩
  | false=>exact h1
theorem kL {K:Frag}{H:Hp}{k:PyData}:∀{kvs:kZ} {ks:List (PyData×V×V)},aR K H kvs ks->∀z,jA kvs k=some z->∃w,iY ks k=some w/\aH K H z w
 | [],ks,t,z,h=>by simp[jA] at h
 | (k',d') :: r,ks,t,z,h=>by
  simp only[aR] at t
  obtain⟨kv,v',q,rfl,h1,h2,h3⟩:=t
  unfold jA iY at*
  rw[U6] at h⊢
  simp only at h⊢
  cases he:PyData.eqv k' k with
  | true=>
   rw[he] at h
   simp only[Uy,Option.some.injEq] at h⊢
   subst h
   exact⟨_,rfl,h2⟩
  | false=>
   rw[he] at h
   exact kL h3 z h
theorem rQ {K:Frag}{H:Hp}{k:PyData}:∀{kvs:kZ} {ks:List (PyData×V×V)} {as:List Addr},aN K H kvs ks as->∀z,jA kvs k=some z->∃w bs,iY ks k=some w/\IsT K H z w bs/\bs.Sublist as
 | [],ks,as,t,z,h=>by simp[jA] at h
 | (k',d') :: r,ks,as,t,z,h=>by
  simp only[aN] at t
  obtain⟨kv,v',q,a1,a2,rfl,rfl,h1,h2,h3⟩:=t
  unfold jA iY at*
  rw[U6] at h⊢
  simp only at h⊢
  cases he:PyData.eqv k' k with
  | true=>
   rw[he] at h
   simp only[Uy,Option.some.injEq] at h⊢
   subst h
   exact⟨_,a1,rfl,h2,List.sublist_append_left _ _⟩
  | false=>
   rw[he] at h
   obtain⟨w,bs,g1,g2,g3⟩:=rQ h3 z h
   exact⟨w,bs,g1,g2,g3.trans (List.sublist_append_right _ _)⟩
section
variable {X:Cx}{K:Frag}{Ew:Str->Hp->Prop}
def Kh (K:Frag):R2:=λx y H Q=>∃a ks kvs k w,x= .ref a/\Rd H a (.dct a ks)/\aR K H kvs ks.1/\aH K H k y/\dO kvs k=true/\iY ks.1 k=some w/\Q w H
theorem HA (hu:X.A.units+80 < cLine):Bg X (Kh X.K):=by
 intro value slice pins s σ H x y v u Q I rx ry h hs
 obtain⟨a,ks,kvs,k,w,rfl,hr,t,hk,hom,hg,q⟩:=h
 cases(show v=Value.ref a from rx)
 rcases g8 hom with⟨ds,rfl,hn,ht⟩ | ⟨i,rfl,ht⟩
 ·obtain⟨xs,dd,p,MA,hl,_⟩:=jE I hr t ht
  obtain⟨bk,vs,rfl,g1,g2⟩:=aL hk
  cases(show u=Value.ref bk from ry)
  obtain⟨kk,hkk⟩:∃kk:NK,kk.d= .tuple ds:=⟨⟨ds,hn⟩,rfl⟩
  have tQ:gK s.heap kk.d (.ref bk):=by rw[hkk];exact aH.BR I 8 (.tuple ds) (.ref bk) (.ref bk) (by rw[Y.nest];exact hn) hk rfl
  rw[←hkk] at hg
  obtain⟨pp,hpp,zI⟩:=(tV kk p).1 w hg
  exact subscriptTail_builtinR (x:=pp.2) dd.typeIs PySem.F.slot_dict_getitem.lookup (wpAny_getItem_heap (knd:=bE X.prog X.w) (k:=kk) (show X.A.units+1+10 < cLine by omega) tQ dd hpp ⟨rfl,w,H,I.tok _,zI,q⟩) hs
 ·obtain⟨xs,dd,p,MA,hl⟩:=iH I hr t ht
  have:=aD hk
  subst this
  obtain⟨tk,rfl⟩:=ry
  obtain⟨uu,Of,zI⟩:=vq i p w hg
  exact subscriptTail_builtinR (x:=uu) dd.typeIs PySem.F.slot_dict_getitem.lookup (wpAny_getItem_of (knd:=intKind X.prog X.w) (k:=i) (by simp[intKind,Value.isInt]) dd.mapOf Of ⟨rfl,w,H,I.tok _,zI,q⟩) hs
theorem MB (hu:X.A.units+80 < cLine):Ml X D7:=by
 obtain⟨r,hr,lift⟩:=lV (X:=X)
 refine⟨_,(HA hu).or hr,λB φ H0 k x y z u v H Q s e hx hy q=> ?_⟩
 cases x with
 | dict kvs=>
  simp only[D7] at e
  split at e
  ·rename_i hom
   refine .inl ?_
   cases k with
   | fr l=>
    obtain⟨as,h1,h2,h3⟩:=hx
    obtain⟨a,ks,bs,rfl,e1,e2,rfl⟩:=db h1
    obtain⟨w,cs,g1,g2,g3⟩:=rQ e2 z e
    refine⟨a,ks,kvs,y,w,rfl,.inl e1,aN.toD _ _ _ e2,hy,hom,g1,q w ?_⟩
    have hsub:cs.Sublist (a :: bs):=g3.trans (List.sublist_cons_self _ _)
    have hv:VR X.K B φ H0 H (.fr l) z w:=⟨cs,g2,h2.sublist hsub,λb hb=>h3 b (hsub.subset hb)⟩
    exact hv.cA s
   | base=>
    have hb:aH X.K B (.dict kvs) u:=hx
    obtain⟨a,ks,rfl,e1,e2⟩:=cf hb
    obtain⟨w,g1,g2⟩:=kL e2 z e
    have hv:VR X.K B φ H0 H .base z w:=g2
    exact⟨a,ks,kvs,y,w,rfl,s.rd e1,aR.same s _ _ e2,hy,hom,g1,q w (hv.cA s)⟩
   | any=>
    have hb:aH X.K H (.dict kvs) u:=hx
    obtain⟨a,ks,rfl,e1,e2⟩:=cf hb
    obtain⟨w,g1,g2⟩:=kL e2 z e
    have hv:VR X.K B φ H0 H .any z w:=g2
    exact⟨a,ks,kvs,y,w,rfl,e1,e2,hy,hom,g1,q w (hv.cA s)⟩
  ·cases e
 | _=>
  refine .inr (lift B φ H0 k _ y z u v H Q s ?_ hx hy q)
  exact e
end
section
variable {prog:Program}{w:World}{K:Type}[DecidableEq K]{knd:HeapKind prog w K}{A:Around}{E:Z5}{s:Shared}
theorem MC {d a:Addr}{xs:List (K×Addr×Value)}{k:K}{v:Value}{Q:Z5}(hu:knd.room A)(hkey:knd.is s.heap k a)(hm:s.heap.DictOfH knd d xs)(hsz:xs.length<=sizeLine)
  (h1:∀p,atKey xs k=some p->Q p.2 {s with toks:=s.toks+knd.draws k})
  (h2:atKey xs k=none->∀h',h'.DictOfH knd d (xs++[(k,a,v)])->Heap.SameBut d s.heap h'->Q v {s with heap:=h',toks:=s.toks+knd.draws k}):wpAny (!3) A (dictSetDefault d (.ref a) v) Q E s:=by
 obtain⟨o,es,ep,ho,hc,hd,he,his,hn⟩:=hm
 have hes:es.size<=sizeLine:=by rw[size_of_entries he];exact hsz
 unfold dictSetDefault
 refine Z9 ?_
 refine JY (knd.pyHash hu hkey ?_)
 refine JY (wpAny_dictFind_heap (s:={s with toks:=s.toks+knd.draws k}) hu hkey ho hd he his hn (λhno=> ?_) λj p hj=> ?_)
 ·refine JY (wpAny_rule ?_)
  refine JY (wpAny_updateDictKeys (hz:=hes) (s:={s with toks:=s.toks+knd.draws k}) ho hd (JJ (h2 (atKey_none_of_get hno) _ ⟨_,_,ep+1,Xw _ ho (Obj.isFreed_of_dict (Obj.data_mapDictKeys hd _)),hc.mapDictKeys _,Obj.data_mapDictKeys hd _,?_,λx hx=> ?_,?_⟩ (Heap.SameBut.update ..))))
  ·simp[he,entryOfKey]
  ·rcases Kk.mp hx with hx | hx
   ·exact knd.keeps (his x hx) ho hd (Heap.SameBut.update ..)
   ·rw[K7.mp hx];exact knd.keeps hkey ho hd (Heap.SameBut.update ..)
  ·rw[X0,Xj]
   refine⟨hn,KU.mpr ⟨by simp,X3⟩,λx hx y hy e=>not_mem_keys_of_get hno ?_⟩
   have hy':y=k:=by simpa using hy
   rw[←hy',←e];exact hx
 ·refine JY (wpAny_dictEntries (s:={s with toks:=s.toks+knd.draws k}) ho hd ?_)
  rw[entry_at he j,hj]
  exact JY (wpAny_rule (JJ (h1 p (atKey_of_get hn hj))))
theorem BY (d a:Addr)(v:Value)(hd:(d==sysModules)=false) :
  MeetsIn prog w (Builtin.«dict.setdefault» ⟨[.ref d,.ref a,v],[]⟩) (λA R s=>knd.room A.in1/\∃k xs,knd.is s.heap k a/\s.heap.DictOfH knd d xs/\xs.length<=sizeLine/\
   (∀p,atKey xs k=some p->R (.ok (.ret p.2)) {s with toks:=s.toks+knd.draws k})/\
   (atKey xs k=none->∀h',h'.DictOfH knd d (xs++[(k,a,v)])->Heap.SameBut d s.heap h'->R (.ok (.ret v)) {s with heap:=h',toks:=s.toks+knd.draws k})) :=
 .of_wp λA R s ⟨hu,k,xs,hk,hm,hsz,h1,h2⟩=>by
  unfold Builtin.«dict.setdefault»;refine JY ?_
  unfold Builtin.Dict.keyAndDefault;refine JY (wpAny_notOrdered_dict hm.typeIs ?_)
  show wpAny (!3) _ (pure (d,Value.ref a,some v)) _ _ s;refine JJ ?_
  show wpAny (!3) _ (if (d==sysModules)=true then _ else (dictSetDefault d (.ref a) v >>=_)) _ _ s
  rw[JZ (by rw[hd];exact K5)]
  exact JY (MC hu hk hm hsz (λp hp=>JJ ⟨p.2,rfl,h1 p hp⟩) λhn h' hm' hs'=>JJ ⟨v,rfl,h2 hn h' hm' hs'⟩)
end
section
variable {X:Cx}
def Og (K:Frag):V->List V->Hp->VK->Prop:=λx vs H Q=>∃a kvs ks k kv lv,x= .ref a/\vs=[kv,lv]/\H a=some (.dct a ks)/\aR K H kvs ks.1/\aH K H k kv/\da k=true/\gF kvs=true/\ks.1.length < sizeLine/\
 (∀w,iY ks.1 k=some w->Q w H)/\(iY ks.1 k=none->∀ep,Q lv (upd H a (.dct a (ks.1++[(k,kv,lv)],ep))))
theorem Ki (hu:X.A.units+80 < cLine):JM X "dict.setdefault" (Og X.K):=by
 intro pins s σ H x vs v us Q I rx rv h
 obtain⟨a,kvs,ks,k,kv,lv,rfl,rfl,hH,t,hk,hkt,hat,hz,q1,q2⟩:=h
 cases(show v=Value.ref a from rx)
 cases rv with
 | cons r1 r2=>
  obtain⟨u2,rfl,r3⟩:=(show Vals [lv] _ from r2).one
  obtain⟨ds,rfl,hn⟩:=lZ hkt
  obtain⟨bk,zs,rfl,g1,g2⟩:=aL hk
  rename_i u1
  cases(show u1=Value.ref bk from r1)
  obtain⟨xs,dd,p,hs,hl,_⟩:=jE I (.inl hH) t hat
  have e1:=Paired.len p
  obtain⟨kk,hkk⟩:∃kk:NK,kk.d= .tuple ds:=⟨⟨ds,hn⟩,rfl⟩
  have tQ:gK s.heap kk.d (.ref bk):=by rw[hkk];exact aH.BR I 8 (.tuple ds) (.ref bk) (.ref bk) (by rw[Y.nest];exact hn) hk rfl
  rw[←hkk] at q1 q2
  obtain⟨ga,gb⟩:=tV kk p
  refine call_meetsIn PySem.F.slot_dict_setdefault dd.typeIs PySem.F.entry_dict_setdefault (PySem.F.args_dict_setdefault_3 _ _ _) (BY (knd:=bE X.prog X.w) a bk u2 hs) ⟨show X.A.units+1+10 < cLine by omega,kk,xs,tQ,dd,by omega,λpp hpp=> ?_,λhno h' rO sb=> ?_⟩
  ·cases hg:iY ks.1 kk.d with
   | none=>rw[gb hg] at hpp;cases hpp
   | some w=>
    obtain⟨p',hp',zI⟩:=ga w hg
    rw[hpp] at hp'
    cases hp'
    exact⟨w,H,I.tok _,zI,q1 w hg⟩
  ·have hg:iY ks.1 kk.d=none:=by
    cases hg:iY ks.1 kk.d with
    | none=>rfl
    | some w=>obtain⟨p',hp',_⟩:=ga w hg;rw[hno] at hp';cases hp'
   have hpr:Paired Rk (ks.1++[(kk.d,V.ref bk,lv)]) (xs++[(kk,bk,u2)]):=kb ⟨rfl,rfl,r3⟩ p
   obtain⟨ep,ph⟩:=jF (by rw[K2,X5];omega) hs hpr rO
   refine⟨lv,_,I.write (x:=a) (e:=a) (by rw[hH];trivial) (.inl rfl) (λc w hc hw=>(sb.2 c hc).trans hw) ?_ (jG ph),r3,q2 hg ep⟩
   obtain⟨ob,_,_,ho,_⟩:=rO
   exact⟨ob,ho⟩
end
def MD (n:PyData):PyData->Option PyData
 | .list xs=>if aq xs=true/\xs.length < sizeLine then some (.list (xs++[n])) else none
 | _=>none
theorem vt (k' v:PyData)(r:kZ)(k n:PyData):yH ((k',v) :: r) k n=if PyData.eqv k' k=true then (MD n v).map λz=>(k',z) :: r else (yH r k n).map ((k',v) :: ·):=by
 cases v <;> simp only[yH,MD] <;> split <;> try rfl
 split <;> rfl
theorem vz {k n:PyData}:∀{kvs:kZ},jA kvs k=none->yH kvs k n=some (kvs++[(k,.list [n])])
 | [],_=>rfl
 | (k',v) :: r,h=>by
  unfold jA at h
  rw[U6] at h
  simp only at h
  cases he:PyData.eqv k' k with
  | true=>rw[he] at h;cases h
  | false=>
   rw[he] at h
   rw[vt,JZ (by rw[he];exact K5),vz (kvs:=r) h];rfl
section
variable {K:Frag}{H:Hp}
theorem vA {k:PyData}{n:Int}:∀{kvs kvs':kZ} {ks:List (PyData×V×V)} {bs:List Addr} {z:PyData},aN K H kvs ks bs->bs.Nodup->jA kvs k=some z->yH kvs k (.int n)=some kvs'->
  ∃l vs,iY ks k=some (.ref l)/\H l=some (.lst vs)/\l∈bs/\vs.length < sizeLine/\aN K (upd H l (.lst (vs++[.int n]))) kvs' ks bs
 | [],kvs',ks,bs,z,t,_,g,_=>by simp[jA] at g
 | (k',d') :: r,kvs',ks,bs,z,t,hnd,g,e=>by
  simp only[aN] at t
  obtain⟨kv,v',q,a1,a2,rfl,rfl,h1,h2,h3⟩:=t
  rw[Xj] at hnd
  obtain⟨n1,n2,n3⟩:=hnd
  unfold jA at g
  rw[U6] at g
  simp only at g
  rw[vt] at e
  unfold iY
  rw[U6]
  simp only
  cases he:PyData.eqv k' k with
  | true=>
   rw[he] at g
   rw[JW he] at e
   cases d' <;> simp only[MD] at e <;> try (cases e;done)
   rename_i xs
   by_cases hc:aq xs=true/\xs.length < sizeLine
   ·rw[JW hc] at e
    cases e
    obtain⟨l,vs,cs,rfl,hl,ht,rfl⟩:=bD h2
    have hcs:cs=[]:=ay.nil _ _ _ hc.1 ht
    subst hcs
    have hlen:=bG ht
    refine⟨l,vs,rfl,hl,by simp,by omega,?_⟩
    simp only[aN]
    refine⟨kv,.ref l,q,[l],a2,rfl,rfl,IsT.upd hl trivial _ _ _ (by simp) h1,?_,?_⟩
    ·have h4:=ay.upd (o':=.lst (vs++[.int n])) hl trivial _ _ _ (show l∉[] by simp) ht
     have h5:ay K (upd H l (.lst (vs++[.int n]))) [PyData.int n] [V.int n] []:=aw.toT _ _ rfl (aX bB ba)
     exact dz ax (de h4 h5)
    ·exact aN.upd hl trivial _ _ _ (λz=>n3 l (by simp) l z rfl) h3
   ·rw[JZ hc] at e;cases e
  | false=>
   rw[he] at g
   rw[JZ (by rw[he];exact K5)] at e
   cases hs:yH r k (.int n) with
   | none=>rw[hs] at e;cases e
   | some r'=>
    rw[hs] at e
    cases e
    obtain⟨l,vs,i1,i2,i3,i4,i5⟩:=vA h3 n2 g hs
    refine⟨l,vs,i1,i2,Kx _ i3,i4,?_⟩
    simp only[aN]
    exact⟨kv,v',q,a1,a2,rfl,rfl,IsT.upd i2 trivial _ _ _ (by simp) h1,IsT.upd i2 trivial _ _ _ (λz=>n3 l z l i3 rfl) h2,i5⟩
theorem mZ {k d:PyData}{kv v:V}{cs:List Addr}(hk:IsT K H k kv [])(hv:IsT K H d v cs):∀{kvs:kZ} {ks:List (PyData×V×V)} {bs:List Addr},aN K H kvs ks bs->aN K H (kvs++[(k,d)]) (ks++[(k,kv,v)]) (bs++cs)
 | [],ks,bs,t=>by
  simp only[aN] at t
  obtain⟨rfl,rfl⟩:=t
  simp only[YU,aN]
  exact⟨kv,v,[],cs,[],rfl,by simp,hk,hv,rfl,rfl⟩
 | (k',d') :: r,ks,bs,t=>by
  simp only[aN] at t
  obtain⟨kv',v',q,a1,a2,rfl,rfl,h1,h2,h3⟩:=t
  rw[U8,U8]
  simp only[aN]
  exact⟨kv',v',_,a1,a2++cs,rfl,by rw[X7],h1,h2,mZ hk hv h3⟩
theorem rR {k:PyData}:∀{kvs:kZ} {ks:List (PyData×V×V)},aR K H kvs ks->jA kvs k=none->iY ks k=none
 | [],ks,t,h=>by simp only[aR] at t;subst t;rfl
 | (k',d') :: r,ks,t,h=>by
  simp only[aR] at t
  obtain⟨kv,v',q,rfl,h1,h2,h3⟩:=t
  unfold jA iY at*
  rw[U6] at h⊢
  simp only at h⊢
  cases he:PyData.eqv k' k with
  | true=>rw[he] at h;cases h
  | false=>rw[he] at h;exact rR h3 h
end
section
variable {X:Cx}{K:Frag}{Ew:Str->Hp->Prop}{pos lp p1:Pos}{ke o ne:Expr}{fk:EF}{IT Eo ME IU:Pos}
theorem F6 (hu:X.A.units+80 < cLine){i j:Nat}(ho:PE X o (kX i))(hk:DE X K Ew ke fk)(hn:PE X ne (kX j))(hK:X.K=K:=by rfl)
  (hb1:attributeBase o "setdefault" X.env (eval o X.env)=eval o X.env:=by rfl)
  (hf1:((backTo Eo (starEach [ke,.List [] lp] X.env)).all (λx=> !x.1) && (backToKw Eo (keywordEach [] X.env)).all (λx=>x.1.isSome)
   && decide (([ke,.List [] lp]:List Expr).length+([]:List Keyword).length+(if ([]:List Keyword).isEmpty then 0 else 1) < 30))=true:=by rfl)
  (hl1:(IT.endLine==Eo.line)=true:=by rfl) (hs1:starEach [ke,.List [] lp] X.env=(false,eval ke X.env) :: starEach [.List [] lp] X.env:=by rfl) (hp1:(backTo Eo (starEach [.List [] lp] X.env)).any (·.1)=false:=by rfl)
  (hs0:starEach [.List [] lp] X.env=(false,eval (.List [] lp) X.env) :: starEach [] X.env:=by rfl)
  (hb2:attributeBase (.Call (.Attribute o "setdefault" IT) [ke,.List [] lp] [] Eo) "append" X.env (eval (.Call (.Attribute o "setdefault" IT) [ke,.List [] lp] [] Eo) X.env)=eval (.Call (.Attribute o "setdefault" IT) [ke,.List [] lp] [] Eo) X.env:=by rfl)
  (hf2:((backTo IU (starEach [ne] X.env)).all (λx=> !x.1) && (backToKw IU (keywordEach [] X.env)).all (λx=>x.1.isSome)
   && decide (([ne]:List Expr).length+([]:List Keyword).length+(if ([]:List Keyword).isEmpty then 0 else 1) < 30))=true:=by rfl)
  (hl2:(ME.endLine==IU.line)=true:=by rfl) (hs2:starEach [ne] X.env=(false,eval ne X.env) :: starEach [] X.env:=by rfl) (hp2:(backTo IU (starEach [] X.env)).any (·.1)=false:=by rfl)
  (hsw:swapsWith (.Call (.Attribute (.Call (.Attribute o "setdefault" IT) [ke,.List [] lp] [] Eo) "append" ME) [ne] [] IU) none pos.line X.env=pure false:=by rfl) :
  DS X K Ew (.Expr (.Call (.Attribute (.Call (.Attribute o "setdefault" IT) [ke,.List [] lp] [] Eo) "append" ME) [ne] [] IU) pos) (Ab i fk j) :=
 (kE (yD PySem.F.plainAttrs_list PySem.F.slot_list_append PySem.F.type_list_append mT
  (F3 PySem.F.slot_dict_setdefault PySem.F.type_dict_setdefault (Ki hu) ho (bA hk (bA (Bd cZ) cZ hs0) hs1) hb1 hf1 hl1 hs1 hp1) (bA hn cZ hs2) hb2 hf2 hl2 hs2 hp2) hsw).imp λD σ H q=>by
  subst hK
  obtain⟨B,φ,Γ,r,q⟩:=q
  unfold Ab at q
  match hg:Γ[i]?,q with
  | some (some (true,.dict kvs)),q=>
   obtain⟨v,hv,hT⟩:=r.own hg
   obtain⟨l,ks,bs,rfl,hl,ht,hφ⟩:=db hT
   have hli:l∈φ i:=by rw[hφ];exact K8
   have hnd:=r.nd i
   rw[hφ,KU] at hnd
   refine⟨.ref l,hv,⟨l,ks,rfl,.inl hl⟩,B,φ,Γ,r,?_⟩
   match hm:fk Γ,q with
   | some (.ok (k,d)),q=>
    refine .inl ⟨k,d,rfl,λy H1 s1 hy=> ?_⟩
    have r1:=r.same s1
    have hl1:=s1 _ _ hl
    have ht1:=aN.same s1 _ _ _ ht
    have hkd:=hy.toD r1.bs
    replace q:cS X.K Ew B (match Γ[j]? with
     | some (some (_,.int n))=>if da d=true/\gF kvs=true/\kvs.length < sizeLine then (match yH kvs d (.int n) with
      | some kvs'=>ag (.nx (Γ.set i (some (true,.dict kvs'))))
      | none=>none) else none
     | _=>none) D:=q
    match hj:Γ[j]?,q with
    | some (some (ob,.int n)),q=>
     obtain⟨vj,hvj,Lz⟩:=r1.sl j ob (.int n) hj
     have hvn:vj= .int n:=by
      cases ob with
      | true=>rw[JW rfl] at Lz;exact aD (IsT.toD _ _ _ Lz)
      | false=>rw[JZ K5] at Lz;exact aD Lz
     subst hvn
     replace q:cS X.K Ew B (if da d=true/\gF kvs=true/\kvs.length < sizeLine then (match yH kvs d (.int n) with
      | some kvs'=>ag (.nx (Γ.set i (some (true,.dict kvs'))))
      | none=>none) else none) D:=q
     by_cases hc:da d=true/\gF kvs=true/\kvs.length < sizeLine
     ·rw[JW hc] at q
      obtain⟨c1,c2,c3⟩:=hc
      refine⟨Xx _,λp hp=> ?_⟩
      have s2:Same H1 (upd H1 p (.lst [])):=Same.upd hp
      have r2:=r1.same s2
      have Ad:=aN.same s2 _ _ _ ht1
      have Ep:=aN.toD _ _ _ Ad
      have hpl:p≠l:=λz=>by rw[z,hl1] at hp;cases hp
      have hl2:upd H1 p (.lst []) l=some (.dct l ks):=by rw[aS (Ne.symm hpl)];exact hl1
      have Kl:=aH.same s2 _ _ hkd
      refine⟨l,kvs,ks,d,y,.ref p,rfl,rfl,hl2,Ep,Kl,c1,c2,by rw[gy Ep];exact c3,λw hw=> ?_,λhw ep=> ?_⟩
      ·cases IV:jA kvs d with
       | none=>rw[rR Ep IV] at hw;cases hw
       | some z=>
        cases hsd:yH kvs d (.int n) with
        | none=>rw[hsd] at q;exact False.elim q
        | some kvs'=>
         rw[hsd] at q
         obtain⟨m,vs,i1,i2,i3,i4,i5⟩:=vA Ad hnd.2 IV hsd
         rw[hw] at i1
         cases i1
         have hmi:m∈φ i:=by rw[hφ];exact K9 _ i3
         have hml:m≠l:=λz=>hnd.1 (z ▸ i3)
         refine⟨.inl ⟨rfl,vs,fU.of i2⟩,.int n,hvj,m,vs,.int n,rfl,rfl,i2,i4,?_⟩
         refine q B _ σ _ (Same.refl B) (r2.chg (d:=.dict kvs') (as:=l :: bs) hmi i2 trivial hv (gM (by rw[aS (Ne.symm hml)];exact hl2) i5) (KU.mpr hnd) (λa ha=> .inl (by rw[hφ];exact ha)) trivial)
      ·have IV:jA kvs d=none:=by
        cases IV:jA kvs d with
        | none=>rfl
        | some z=>obtain⟨w,g1,_⟩:=kL Ep z IV;rw[hw] at g1;cases g1
       rw[vz IV] at q
       have hp3:upd (upd H1 p (.lst [])) l (.dct l (ks.1++[(d,y,.ref p)],ep)) p=some (.lst []):=by rw[aS hpl,ax]
       refine⟨.inl ⟨rfl,[],fU.of hp3⟩,.int n,hvj,p,[],.int n,rfl,rfl,hp3,by decide,?_⟩
       have Nu:IsT X.K (upd H1 p (.lst [])) d y []:=aH.toT _ _ (l4 c1) Kl
       have Oh:B p=none:=r1.bs.free hp
       have hpφ:∀j,p∉φ j:=λj z=>by obtain⟨_,o,ho,_⟩:=r1.nb j p z;rw[hp] at ho;cases ho
       have hpb:p∉bs:=λz=>hpφ i (by rw[hφ];exact K9 _ z)
       have Er:(l :: (bs++[p])).Nodup:=by
        rw[KU,Xj]
        refine⟨λz=> ?_,hnd.2,KU.mpr ⟨by simp,X3⟩,λa ha b hb e=>hpb ?_⟩
        ·rcases Kk.mp z with z | z
         ·exact hnd.1 z
         ·exact hpl (K7.mp z).symm
        ·rw[←K7.mp hb,←e];exact ha
       have mid:aN X.K (upd H1 p (.lst [])) (kvs++[(d,.list [])]) (ks.1++[(d,y,.ref p)]) (bs++[p]):=mZ Nu (dz ax jf) Ad
       have r3:=r2.chg (o':=.dct l (ks.1++[(d,y,.ref p)],ep)) (d:=.dict (kvs++[(d,.list [])])) (as:=l :: (bs++[p])) hli hl2 trivial hv (gM ax (aN.upd hl2 trivial _ _ _ (λz=>by rw[KU] at Er;exact Er.1 z) mid)) Er (λa ha=>by
        rcases K0.mp ha with z | z
        ·rw[z];exact .inl hli
        ·rcases Kk.mp z with z | z
         ·exact .inl (by rw[hφ];exact K9 _ z)
         ·rw[K7.mp z];exact .inr ⟨Oh,hpφ⟩) trivial
       have hpi:p∈(λj'=>if j'=i then l :: (bs++[p]) else φ j') i:=by simp
       have MF:aN X.K (upd (upd H1 p (.lst [])) l (.dct l (ks.1++[(d,y,.ref p)],ep))) kvs ks.1 bs:=aN.upd hl2 trivial _ _ _ hnd.1 Ad
       have MG:=aN.upd (o':=.lst ([]++[.int n])) hp3 trivial _ _ _ hpb MF
       have MJ:IsT X.K (upd (upd (upd H1 p (.lst [])) l (.dct l (ks.1++[(d,y,.ref p)],ep))) p (.lst ([]++[.int n]))) d y []:=IsT.upd hp3 trivial _ _ _ (by simp) (IsT.upd hl2 trivial _ _ _ (by simp) Nu)
       have h5:ay X.K (upd (upd (upd H1 p (.lst [])) l (.dct l (ks.1++[(d,y,.ref p)],ep))) p (.lst ([]++[.int n]))) [PyData.int n] [V.int n] []:=aw.toT _ _ rfl (aX bB ba)
       have fin2:=mZ MJ (dz (a:=p) (vs:=[V.int n]) ax h5) MG
       have r4:=r3.chg (o':=.lst ([]++[.int n])) (d:=.dict (kvs++[(d,.list [.int n])])) (as:=l :: (bs++[p])) hpi hp3 trivial hv (gM (by rw[aS (Ne.symm hpl),ax]) fin2) Er (λa ha=> .inl (by simpa using ha)) trivial
       rw[List.set_set] at r4
       exact q B _ σ _ (Same.refl B) r4
     ·rw[JZ hc] at q
      exact False.elim q
    | some (some (_,.none)),q|some (some (_,.bool _)),q|some (some (_,.str _)),q|some (some (_,.list _)),q|some (some (_,.tuple _)),q|some (some (_,.dict _)),q|some none,q|none,q=>cases q
   | some (.ex c),q=>exact .inr ⟨c,rfl,q⟩
   | none,q=>cases q
  | some (some (true,.none)),q|some (some (true,.bool _)),q|some (some (true,.int _)),q|some (some (true,.str _)),q|some (some (true,.tuple _)),q|some (some (true,.list _)),q|some (some (false,_)),q|some none,q|none,q=>cases q
end
end L2
namespace Y
open PySem
def kg (n:Nat)(ds:List PyData)(w:PyData):bf:=ds.map (λd=>some (false,d))++some (true,w) :: List.replicate (n - (ds.length+1)) none
def runIO (n ir:Nat)(f:SF):List PyData->PyData->M (PyData×PyData):=λds w=>ap (f (kg n ds w)) λo=>match o with
 | .nx Γ=>(match Γ[ir]?,Γ[ds.length]? with
  | some (some (true,.list xs)),some (some (true,.dict kvs))=>ag (.list xs,.dict kvs)
  | _,_=>none)
 | _=>none
def lB:Kd->Bool
 | .base=>true
 | _=>false
def y6 (iw:Nat)(F:List PyData->PyData->M (PyData×PyData))(f1 f2:EF)(g:GF)(b:SF):SF:=λΓ=>match Γ[iw]? with
 | some (some (true,.dict kvs))=>ap (f1 Γ) λx=>ap (f2 Γ) λy=>if lB x.1=true/\lB y.1=true then (match F [x.2,y.2] (.dict kvs) with
  | some (.ok (.list ds,.dict kvs'))=>aW g b ds (Γ.set iw (some (true,.dict kvs')))
  | _=>none) else none
 | _=>none
end Y
namespace L2
open PySem PySem.Spec PyProof.Rows Y
section
variable {K:Frag}{H H':Hp}
theorem dL.via (e:∀a o,H a=some o->¬ eX o->H' a=some o){a:Addr}{xs:List V}(h:dL K H a xs):dL K H' a xs:=by
 rcases h with(h | ⟨o,h⟩) | h
 ·exact .inl (.inl (e _ _ h (λz=>z)))
 ·exact .inl (.inr ⟨o,e _ _ h (λz=>z)⟩)
 ·exact .inr h
mutual
theorem IsT.via (e:∀a o,H a=some o->¬ eX o->H' a=some o):∀(d:PyData) (v:V) (as:List Addr),(∀a∈as,∀o,H a=some o->H' a=some o)->IsT K H d v as->IsT K H' d v as
 | .none,v,as,_,h=>by simpa only[IsT] using h
 | .bool b,v,as,_,h=>by simpa only[IsT] using h
 | .int i,v,as,_,h=>by simpa only[IsT] using h
 | .str x,v,as,_,h=>by simpa only[IsT] using h
 | .list xs,v,as,n,h=>by
  simp only[IsT] at h⊢
  obtain⟨a,vs,bs,e1,h1,h2,rfl⟩:=h
  exact⟨a,vs,bs,e1,n a K8 _ h1,ay.via e xs vs bs (λb hb=>n b (K9 _ hb)) h2,rfl⟩
 | .tuple xs,v,as,n,h=>by
  simp only[IsT] at h⊢
  obtain⟨a,vs,e1,h1,h2⟩:=h
  exact⟨a,vs,e1,h1.via e,ay.via e xs vs as n h2⟩
 | .dict kvs,v,as,n,h=>by
  simp only[IsT] at h⊢
  obtain⟨a,ks,bs,e1,h1,h2,rfl⟩:=h
  exact⟨a,ks,bs,e1,n a K8 _ h1,aN.via e kvs ks.1 bs (λb hb=>n b (K9 _ hb)) h2,rfl⟩
theorem ay.via (e:∀a o,H a=some o->¬ eX o->H' a=some o):∀(ds:List PyData) (vs:List V) (as:List Addr),(∀a∈as,∀o,H a=some o->H' a=some o)->ay K H ds vs as->ay K H' ds vs as
 | [],vs,as,_,h=>by simpa only[ay] using h
 | d :: ds,vs,as,n,h=>by
  simp only[ay] at h⊢
  obtain⟨v,r,a1,a2,e1,rfl,h1,h2⟩:=h
  exact⟨v,r,a1,a2,e1,rfl,IsT.via e d v a1 (λb hb=>n b (KZ _ hb)) h1,ay.via e ds r a2 (λb hb=>n b (Kx _ hb)) h2⟩
theorem aN.via (e:∀a o,H a=some o->¬ eX o->H' a=some o):∀(ds:List (PyData×PyData)) (ks:List (PyData×V×V)) (as:List Addr),(∀a∈as,∀o,H a=some o->H' a=some o)->aN K H ds ks as->aN K H' ds ks as
 | [],ks,as,_,h=>by simpa only[aN] using h
 | (k,d) :: r,ks,as,n,h=>by
  simp only[aN] at h⊢
  obtain⟨kv,v,q,a1,a2,e1,rfl,h1,h2,h3⟩:=h
  exact⟨kv,v,q,a1,a2,e1,rfl,IsT.via e k kv [] (λb hb=>by cases hb) h1,IsT.via e d v a1 (λb hb=>n b (KZ _ hb)) h2,aN.via e r q a2 (λb hb=>n b (Kx _ hb)) h3⟩
end
end
section
variable {X:Cx}{K:Frag}{Ew:Str->Hp->Prop}{iw:Nat}{a:Addr}{pos p:Pos}{st:Stmt}{rest ss:List Stmt}{f g:SF}{t:TF}{o j e:Expr}{fe fj:EF}{apos cpos:Pos}
def Hold (iw:Nat)(a:Addr)(σ:St):Prop:=σ[iw]? =some (some (.ref a))
theorem Hold.set {σ:St}{i:Nat}{v:Option V}(h:Hold iw a σ)(hi:i≠iw):Hold iw a (σ.set i v):=by
 unfold Hold
 rw[XQ hi];exact h
theorem Hold.sets:∀{is:List Nat} {vs:List V} {σ:St},(∀i∈is,i≠iw)->Hold iw a σ->Hold iw a (oZ σ is vs)
 | [],vs,σ,_,h=>by cases vs <;> exact h
 | i :: is,[],σ,_,h=>h
 | i :: is,v :: vs,σ,n,h=>Hold.sets (is:=is) (vs:=vs) (λj hj=>n j (K9 _ hj)) (h.set (n i K8))
def HB (iw:Nat)(a:Addr)(D:Ends):Ends:={nx:=λσ H=>Hold iw a σ->D.nx σ H,rt:=D.rt,bk:=λσ H=>Hold iw a σ->D.bk σ H,ct:=λσ H=>Hold iw a σ->D.ct σ H}
def tZ (K:Frag)(Ew:Str->Hp->Prop)(iw:Nat)(a:Addr)(f:SF):TS:=λD σ H=>Hold iw a σ/\JP K Ew f (HB iw a D) σ H
def ZS (X:Cx)(K:Frag)(Ew:Str->Hp->Prop)(iw:Nat)(a:Addr)(s:Stmt)(f:SF):Prop:=PS X s (tZ K Ew iw a f)
def HC (X:Cx)(K:Frag)(Ew:Str->Hp->Prop)(iw:Nat)(a:Addr)(s:List Stmt)(f:SF):Prop:=qC X s (tZ K Ew iw a f)
theorem Es:HC X K Ew iw a [] cB:=yu.imp λD σ H q=>by
 obtain⟨z,B,φ,Γ,r,q⟩:=q
 exact q B φ σ H (Same.refl B) r z
theorem y7 (h:ZS X K Ew iw a st f):HC X K Ew iw a [st] f:=sJ h
theorem BZ (h1:ZS X K Ew iw a st f)(h2:HC X K Ew iw a rest g):HC X K Ew iw a (st :: rest) (aB f g):=(oJ h1 h2).imp λD σ H q=>by
 obtain⟨z,B,φ,Γ,r,q⟩:=q
 refine⟨z,B,φ,Γ,r,?_⟩
 unfold aB at q
 match hm:f Γ,q with
 | some (.ok (.nx Γ')),q=>exact λB' φ' σ' H' s' r' z'=>⟨z',B',φ',Γ',r',cS.base s' q⟩
 | some (.ok (.bk Γ')),q=>exact q
 | some (.ok (.ct Γ')),q=>exact q
 | some (.ok (.rt o d)),q=>exact q
 | some (.ex c),q=>exact q
 | none,q=>cases q
theorem Km {c:Expr}{x y:List Stmt}(hc:DT X K Ew c t)(hx:HC X K Ew iw a x f)(hy:HC X K Ew iw a y g):ZS X K Ew iw a (.If c x y pos) (ja t f g):=(FL hc hx hy).imp λD σ H q=>by
 obtain⟨z,B,φ,Γ,r,q⟩:=q
 refine⟨B,φ,Γ,r,?_⟩
 unfold ja at q
 match hm:t Γ,q with
 | some (.ok true),q=>exact .inl ⟨true,rfl,λH1 s=>by show(if true=true then _ else _);rw[JW rfl];exact⟨z,B,φ,Γ,r.same s,q⟩⟩
 | some (.ok false),q=>exact .inl ⟨false,rfl,λH1 s=>by show(if false=true then _ else _);rw[JZ K5];exact⟨z,B,φ,Γ,r.same s,q⟩⟩
 | some (.ex c),q=>exact .inr ⟨c,rfl,q⟩
 | none,q=>cases q
theorem HD {i:Nat}{x:Str}{pos':Pos}(hN:X.N.Nodup)(hi:X.N[i]? =some x)(hx:Loc X.env.scope x)(he:DE X K Ew e fe)(hw:i≠iw:=by decide)(hs:swapsWith e (some (.Name x pos')) pos.line X.env=pure false:=by rfl)(hf:X.fn x=true∨X.env.scope.names.lookup x=some .local:=by first | exact .inl rfl | exact .inr rfl | assumption) :
  ZS X K Ew iw a (.Assign [.Name x pos'] e pos) (aE i fe):=(w_ (i:=i) hN hi hx he hs hf).imp λD σ H q=>
 gx (g:=λx Γ=>ag (.nx (iV Γ i x.1 x.2))) q.2 λB φ Γ k d v H1 r a q'=>by
  obtain⟨B',φ',s',r'⟩:=jC r i a
  exact q' B' φ' _ H1 s' r' (q.1.set hw)
def Nv (K:Frag)(iw:Nat)(a:Addr)(g:GF):TG:=λv σ H Q=>Hold iw a σ/\tG K g v σ H (λσ' H'=>Hold iw a σ'->Q σ' H')
theorem Kn {es:List Expr}{k:Nat}{is:List Nat}(hc:X.calm=true)(hg:IN X es (td is))(hw:∀i∈is,i≠iw:=by decide)(hn:(assignEach es X.env).length=is.length:=by rfl)(hst:(assignEach es X.env).findIdx? (·.1)=none:=by rfl)(hK:X.K=K:=by rfl) :
  PG X (.Tuple es k pos) (Nv K iw a (jy is)):=(Ba (n:=is.length) hc hg hn hst).imp λv σ H Q q=>by
 obtain⟨z,B,φ,Γ,k,d,Γ',r,av,e,q⟩:=q
 cases d <;> simp only[jy] at e <;> try (cases e;done)
 rename_i ds
 split at e
 ·rename_i hl
  cases e
  obtain⟨a',vs,rfl,hq,av,hlen⟩:=av.tup r.bs
  refine⟨a',vs,rfl,by rw[hK];exact hq,by omega,lr _ _ _ _ _ (!1) ?_⟩
  obtain⟨B',φ',s',r'⟩:=jk (u0 k) is ds vs hl r av
  exact q B' φ' _ s' r' (z.sets hw)
 ·cases e
theorem HE {tg iter:Expr}{body:List Stmt}{it:IF}{g:GF}{fb:SF}(hp:PassesOwn (model X.prog X.w) X.A X.env X.xe)(hc:X.calm=true)(hi:DI X K Ew tg iter it)(hg:PG X tg (Nv K iw a g))(hb:HC X K Ew iw a body fb)
  (hs:∀x,foldedSetIterable iter X.env x=pure x:=by intro _;rfl):ZS X K Ew iw a (.For tg iter body [] pos) (bx it g fb):=(xc hp hc hi hg hb hs).imp λD σ H q=>by
 obtain⟨z,B,φ,Γ,r,q⟩:=q
 refine⟨B,φ,Γ,r,?_⟩
 unfold bx at q
 match hm:it Γ,q with
 | some (.ok (k,ds)),q=>
  intro J H1 B1 ψ s0 s1 r1 io
  have q:cS K Ew B1 (aW g fb ds (j9 k Γ)) (HB iw a D):=cS.base s1 q
  refine⟨λi m σ H=>m=ds.length - i/\i<=ds.length/\Hold iw a σ/\∃B2 φ2 Γ2,Same B1 B2/\Rep K B2 φ2 Γ2 σ H/\cS K Ew B1 (aW g fb (ds.drop i) Γ2) (HB iw a D),⟨ds.length,by simp,Xx _,z,B1,ψ,_,Same.refl B1,r1,by simpa using q⟩,?_⟩
  rintro i m σ2 H2 ⟨rfl,hi2,z2,B2,φ2,Γ2,s2,r2,q2⟩
  by_cases hlt:i < ds.length
  ·refine .inr ⟨io.go i H2 hlt (s2.trans r2.bs),λσ' H'=>Hold iw a σ'/\∃B3 φ3 Γ3,Same B1 B3/\Rep K B3 φ3 Γ3 σ' H'/\cS K Ew B1 (aW g fb (ds.drop (i+1)) Γ3) (HB iw a D),λσ' H' h'=>⟨ds.length - (i+1),by omega,rfl,hlt,h'⟩,λx H' y=> ?_⟩
   obtain⟨s3,d,e,hd⟩:=io.yl i H2 x H' hlt (s2.trans r2.bs) y
   have r3:=r2.same s3
   have By:aH K (gG φ2 H') d x:=hd _ (s2.trans r3.sZ) λb o e1 e2=>by
    rw[cT]
    ·exact e2
    ·intro j hj
     obtain⟨o',e',_⟩:=(r2.nb j b hj).2
     rw[e1] at e';cases e'
   have ed:ds.drop i=d :: ds.drop (i+1):=by
    rw[U7 hlt]
    congr 1
    rw[K3 hlt] at e
    exact Option.some.inj e
   rw[ed] at q2
   have q3:=q2
   simp only[aW] at q3
   cases Bz:g (cA .base d) d Γ2 with
   | none=>simp only[Bz] at q3;exact False.elim q3
   | some Γ3=>
    simp only[Bz,bt,ar] at q3
    refine⟨z2,gG φ2 H',φ2,Γ2,cA .base d,d,Γ3,r3.cut,VR.av r3.cut (VR.cA (ji _ _) (show VR K _ φ2 H' H' .base d x from By)),Bz,λB4 φ4 σ4 s4 r4 z4=> ?_⟩
    have sB:Same B1 B4:=(s2.trans r3.sZ).trans s4
    refine⟨z4,B4,φ4,Γ3,r4,?_⟩
    match hbm:fb Γ3,q3 with
    | some (.ok (.nx Γ')),q3=>exact λB' φ' σ' j1 s' r' z'=>⟨z',B',φ',Γ',sB.trans s',r',q3⟩
    | some (.ok (.ct Γ')),q3=>exact λB' φ' σ' j1 s' r' z'=>⟨z',B',φ',Γ',sB.trans s',r',q3⟩
    | some (.ok (.bk Γ')),q3=>exact λB' φ' σ' j1 s' r' z'=>q3 B' φ' σ' j1 (sB.trans s') r' z'
    | some (.ok (.rt o d)),q3=>exact λv j1 s' rv=>q3 v j1 (sB.trans s') (rv.base sB)
    | some (.ex c),q3=>exact λj1 s'=>q3 j1 (sB.trans s')
    | none,q3=>exact False.elim q3
  ·have e:i=ds.length:=by omega
   subst e
   rw[List.drop_length] at q2
   exact .inl ⟨io.stop H2 (s2.trans r2.bs),q2 B2 φ2 σ2 H2 s2 r2 z2⟩
 | some (.ex c),q=>exact q
 | none,q=>cases q
end
end L2
namespace L2
open PySem PySem.Spec PyProof.Rows Y
section
variable {X:Cx}{K:Frag}{Ew:Str->Hp->Prop}{iw:Nat}{a:Addr}{pos p pos':Pos}{st:Stmt}{rest ss:List Stmt}{f g:SF}{o j e:Expr}{fe fj:EF}{apos cpos:Pos}
theorem Et (hu:X.A.units+80 < cLine){i:Nat}(ho:PE X o (kX i))(hj:DE X K Ew j fj)(he:DE X K Ew e fe)(hK:X.K=K:=by rfl)
  (ha:∀v,assign (.Subscript o j p) X.env v=(do
   let ov←holding [v] (eval o X.env)
   let iv←holding [v,ov] (eval j X.env)
   standAt p
   holding [v,ov,iv] (setItem ov iv v)
   release [v,ov,iv] []):=by intro _;rfl)
  (hs:swapsWithSole [.Subscript o j p] e pos.line X.env=pure false:=by rfl) (hw:swappedStores [.Subscript o j p] e X.env=pure none:=by rfl)
  (h1:(assignEach [.Subscript o j p] X.env).map (·.2)=[assign (.Subscript o j p) X.env]:=by rfl):ZS X K Ew iw a (.Assign [.Subscript o j p] e pos) (oT i fj fe) :=
 (sK he (w9 ho hj (yZ hu) ha) hs hw h1).imp λD σ H q=>
  gx (g:=λx Γ=>match Γ[i]? with
   | some (some (true,.dict kvs))=>ap (fj Γ) λy=>if dO kvs y.2=true/\bj x.2=true/\dP kvs=true/\kvs.length < sizeLine then ag (.nx (Γ.set i (some (true,.dict (putK kvs y.2 x.2))))) else none
   | _=>none) q.2 λB φ Γ k d y H1 r av q'=>by
   have z:=q.1
   replace q:=q'
   clear q'
   subst hK
   match hg:Γ[i]?,q with
   | some (some (true,.dict kvs)),q=>
    obtain⟨v,hv,hT⟩:=r.own hg
    obtain⟨l,ks,bs,rfl,hl,ht,hφ⟩:=db hT
    have hli:l∈φ i:=by rw[hφ];exact K8
    refine⟨.ref l,hv,B,φ,Γ,r,?_⟩
    match hm:fj Γ,q with
    | some (.ok (k',d')),q=>
     refine .inl ⟨k',d',rfl,λw H2 s2 hw=> ?_⟩
     have r2:=r.same s2
     replace q:cS X.K Ew B (if dO kvs d'=true/\bj d=true/\dP kvs=true/\kvs.length < sizeLine then ag (.nx (Γ.set i (some (true,.dict (putK kvs d' d))))) else none) (HB iw a D):=q
     by_cases hc:dO kvs d'=true/\bj d=true/\dP kvs=true/\kvs.length < sizeLine
     ·rw[JW hc] at q
      obtain⟨c1,c2,c3,c4⟩:=hc
      have hbs:bs=[]:=l9 ht c3
      subst hbs
      have hdk:=aR.same s2 _ _ (aN.toD _ _ _ ht)
      have hkd:=hw.toD r2.bs
      have hdd:=aH.same s2 _ _ (av.toD r.bs)
      refine⟨l,ks,kvs,d',rfl,s2 _ _ hl,hdk,hkd,c1,by rw[gy hdk];exact c4,λep=> ?_⟩
      have hkn:∀p∈kvs,bj p.1=true:=λp hp=>by
       have:=ht
       exact oz ht p hp
      have Hy:=pA hdk hkd hdd
      have hn2:∀p∈putK kvs d' d,bj p.1=true:=λp hp=>by
       unfold putK at hp
       split at hp
       ·obtain⟨q',hq',rfl⟩:=Kw.mp hp
        split
        ·exact hkn q' hq'
        ·exact hkn q' hq'
       ·rcases Kk.mp hp with hp | hp
        ·exact hkn p hp
        ·rw[K7.mp hp];exact tR c1
      have hnew:=aN.upd (o':=.dct l (l5 ks.1 d' w y,ep)) (s2 _ _ hl) trivial _ _ _ (show l∉[] by simp) (kK Hy hn2 (pC c3 c2))
      exact q B _ σ _ (Same.refl B) (r2.chg (d:=.dict (putK kvs d' d)) (as:=[l]) hli (s2 _ _ hl) trivial hv (gM ax hnew) (KU.mpr ⟨by simp,X3⟩) (λb ha=> .inl (by rw[K7.mp ha];exact hli)) trivial) z
     ·rw[JZ hc] at q
      exact False.elim q
    | some (.ex c),q=>exact .inr ⟨c,rfl,q⟩
    | none,q=>cases q
   | some (some (true,.none)),q|some (some (true,.bool _)),q|some (some (true,.int _)),q|some (some (true,.str _)),q|some (some (true,.tuple _)),q|some (some (true,.list _)),q|some (some (false,_)),q|some none,q|none,q=>cases q
theorem HF {i:Nat}(ho:PE X o (kX i))(he:DE X K Ew e fe)(hK:X.K=K:=by rfl)
  (hbase:attributeBase o "extend" X.env (eval o X.env)=eval o X.env:=by rfl)
  (hfew:((backTo cpos (starEach [e] X.env)).all (λx=> !x.1) && (backToKw cpos (keywordEach [] X.env)).all (λx=>x.1.isSome)
   && decide (([e]:List Expr).length+([]:List Keyword).length+(if ([]:List Keyword).isEmpty then 0 else 1) < 30))=true:=by rfl)
  (hline:(apos.endLine==cpos.line)=true:=by rfl) (hs:starEach [e] X.env=(false,eval e X.env) :: starEach [] X.env:=by rfl) (hplain:(backTo cpos (starEach [] X.env)).any (·.1)=false:=by rfl)
  (hsw:swapsWith (.Call (.Attribute o "extend" apos) [e] [] cpos) none pos.line X.env=pure false:=by rfl) :
  ZS X K Ew iw a (.Expr (.Call (.Attribute o "extend" apos) [e] [] cpos) pos) (xt i fe) :=
 (kE (yD PySem.F.plainAttrs_list PySem.F.slot_list_extend PySem.F.type_list_extend yS ho (bA he cZ hs) hbase hfew hline hs hplain) hsw).imp λD σ H q=>by
  obtain⟨z,B,φ,Γ,r,q⟩:=q
  unfold xt at q
  match hg:Γ[i]?,q with
  | some (some (true,.list xs)),q=>
   obtain⟨v,hv,hT⟩:=r.own hg
   obtain⟨l,vs,bs,rfl,hl,ht,hφ⟩:=bD hT
   refine⟨.ref l,hv,.inl ⟨rfl,vs,fU.of hl⟩,B,φ,Γ,r,?_⟩
   match hm:fe Γ,q with
   | some (.ok (k,d)),q=>
    refine .inl ⟨k,d,rfl,λy H1 s1 hy=> ?_⟩
    have r1:=r.same s1
    have hl1:=s1 _ _ hl
    have hlen:vs.length=xs.length:=bG ht
    have hli:l∈φ i:=by rw[hφ];exact K8
    replace q:cS K Ew B (match xr k d with
     | some ys=>if aq ys=true/\xs.length+ys.length<=sizeLine then ag (.nx (Γ.set i (some (true,.list (xs++ys))))) else none
     | none=>none) (HB iw a D):=q
    have hd:=hy.toD r1.bs
    have hnd:=r.nd i
    rw[hφ] at hnd
    have hnb:l∉bs:=(KU.mp hnd).1
    have main:∀(b:Addr) (ws:List V) (ys:List PyData),y= .ref b->xr k d=some ys->(l=b->∃o,K.lookup b=some o)->(fU K H1 b ws∨dL K H1 b ws)->aw K H1 ys ws->BH X.K (.ref l) [y] H1 λ_ H1=>D.nx σ H1:=λb ws ys ey ei Mp hb hws=>by
     rw[ei] at q
     by_cases hc:aq ys=true/\xs.length+ys.length<=sizeLine
     ·replace q:cS K Ew B (ag (.nx (Γ.set i (some (true,.list (xs++ys)))))) (HB iw a D):=by simpa only[JW hc] using q
      subst ey
      refine⟨l,b,vs,ws,rfl,rfl,hl1,by rw[hK];exact Mp,by rw[hK];exact hb,by rw[am hws];omega,?_⟩
      refine q B _ σ _ (Same.refl B) (r1.chg (d:=.list (xs++ys)) (as:=l :: bs) hli hl1 trivial hv ?_ hnd (λa ha=> .inl (by rw[hφ];exact ha)) trivial) z
      have h1:=ay.upd (o':=.lst (vs++ws)) hl1 trivial _ _ _ hnb (ay.same s1 _ _ _ ht)
      have h2:=ay.upd (o':=.lst (vs++ws)) hl1 trivial _ _ _ (show l∉[] by simp) (aw.toT _ _ hc.1 hws)
      have h3:=de h1 h2
      rw[Xu] at h3
      exact dz ax h3
     ·simp only[JZ hc] at q
      exact False.elim q
    cases d <;> try (exact False.elim q)
    ·rename_i ys
     match k,hy,q,main with
     | .fr [],hy,q,main=>
      obtain⟨as,h1,h2,h3⟩:=hy
      obtain⟨b,ws,cs,ey,hb,hws,rfl⟩:=bD h1
      refine main b ws ys ey rfl (λz=> ?_) (.inl (fU.of hb)) (ay.toD _ _ _ hws)
      rcases h3 b K8 with⟨_,w,_⟩ | w
      ·cases w
      ·rw[←z,hl] at w;cases w
     | .base,hy,q,main=>
      obtain⟨b,ws,ey,hb,hws⟩:=aY (show aH K B (.list ys) y from hy)
      refine main b ws ys ey rfl (λz=> ?_) (.inl (r1.bs.seq hb)) (aw.same r1.bs _ _ hws)
      have hB:=(r.nb i l hli).1
      rcases hb with(w | ⟨o,w⟩) | ⟨o,_,_,w,_⟩
      ·rw[←z,hB] at w;cases w
      ·rw[←z,hB] at w;cases w
      ·exact⟨o,w⟩
     | .fr (_ :: _),hy,q,main=>exact False.elim q
     | .any,hy,q,main=>exact False.elim q
    ·rename_i ys
     obtain⟨b,ws,ey,hb,hws⟩:=aL hd
     refine main b ws ys ey rfl (λz=> ?_) (.inr hb) hws
     rcases hb with(w | ⟨o,w⟩) | ⟨o,_,_,w,_⟩
     ·rw[←z,hl1] at w;cases w
     ·rw[←z,hl1] at w;cases w
     ·exact⟨o,w⟩
   | some (.ex c),q=>exact .inr ⟨c,rfl,q⟩
   | none,q=>cases q
  | some (some (true,.none)),q|some (some (true,.bool _)),q|some (some (true,.int _)),q|some (some (true,.str _)),q|some (some (true,.tuple _)),q|some (some (true,.dict _)),q|some (some (false,_)),q|some none,q|none,q=>cases q
def LA (K:Frag)(Ew:Str->Hp->Prop)(iw:Nat)(a:Addr)(ir:Nat)(f:SF):TS:=λD σ H=>Hold iw a σ/\∃B φ Γ,Rep K B φ Γ σ H/\match f Γ with
 | some (.ok (.nx Γ'))=>(∃o d,Γ'[ir]? =some (some (o,d)))/\∀B' φ' σ' H' v,Same B B'->Rep K B' φ' Γ' σ' H'->Hold iw a σ'->σ'[ir]? =some (some v)->D.rt v H'
 | _=>False
theorem B5 {ir:Nat}(he:PE X e (kX ir)):qC X [.Return (some e) pos] (LA K Ew iw a ir cB):=(sJ (A9 he)).imp λD σ H q=>by
 obtain⟨z,B,φ,Γ,r,⟨o,d,e⟩,q⟩:=q
 obtain⟨v,hv,_⟩:=r.sl ir o d e
 exact⟨v,hv,q B φ σ H v (Same.refl B) r z hv⟩
theorem vB {ir:Nat}(h1:ZS X K Ew iw a st f)(h2:qC X rest (LA K Ew iw a ir g))(hE:∀c H,¬ Ew c H:=by exact λ_ _ h=>h):qC X (st :: rest) (LA K Ew iw a ir (aB f g)):=(oJ h1 h2).imp λD σ H q=>by
 obtain⟨z,B,φ,Γ,r,q⟩:=q
 refine⟨z,B,φ,Γ,r,?_⟩
 unfold aB at q
 match hm:f Γ,q with
 | some (.ok (.nx Γ')),q=>
  refine λB' φ' σ' H' s' r' z'=>⟨z',B',φ',Γ',r',?_⟩
  have q:match g Γ' with
   | some (.ok (.nx Γ'))=>(∃o d,Γ'[ir]? =some (some (o,d)))/\∀B' φ' σ' H' v,Same B B'->Rep K B' φ' Γ' σ' H'->Hold iw a σ'->σ'[ir]? =some (some v)->D.rt v H'
   | _=>False:=q
  match hm2:g Γ',q with
  | some (.ok (.nx Γ2)),q=>exact⟨q.1,λB2 φ2 σ2 H2 v s2=>q.2 B2 φ2 σ2 H2 v (s'.trans s2)⟩
  | some (.ok (.bk Γ2)),q|some (.ok (.ct Γ2)),q|some (.ok (.rt o d)),q|some (.ex c),q|none,q=>cases q
 | some (.ok (.bk Γ')),q|some (.ok (.ct Γ')),q|some (.ok (.rt o d)),q|some (.ex c),q|none,q=>cases q
end
def HG (K:Frag)(n:Nat)(F:List PyData->PyData->M (PyData×PyData)):Sp:=λvs H Q _=>∃(B:Hp) (ds:List PyData) (kvs:kZ) (ws:List V) (a:Addr) (as:List Addr),ds.length=n/\vs=ws++[.ref a]/\Same B H/\aw K B ds ws/\IsT K H (.dict kvs) (.ref a) as/\as.Nodup/\(∀x∈as,B x=none/\∃o,H x=some o/\eX o)/\match F ds (.dict kvs) with
 | some (.ok (.list xs,.dict kvs'))=>∀v H' a1 a2,Same B H'->IsT K H' (.list xs) v a1->IsT K H' (.dict kvs') (.ref a) a2->a1.Nodup->a2.Nodup->(∀x∈a1,x∉a2)->(∀x,x∈a1∨x∈a2->B x=none/\∃o,H' x=some o/\eX o)->Q v H'
 | _=>False
theorem xE {n:Nat}{ds:List PyData}{w:PyData}{i:Nat}{o:Bool}{d:PyData}(h:(kg n ds w)[i]? =some (some (o,d))):(i < ds.length/\ds[i]? =some d/\o=false)∨(i=ds.length/\d=w/\o=true):=by
 unfold kg at h
 by_cases hi:i < ds.length
 ·rw[Xq (by simpa using hi),KW] at h
  cases hd:ds[i]? with
  | none=>rw[hd] at h;cases h
  | some d'=>rw[hd] at h;cases h;exact .inl ⟨hi,rfl,rfl⟩
 ·rw[U2 (by simpa using hi),K4] at h
  by_cases h0:i=ds.length
  ·subst h0
   rw[Nat.sub_self] at h
   cases h
   exact .inr ⟨rfl,rfl,rfl⟩
  ·obtain⟨m,hm⟩:∃m,i - ds.length=m+1:=⟨i - ds.length - 1,by omega⟩
   rw[hm,J2,List.getElem?_replicate] at h
   split at h <;> cases h
theorem xF {K:Frag}{B H:Hp}{ds:List PyData}{w:PyData}{ws:List V}{v:V}{as:List Addr}(N:List Str)(hN:ds.length+1<=N.length)(s:Same B H)(h:aw K B ds ws)(ht:IsT K H w v as)(hnd:as.Nodup)(hb:∀x∈as,B x=none/\∃o,H x=some o/\eX o) :
  Rep K B (λi=>if i=ds.length then as else []) (kg N.length ds w) (start N (ws++[v])) H:=by
 have hl:=am h
 exact {
  bs:=s
  len:=by
   unfold kg start
   simp only[K2,K4,Kz,List.length_replicate,UJ,hl]
   omega
  sl:=λi o d e=>by
   rcases xE e with⟨h1,h2,rfl⟩ | ⟨rfl,rfl,rfl⟩
   ·obtain⟨u,h3,h4⟩:=h9 h h2
    refine⟨u,?_,by rw[JZ K5];exact h4⟩
    unfold start
    rw[Xq (by rw[K4,K2,hl];omega),KW,Xq (!1),h3];rfl
   ·refine⟨v,?_,by rw[JW rfl,JW rfl];exact ht⟩
    unfold start
    rw[Xq (by rw[K4,K2,hl,X5];omega),KW,U2 (!1),hl,Nat.sub_self];rfl
  nd:=λi=>by
   show(if i=ds.length then as else []).Nodup
   split
   ·exact hnd
   ·exact X3
  nb:=λi x hx=>by
   replace hx:x∈(if i=ds.length then as else []):=hx
   split at hx
   ·exact hb x hx
   ·cases hx
  dj:=λi k hik x hx hx'=>by
   replace hx:x∈(if i=ds.length then as else []):=hx
   replace hx':x∈(if k=ds.length then as else []):=hx'
   split at hx
   ·split at hx'
    ·omega
    ·cases hx'
   ·cases hx}
theorem MK {P:Program}{w:World}{K:Frag}{mg:Str->Option Value}{base:Heap}{x qual:Str}{st:Stmt}{f:Addr}{fd:FuncData}{N ps:List Str}(k n m ir:Nat){fb:SF}(hn:N.length=n)(hm:ps.length=m+1)(F:Dy K x qual st f fd)(S:aK N ps (ai st))(Oi:ir≠m)(hmn:m+1<=n)
  (hbody:∀(cdv:Value) (A:Around) (outer:List Env) (s:Shared) (H:Hp) (E:XK) (a:Addr),dM k (A.deeper (envOfC qual (ai st) s.heap.objs.size f cdv))->
   qC (qG yF P w K mg base N qual (ai st) f cdv A outer s H E).A1 (ee st) (LA K (λ_ _=>False) m a ir fb)):jb P w K mg base yF (k+1) f fd ps (HG K m (runIO n ir fb)):=by
 subst hn
 refine F.ok S (λvs H Q E h=> ?_) λcdv A outer s H vs Q E hr h=> ?_
 ·obtain⟨B,ds,kvs,ws,a,as,h1,rfl,_,h2,_⟩:=h
  rw[K2,am h2,h1,hm];rfl
 ·obtain⟨B,ds,kvs,ws,a,as,h1,rfl,h3,h4,h5,h6,h7,h8⟩:=h
  subst h1
  refine⟨_,hbody cdv A outer s H E a hr,?_,B,_,_,xF N hmn h3 h4 h5 h6 h7,?_⟩
  ·unfold Hold start
   have hl:=am h4
   rw[Xq (by rw[K4,K2,hl,X5];omega),KW,U2 (!1),hl,Nat.sub_self];rfl
  ·unfold runIO at h8
   match hf:fb (kg N.length ds (.dict kvs)),h8 with
   | some (.ok (.nx Γ)),h8=>
    simp only[ap] at h8
    match e1:Γ[ir]?,e2:Γ[ds.length]?,h8 with
    | some (some (true,.list xs)),some (some (true,.dict kvs')),h8=>
     refine⟨⟨true,.list xs,e1⟩,λB' φ' σ' H' v s' r' z' hv=> ?_⟩
     obtain⟨v1,g1,g2⟩:=r'.own e1
     obtain⟨v2,g3,g4⟩:=r'.own e2
     rw[hv] at g1
     cases g1
     rw[show σ'[ds.length]? =some (some (V.ref a)) from z'] at g3
     cases g3
     refine h8 v H' _ _ (s'.trans r'.bs) g2 g4 (r'.nd ir) (r'.nd _) (λy hy=>r'.dj ir _ Oi y hy) λy hy=> ?_
     have nb:B' y=none/\∃o,H' y=some o/\eX o:=by
      rcases hy with hy | hy
      ·exact r'.nb ir y hy
      ·exact r'.nb _ y hy
     exact⟨s'.free nb.1,nb.2⟩
   | some (.ok (.bk Γ)),h8=>exact False.elim h8
   | some (.ok (.ct Γ)),h8=>exact False.elim h8
   | some (.ok (.rt o d)),h8=>exact False.elim h8
   | some (.ex c),h8=>exact False.elim h8
   | none,h8=>exact False.elim h8
section
variable {X:Cx}{K:Frag}{Ew:Str->Hp->Prop}{pos pos' p:Pos}
theorem Ae {ds:List PyData}{g:GF}{fb:SF}{D:Ends}{J:It}{B1 H1:Hp}{ψ:Nat->List Addr}{Γ1:bf}{σ:St}(r1:Rep K B1 ψ Γ1 σ H1)(io:tf K B1 J ds)(q:cS K Ew B1 (aW g fb ds Γ1) D) :
  ∃W:Nat->Nat->St->Hp->Prop,(∃m,W 0 m σ H1)/\∀i m σ H,W i m σ H->(J.stop i H/\D.nx σ H)∨(J.go i H/\∃N:St->Hp->Prop,(∀σ' H',N σ' H'->∃m',m' < m/\W (i+1) m' σ' H')/\∀x H',J.Jh i H x H'->tG K g x σ H' λσ2 H2=>JP K Ew fb {D with nx:=N,ct:=N,bk:=D.nx} σ2 H2):=by
 refine⟨λi m σ H=>m=ds.length - i/\i<=ds.length/\∃B2 φ2 Γ2,Same B1 B2/\Rep K B2 φ2 Γ2 σ H/\cS K Ew B1 (aW g fb (ds.drop i) Γ2) D,⟨ds.length,by simp,Xx _,B1,ψ,_,Same.refl B1,r1,by simpa using q⟩,?_⟩
 rintro i m σ2 H2 ⟨rfl,hi2,B2,φ2,Γ2,s2,r2,q2⟩
 by_cases hlt:i < ds.length
 ·refine .inr ⟨io.go i H2 hlt (s2.trans r2.bs),λσ' H'=>∃B3 φ3 Γ3,Same B1 B3/\Rep K B3 φ3 Γ3 σ' H'/\cS K Ew B1 (aW g fb (ds.drop (i+1)) Γ3) D,λσ' H' h'=>⟨ds.length - (i+1),by omega,rfl,hlt,h'⟩,λx H' y=> ?_⟩
  obtain⟨s3,d,e,hd⟩:=io.yl i H2 x H' hlt (s2.trans r2.bs) y
  have r3:=r2.same s3
  have By:aH K (gG φ2 H') d x:=hd _ (s2.trans r3.sZ) λa o e1 e2=>by
   rw[cT]
   ·exact e2
   ·intro j hj
    obtain⟨o',e',_⟩:=(r2.nb j a hj).2
    rw[e1] at e';cases e'
  have ed:ds.drop i=d :: ds.drop (i+1):=by
   rw[U7 hlt]
   congr 1
   rw[K3 hlt] at e
   exact Option.some.inj e
  rw[ed] at q2
  have q3:=q2
  simp only[aW] at q3
  cases Bz:g (cA .base d) d Γ2 with
  | none=>simp only[Bz] at q3;exact False.elim q3
  | some Γ3=>
   simp only[Bz,bt,ar] at q3
   refine⟨gG φ2 H',φ2,Γ2,cA .base d,d,Γ3,r3.cut,VR.av r3.cut (VR.cA (ji _ _) (show VR K _ φ2 H' H' .base d x from By)),Bz,λB4 φ4 σ4 s4 r4=> ?_⟩
   have sB:Same B1 B4:=(s2.trans r3.sZ).trans s4
   refine⟨B4,φ4,Γ3,r4,?_⟩
   match hbm:fb Γ3,q3 with
   | some (.ok (.nx Γ')),q3=>exact λB' φ' σ' j1 s' r'=>⟨B',φ',Γ',sB.trans s',r',q3⟩
   | some (.ok (.ct Γ')),q3=>exact λB' φ' σ' j1 s' r'=>⟨B',φ',Γ',sB.trans s',r',q3⟩
   | some (.ok (.bk Γ')),q3=>exact λB' φ' σ' j1 s' r'=>q3 B' φ' σ' j1 (sB.trans s') r'
   | some (.ok (.rt o d)),q3=>exact λv j1 s' rv=>q3 v j1 (sB.trans s') (rv.base sB)
   | some (.ex c),q3=>exact λj1 s'=>q3 j1 (sB.trans s')
   | none,q3=>exact False.elim q3
 ·have e:i=ds.length:=by omega
  subst e
  rw[List.drop_length] at q2
  exact .inl ⟨io.stop H2 (s2.trans r2.bs),q2 B2 φ2 σ2 H2 s2 r2⟩
def hide (as:List Addr)(H:Hp):Hp:=λb=>if b∈as then none else H b
theorem y8 {as:List Addr}{H:Hp}{b:Addr}(h:b∈as):hide as H b=none:=JW h
theorem ig {as:List Addr}{H:Hp}{b:Addr}(h:b∉as):hide as H b=H b:=JZ h
theorem Af (as:List Addr)(H:Hp):Same (hide as H) H:=λb o e=>by
 by_cases h:b∈as
 ·rw[y8 h] at e;cases e
 ·rwa [ig h] at e
theorem Rep.swap {B H H':Hp}{φ:Nat->List Addr}{Γ:bf}{σ:St}{iw:Nat}{a:Addr}{d:PyData}{as:List Addr}(r:Rep K B φ Γ σ H)(hv:σ[iw]? =some (some (.ref a)))(s:Same (hide (φ iw) H) H')(ht:IsT K H' d (.ref a) as)(hn:as.Nodup)(hb:∀x∈as,hide (φ iw) H x=none/\∃o,H' x=some o/\eX o) :
  Rep K B (λj=>if j=iw then as else φ j) (Γ.set iw (some (true,d))) σ H':=by
 have sB:Same B (hide (φ iw) H):=λb o e=>by
  by_cases h:b∈φ iw
  ·rw[(r.nb iw b h).1] at e;cases e
  ·rw[ig h];exact r.bs b o e
 have mu:∀b o,H b=some o->¬ eX o->H' b=some o:=λb o e n=>s b o (by
  rw[ig]
  ·exact e
  ·intro h
   obtain⟨o',e',m⟩:=(r.nb iw b h).2
   rw[e] at e';cases e'
   exact n m)
 have ot:∀j,j≠iw->∀b∈φ j,∀o,H b=some o->H' b=some o:=λj hj b hb o e=>s b o (by
  rw[ig (r.dj j iw hj b hb)];exact e)
 exact {
  bs:=sB.trans s
  len:=by rw[U1];exact r.len
  sl:=λj o d' e=>by
   by_cases hj:j=iw
   ·subst hj
    by_cases hlt:j < Γ.length
    ·rw[XW hlt] at e
     cases e
     exact⟨.ref a,hv,by rw[JW rfl,JW rfl];exact ht⟩
    ·rw[Xz (by rw[U1];omega)] at e;cases e
   ·rw[XQ (Ne.symm hj)] at e
    obtain⟨v,h1,h2⟩:=r.sl j o d' e
    refine⟨v,h1,?_⟩
    cases o with
    | true=>
     rw[JW rfl] at h2⊢
     rw[JZ hj]
     exact IsT.via mu _ _ _ (ot j hj) h2
    | false=>rwa [JZ K5] at h2⊢
  nd:=λj=>by
   show(if j=iw then as else φ j).Nodup
   split
   ·exact hn
   ·exact r.nd j
  nb:=λj x hx=>by
   replace hx:x∈(if j=iw then as else φ j):=hx
   split at hx
   ·exact⟨sB.free (hb x hx).1,(hb x hx).2⟩
   ·rename_i hj
    obtain⟨h1,o,h2,h3⟩:=r.nb j x hx
    exact⟨h1,o,ot j hj x hx o h2,h3⟩
  dj:=λi j hij x hx hx'=>by
   replace hx:x∈(if i=iw then as else φ i):=hx
   replace hx':x∈(if j=iw then as else φ j):=hx'
   have key:∀m,m≠iw->x∈φ m->x∈as->False:=λm hm h1 h2=>by
    obtain⟨_,o,e,_⟩:=r.nb m x h1
    have:=(hb x h2).1
    rw[ig (r.dj m iw hm x h1),e] at this
    cases this
   split at hx
   ·split at hx'
    ·omega
    ·rename_i hj;exact key j hj hx' hx
   ·split at hx'
    ·rename_i hi _;exact key i hi hx hx'
    ·exact r.dj i j hij x hx hx'}
theorem Eu {iw:Nat}{tg e1 e2 ew:Expr}{body:List Stmt}{f1 f2:EF}{g:GF}{fb:SF}{CX:yx}{k:Nat}{f:Addr}{fd:FuncData}{ps:List Str}{F:List PyData->PyData->M (PyData×PyData)}{x:Str}{E:XK}
  (hp:PassesOwn (model X.prog X.w) X.A X.env X.xe) (hc:X.calm=true) (G:jb X.prog X.w X.K X.mg X.base CX k f fd ps (HG K 2 F)) (hr:dM k X.A) (Oj:Gl X x) (hm:X.mg x=some (.ref f)) (hk:keepIn X.K (.ref f)=true) (hb:Binds X.K fd ps []) (hx:Passes CX X E)
  (h1:DE X K Ew e1 f1) (h2:DE X K Ew e2 f2) (hw:PE X ew (kX iw)) (hg:DG X K tg g) (hbd:zT X K Ew body fb) (hK:X.K=K:=by rfl) (hdb:(x==("__debug__":Str))=false:=by decide)
  (s1:starEach [e1,e2,ew] X.env=(false,eval e1 X.env) :: starEach [e2,ew] X.env:=by rfl) (s2:starEach [e2,ew] X.env=(false,eval e2 X.env) :: starEach [ew] X.env:=by rfl) (s3:starEach [ew] X.env=(false,eval ew X.env) :: starEach [] X.env:=by rfl)
  (hpl:(backTo pos (starEach [e2,ew] X.env)).any (·.1)=false:=by rfl) (hs:∀y,foldedSetIterable (.Call (.Name x p) [e1,e2,ew] [] pos) X.env y=pure y:=by intro _;rfl) :
  DS X K Ew (.For tg (.Call (.Name x p) [e1,e2,ew] [] pos) body [] pos') (y6 iw F f1 f2 g fb) :=
 (xc hp hc (yw (yy G hr Oj hm hk hb .nil hx (bA h1 (bA h2 (bA hw cZ s3) s2) s1) hdb s1 hpl)) hg hbd hs).imp λD σ H q=>by
  subst hK
  obtain⟨B,φ,Γ,r,q⟩:=q
  unfold y6 at q
  match hgw:Γ[iw]?,q with
  | some (some (true,.dict kvs)),q=>
   obtain⟨v3,F5,hT⟩:=r.own hgw
   obtain⟨a,ks,bs,rfl,hl,ht,hφ⟩:=db hT
   refine⟨B,φ,Γ,r,?_⟩
   match hm1:f1 Γ,q with
   | none,q=>cases q
   | some (.ex c),q=>exact .inr ⟨c,rfl,q⟩
   | some (.ok (k1,d1)),q=>
    refine .inl ⟨k1,d1,rfl,λv1 H1 t1 hv1=>⟨B,φ,Γ,r.same t1,?_⟩⟩
    match hm2:f2 Γ,q with
    | none,q=>cases q
    | some (.ex c),q=>exact .inr ⟨c,rfl,q⟩
    | some (.ok (k2,d2)),q=>
     refine .inl ⟨k2,d2,rfl,λv2 H2 t2 hv2=>⟨.ref a,F5,?_⟩⟩
     have q5:cS X.K Ew B (if lB k1=true/\lB k2=true then (match F [d1,d2] (.dict kvs) with
      | some (.ok (.list ds,.dict kvs'))=>aW g fb ds (Γ.set iw (some (true,.dict kvs')))
      | _=>none) else none) D:=q
     by_cases hbb:lB k1=true/\lB k2=true
     ·rw[JW hbb] at q5
      obtain⟨b1,b2⟩:=hbb
      cases k1 <;> first | (cases b1;done) | skip
      cases k2 <;> first | (cases b2;done) | skip
      have r2:=(r.same t1).same t2
      have sB:Same B (hide (φ iw) H2):=λb o e=>by
       by_cases h:b∈φ iw
       ·rw[(r2.nb iw b h).1] at e;cases e
       ·rw[ig h];exact r2.bs b o e
      have w1:aH X.K (hide (φ iw) H2) d1 v1:=aH.same sB _ _ (show aH X.K B d1 v1 from hv1)
      have w2:aH X.K (hide (φ iw) H2) d2 v2:=aH.same sB _ _ (show aH X.K B d2 v2 from hv2)
      refine⟨hide (φ iw) H2,[d1,d2],kvs,[v1,v2],a,φ iw,rfl,rfl,Af _ _,aX w1 (aX w2 ba),IsT.same t2 _ _ _ (IsT.same t1 _ _ _ hT),r.nd iw,λy hy=>⟨y8 hy,(r2.nb iw y hy).2⟩,?_⟩
      match hF:F [d1,d2] (.dict kvs),q5 with
      | some (.ok (.list ds,.dict kvs')),q5=>
       intro v H3 a1 a2 z1 z2 z3 z4 z5 z6 z7
       have r3:=r2.swap F5 z1 z3 z5 λy hy=>z7 y (.inr hy)
       have av:Av X.K B (λj=>if j=iw then a2 else φ j) H3 (.fr []) (.list ds) v:=⟨a1,z2,z4,λy hy=> .inr ⟨sB.free (z7 y (.inl hy)).1,λj hj=>by
        replace hj:y∈(if j=iw then a2 else φ j):=hj
        split at hj
        ·exact z6 y hy hj
        ·rename_i hji
         obtain⟨_,o,e,_⟩:=r2.nb j y hj
         have:=(z7 y (.inl hy)).1
         rw[ig (r2.dj j iw hji y hj),e] at this
         cases this⟩⟩
       obtain⟨B1,ψ,Ol,r4,hD⟩:=r3.j9 av
       obtain⟨al,vs,rfl,hq,hds⟩:=aY hD
       exact⟨al,rfl,⟨vs,r4.bs.seq hq⟩,Ae r4 (rq hq hds) (cS.base Ol q5)⟩
      | some (.ok (.list ds,.none)),q5=>exact False.elim q5
      | some (.ok (.list ds,.bool _)),q5=>exact False.elim q5
      | some (.ok (.list ds,.int _)),q5=>exact False.elim q5
      | some (.ok (.list ds,.str _)),q5=>exact False.elim q5
      | some (.ok (.list ds,.tuple _)),q5=>exact False.elim q5
      | some (.ok (.list ds,.list _)),q5=>exact False.elim q5
      | some (.ok (.none,_)),q5=>exact False.elim q5
      | some (.ok (.bool _,_)),q5=>exact False.elim q5
      | some (.ok (.int _,_)),q5=>exact False.elim q5
      | some (.ok (.str _,_)),q5=>exact False.elim q5
      | some (.ok (.tuple _,_)),q5=>exact False.elim q5
      | some (.ok (.dict _,_)),q5=>exact False.elim q5
      | some (.ex c),q5=>exact False.elim q5
      | none,q5=>exact False.elim q5
     ·rw[JZ hbb] at q5
      exact False.elim q5
  | some (some (true,.none)),q|some (some (true,.bool _)),q|some (some (true,.int _)),q|some (some (true,.str _)),q|some (some (true,.tuple _)),q|some (some (true,.list _)),q|some (some (false,_)),q|some none,q|none,q=>cases q
end
section
variable {X:Cx}{K:Frag}{Ew:Str->Hp->Prop}{pos pos2 p p2:Pos}{a:Expr}{ta:TE}{fa:EF}
theorem nG:∀{xs:List V} {us:List Value},xs.length=us.length->(∀(i:Nat) (x:V) (u:Value),xs[i]? =some x->us[i]? =some u->RelV x u)->Vals xs us
 | [],[],_,_=> .nil
 | [],_ :: _,h,_=>by simp at h
 | _ :: _,[],h,_=>by simp at h
 | x :: xs,u :: us,h,k=> .cons (k 0 x u rfl rfl) (nG (by simpa using h) λi y w e1 e2=>k (i+1) y w (by simpa using e1) (by simpa using e2))
theorem xG {n:Nat}{acc:Array Value}(h:ItemsOf (λi v=>∃t,v= .int (0+(i:Nat)*1) t) acc n):Vals ((List.range n).map λ(i:Nat)=>V.int (i:Int)) acc.toList:=by
 refine nG (by simp[h.1]) λi v u e1 e2=> ?_
 have hi:i < n:=by
  have:=(X2.mp e1).1
  simpa using this
 rw[KW,Y7 hi] at e1
 cases e1
 obtain⟨t,rfl⟩:=h.2 i u (by rw[←Uu];exact e2)
 exact⟨t,by simp⟩
def HH (ta:TE):TE:=λσ H Q=>ta σ H λx H1=>∃n:Int,x= .int n/\0<=n/\n<=100000/\∀t,H1 t=none->Q (.ref t) (upd H1 t (.lst ((List.range n.toNat).map λ(i:Nat)=>V.int (i:Int))))
theorem B6 (hc:X.calm=true)(hg:Gl X "list")(hm:X.mg "list" =none)(hg2:Gl X "range")(hm2:X.mg "range" =none)(ha:PE X a ta)
  (hs:starEach [a] X.env=(false,eval a X.env) :: starEach [] X.env:=by rfl) (hpl:(backTo pos2 (starEach [] X.env)).any (·.1)=false:=by rfl)
  (hs2:starEach [.Call (.Name "range" p2) [a] [] pos2] X.env=(false,eval (.Call (.Name "range" p2) [a] [] pos2) X.env) :: starEach [] X.env:=by rfl) (o4:(backTo pos (starEach [] X.env)).any (·.1)=false:=by rfl)
  (hnil:backTo pos (starEach [] X.env)=[]:=by rfl) :
  PE X (.Call (.Name "list" p) [.Call (.Name "range" p2) [a] [] pos2] [] pos) (HH ta):=by
 intro pins s σ H Q I h
 refine wpAny_Call_Name_kw (fM I hg hm PyProof.Rows.boot_list ?_)
 refine PyProof.Rows.callWith_type1 ?_ hs2 o4
 rw[hs2]
 show wpAny _ _ (spliced ((false,eval (.Call (.Name "range" p2) [a] [] pos2) X.env) :: backTo pos (starEach [] X.env))) _ _ s
 refine Calls.spliced_cons ?_
 refine wpAny_Call_Name_kw (fM I hg2 hm2 boot_range ?_)
 refine PyProof.Rows.callWith_type1 (cX (bA ha cZ hs pos2 pins s σ H (λvs H1=>match vs with
  | [x]=>∃n:Int,x= .int n/\0<=n/\n<=100000/\∀t,H1 t=none->Q (.ref t) (upd H1 t (.lst ((List.range n.toNat).map λ(i:Nat)=>V.int (i:Int))))
  | _=>False) I h) λus s1 ⟨vs,H1,I1,r1,q1⟩=> ?_) hs hpl
 match vs,r1,q1 with
 | [x],r1,q1=>
  obtain⟨n,rfl,n0,n1,fin⟩:=q1
  obtain⟨u,rfl,ru⟩:=r1.one
  obtain⟨t,rfl⟩:=ru
  refine call_range_1 ?_
  rw[hnil]
  refine Calls.spliced_nil ?_
  have hh:X.A.handled=none:=I1.ok.hd hc
  have hsz:(s1.heap.push {cls:=.type "range",data:=.fields #[.int 0 s1.toks,.int n t,.int 1 (s1.toks+1)]}).objs.size=s1.heap.objs.size+1:=XX ..
  refine call_list_range (n:=n.toNat) (by first | exact hh | simpa using hh) (IsRange.new ..) (small_one (!1) (!1) (!1) (!1)) (by rw[rangeSize_one];split <;> omega) (KY (show n.toNat<=100000 by omega) (by decide)) λh' tk acc c hk hS' hacc=> ?_
  have hv:=xG hacc
  refine⟨.ref _,_,I1.laid (h':=h') (t':=tk) (a:=(s1.heap.push {cls:=.type "range",data:=.fields #[.int 0 s1.toks,.int n t,.int 1 (s1.toks+1)]}).objs.size) (o:=.lst ((List.range n.toNat).map λ(i:Nat)=>V.int (i:Int))) (λb u e=>hk b u (K6 _ e)) (by rw[hsz];exact Y2 _) ⟨?_,acc.toList,c,hv,by simpa using hS'⟩,rfl,fin _ (I1.hok.fresh (by rw[hsz];exact Y2 _))⟩
  rw[K4,X8]
  exact KY (show n.toNat<=100000 by omega) (by decide)
 | [],r1,q1=>exact False.elim q1
 | _ :: _ :: _,r1,q1=>exact False.elim q1
theorem B7 (hc:X.calm=true)(hg:Gl X "list")(hm:X.mg "list" =none)(hg2:Gl X "range")(hm2:X.mg "range" =none)(ha:DE X K Ew a fa)(hK:X.K=K:=by rfl)
  (hs:starEach [a] X.env=(false,eval a X.env) :: starEach [] X.env:=by rfl) (hpl:(backTo pos2 (starEach [] X.env)).any (·.1)=false:=by rfl)
  (hs2:starEach [.Call (.Name "range" p2) [a] [] pos2] X.env=(false,eval (.Call (.Name "range" p2) [a] [] pos2) X.env) :: starEach [] X.env:=by rfl) (o4:(backTo pos (starEach [] X.env)).any (·.1)=false:=by rfl)
  (hnil:backTo pos (starEach [] X.env)=[]:=by rfl) :
  DE X K Ew (.Call (.Name "list" p) [.Call (.Name "range" p2) [a] [] pos2] [] pos) (Bn pD fa):=(B6 hc hg hm hg2 hm2 ha hs hpl hs2 o4 hnil).imp λσ H Q q=>by
 obtain⟨B,φ,Γ,r0,q⟩:=q
 refine⟨B,φ,Γ,r0,(q.bind r0).mono λu H1 s1 ⟨k,x,e1,v1,r1,_,q1⟩=> ?_⟩
 obtain⟨z,e,q⟩:=fV (kf:=λ_=> .fr []) q1
 cases x <;> simp only[pD] at e <;> try (cases e;done)
 split at e
 ·rename_i n hn
  cases e
  have:=aD (v1.toD r1.bs)
  subst this
  refine⟨n,rfl,hn.1,hn.2,λt ht=>q _ _ (s1.trans (Same.upd ht)) (VR.fresh.mpr (aQ.lst ?_ ax ?_ (s1.free ht)))⟩
  ·exact aT _ (λ_=>rfl) _
  ·have:=mV (K:=K) (H:=upd H1 t (.lst ((List.range n.toNat).map λ(i:Nat)=>V.int (i:Int)))) ((List.range n.toNat).map λ(i:Nat)=>(i:Int))
   rw[KQ,KQ] at this
   exact this
 ·cases e
end
theorem Ag (i:Int)(l:List Int)(x:Int):tU (i :: (l++[x]))=if x < tU (i :: l) then x else tU (i :: l):=by
 show(l++[x]).foldl (λa b=>if b < a then b else a) i=_
 rw[List.foldl_append];rfl
theorem vC (i:Int)(l:List Int):∀k,k<=l.length->(i :: l).getD (argBest (λa b=>decide ((i :: l).getD a 0 < (i :: l).getD b 0)) k) 0=tU (i :: l.take k)
 | 0,_=>rfl
 | k+1,h=>by
  have ih:=vC i l k (!1)
  have hk:k < l.length:=by omega
  have e1:(i :: l).getD (k+1) 0=l[k]:=by simp[X6,hk]
  rw[List.take_succ_eq_append_getElem hk,Ag,←ih]
  show(i :: l).getD (if decide ((i :: l).getD (k+1) 0 < (i :: l).getD (argBest _ k) 0)=true then k+1 else argBest _ k) 0=_
  rw[e1]
  by_cases c:l[k] < (i :: l).getD (argBest (λa b=>decide ((i :: l).getD a 0 < (i :: l).getD b 0)) k) 0
  ·rw[JW (JV c),JW c];exact e1
  ·rw[JZ (by simpa using c),JZ c]
theorem B8 (i:Int)(l:List Int):(i :: l).getD (argBest (λa b=>decide ((i :: l).getD a 0 < (i :: l).getD b 0)) l.length) 0=tU (i :: l):=by
 rw[vC i l l.length (K1 _),J4]
section
variable {X:Cx}
theorem Ah (hc:X.calm=true):hJ X (.builtin "min") (λus H Q=>∃q i l,us=[.ref q]/\fU X.K H q ((i :: l).map V.int)/\Q (.int (tU (i :: l))) H):=by
 intro pins s σ H xs us Q I rv h
 obtain⟨p,i,l,rfl,hq,q⟩:=h
 obtain⟨u,rfl,ru⟩:=rv.one
 cases(show u=Value.ref p from ru)
 obtain⟨its,r,pl,hz⟩:=I.list hq
 have hlen:its.length=l.length+1:=by
  have:=r.length
  simpa using this.symm
 refine call_min_walk (wpAny_pyIter_list pl.isList ?_)
 have hne:p≠s.heap.objs.size:=by
  obtain⟨o,e,_⟩:=pl.isList
  exact X1 (Kv e)
 have W:=Walks.list (prog:=X.prog) (w:=X.w) (A:=X.A.in1) (I.ok.hd hc) s.heap.objs.size p hne its.toArray
 have hat:∀(a:Nat) (v:Value),its.toArray[a]? =some v->∃t,v= .int ((i :: l).getD a 0) t:=λa v hv=>by
  have hv:its[a]? =some v:=by simpa using hv
  have ha:a < (i :: l).length:=by
   have:=(X2.mp hv).1
   simp;omega
  have e:((i :: l).map V.int)[a]? =some (.int ((i :: l).getD a 0)):=by
   rw[KW,X6,K3 ha];rfl
  obtain⟨u,hu,ru⟩:=r.get e
  rw[hv] at hu
  cases hu
  exact ru
 refine⟨s.heap.objs.size,_,_,its.toArray.size,_,_,λa b=>decide ((i :: l).getD a 0 < (i :: l).getD b 0),rfl,W,⟨⟨_,Ky _ rfl,rfl,rfl⟩,Heap.IsList.push pl.isList _⟩,λb hb=> ?_,by rw[Kj];omega,CmpOf.ints_lt (λa=>(i :: l).getD a 0) hat,λv h' tk hv hk=> ?_⟩
 ·simp only[K0,List.mem_nil_iff,or_false] at hb
  rw[XX]
  rcases hb with rfl | rfl
  ·exact Uz _
  ·obtain⟨o,e,_⟩:=pl.isList
   exact UX (Kv e)
 ·have hI:Inv X pins σ H {s with heap:=h',toks:=tk}:=I.kept (t':=tk) λb o e=>hk b o (by
   intro z
   rw[K7.mp z] at e
   exact absurd (Kv e) (U5 _)) (K6 _ e)
  obtain⟨t,rfl⟩:=hat _ v hv
  refine⟨.int _,H,hI,⟨t,rfl⟩,?_⟩
  rw[show its.toArray.size - 1=l.length by rw[Kj];omega,B8]
  exact q
theorem pE:∀{xs:List PyData} {l:List Int},xs.mapM intOf=some l->xs=l.map PyData.int
 | [],l,h=>by cases h;rfl
 | x :: xs,l,h=>by
  rw[List.mapM_cons] at h
  cases e:intOf x with
  | none=>rw[e] at h;cases h
  | some i=>
   rw[e] at h
   cases e2:xs.mapM intOf with
   | none=>rw[e2] at h;cases h
   | some l'=>
    rw[e2] at h
    have h':i :: l'=l:=Option.some.inj h
    subst h'
    rw[KJ,←pE e2]
    cases x <;> simp only[intOf] at e <;> first | (cases e;rfl) | (cases e;done)
theorem xH (hc:X.calm=true):CallD X (.builtin "min") rP:=⟨_,Ah hc,λxs z us H Q e h q=>by
 match xs,e,h with
 | [.list ds],e,h=>
  simp only[rP] at e
  cases e2:ds.mapM intOf with
  | none=>rw[e2] at e;cases e
  | some l=>
   rw[e2,Option.bind_some] at e
   cases l with
   | nil=>cases e
   | cons i l=>
    cases e
    have hd:=pE e2
    subst hd
    obtain⟨u,rfl,hu⟩:=dQ h
    obtain⟨a,vs,rfl,h1,h2⟩:=aY hu
    rw[lR h2] at h1
    exact⟨a,i,l,rfl,h1,q _ H (Same.refl H) (aQ.k_ rfl bB)⟩⟩
end
section
variable {prog:Program}{w:World}{A:Around}{E:Z5}{s:Shared}{d it:Addr}
theorem xI (d:Addr)(hd:(d==sysModules)=false):Meets (Builtin.«dict.items» ⟨[.ref d],[]⟩) (λ_ R s=>s.TypeIs (.ref d) "dict" /\R (.ok (.ret (.ref s.heap.objs.size))) {s with heap:=s.heap.push {cls:=.type "dict_items",data:=.fields #[.ref d]}}) :=
 .of_wp λprog w A R s ⟨hT,h⟩=>by
  unfold Builtin.«dict.items»;refine JY ?_;unfold Builtin.Dict.noArgs;refine JY (wpAny_notOrdered_dict hT ?_)
  show wpAny _ _ (pure d) _ _ s;refine JJ ?_;show wpAny _ _ (Builtin.Dict.showsAll d >>=_) _ _ s;unfold Builtin.Dict.showsAll
  rw[JZ (by rw[hd];decide)];refine JY (JJ ?_)
  refine JY (Z7 ?_);exact(JJ ⟨_,rfl,h⟩)
theorem Ai {Q:Z5}(hd:(d==sysModules)=false)(hT:s.TypeIs (.ref d) "dict")(q:Q (.ref s.heap.objs.size) {s with heap:=s.heap.push {cls:=.type "dict_items",data:=.fields #[.ref d]}}):wpAny (!3) A (call (.builtin "dict.items") [.ref d]) Q E s :=
 call_meets F.slot_dict_items hT F.entry_dict_items (F.args_dict_items_1 _) (xI d hd) ⟨hT,q⟩
theorem Aj {v:Addr}{o:Obj}{es:Array DictEntry}{ep:Nat}{Q:Z5}(hv:s.heap.IsItemsView v d)(ho:s.heap.get? d=some o)(hx:o.data= .dict es ep)
  (q:Q (.ref s.heap.objs.size) {s with heap:=s.heap.push {cls:=.type "dict_itemiterator",data:=.fields #[.none,.bool false,.ref d,.int 0 0,.int es.size 0,.int ep 0,.none,.none]}}):wpAny (!3) A (pyIter (.ref v)) Q E s:=by
 obtain⟨ov,hov,hcv,hdv⟩:=id hv
 refine wpAny_pyIter_slot hv.typeIs F.slot_dict_items_iter (Z8 F.slot_dict_items_iter hv.typeIs F.entry_dict_items_iter ?_ (F.args_dict_items_iter_1 _));unfold Builtin.«dict_items.__iter__»
 refine JY (JJ ?_);refine JY ?_;unfold Builtin.Dict_items.dictOf;refine JY (wpAny_field hov hdv (x:=.ref d) rfl ((JJ ?_)))
 refine JY ?_;unfold Builtin.Dict_items.newIterator;refine JY (wpAny_dictEntries ho hx ?_);refine JY (wpAny_dictEpoch ho hx ?_)
 simp only[show Builtin.Dict_items.ownsTuple "dict_itemiterator" =true by decide,if_true]
 refine Z7 (JJ ⟨_,rfl,"dict_itemiterator",_,⟨_,Ky _ rfl,rfl⟩,F.slot_dict_itemiterator_next.lookup,?_⟩) (by simp only[sizeOk,Builtin.Dict_items.ownedTupleFields,Kj,K2,Kz,UJ,sizeLine_eq];omega)
 simpa [rawInt,Builtin.Dict_items.ownedTupleFields] using q
theorem Ak {o:Obj}{es:Array DictEntry}{i ep:Nat}{e:DictEntry}{ok ov:Value}{Q:Option Value->Shared->Prop}(hit:IsItemIter s.heap it d i es.size ep ok ov)(ho:s.heap.get? d=some o)(hx:o.data= .dict es ep)(he:es[i]? =some e)
  (q:∀h',IsItemIterOut h' it d (i+1) es.size ep e.key e.val s.heap.objs.size->h'.get? s.heap.objs.size=some {cls:=.type "tuple",data:=.seq #[e.key,e.val]}->h'.objs.size=s.heap.objs.size+1->(∀b u,b≠it->s.heap.get? b=some u->h'.get? b=some u)->Q (some (.ref s.heap.objs.size)) {s with heap:=h'}) :
  wpAny (!3) A (pyNext (.ref it)) Q E s:=by
 obtain⟨hp,g,dr,tk,os⟩:=s
 have hT:Shared.TypeIs ⟨hp,g,dr,tk,os⟩ (.ref it) "dict_itemiterator":=(⟨_,hit,rfl⟩)
 obtain⟨hlt,hes⟩:=Array.getElem?_eq_some_iff.mp he
 unfold pyNext;refine JY (wpAny_attempt (wpAny_callSpecial?_slot (name:=Str.ofString "__next__") hT F.slot_dict_itemiterator_next (Z8 F.slot_dict_itemiterator_next hT F.entry_dict_itemiterator_next ?_ (F.args_dict_itemiterator_next_1 _))))
 refine JY (JJ ?_);refine JY ?_;refine JY ?_
 first | (refine JY (wpAny_typeNameOfWhole_itemiter hT (JJ ?_))) | (refine JY (wpAny_typeNameOf_itemiter hT (JJ ?_)))
 refine JY (wpAny_fieldsOf hit rfl ?_);simp only[show Builtin.Dict_items.ownsTuple "dict_itemiterator" =true by decide,if_true]
 show wpAny _ _ (if (Value.ref d==Value.none)=true then _ else _) _ _ _;rw[JZ (show ¬ ((Value.ref d==Value.none)=true) by(exact K5))]
 refine JY (JJ ?_);refine JY (wpAny_dictEntries ho hx ?_);rw[JZ (by simp)];refine JY (JJ ?_);refine JY (wpAny_dictEpoch ho hx ?_);rw[JZ (by simp)];refine JJ ?_
 simp only[show ¬ ((i:Int) < 0) by omega,if_false,Ku,he]
 refine JY ?_
 first | (refine JY (wpAny_typeNameOfWhole_itemiter hT (JJ ?_))) | (refine JY (wpAny_typeNameOf_itemiter hT (JJ ?_)))
 refine JY (wpAny_isOneOf_itemiter hT ?_);show wpAny _ _ (setField (.ref it) 3 (rawInt ((i:Int)+1)) >>=_) _ _ ⟨hp,g,dr,tk,os⟩
 refine JY (wpAny_setField_rec hit (by simp) λh1 e1 s1=> ?_)
 replace s1:Heap.SameBut it hp h1:=s1
 replace e1:IsItemIter h1 it d (i+1) es.size ep ok ov:=by
  unfold IsItemIter;rw[show((i+1:Nat):Int)=(i:Int)+1 by omega];simpa [rawInt] using e1
 have hT1:Shared.TypeIs ⟨h1,g,dr,tk,os⟩ (.ref it) "dict_itemiterator":=(⟨_,e1,rfl⟩)
 refine JY (Z9 ?_);refine JY (wpAny_isOneOf_itemiter hT1 ?_);refine JY (wpAny_isOneOf_itemiter hT1 ?_)
 show wpAny _ _ (Builtin.Dict_items.pairFromOwner (.ref it) 6 e.key e.val) _ _ ⟨h1,g,dr,tk,os⟩;unfold Builtin.Dict_items.pairFromOwner
 refine JY (wpAny_newTuple ?_)
 have e2:IsItemIter (h1.push {cls:=.type "tuple",data:=.seq #[e.key,e.val]}) it d (i+1) es.size ep ok ov:=(K6 _ e1)
 generalize hh:h1.push {cls:=.type "tuple",data:=.seq #[e.key,e.val]}=h2 at e2
 have z1:h1.objs.size=hp.objs.size:=s1.1
 have hil:hp.objs.size≠it:=UK (Kv hit)
 have t2:h2.get? hp.objs.size=some {cls:=.type "tuple",data:=.seq #[e.key,e.val]}:=by(rw[←hh,←z1];exact Ky _ rfl)
 have z2:h2.objs.size=hp.objs.size+1:=by(rw[←hh,XX,z1])
 have k2:∀b u,b≠it->hp.get? b=some u->h2.get? b=some u:=λb u hb x=>by(rw[←hh];exact K6 _ (s1.extBut b u hb x))
 show wpAny _ _ (Builtin.Dict_items.ownedTupleIsFree (.ref it) >>=_) _ _ ⟨h2,g,dr,tk,os⟩;rw[z1];clear hh e1 s1 hT1 z1 h1
 refine JY ?_;unfold Builtin.Dict_items.ownedTupleIsFree;refine JY (wpAny_field e2 rfl (x:=.none) rfl ((JJ ?_)));simp only[if_true]
 refine JY (wpAny_field e2 rfl (x:=ok) rfl ?_);refine JY (wpAny_field e2 rfl (x:=ov) rfl ?_)
 refine JY (wpAny_setField_rec e2 (by simp) λh3 e3 s3=> ?_)
 replace s3:Heap.SameBut it h2 h3:=s3;replace e3:IsItemIter h3 it d (i+1) es.size ep e.key ov:=e3
 refine JY (wpAny_setField_rec e3 (by simp) λh4 e4 s4=> ?_)
 replace s4:Heap.SameBut it h3 h4:=s4;replace e4:IsItemIter h4 it d (i+1) es.size ep e.key e.val:=e4
 refine JY (wpAny_setField_rec e4 (by simp) λh5 e5 s5=> ?_)
 replace s5:Heap.SameBut it h4 h5:=s5;replace e5:IsItemIterOut h5 it d (i+1) es.size ep e.key e.val hp.objs.size:=e5
 refine JY (wpAny_setField_rec e5 (by simp) λh6 e6 s6=> ?_)
 replace s6:Heap.SameBut it h5 h6:=s6;replace e6:IsItemIterOut h6 it d (i+1) es.size ep e.key e.val hp.objs.size:=e6
 have kk:∀b u,b≠it->h2.get? b=some u->h6.get? b=some u:=λb u hb x=>s6.extBut b u hb (s5.extBut b u hb (s4.extBut b u hb (s3.extBut b u hb x)))
 exact JY (wpAny_letGo (JJ (JJ ⟨_,rfl,(JJ (q h6 e6 (kk _ _ hil t2) (by show h6.objs.size=hp.objs.size+1;rw[s6.1,s5.1,s4.1,s3.1,z2]) λb u hb x=>kk b u hb (k2 b u hb x)))⟩)))
theorem B9 {o:Obj}{es:Array DictEntry}{ep:Nat}{ok ov:Value}{Q:Option Value->Shared->Prop}(hh:A.handled=none)(hit:IsItemIter s.heap it d es.size es.size ep ok ov)(ho:s.heap.get? d=some o)(hx:o.data= .dict es ep)
  (q:∀h',Heap.ExtBut it s.heap h'->Q none {s with heap:=h'}):wpAny (!3) A (pyNext (.ref it)) Q E s:=by
 have hT:s.TypeIs (.ref it) "dict_itemiterator":=(⟨_,hit,rfl⟩)
 unfold pyNext;refine JY (wpAny_attempt (wpAny_callSpecial?_slot (name:=Str.ofString "__next__") hT F.slot_dict_itemiterator_next (Z8 F.slot_dict_itemiterator_next hT F.entry_dict_itemiterator_next ?_ (F.args_dict_itemiterator_next_1 _))))
 refine JY (JJ ?_);refine JY ?_;refine JY ?_
 first | (refine JY (wpAny_typeNameOfWhole_itemiter hT (JJ ?_))) | (refine JY (wpAny_typeNameOf_itemiter hT (JJ ?_)))
 refine JY (wpAny_fieldsOf hit rfl ?_);simp only[show Builtin.Dict_items.ownsTuple "dict_itemiterator" =true by decide,if_true]
 show wpAny _ _ (if (Value.ref d==Value.none)=true then _ else _) _ _ s;rw[JZ (show ¬ ((Value.ref d==Value.none)=true) by(exact K5))]
 refine JY (JJ ?_);refine JY (wpAny_dictEntries ho hx ?_);rw[JZ (by simp)];refine JY (JJ ?_);refine JY (wpAny_dictEpoch ho hx ?_);rw[JZ (by simp)];refine JJ ?_
 simp only[show ¬ ((es.size:Int) < 0) by omega,if_false,Ku,Array.getElem?_eq_none (K1 _)]
 refine JY ?_
 first | (refine JY (wpAny_typeNameOfWhole_itemiter hT (JJ ?_))) | (refine JY (wpAny_typeNameOf_itemiter hT (JJ ?_)))
 show wpAny _ _ (setField (.ref it) 2 .none >>=_) _ _ s;refine JY (wpAny_setField hit rfl (by simp) ?_)
 show wpAny _ _ (newExc (.type "StopIteration") [] >>=_) _ _ _;refine JY ?_;simp only[newExc,newTuple];refine JY (Z7 ?_ (by size_fits))
 refine JY (m:=firstArgMember _ _) (wpAny_of_eq (a:=Value.none) (by first | rfl | ((simp only[firstArgMember]);rfl)) ?_);refine Z7 ?_ (by size_fits);simp only[raiseNew];refine JY (wpAny_handled ?_)
 rw[show A.in1.handled=none from hh];refine JY (JJ (wpAny_throw ?_));refine JY (wpAny_isInstance (T:="StopIteration") (b:=true) ⟨_,Ky _ rfl,rfl⟩ isSubtype_stop ?_)
 exact JJ (q _ (((Heap.SameBut.update ..).extBut.push _).push _))
end
end L2
namespace L2
open PySem PyProof.Rows
section
variable {prog:Program}{w:World}{A:Around}{E:Z5}{s:Shared}
theorem Ey {it t:Addr}{i:Nat}{items:Array Value}{x:Value}{Q:Z5}(hit:IsTupIter s.heap it t i)(ht:IsTup s.heap t items)(hx:items[i]? =some x)
  (hQ:∀h',IsTupIter h' it t (i+1)->Heap.SameBut it s.heap h'->Q x {s with heap:=h'}):wpAny (!3) A (Builtin.SmallTypes.nextOf (.ref it)) Q E s:=by
 obtain⟨o,ho,hc,hd⟩:=id hit
 obtain⟨ol,hol,_,nl,hdl⟩:=ht
 unfold Builtin.SmallTypes.nextOf
 refine JY (wpAny_callSpecial?_slot (name:=Str.ofString "__next__") hit.typeIs slot_tupleiter_next (Z8 slot_tupleiter_next hit.typeIs entry_tupleiter_next ?_ (args_tupleiter_next _)))
 show wpAny (!3) _ (field (.ref it) 0 >>=_) _ _ s;refine JY (wpAny_field ho hd (x:=.ref t) rfl ?_)
 show wpAny (!3) _ (if (Value.ref t==Value.none)=true then _ else _) _ _ s;rw[JZ (λz:(Value.ref t==Value.none)=true=>K5 z)]
 show wpAny (!3) _ (field (.ref it) 1 >>=_) _ _ s;refine JY (wpAny_field ho hd (x:=.int i 0) rfl ?_)
 show wpAny (!3) _ (seqItems? (.ref t) >>=_) _ _ s;refine JY (wpAny_seqItems hol hdl ?_)
 simp only[Ku,hx];refine JY (wpAny_setField ho hd (by simp) (JJ ⟨x,rfl,JJ (hQ _ ?_ (Heap.SameBut.update ..))⟩))
 exact⟨_,Xw _ ho (Obj.isFreed_of_fields (Obj.data_mapFields hd _)),(Obj.cls_mapFields ..).trans hc,by(rw[Obj.data_mapFields hd]);simp[rawInt]⟩
theorem Ez {it t:Addr}{i:Nat}{items:Array Value}{Q:Z5}(hh:A.handled=none)(hit:IsTupIter s.heap it t i)(ht:IsTup s.heap t items)(hx:items[i]? =none)
  (hE:∀h' e,Heap.ExtBut it s.heap h'->(∃o,h'.get? e=some o/\o.cls= .type "StopIteration")->E (.ref e) {s with heap:=h'}):wpAny (!3) A (Builtin.SmallTypes.nextOf (.ref it)) Q E s:=by
 obtain⟨o,ho,hc,hd⟩:=id hit
 obtain⟨ol,hol,_,nl,hdl⟩:=ht
 unfold Builtin.SmallTypes.nextOf
 refine JY (wpAny_callSpecial?_slot (name:=Str.ofString "__next__") hit.typeIs slot_tupleiter_next (Z8 slot_tupleiter_next hit.typeIs entry_tupleiter_next ?_ (args_tupleiter_next _)))
 show wpAny (!3) _ (field (.ref it) 0 >>=_) _ _ s;refine JY (wpAny_field ho hd (x:=.ref t) rfl ?_)
 show wpAny (!3) _ (if (Value.ref t==Value.none)=true then _ else _) _ _ s;rw[JZ (λz:(Value.ref t==Value.none)=true=>K5 z)]
 show wpAny (!3) _ (field (.ref it) 1 >>=_) _ _ s;refine JY (wpAny_field ho hd (x:=.int i 0) rfl ?_)
 show wpAny (!3) _ (seqItems? (.ref t) >>=_) _ _ s;refine JY (wpAny_seqItems hol hdl ?_)
 simp only[Ku,hx];refine JY (wpAny_rule (JY (wpAny_setField ho hd (by simp) ?_)))
 show wpAny (!3) _ (newExc (.type "StopIteration") [] >>=_) _ _ _
 refine JY ?_;simp only[newExc,newTuple];refine JY (Z7 ?_ (by size_fits));refine JY (m:=firstArgMember _ _) (wpAny_of_eq (a:=Value.none) (by first | rfl | (simp only[firstArgMember];rfl)) ?_);refine Z7 ?_ (by size_fits)
 simp only[raiseNew];refine JY (wpAny_handled ?_);(first | rw[show A.in1.handled=none from hh] | rw[hh])
 refine JY (JJ (wpAny_throw ?_));exact hE _ _ (((Heap.SameBut.update ..).extBut.push _).push _) ⟨_,Ky _ rfl,rfl⟩
end
theorem rV {prog:Program}{w:World}{A:Around}(hh:A.handled=none)(it l:Addr)(hne:l≠it)(items:Array Value):Draws prog w A it [it,l] items.size (λi v=>items[i]? =some v) (λi h=>IsTupIter h it l i/\IsTup h l items) where
 live:=λ_ _ st=>let ⟨o,ho,_⟩:=st.1;⟨o,ho⟩
 frame:=λ_ _ _ st hk=>⟨let ⟨o,ho,r⟩:=st.1;⟨o,hk it (by simp) o ho,r⟩,let ⟨o,ho,r⟩:=st.2;⟨o,hk l (by simp) o ho,r⟩⟩
 item:=λi s Q E hi st hQ=>by
  refine Ey st.1 st.2 (x:=items[i]) (by simp[hi]) λh' hit' hs'=>hQ _ h' s.toks (by simp[hi]) ⟨hit',st.2.extBut hs'.extBut hne⟩ hs'
 done:=λs Q E st hE=>Ez hh st.1 st.2 (by simp) hE
open AutoSeq1 (wpAny_loadPart') in
theorem EA (l:Addr)(items:Array Value)(n:Nat)(dct:Option Addr)(sl:Array (Option Value)) :
  Meets (Builtin.«enumerate.__new__» ⟨[.type "enumerate",.ref l],[]⟩) (λ_ R s=>s.heap.get? l=some {cls:=.type "tuple",dict:=dct,data:=.seq items n,slots:=sl}/\
   R (.ok (.ret (.ref (s.heap.push {cls:=.type "tuple_iterator",data:=.fields #[.ref l,.int 0 0]}).objs.size)))
    {s with heap:=(s.heap.push {cls:=.type "tuple_iterator",data:=.fields #[.ref l,.int 0 0]}).push {cls:=.type "enumerate",data:=.fields #[.none,.bool false,.ref s.heap.objs.size,rawInt 0,.none,.none]}}) :=
 .of_wp λprog w A R s h=>by
  obtain⟨hp,g,d,tk,os⟩:=s;obtain⟨hl,h⟩:=h;have hsub:=sub_enumerate
  have hL:IsTup (Shared.heap ⟨hp,g,d,tk,os⟩) l items:=⟨_,hl,rfl,n,rfl⟩
  wp_walk using wpAny_loadPart' hl
  refine wpAny_stack_any λst=>JJ ?_
  split
  ·rename_i c _ _ _ _ _
   cases(c==Value.type "enumerate") <;> (wp_walk using wpAny_loadPart' hl,iter_tuple hL;exact⟨_,rfl,h⟩)
  ·(wp_walk using wpAny_loadPart' hl,iter_tuple hL;exact⟨_,rfl,h⟩)
section
variable {prog:Program}{w:World}{A:Around}{E:Z5}{s:Shared}
theorem Al {l:Addr}{items:Array Value}{Q:Z5}(hL:IsTup s.heap l items)
  (h:∀h',IsEnum h' (s.heap.objs.size+1) s.heap.objs.size 0 .none->IsTupIter h' s.heap.objs.size l 0->(∀b o,s.heap.get? b=some o->h'.get? b=some o)->Q (.ref (s.heap.objs.size+1)) {s with heap:=h'}) :
  wpAny (!3) A (call (.type "enumerate") [.ref l]) Q E s:=by
 obtain⟨⟨c,dct,dt,sl⟩,hl,hc,n,hd⟩:=hL
 replace hc:c= .type "tuple":=hc
 replace hd:dt= .seq items n:=hd
 subst hc hd
 refine callType_new F.called_enumerate (by decide) (F.typeCall_enumerate_1 _) (F.newCall_enumerate_1 _) (λobj=>F.args_object_init_2 obj _) F.entry_enumerate_new (EA l items n dct sl) ⟨hl,?_⟩
 have hz:(s.heap.push {cls:=.type "tuple_iterator",data:=.fields #[.ref l,.int 0 0]}).objs.size=s.heap.objs.size+1:=XX ..
 show _/\_;rw[hz]
 have he:IsEnum ((s.heap.push {cls:=.type "tuple_iterator",data:=.fields #[.ref l,.int 0 0]}).push {cls:=.type "enumerate",data:=.fields #[.none,.bool false,.ref s.heap.objs.size,rawInt 0,.none,.none]}) (s.heap.objs.size+1) s.heap.objs.size 0 .none:=by
  have:=Ky (s.heap.push {cls:=.type "tuple_iterator",data:=.fields #[.ref l,.int 0 0]}) (o:={cls:=.type "enumerate",data:=.fields #[.none,.bool false,.ref s.heap.objs.size,rawInt 0,.none,.none]}) rfl
  rw[hz] at this;exact this
 exact⟨⟨_,he,rfl⟩,h _ he ⟨_,K6 _ (Ky _ rfl),rfl,rfl⟩ λb o x=>K6 _ (K6 _ x)⟩
theorem kM {e it:Addr}{i:Int}{old:Value}{Q:Z5}(he:IsEnum s.heap e it i old)(h:Q (.ref e) s):wpAny (!3) A (pyIter (.ref e)) Q E s:=by
 have hT:s.TypeIs (.ref e) "enumerate":=⟨_,he,rfl⟩
 refine wpAny_pyIter_slot hT F.slot_enumerate_iter (Z8 F.slot_enumerate_iter hT F.entry_enumerate_iter ?_ (F.args_enumerate_iter_1 _))
 show wpAny (!3) _ (ret (.ref e)) _ _ s
 exact JJ ⟨_,rfl,"enumerate",_,hT,F.slot_enumerate_next.lookup,h⟩
end
end L2
namespace L2
open PySem PySem.Spec PyProof.Rows Y
section
variable {X:Cx}{pins:List (Addr×Obj)}{σ:St}{H:Hp}{s:Shared}{h':Heap}
theorem Inv.tW {fp:List Addr}{a:Addr}{o:HO}{t':Nat}(I:Inv X pins σ H s)(ha:s.heap.objs.size<=a)(k:∀b u,b∉fp->s.heap.get? b=some u->h'.get? b=some u)(hf:∀b∈fp,oK X pins H b)
  (new:dG X.prog X.w (upd H a o) h' a o):Inv X pins σ (upd H a o) {s with heap:=h',toks:=t'}:=by
 have hn:H a=none:=I.hok.fresh ha
 have Om:∀b u,s.heap.get? b=some u->b≠a:=λb u e z=>by rw[z] at e;exact absurd (Kv e) (Nat.not_lt.mpr ha)
 have Nw:∀b u,H b=some u->b∉fp:=λb u e z=>by rw[(hf b z).1] at e;cases e
 have hna:∀b u,H b=some u->b≠a:=λb u e z=>by rw[z,hn] at e;cases e
 refine I.step (g':=s.gens) (d':=s.drawn) (ch:=fp) (λb hb=> ?_) (λb u _ _ hc e _=>k b u hc e) (λb u _ _ hc e _=>⟨u.slots,k b u hc e⟩) (λb u _ e n=> ?_)
  (λb u hc e=>⟨u,k b u hc e⟩) (λb xs e=> ?_) (λb ob u e=> ?_) (λb ps e=>⟨#[],?_⟩) (λm hm=> ?_) (λb u e=> ?_) I.bare
 ·obtain⟨_,f1,_,f3,f4,f5⟩:=hf b hb
  exact⟨f3,f1,f4,f5⟩
 ·rw[aS (Om b u e)];exact n
 ·rw[aS (hna b _ e)];exact e
 ·rw[aS (hna b _ e)];exact e
 ·rw[aS (hna b _ e),e];simp
 ·obtain⟨ob,es,ep,ho,r⟩:=hm
  exact⟨ob,es,ep,k _ ob (λz=>(hf _ z).2.1 rfl) ho,r⟩
 ·by_cases hb:b=a
  ·subst hb
   rw[ax] at e
   cases e
   exact new
  ·rw[aS hb] at e
   refine(I.hok b u e).stay (λc v hc q=>k c v ?_ q) (λc q=> ?_) λc xs q=> ?_
   ·rcases hc with z | z
    ·rw[z];exact Nw b u e
    ·exact Nw c _ z
   ·rw[aS (hna c _ q)];exact q
   ·rw[aS (hna c _ q)];exact q
end
def Ite (K:Frag)(a:Addr)(n:Nat):It :=
 ⟨λi H=>i < n/\∃xs,dL K H a xs/\xs.length=n,λi H x H'=>∃t y,x= .ref t/\H t=none/\H'=upd H t (.tup [.int (i:Int),y])/\∀xs,dL K H a xs->xs[i]? =some y,λi H=>n<=i/\∃xs,dL K H a xs/\xs.length=n⟩
theorem Am {P:Program}{w:World}{K:Frag}{elts:List Expr}{x1:Nat}{tp:Pos}(a e it:Addr)(n:Nat)(hei:e≠it) :
  Turn P w K (.Tuple elts x1 tp) (Ite K a n) [e,it] e (λi h=>i<=n/\(∃old,IsEnum h e it (i:Int) old)/\IsTupIter h it a i) where
 mem:=by simp
 obj:=λi h st b hb=>by
  obtain⟨_,⟨old,h1⟩,o,h2,_,h3⟩:=st
  rcases K0.mp hb with z | z
  ·rw[z];exact⟨_,h1,λv z=>by cases z⟩
  ·rw[K7.mp z];exact⟨_,h2,λv z=>by rw[h3] at z;cases z⟩
 keep:=λi h h' st k=>by
  obtain⟨h0,⟨old,h1⟩,o,h2,h3⟩:=st
  exact⟨h0,⟨old,k e (by simp) _ h1⟩,o,k it (by simp) _ h2,h3⟩
 item:=by
  intro X hP hw hK hc i pins s σ H E I hf st hg;subst hP hw hK
  obtain⟨hi,xs,hq,hl⟩:=hg
  obtain⟨its,rv,pt,hz⟩:=I.tuple hq
  obtain⟨h0,⟨old,he⟩,hit⟩:=st
  have hlen:=rv.length
  obtain⟨ot,hot,hct,_⟩:=id pt
  have ML:e≠a:=λz=>by
   rw[z] at he
   have:=Option.some.inj (he.symm.trans hot)
   rw[←this] at hct;simp at hct
  have hai:a≠it:=λz=>by
   obtain⟨oi,hoi,B_,_⟩:=hit
   rw[z] at hot
   have:=Option.some.inj (hot.symm.trans hoi)
   rw[←this,hct] at B_;simp at B_
  have hsz:its.toArray.size=n:=by rw[Kj];omega
  have D:=rV (prog:=X.prog) (w:=X.w) (A:=X.A.in1) (I.ok.hd hc) it a hai its.toArray
  rw[hsz] at D
  refine wpAny_pyNext_enum_itemD (fp:=[it,a]) D he ⟨hit,pt⟩ hi hei (by simp[hei,ML]) λx h1 tk hx heo hst ht hz1 hk=> ?_
  refine⟨_,rfl,wpAny_letOwnedTupleGo_enum heo λh2 he2 hs2=> ?_⟩
  have hx':its[i]? =some x:=by simpa using hx
  obtain⟨y,hy,ry⟩:∃y,xs[i]? =some y/\RelV y x:=by
   have hy:xs[i]? =some (xs[i]'(!1)):=K3 _
   obtain⟨u,hu,ru⟩:=rv.get hy
   rw[hx'] at hu;cases hu
   exact⟨_,hy,ru⟩
  have hel:e < s.heap.objs.size:=Kv he
  have Ad:h2.get? s.heap.objs.size=some {cls:=.type "tuple",data:=.seq #[.int (i:Int) tk,x]}:=(hs2.2 _ (UK hel)).trans ht
  have hk2:∀b o,b∉[e,it]->s.heap.get? b=some o->h2.get? b=some o:=λb o hb hbo=>by
   have hbe:b≠e:=λz=>hb (by simp[z])
   have hbi:b≠it:=λz=>hb (by simp[z])
   exact(hs2.2 b hbe).trans (hk b o hbe hbi hbo)
  refine⟨.ref s.heap.objs.size,upd H s.heap.objs.size (.tup [.int (i:Int),y]),I.tW (fp:=[e,it]) (t':=tk+1) (K1 _) hk2 hf ⟨show 2<=sizeLine by decide,[.int (i:Int) tk,x],.cons ⟨tk,rfl⟩ (.cons ry .nil),_,Ad,rfl,_,rfl⟩,rfl,
   ⟨s.heap.objs.size,y,rfl,I.fresh,rfl,λys hy'=>by rw[I.mS hy' hq];exact hy⟩,⟨by omega,⟨x,by simpa using he2⟩,?_⟩,λb hb=> ?_⟩
  ·obtain⟨oi,hoi,r⟩:=hst.1
   exact⟨oi,(hs2.2 it (Ne.symm hei)).trans hoi,r⟩
  ·have hb0:=(hf b hb).1
   have hbn:b≠s.heap.objs.size:=λz=>by
    rcases K0.mp hb with q | q
    ·rw[←q,z] at hel;exact absurd hel (U5 _)
    ·obtain⟨oi,hoi,_⟩:=hit
     rw[←K7.mp q,z] at hoi
     exact absurd (Kv hoi) (U5 _)
   rw[aS hbn];exact hb0
 done:=by
  intro X hP hw hK hc i pins s σ H E I hf st hg;subst hP hw hK
  obtain⟨h0,⟨old,he⟩,hit⟩:=st
  obtain⟨hg,xs,hq,hl⟩:=hg
  have hi:i=n:=Jy h0 hg
  subst hi
  obtain⟨its,rv,pt,hz⟩:=I.tuple hq
  have hlen:=rv.length
  obtain⟨ot,hot,hct,_⟩:=id pt
  have hai:a≠it:=λz=>by
   obtain⟨oi,hoi,B_,_⟩:=hit
   rw[z] at hot
   have:=Option.some.inj (hot.symm.trans hoi)
   rw[←this,hct] at B_;simp at B_
  have hsz:its.toArray.size=i:=by rw[Kj];omega
  have D:=rV (prog:=X.prog) (w:=X.w) (A:=X.A.in1) (I.ok.hd hc) it a hai its.toArray
  rw[hsz] at D
  obtain⟨f0,f1,f2,f3,f4,f5⟩:=hf it (by simp)
  exact wpAny_pyNext_enum_endD (fp:=[it,a]) D he ⟨hit,pt⟩ λh' eb=>⟨rfl,I.turned (t':=s.toks) (λb o hb q=>eb b o hb q) f0 f1 f3 f4 f5⟩
 self:=λA i s Q E st h=>by
  obtain⟨_,⟨old,he⟩,_⟩:=st
  exact kM he h
section
variable {X:Cx}{K:Frag}{Ew:Str->Hp->Prop}{pos p tp:Pos}{elts:List Expr}{x1:Nat}{a:Expr}{ta:TE}{fa:EF}
def MM (K:Frag)(ta:TE):TI:=λσ H R=>ta σ H λx H1=>∃q xs,x= .ref q/\dL K H1 q xs/\R (Ite K q xs.length) H1
theorem EB (hg:Gl X "enumerate")(hm:X.mg "enumerate" =none)(ha:PE X a ta)(hs:starEach [a] X.env=[(false,eval a X.env)]:=by rfl):PI X (.Tuple elts x1 tp) (.Call (.Name "enumerate" p) [a] [] pos) (MM X.K ta):=by
 intro pins s σ H R I h
 refine Call_ (fM I hg hm PyProof.Rows.boot_enumerate (PyProof.Rows.callWith_type1 (cX (bA ha cZ hs pos pins s σ H (λvs H1=>match vs with
  | [x]=>∃q xs,x= .ref q/\dL X.K H1 q xs/\R (Ite X.K q xs.length) H1
  | _=>False) I h) λus s1 ⟨vs,H1,I1,r1,q1⟩=> ?_) hs rfl))
 match vs,r1,q1 with
 | [x],r1,q1=>
  obtain⟨q,xs,rfl,hq,fin⟩:=q1
  obtain⟨u,rfl,ru⟩:=r1.one
  cases ru
  obtain⟨its,rv,pl,hz⟩:=I1.tuple hq
  refine Al pl λh' he hit hk=> ?_
  have I2:Inv X pins σ H1 {s1 with heap:=h',toks:=s1.toks}:=I1.kept (t':=s1.toks) hk
  refine kM he ⟨s1.heap.objs.size+1,[s1.heap.objs.size+1,s1.heap.objs.size],_,_,H1,rfl,I2,Am q (s1.heap.objs.size+1) s1.heap.objs.size xs.length (UK (Uz _)),⟨Xx _,⟨.none,he⟩,hit⟩,λb hb=> ?_,fin⟩
  rcases K0.mp hb with z | z
  ·rw[z];exact I1.nM (Y2 _) (I1.hok.fresh (Y2 _))
  ·rw[K7.mp z];exact I1.nM (K1 _) I1.fresh
 | [],r1,q1=>exact False.elim q1
 | _ :: _ :: _,r1,q1=>exact False.elim q1
theorem jn:∀(n:Nat) (ds:List PyData) (i:Nat),(dH n ds)[i]? =(ds[i]?).map λd=>PyData.tuple [.int ((n+i:Nat):Int),d]
 | n,[],i=>by simp[dH]
 | n,d :: ds,0=>by simp[dH]
 | n,d :: ds,i+1=>by
  rw[dH,J2,J2,jn (n+1) ds i]
  rw[show n+1+i=n+(i+1) by omega]
theorem cH:∀(n:Nat) (ds:List PyData),(dH n ds).length=ds.length
 | n,[]=>rfl
 | n,d :: ds=>by rw[dH,Kz,cH,Kz]
theorem An {B:Hp}{a:Addr}{vs:List V}{ds:List PyData}(h:dL K B a vs)(t:aw K B ds vs):tf K B (Ite K a vs.length) (dH 0 ds) where
 go:=λi H hi s=>by
  have hl:=am t
  rw[cH] at hi
  exact⟨by omega,vs,s.lq h,rfl⟩
 yl:=λi H x H' hi s y=>by
  obtain⟨tt,y,rfl,hn,rfl,hy⟩:=y
  have hl:=am t
  rw[cH] at hi
  obtain⟨d,e,hd⟩:=g6 t (hy vs (s.lq h))
  refine⟨Same.upd hn,.tuple [.int (i:Int),d],by rw[jn,e,Nat.zero_add];rfl,λB2 s2 hb=> ?_⟩
  exact ou (dL.of (hb tt _ hn ax)) (aX bB (aX (aH.same s2 _ _ hd) ba))
 stop:=λH s=>by
  refine⟨?_,vs,s.lq h,rfl⟩
  rw[cH,am t];exact K1 _
theorem y9 (hg:Gl X "enumerate")(hm:X.mg "enumerate" =none)(ha:DE X K Ew a fa)(hK:X.K=K:=by rfl)(hs:starEach [a] X.env=[(false,eval a X.env)]:=by rfl):DI X K Ew (.Tuple elts x1 tp) (.Call (.Name "enumerate" p) [a] [] pos) (sV fa) :=
 (EB hg hm ha hs).imp λσ H R q=>lU (g:=λx _=>D9 x.1 x.2) q λB φ Γ k d v H1 r s av q=>by
  replace q:u6 K Ew B H Γ σ R (D9 k d):=q
  cases d <;> try (exact False.elim q)
  rename_i ds
  obtain⟨B1,ψ,s1,r1,hd⟩:=r.j9 av
  obtain⟨a,vs,rfl,h1,h2⟩:=aL hd
  rw[hK]
  exact⟨a,vs,rfl,r1.bs.lq h1,q _ H1 B1 ψ s s1 r1 (An h1 h2)⟩
end
end L2
namespace Y
open PySem
def HI (k:Kd):PyData->M (Kd×List PyData)
 | .list ds=>ag (k,dH 0 ds)
 | _=>none
def jH (e:EF):IF:=λΓ=>ap (e Γ) λx=>HI x.1 x.2
end Y
namespace L2
open PySem PySem.Spec PyProof.Rows Y
open AutoSeq1 (wpAny_loadPart') in
theorem Ca (l:Addr)(items:Array Value)(n:Nat)(dct:Option Addr)(sl:Array (Option Value)) :
  Meets (Builtin.«enumerate.__new__» ⟨[.type "enumerate",.ref l],[]⟩) (λ_ R s=>s.heap.get? l=some {cls:=.type "list",dict:=dct,data:=.seq items n,slots:=sl}/\
   R (.ok (.ret (.ref (s.heap.push {cls:=.type "list_iterator",data:=.fields #[.ref l,.int 0 0]}).objs.size)))
    {s with heap:=(s.heap.push {cls:=.type "list_iterator",data:=.fields #[.ref l,.int 0 0]}).push {cls:=.type "enumerate",data:=.fields #[.none,.bool false,.ref s.heap.objs.size,rawInt 0,.none,.none]}}) :=
 .of_wp λprog w A R s h=>by
  obtain⟨hp,g,d,tk,os⟩:=s;obtain⟨hl,h⟩:=h;have hsub:=sub_enumerate
  have hL:Heap.IsList (Shared.heap ⟨hp,g,d,tk,os⟩) l items:=⟨_,hl,rfl,n,rfl⟩
  wp_walk using wpAny_loadPart' hl
  refine wpAny_stack_any λst=>JJ ?_
  split
  ·rename_i c _ _ _ _ _
   cases(c==Value.type "enumerate") <;> (wp_walk using wpAny_loadPart' hl,wpAny_pyIter_list hL;exact⟨_,rfl,h⟩)
  ·(wp_walk using wpAny_loadPart' hl,wpAny_pyIter_list hL;exact⟨_,rfl,h⟩)
section
variable {prog:Program}{w:World}{A:Around}{E:Z5}{s:Shared}
theorem xJ {l:Addr}{items:Array Value}{Q:Z5}(hL:s.heap.IsList l items)
  (h:∀h',IsEnum h' (s.heap.objs.size+1) s.heap.objs.size 0 .none->h'.IsListIter s.heap.objs.size l 0->(∀b o,s.heap.get? b=some o->h'.get? b=some o)->Q (.ref (s.heap.objs.size+1)) {s with heap:=h'}) :
  wpAny (!3) A (call (.type "enumerate") [.ref l]) Q E s:=by
 obtain⟨⟨c,dct,dt,sl⟩,hl,hc,n,hd⟩:=hL
 replace hc:c= .type "list":=hc
 replace hd:dt= .seq items n:=hd
 subst hc hd
 refine callType_new F.called_enumerate (by decide) (F.typeCall_enumerate_1 _) (F.newCall_enumerate_1 _) (λobj=>F.args_object_init_2 obj _) F.entry_enumerate_new (Ca l items n dct sl) ⟨hl,?_⟩
 have hz:(s.heap.push {cls:=.type "list_iterator",data:=.fields #[.ref l,.int 0 0]}).objs.size=s.heap.objs.size+1:=XX ..
 show _/\_;rw[hz]
 have he:IsEnum ((s.heap.push {cls:=.type "list_iterator",data:=.fields #[.ref l,.int 0 0]}).push {cls:=.type "enumerate",data:=.fields #[.none,.bool false,.ref s.heap.objs.size,rawInt 0,.none,.none]}) (s.heap.objs.size+1) s.heap.objs.size 0 .none:=by
  have:=Ky (s.heap.push {cls:=.type "list_iterator",data:=.fields #[.ref l,.int 0 0]}) (o:={cls:=.type "enumerate",data:=.fields #[.none,.bool false,.ref s.heap.objs.size,rawInt 0,.none,.none]}) rfl
  rw[hz] at this;exact this
 exact⟨⟨_,he,rfl⟩,h _ he ⟨_,K6 _ (Ky _ rfl),rfl,rfl⟩ λb o x=>K6 _ (K6 _ x)⟩
end
def EC (K:Frag)(a:Addr)(n:Nat):It :=
 ⟨λi H=>i < n/\∃xs,fU K H a xs/\xs.length=n,λi H x H'=>∃t y,x= .ref t/\H t=none/\H'=upd H t (.tup [.int (i:Int),y])/\∀xs,fU K H a xs->xs[i]? =some y,λi H=>n<=i/\∃xs,fU K H a xs/\xs.length=n⟩
theorem xK {P:Program}{w:World}{K:Frag}{elts:List Expr}{x1:Nat}{tp:Pos}(a e it:Addr)(n:Nat)(hei:e≠it) :
  Turn P w K (.Tuple elts x1 tp) (EC K a n) [e,it] e (λi h=>i<=n/\(∃old,IsEnum h e it (i:Int) old)/\h.IsListIter it a i) where
 mem:=by simp
 obj:=λi h st b hb=>by
  obtain⟨_,⟨old,h1⟩,o,h2,_,h3⟩:=st
  rcases K0.mp hb with z | z
  ·rw[z];exact⟨_,h1,λv z=>by cases z⟩
  ·rw[K7.mp z];exact⟨_,h2,λv z=>by rw[h3] at z;cases z⟩
 keep:=λi h h' st k=>by
  obtain⟨h0,⟨old,h1⟩,o,h2,h3⟩:=st
  exact⟨h0,⟨old,k e (by simp) _ h1⟩,o,k it (by simp) _ h2,h3⟩
 item:=by
  intro X hP hw hK hc i pins s σ H E I hf st hg;subst hP hw hK
  obtain⟨hi,xs,hq,hl⟩:=hg
  obtain⟨its,rv,MN,hz⟩:=I.list hq
  have pt:=MN.isList
  obtain⟨h0,⟨old,he⟩,hit⟩:=st
  have hlen:=rv.length
  obtain⟨ot,hot,hct,_⟩:=id pt
  have ML:e≠a:=λz=>by
   rw[z] at he
   have:=Option.some.inj (he.symm.trans hot)
   rw[←this] at hct;simp at hct
  have hai:a≠it:=λz=>by
   obtain⟨oi,hoi,B_,_⟩:=hit
   rw[z] at hot
   have:=Option.some.inj (hot.symm.trans hoi)
   rw[←this,hct] at B_;simp at B_
  have hsz:its.toArray.size=n:=by rw[Kj];omega
  have D:=Draws.list (prog:=X.prog) (w:=X.w) (A:=X.A.in1) (I.ok.hd hc) it a hai its.toArray
  rw[hsz] at D
  refine wpAny_pyNext_enum_itemD (fp:=[it,a]) D he ⟨hit,pt⟩ hi hei (by simp[hei,ML]) λx h1 tk hx heo hst ht hz1 hk=> ?_
  refine⟨_,rfl,wpAny_letOwnedTupleGo_enum heo λh2 he2 hs2=> ?_⟩
  have hx':its[i]? =some x:=by simpa using hx
  obtain⟨y,hy,ry⟩:∃y,xs[i]? =some y/\RelV y x:=by
   have hy:xs[i]? =some (xs[i]'(!1)):=K3 _
   obtain⟨u,hu,ru⟩:=rv.get hy
   rw[hx'] at hu;cases hu
   exact⟨_,hy,ru⟩
  have hel:e < s.heap.objs.size:=Kv he
  have Ad:h2.get? s.heap.objs.size=some {cls:=.type "tuple",data:=.seq #[.int (i:Int) tk,x]}:=(hs2.2 _ (UK hel)).trans ht
  have hk2:∀b o,b∉[e,it]->s.heap.get? b=some o->h2.get? b=some o:=λb o hb hbo=>by
   have hbe:b≠e:=λz=>hb (by simp[z])
   have hbi:b≠it:=λz=>hb (by simp[z])
   exact(hs2.2 b hbe).trans (hk b o hbe hbi hbo)
  refine⟨.ref s.heap.objs.size,upd H s.heap.objs.size (.tup [.int (i:Int),y]),I.tW (fp:=[e,it]) (t':=tk+1) (K1 _) hk2 hf ⟨show 2<=sizeLine by decide,[.int (i:Int) tk,x],.cons ⟨tk,rfl⟩ (.cons ry .nil),_,Ad,rfl,_,rfl⟩,rfl,
   ⟨s.heap.objs.size,y,rfl,I.fresh,rfl,λys hy'=>by rw[I.uI hy' hq];exact hy⟩,⟨by omega,⟨x,by simpa using he2⟩,?_⟩,λb hb=> ?_⟩
  ·obtain⟨oi,hoi,r⟩:=hst.1
   exact⟨oi,(hs2.2 it (Ne.symm hei)).trans hoi,r⟩
  ·have hb0:=(hf b hb).1
   have hbn:b≠s.heap.objs.size:=λz=>by
    rcases K0.mp hb with q | q
    ·rw[←q,z] at hel;exact absurd hel (U5 _)
    ·obtain⟨oi,hoi,_⟩:=hit
     rw[←K7.mp q,z] at hoi
     exact absurd (Kv hoi) (U5 _)
   rw[aS hbn];exact hb0
 done:=by
  intro X hP hw hK hc i pins s σ H E I hf st hg;subst hP hw hK
  obtain⟨h0,⟨old,he⟩,hit⟩:=st
  obtain⟨hg,xs,hq,hl⟩:=hg
  have hi:i=n:=Jy h0 hg
  subst hi
  obtain⟨its,rv,MN,hz⟩:=I.list hq
  have pt:=MN.isList
  have hlen:=rv.length
  obtain⟨ot,hot,hct,_⟩:=id pt
  have hai:a≠it:=λz=>by
   obtain⟨oi,hoi,B_,_⟩:=hit
   rw[z] at hot
   have:=Option.some.inj (hot.symm.trans hoi)
   rw[←this,hct] at B_;simp at B_
  have hsz:its.toArray.size=i:=by rw[Kj];omega
  have D:=Draws.list (prog:=X.prog) (w:=X.w) (A:=X.A.in1) (I.ok.hd hc) it a hai its.toArray
  rw[hsz] at D
  obtain⟨f0,f1,f2,f3,f4,f5⟩:=hf it (by simp)
  exact wpAny_pyNext_enum_endD (fp:=[it,a]) D he ⟨hit,pt⟩ λh' eb=>⟨rfl,I.turned (t':=s.toks) (λb o hb q=>eb b o hb q) f0 f1 f3 f4 f5⟩
 self:=λA i s Q E st h=>by
  obtain⟨_,⟨old,he⟩,_⟩:=st
  exact kM he h
section
variable {X:Cx}{K:Frag}{Ew:Str->Hp->Prop}{pos p tp:Pos}{elts:List Expr}{x1:Nat}{a:Expr}{ta:TE}{fa:EF}
def Ko (K:Frag)(ta:TE):TI:=λσ H R=>ta σ H λx H1=>∃q xs,x= .ref q/\fU K H1 q xs/\R (EC K q xs.length) H1
theorem Cb (hg:Gl X "enumerate")(hm:X.mg "enumerate" =none)(ha:PE X a ta)(hs:starEach [a] X.env=[(false,eval a X.env)]:=by rfl):PI X (.Tuple elts x1 tp) (.Call (.Name "enumerate" p) [a] [] pos) (Ko X.K ta):=by
 intro pins s σ H R I h
 refine Call_ (fM I hg hm PyProof.Rows.boot_enumerate (PyProof.Rows.callWith_type1 (cX (bA ha cZ hs pos pins s σ H (λvs H1=>match vs with
  | [x]=>∃q xs,x= .ref q/\fU X.K H1 q xs/\R (EC X.K q xs.length) H1
  | _=>False) I h) λus s1 ⟨vs,H1,I1,r1,q1⟩=> ?_) hs rfl))
 match vs,r1,q1 with
 | [x],r1,q1=>
  obtain⟨q,xs,rfl,hq,fin⟩:=q1
  obtain⟨u,rfl,ru⟩:=r1.one
  cases ru
  obtain⟨its,rv,Oo,hz⟩:=I1.list hq
  have pl:=Oo.isList
  refine xJ pl λh' he hit hk=> ?_
  have I2:Inv X pins σ H1 {s1 with heap:=h',toks:=s1.toks}:=I1.kept (t':=s1.toks) hk
  refine kM he ⟨s1.heap.objs.size+1,[s1.heap.objs.size+1,s1.heap.objs.size],_,_,H1,rfl,I2,xK q (s1.heap.objs.size+1) s1.heap.objs.size xs.length (UK (Uz _)),⟨Xx _,⟨.none,he⟩,hit⟩,λb hb=> ?_,fin⟩
  rcases K0.mp hb with z | z
  ·rw[z];exact I1.nM (Y2 _) (I1.hok.fresh (Y2 _))
  ·rw[K7.mp z];exact I1.nM (K1 _) I1.fresh
 | [],r1,q1=>exact False.elim q1
 | _ :: _ :: _,r1,q1=>exact False.elim q1
theorem xL {B:Hp}{a:Addr}{vs:List V}{ds:List PyData}(h:fU K B a vs)(t:aw K B ds vs):tf K B (EC K a vs.length) (dH 0 ds) where
 go:=λi H hi s=>by
  have hl:=am t
  rw[cH] at hi
  exact⟨by omega,vs,s.seq h,rfl⟩
 yl:=λi H x H' hi s y=>by
  obtain⟨tt,y,rfl,hn,rfl,hy⟩:=y
  have hl:=am t
  rw[cH] at hi
  obtain⟨d,e,hd⟩:=g6 t (hy vs (s.seq h))
  refine⟨Same.upd hn,.tuple [.int (i:Int),d],by rw[jn,e,Nat.zero_add];rfl,λB2 s2 hb=> ?_⟩
  exact ou (dL.of (hb tt _ hn ax)) (aX bB (aX (aH.same s2 _ _ hd) ba))
 stop:=λH s=>by
  refine⟨?_,vs,s.seq h,rfl⟩
  rw[cH,am t];exact K1 _
theorem pF (hg:Gl X "enumerate")(hm:X.mg "enumerate" =none)(ha:DE X K Ew a fa)(hK:X.K=K:=by rfl)(hs:starEach [a] X.env=[(false,eval a X.env)]:=by rfl):DI X K Ew (.Tuple elts x1 tp) (.Call (.Name "enumerate" p) [a] [] pos) (jH fa) :=
 (Cb hg hm ha hs).imp λσ H R q=>lU (g:=λx _=>HI x.1 x.2) q λB φ Γ k d v H1 r s av q=>by
  replace q:u6 K Ew B H Γ σ R (HI k d):=q
  cases d <;> try (exact False.elim q)
  rename_i ds
  obtain⟨B1,ψ,s1,r1,hd⟩:=r.j9 av
  obtain⟨a,vs,rfl,h1,h2⟩:=aY hd
  rw[hK]
  exact⟨a,vs,rfl,r1.bs.seq h1,q _ H1 B1 ψ s s1 r1 (xL h1 h2)⟩
end
def HJ (a:Addr)(ks:D_):It :=
 ⟨λi H=>i < ks.1.length/\Rd H a (.dct a ks),λi H x H'=>∃t k kv v,x= .ref t/\H t=none/\H'=upd H t (.tup [kv,v])/\ks.1[i]? =some (k,kv,v),λi H=>ks.1.length<=i/\Rd H a (.dct a ks)⟩
theorem pG {α β:Type}{F:α->β->Prop}:∀{l:List α} {m:List β} {i:Nat} {x:α},Paired F l m->l[i]? =some x->∃y,m[i]? =some y/\F x y
 | _,_,_,_,.nil,h=>by simp at h
 | _,_,0,x,.cons q r,h=>by simp at h;subst h;exact⟨_,rfl,q⟩
 | _,_,i+1,x,.cons q r,h=>by
  obtain⟨y,h1,h2⟩:=pG (i:=i) r (by simpa using h)
  exact⟨y,by simpa using h1,h2⟩
theorem xM {P:Program}{w:World}{K:Frag}{elts:List Expr}{x1:Nat}{tp:Pos}(a e:Addr)(ks:D_) :
  Turn P w K (.Tuple elts x1 tp) (HJ a ks) [e] e (λi h=>i<=ks.1.length/\∃ok ov,IsItemIter h e a i ks.1.length ks.2 ok ov) where
 mem:=by simp
 obj:=λi h st b hb=>by
  obtain⟨_,ok,ov,h1⟩:=st
  rw[K7.mp hb];exact⟨_,h1,λv z=>by cases z⟩
 keep:=λi h h' st k=>by
  obtain⟨h0,ok,ov,h1⟩:=st
  exact⟨h0,ok,ov,k e (by simp) _ h1⟩
 item:=by
  intro X hP hw hK hc i pins s σ H E I hf st hg;subst hP hw hK
  obtain⟨hi,hr⟩:=hg
  obtain⟨h0,ok,ov,he⟩:=st
  obtain⟨⟨hl,hs,hk,hn,o,es,ho,hxd,hd,p⟩,_⟩:=(show dG X.prog X.w H s.heap a (.dct a ks) from hr.ok I.hok)
  have hsz:es.size=ks.1.length:=by
   have:=Paired.len p
   simpa using this.symm
  obtain⟨en,hen,hh,rk,rv⟩:=pG p (K3 hi)
  have MO:es[i]? =some en:=by simpa using hen
  rw[←hsz] at he
  refine Ak he ho hd MO λh1 heo ht hz1 hk1=> ?_
  refine⟨_,rfl,wpAny_letOwnedTupleGo_items heo λh2 he2 hs2=> ?_⟩
  have hel:e < s.heap.objs.size:=Kv he
  have Ad:h2.get? s.heap.objs.size=some {cls:=.type "tuple",data:=.seq #[en.key,en.val]}:=(hs2.2 _ (UK hel)).trans ht
  have hk2:∀b o,b∉[e]->s.heap.get? b=some o->h2.get? b=some o:=λb o hb hbo=>by
   have hbe:b≠e:=λz=>hb (by simp[z])
   exact(hs2.2 b hbe).trans (hk1 b o hbe hbo)
  refine⟨.ref s.heap.objs.size,upd H s.heap.objs.size (.tup [ks.1[i].2.1,ks.1[i].2.2]),I.tW (fp:=[e]) (t':=s.toks) (K1 _) hk2 hf ⟨show 2<=sizeLine by decide,[en.key,en.val],.cons rk (.cons rv .nil),_,Ad,rfl,_,rfl⟩,rfl,
   ⟨s.heap.objs.size,ks.1[i].1,ks.1[i].2.1,ks.1[i].2.2,rfl,I.fresh,rfl,K3 hi⟩,⟨by omega,en.key,en.val,?_⟩,λb hb=> ?_⟩
  ·rw[hsz] at he2;exact he2
  ·have hb0:=(hf b hb).1
   have hbn:b≠s.heap.objs.size:=λz=>by
    rw[←K7.mp hb,z] at hel;exact absurd hel (U5 _)
   rw[aS hbn];exact hb0
 done:=by
  intro X hP hw hK hc i pins s σ H E I hf st hg;subst hP hw hK
  obtain⟨h0,ok,ov,he⟩:=st
  obtain⟨hg,hr⟩:=hg
  have hi:i=ks.1.length:=Jy h0 hg
  subst hi
  obtain⟨⟨hl,hs,hk,hn,o,es,ho,hxd,hd,p⟩,_⟩:=(show dG X.prog X.w H s.heap a (.dct a ks) from hr.ok I.hok)
  have hsz:es.size=ks.1.length:=by
   have:=Paired.len p
   simpa using this.symm
  rw[←hsz] at he
  obtain⟨f0,f1,f2,f3,f4,f5⟩:=hf e (by simp)
  exact B9 (I.ok.hd hc) he ho hd λh' eb=>⟨rfl,I.turned (t':=s.toks) (λb o hb q=>eb b o hb q) f0 f1 f3 f4 f5⟩
 self:=λA i s Q E st h=>by
  obtain⟨_,ok,ov,he⟩:=st
  exact PySem.W.kcp_self he h
section
variable {X:Cx}{K:Frag}{Ew:Str->Hp->Prop}{pos p tp apos cpos:Pos}{elts:List Expr}{x1:Nat}{o:Expr}{to:TE}{fa:EF}
def HK (to:TE):TI:=λσ H R=>to σ H λx H1=>∃a ks,x= .ref a/\Rd H1 a (.dct a ks)/\R (HJ a ks) H1
theorem Cc (ho:PE X o to)(hbase:attributeBase o "items" X.env (eval o X.env)=eval o X.env:=by rfl)(hline:(apos.endLine==cpos.line)=true:=by rfl):PI X (.Tuple elts x1 tp) (.Call (.Attribute o "items" apos) [] [] cpos) (HK to):=by
 intro pins s σ H R I h
 refine wpAny_Call_method0_late hbase hline (cX (ho pins s σ H _ I h) λv s1 ⟨x,H1,I1,r1,q1⟩=> ?_)
 obtain⟨a,ks,rfl,hr,fin⟩:=q1
 obtain⟨h1,h2⟩:=BV I1 r1 ⟨a,ks,rfl,hr⟩
 cases(show v=Value.ref a from r1)
 refine⟨"dict","dict.items",PySem.F.plainAttrs_dict,PySem.F.slot_dict_items,PySem.F.type_dict_items,h1,h2,Calls.callWith_builtin rfl (PySem.evalArgs_none ?_)⟩
 obtain⟨⟨hl,hs,hk,hn,od,es,hod,hxd,hd,p⟩,_⟩:=(show dG X.prog X.w H1 s1.heap a (.dct a ks) from hr.ok I1.hok)
 have hsz:es.size=ks.1.length:=by
  have:=Paired.len p
  simpa using this.symm
 refine Ai hs h1 (Aj ⟨_,Ky _ rfl,rfl,rfl⟩ (K6 _ hod) hd ?_)
 have hz1:(s1.heap.push {cls:=.type "dict_items",data:=.fields #[.ref a]}).objs.size=s1.heap.objs.size+1:=XX ..
 refine⟨_,[(s1.heap.push {cls:=.type "dict_items",data:=.fields #[.ref a]}).objs.size],_,_,H1,rfl,I1.kept (t':=s1.toks) λb u e=>K6 _ (K6 _ e),xM a _ ks,⟨Xx _,.none,.none,?_⟩,λb hb=> ?_,fin⟩
 ·rw[←hsz];exact Ky _ rfl
 ·rw[K7.mp hb,hz1]
  exact I1.nM (Y2 _) (I1.hok.fresh (Y2 _))
theorem vD {H:Hp}:∀{kvs:kZ} {ks:List (PyData×V×V)} {i:Nat} {k:PyData} {kv v:V},aR K H kvs ks->ks[i]? =some (k,kv,v)->∃d,kvs[i]? =some (k,d)/\aH K H k kv/\aH K H d v
 | [],ks,i,k,kv,v,h,e=>by simp only[aR] at h;subst h;simp at e
 | (k0,d0) :: r,ks,i,k,kv,v,h,e=>by
  simp only[aR] at h
  obtain⟨O0,v0,q,rfl,h1,h2,h3⟩:=h
  cases i with
  | zero=>simp at e;obtain⟨rfl,rfl,rfl⟩:=e;exact⟨d0,rfl,h1,h2⟩
  | succ i=>
   obtain⟨d,g1,g2,g3⟩:=vD (i:=i) h3 (by simpa using e)
   exact⟨d,by simpa using g1,g2,g3⟩
theorem xN {B:Hp}{a:Addr}{ks:D_}{kvs:kZ}(h:Rd B a (.dct a ks))(t:aR K B kvs ks.1):tf K B (HJ a ks) (kvs.map λp=> .tuple [p.1,p.2]) where
 go:=λi H hi s=>by
  rw[K4] at hi
  exact⟨by rw[gy t];exact hi,s.rd h⟩
 yl:=λi H x H' hi s y=>by
  obtain⟨tt,k,kv,v,rfl,hn,rfl,hy⟩:=y
  obtain⟨d,e,hk,hd⟩:=vD t hy
  refine⟨Same.upd hn,.tuple [k,d],by rw[KW,e];rfl,λB2 s2 hb=> ?_⟩
  exact ou (dL.of (hb tt _ hn ax)) (aX (aH.same s2 _ _ hk) (aX (aH.same s2 _ _ hd) ba))
 stop:=λH s=>by
  refine⟨?_,s.rd h⟩
  rw[K4,gy t];exact K1 _
theorem Cd (ha:DE X K Ew o fa)(hK:X.K=K:=by rfl)(hbase:attributeBase o "items" X.env (eval o X.env)=eval o X.env:=by rfl)(hline:(apos.endLine==cpos.line)=true:=by rfl):DI X K Ew (.Tuple elts x1 tp) (.Call (.Attribute o "items" apos) [] [] cpos) (tS fa) :=
 (Cc ha hbase hline).imp λσ H R q=>lU (g:=λx _=>Ac x.1 x.2) q λB φ Γ k d v H1 r s av q=>by
  replace q:u6 K Ew B H Γ σ R (Ac k d):=q
  cases d <;> try (exact False.elim q)
  rename_i kvs
  simp only[Ac] at q
  split at q
  ·obtain⟨B1,ψ,s1,r1,hd⟩:=r.j9 av
   obtain⟨a,ks,rfl,h1,h2⟩:=cf hd
   exact⟨a,ks,rfl,r1.bs.rd h1,q _ H1 B1 ψ s s1 r1 (xN h1 h2)⟩
  ·exact False.elim q
end
def L4 (m:Nat):List Nat:=[0,1,2,3].filter λk=>m.testBit k
def kh (led:Bool)(m:Nat):SetTable:={mask:=7,place:=(L4 m).toArray,dummies:=#[],finger:=0,led:=led,moves:=0,plain:=true}
def iZ (f:Nat->Nat)(m:Nat):List (Int×Value):=(L4 m).map λ(k:Nat)=>((k:Int),Value.int (k:Int) (f k))
def pH (led:Bool)(h:Heap)(a:Addr)(m:Nat):Prop:=m < 16/\∃o ep f,h.get? a=some o/\o.ExactSet/\o.data= .set (iZ f m).toArray ep (kh led m)
theorem Ao (led:Bool):∀m < 16,∀(k:Nat),k < 4->m.testBit k=false->(kh led m).freeSlot (k:Int)=some (k,false):=by cases led <;> decide+kernel
theorem Ce (led:Bool):∀m < 16,∀k < 4,m.testBit k=false->(kh led m).put k=(kh led (m ||| 2^k),((L4 m).filter (· < k)).length):=by cases led <;> decide+kernel
theorem m5 (led:Bool):∀m < 16,(kh led m).fits (L4 m).length=true:=by cases led <;> decide+kernel
theorem Cf (led:Bool):∀m < 16,(kh led m).tooFull=false:=by cases led <;> decide+kernel
theorem Nx:∀m < 16,∀k < 4,m ||| 2^k < 16:=by decide+kernel
theorem HL:∀m < 16,∀k < 4,m.testBit k=true->m ||| 2^k=m:=by decide+kernel
theorem F7:∀(k:Nat),k < 4->hashInt ((k:Nat):Int)=(k:Int):=by decide+kernel
theorem Kp {m k:Nat}(h:k∈L4 m):k < 4:=by
 have:=(UY.mp h).1
 simp only[K0,List.not_mem_nil,or_false] at this
 omega
theorem MP (f:Nat->Nat)(m k t:Nat)(hm:m < 16)(hk:k < 4)(h:m.testBit k=false) :
  SetTable.insertAt (iZ f m).toArray ((L4 m).filter (· < k)).length ((k:Int),Value.int (k:Int) t)=(iZ (λj=>if j=k then t else f j) (m ||| 2^k)).toArray:=by
 have hm':m=0∨m=1∨m=2∨m=3∨m=4∨m=5∨m=6∨m=7∨m=8∨m=9∨m=10∨m=11∨m=12∨m=13∨m=14∨m=15:=by omega
 have hk':k=0∨k=1∨k=2∨k=3:=by omega
 rcases hk' with rfl | rfl | rfl | rfl <;> rcases hm' with rfl | rfl | rfl | rfl | rfl | rfl | rfl | rfl | rfl | rfl | rfl | rfl | rfl | rfl | rfl | rfl <;> first | exact absurd h (by decide) | rfl
section
variable {prog:Program}{w:World}{A:Around}{E:Z5}{s:Shared}{led:Bool}{a:Addr}{m:Nat}
theorem Ap (f:Nat->Nat)(hm:m < 16):ElemsOf (intKind prog w) (iZ f m):=λe he=>by
 obtain⟨k,hk,rfl⟩:=Kw.mp he
 exact⟨⟨(k:Int),intKind_is _ _ _ _,(F7 k (Kp hk)).symm⟩,rfl⟩
theorem MQ {k t:Nat}{Q:Bool->Shared->Prop}(hk:k < 4)(hS:pH led s.heap a m)
  (h:∀h',Heap.SameBut a s.heap h'->pH led h' a (m ||| 2^k)->∀b,Q b {s with heap:=h'}):wpAny (!3) A (setAddHashed a (.int (k:Int) t) (hashInt (k:Int))) Q E s:=by
 obtain⟨hm,o,ep,f,ho,hex,hd⟩:=hS
 have hel:ElemsOf (intKind prog w) (iZ f m).toArray.toList:=Ap f hm
 have hlen:(iZ f m).toArray.size=(L4 m).length:=by simp[iZ]
 have h4:(L4 m).length<=4:=U9 _ _
 have hf:(kh led m).fits (iZ f m).toArray.size=true:=by rw[hlen];exact m5 led m hm
 have hsc:(Value.int (k:Int) t).scannable=true:=rfl
 have hb:(iZ f m).toArray.size < scanBound:=by rw[hlen];exact Xv h4 (by decide)
 unfold setAddHashed setAddHashedIn
 refine Z9 (JY (wpAny_setState_of ho hd hf ?_));dsimp only
 rw[byScan_of (knd:=intKind prog w) hsc hb hel,JW rfl]
 unfold setAddByScan
 refine JY (JY (wpAny_rule (JY (wpAny_setScan_of (knd:=intKind prog w) (k:=(k:Int)) (intKind_is _ _ _ _) ho hd hf hel ?_))))
 have hfi:(iZ f m).toArray.toList.findIdx? (λe=>(intKind prog w).is (k:Int) e.2)=if m.testBit k=true then some ((L4 m).findIdx (· ==k)) else none:=by
  have hm':m=0∨m=1∨m=2∨m=3∨m=4∨m=5∨m=6∨m=7∨m=8∨m=9∨m=10∨m=11∨m=12∨m=13∨m=14∨m=15:=by omega
  have hk':k=0∨k=1∨k=2∨k=3:=by omega
  clear h hd hf hb hel hlen h4
  rcases hk' with rfl | rfl | rfl | rfl <;> rcases hm' with rfl | rfl | rfl | rfl | rfl | rfl | rfl | rfl | rfl | rfl | rfl | rfl | rfl | rfl | rfl | rfl <;> rfl
 rw[hfi]
 cases hb:m.testBit k with
 | true=>
  simp only[if_true]
  refine JJ (JJ ?_)
  have:=h s.heap (Heap.SameBut.refl a s.heap) (by rw[HL m hm k hk hb];exact⟨hm,o,ep,f,ho,hex,hd⟩) false
  exact this
 | false=>
  simp only[XU,if_false]
  rw[F7 k hk]
  have hlay:layNew (kh led m) (iZ f m).toArray (k:Int) (.int (k:Int) t)=((iZ (λj=>if j=k then t else f j) (m ||| 2^k)).toArray,kh led (m ||| 2^k),false,false):=by
   have hfit:=m5 led (m ||| 2^k) (Nx m hm k hk)
   have hl2:(iZ (λj=>if j=k then t else f j) (m ||| 2^k)).toArray.size=(L4 (m ||| 2^k)).length:=by simp[iZ]
   unfold layNew
   rw[Ao led m hm k hk hb]
   dsimp only
   rw[Ce led m hm k hk hb]
   dsimp only
   rw[MP f m k t hm hk hb,SetTable.orStandIn,hl2,hfit]
   rfl
  rw[hlay]
  dsimp only
  have hm2:=Nx m hm k hk
  have hfew:=Cf led (m ||| 2^k) hm2
  have hl2:(iZ (λj=>if j=k then t else f j) (m ||| 2^k)).toArray.size<=sizeLine:=by
   refine KY (show _<=4 from ?_) (by decide)
   simp only[iZ,Kj,K4]
   exact U9 _ _
  have hpl:(kh led (m ||| 2^k)).plain=true:=rfl
  rw[JW hpl,hashByValue_scannable 8 hsc]
  refine JY (JJ (JY (JJ ?_)))
  show wpAny _ A (storeSet a _ (kh led (m ||| 2^k)) >>=_) _ _ _
  refine JY (wpAny_storeSet_of ho hd ?_ hl2)
  show wpAny _ A (if (!false && (kh led (m ||| 2^k)).tooFull)=true then _ else _) _ _ _
  rw[hfew]
  refine JJ (JJ ?_)
  refine h _ (Heap.SameBut.update s.heap a _) ⟨hm2,{o with data:=.set (iZ (λj=>if j=k then t else f j) (m ||| 2^k)).toArray (ep+1) (kh led (m ||| 2^k))},ep+1,λj=>if j=k then t else f j,?_,hex,rfl⟩ true
  have hu:=Xw (Obj.putSet (iZ (λj=>if j=k then t else f j) (m ||| 2^k)).toArray (kh led (m ||| 2^k))) ho (by rw[putSet_of _ _ hd];rfl)
  rw[putSet_of _ _ hd] at hu
  exact hu
end
def nP (val:Nat->Nat):Nat->Nat->Nat->Nat
 | 0,_,m=>m
 | c+1,i,m=>nP val c (i+1) (m ||| 2^val i)
section
variable {prog:Program}{w:World}{A:Around}{E:Z5}{s:Shared}{R:Result->Shared->Prop}{I:Addr}{fp wr:List Addr}{G:Array GenState->Array GenState->Prop}{n:Nat}{P:Nat->Value->Prop}{St:Nat->Shared->Prop}{led:Bool}
theorem pH.kept {h h':Heap}{a:Addr}{m:Nat}(hS:pH led h a m)(k:∀o,h.get? a=some o->h'.get? a=some o):pH led h' a m:=by
 obtain⟨hm,o,ep,f,ho,r⟩:=hS
 exact⟨hm,o,ep,f,k o ho,r⟩
theorem Kr (W:WalksS prog w A.in1 I fp wr G n P St)(S:Addr)(hSf:S∉fp)(val:Nat->Nat)(hval:∀i v,P i v->val i < 4/\∃t,v= .int (val i:Int) t) :
  ∀(c i m:Nat) (s:Shared),n - i=c->i<=n->St i s->pH led s.heap S m->(∀s',Moved (S :: wr) G s s'->pH led s'.heap S (nP val c i m)->R (.ok (.ret .none)) s')->
   codeAny (!3) A (.builtin "set.update.loop" ⟨[.ref S,.ref I],[]⟩) R s:=by
 have hSw:S∉wr:=λh=>hSf (W.sub _ h)
 have up:∀b∈wr,b∈S :: wr:=λb hb=>K9 _ hb
 intro c;induction c with
 | zero=>
  intro i m s hc hi hst hS hR
  obtain rfl:i=n:=by omega
  refine codeAny_builtin F.entry_set_update_loop ?_;rw[Around.under_plainId F.plain_set_update_loop _]
  refine JY (m:=pyNext (.ref I)) (W.done s _ _ hst λs' hm=> ?_)
  exact JJ (hR s' (hm.mono up) (hS.kept λo e=>hm.heap S o hSw e))
 | succ c ih=>
  intro i m s hc hi hst hS hR
  refine codeAny_builtin F.entry_set_update_loop ?_;rw[Around.under_plainId F.plain_set_update_loop _]
  refine JY (m:=pyNext (.ref I)) (W.item i s _ _ (!1) hst λv s' hP hst' hm=> ?_)
  obtain⟨hlt,t,rfl⟩:=hval i v hP
  have hS':=hS.kept (h':=s'.heap) λo e=>hm.heap S o hSw e
  refine JY (m:=holding [Value.int (val i:Int) t] (setAdd S (.int (val i:Int) t))) (Z9 ?_)
  unfold setAdd
  refine Z9 (JY ((intKind prog w).pyHash (k:=(val i:Int)) (intKind_is _ _ _ _) ?_))
  refine MQ (s:={s' with toks:=s'.toks+1}) hlt hS' λh' sb hS2 b=> ?_
  refine JJ ⟨plainId_quiet F.plain_set_update_loop _,ih (i+1) _ _ (!1) (!1) (W.frame _ s' _ _ hst' (Y2 _) λb hb o e=> ?_) hS2 λs'' hm'' hS''=> ?_⟩
  ·rw[sb.2 b (λz:b=S=>hSf (z ▸ hb))];exact e
  ·refine hR s'' (Moved.trans W.gtrans ((hm.mono up).then_heap (Y2 _) λb o hb e=> ?_) hm'') hS''
   rw[sb.2 b (λz:b=S=>hb (z ▸ K8))];exact e
def pI (w:World):Bool:=!w.params.followText "set-order"
def pJ (w:World):Obj:={cls:=.type "set",dict:=none,data:=.set #[] 0 (.fresh 0 0 (pI w))}
theorem HM {h:Heap}{a:Addr}(e:h.get? a=some (pJ w)):pH (pI w) h a 0:=⟨by decide,pJ w,0,λ_=>0,e,⟨rfl,rfl,rfl⟩,rfl⟩
theorem HN (a:Value){Q₁:Z5}(h:Q₁ (.ref s.heap.objs.size) {s with heap:=s.heap.push (pJ w)}) :
  codeAny (!3) A (.call (.builtin "set.__new__") ⟨[.type "set",a],[]⟩) (wants Q₁ E) s:=by
 refine codeAny_of_tree ?_
 show wpAny _ A.in1 (checkBuiltinCall "set.__new__" ⟨[.type "set",a],[]⟩ >>=λ_=>again (.builtin "set.__new__" ⟨[.type "set",a],[]⟩)) _ _ s
 refine JY (wpAny_of_eq (PySem.F.newCall_set_1 a) (JJ ⟨plainId_quiet PySem.F.plain_set_new _,codeAny_builtin PySem.F.entry_set_new ?_⟩));rw[Around.under_plainId PySem.F.plain_set_new _]
 unfold Builtin.«set.__new__» Builtin.Frozenset.newClass
 have hsub:=sub_set_self
 obtain⟨hp,g,d,tk,os⟩:=s;dsimp only at h⊢;wp_walk
 refine wpAny_askSetting (JJ ?_);dsimp only;simp only[newObj]
 exact JY (wpAny_alloc (JJ (JJ h)))
theorem Aq {l:Addr}{items:Array Value}{val:Nat->Nat}{Q:Z5}(hh:A.handled=none)(hl:s.heap.IsList l items)(hval:∀i v,items[i]? =some v->val i < 4/\∃t,v= .int (val i:Int) t)
  (h:∀(h':Heap) (tk:Nat),pH (pI w) h' s.heap.objs.size (nP val items.size 0 0)->(∀b o,b < s.heap.objs.size->s.heap.get? b=some o->h'.get? b=some o)->Q (.ref s.heap.objs.size) {s with heap:=h',toks:=tk}) :
  wpAny (!3) A (call (.type "set") [.ref l]) Q E s:=by
 obtain⟨c,tl,hmro⟩:=PySem.F.called_set.mro;have hmade:=PySem.F.called_set.made;have hsub:=PySem.F.called_set.sub
 refine wpAny_call (codeAny_of_tree ?_)
 show wpAny _ _ (callAny (.type "set") _) _ _ _
 refine JJ ⟨Code.quiet_builtin _ (by decide+kernel),codeAny_builtin F.entry_type_call ?_⟩;rw[Around.under_plain (weight_type_call_type "set" [.ref l] []) rfl]
 have h1:=PySem.F.called_set.notType;have h2:=PySem.F.called_set.canCreate;have hct:=PySem.F.typeCall_set_1 (.ref l)
 (repeat (any_goals (first | assumption | wp_step)))
 refine codeAny_mono (HN (.ref l) (E:=E) (Q₁:=λobj s₁=>obj= .ref s.heap.objs.size/\s₁={s with heap:=s.heap.push (pJ w)}) ⟨rfl,rfl⟩) λr s₁ hr=> ?_
 cases r with
 | error e=>exact hr
 | ok fl=>
  cases fl with
  | ret obj=>
   obtain⟨rfl,rfl⟩:=hr
   have hS:(s.heap.push (pJ w)).get? s.heap.objs.size=some (pJ w):=Ky _ rfl
   have hT:Shared.TypeIs {s with heap:=s.heap.push (pJ w)} (.ref s.heap.objs.size) "set":=⟨_,hS,rfl⟩
   have hli:=PySem.F.called_set.init.lookup;have hbi:=PySem.F.called_set.init.bind (.ref s.heap.objs.size)
   (repeat (any_goals (first | assumption | wp_step)))
   refine codeAny_mono (codeAny_call_builtin (R:=wants (λr s₂=>r= .none/\∃h' tk,s₂={s with heap:=h',toks:=tk}/\pH (pI w) h' s.heap.objs.size (nP val items.size 0 0)/\(∀b o,b < s.heap.objs.size->s.heap.get? b=some o->h'.get? b=some o)) E) PySem.F.called_set.init.plain PySem.F.entry_set_init (check_set_init_1 hT ?_)) λr₂ s₂ hr₂=> ?_
   ·have hl1:(s.heap.push (pJ w)).IsList l items:=hl.push _
    obtain⟨ol,hol,hcl,nl,hdl⟩:=hl
    obtain⟨ocls,odict,odata,oslots⟩:=ol
    simp only at hcl hdl;subst hcl hdl
    have hol':(s.heap.push (pJ w)).get? l=some {cls:=.type "list",dict:=odict,data:=.seq items nl,slots:=oslots}:=K6 _ hol
    have hsls:=PySem.F.sub_list_set;have hslf:=PySem.F.sub_list_frozenset
    have hne:(Value.type "list" ==Value.type "dict")=false:=by decide
    unfold Builtin.«set.__init__» noKeywords Builtin.Frozenset.updateFrom
    generalize hPI:pyIter=PI;wp_walk;subst hPI
    refine wpAny_pyIter_list hl1 (JY (wpAny_runValue ?_))
    have hlS:l < s.heap.objs.size:=Kv hol
    have hh3:A.in1.in1.in1.handled=none:=by simp[hh]
    have hneI:l≠(s.heap.push (pJ w)).objs.size:=by rw[XX];exact X1 (UX hlS)
    have hSf:s.heap.objs.size∉[(s.heap.push (pJ w)).objs.size,l]:=by
     rw[XX];intro z;rcases K0.mp z with z | z
     ·exact X1 (Uz _) z
     ·exact UK hlS (K7.mp z)
    refine Kr ((Walks.list hh3 _ l hneI items).toS) s.heap.objs.size hSf val hval items.size 0 0 _ rfl (Xx _) ⟨⟨_,Ky _ rfl,rfl,rfl⟩,(hl1.push _)⟩ (HM (K6 _ hS)) λs' hm hS'=> ?_
    obtain⟨h',g',d',tk',os'⟩:=s'
    obtain rfl:g'=s.gens:=hm.gens
    obtain rfl:d'=s.drawn:=hm.drawn
    obtain rfl:os'=s.os:=hm.os
    refine JJ (JJ ⟨rfl,h',tk',rfl,hS',λb o hb e=> ?_⟩)
    refine hm.heap b o (λz=> ?_) (K6 _ (K6 _ e))
    rcases K0.mp z with z | z
    ·exact X1 hb z
    ·rw[XX] at z;exact X1 (UX hb) (K7.mp z)
   ·cases r₂ with
    | error e=>exact hr₂
    | ok fl₂=>
     cases fl₂ with
     | ret r=>
      obtain⟨rfl,h',tk,rfl,hS',hk'⟩:=hr₂
      (repeat (any_goals (first | assumption | wp_step)))
      exact h _ _ hS' hk'
     | _=>exact hr₂.elim
  | _=>exact hr.elim
end
theorem cI:Slot "set_iterator" "__next__" "set_iterator.__next__" :=
 .of (owner:="set_iterator") (n:="__next__") (by(rw[typeLookup_type,builtinLookup_eq_fast]);kernel_rfl) (by decide+kernel) (by decide+kernel) (by decide+kernel) (by first | exact .inl (by decide+kernel) | exact .inr (by decide+kernel)) (by(rw[isSubtype_type]);kernel_rfl)
theorem l_:entryFor table "set_iterator.__next__" =some Builtin.«set_iterator.__next__»:=entryFor_of_tree (by(kernel_rfl))
theorem y_:Manifest.owners.lookup (String.ofList ['r','o','t','a','r','e','t','i','_','t','e','s'].reverse)=some Manifest.sig_set_iterator:=by(kernel_rfl)
theorem md (a:Value):argsOk "set_iterator.__next__" ⟨[a],[]⟩:=by
 unfold argsOk;rw[signature?_of (id:="set_iterator.__next__") (n:=['_','_','t','x','e','n','_','_']) (o:=['r','o','t','a','r','e','t','i','_','t','e','s']) (by(kernel_rfl)) y_];(kernel_rfl)
theorem lf:Slot "set_iterator" "__iter__" "set_iterator.__iter__" :=
 .of (owner:="set_iterator") (n:="__iter__") (by(rw[typeLookup_type,builtinLookup_eq_fast]);kernel_rfl) (by decide+kernel) (by decide+kernel) (by decide+kernel) (by first | exact .inl (by decide+kernel) | exact .inr (by decide+kernel)) (by(rw[isSubtype_type]);kernel_rfl)
theorem tX (a:Value):argsOk "set_iterator.__iter__" ⟨[a],[]⟩:=by
 unfold argsOk;rw[signature?_of (id:="set_iterator.__iter__") (n:=['_','_','r','e','t','i','_','_']) (o:=['r','o','t','a','r','e','t','i','_','t','e','s']) (by(kernel_rfl)) y_];(kernel_rfl)
theorem tY:entryFor table "set_iterator.__iter__" =some Builtin.«dict_keyiterator.__iter__» :=
 entryFor_alias (id':="dict_keyiterator.__iter__") (by(kernel_rfl)) (by first | rfl | decide+kernel | (unfold String.splitOn;simp+decide [String.splitOnAux])) (by decide+kernel) (by(kernel_rfl))
theorem slot_set_iter:Slot "set" "__iter__" "set.__iter__" :=
 .of (owner:="set") (n:="__iter__") (by(rw[typeLookup_type,builtinLookup_eq_fast]);kernel_rfl) (by decide+kernel) (by decide+kernel) (by decide+kernel) (by first | exact .inl (by decide+kernel) | exact .inr (by decide+kernel)) (by(rw[isSubtype_type]);kernel_rfl)
theorem ED:Manifest.owners.lookup (String.ofList ['t','e','s'].reverse)=some Manifest.sig_set:=by(kernel_rfl)
theorem t0 (a:Value):argsOk "set.__iter__" ⟨[a],[]⟩:=by
 unfold argsOk;rw[signature?_of (id:="set.__iter__") (n:=['_','_','r','e','t','i','_','_']) (o:=['t','e','s']) (by(kernel_rfl)) ED];(kernel_rfl)
theorem t3:entryFor table "set.__iter__" =some Builtin.«frozenset.__iter__» :=
 entryFor_alias (id':="frozenset.__iter__") (by(kernel_rfl)) (by first | rfl | decide+kernel | (unfold String.splitOn;simp+decide [String.splitOnAux])) (by decide+kernel) (by(kernel_rfl))
theorem t4:typeLookup (.type "set") "__len__" =pure (some (.builtin "set.__len__")):=by(rw[typeLookup_type,builtinLookup_eq_fast]);(kernel_rfl)
def qL (w:World)(f:Nat->Nat)(m ep:Nat):Obj:={cls:=.type "set",dict:=none,data:=.set (iZ f m).toArray ep (kh (pI w) m)}
def lC (S:Addr)(slot i n ep:Nat):Obj:={cls:=.type "set_iterator",data:=.fields #[rawInt (slot:Int),rawInt (i:Int),.ref S,rawInt (n:Int),rawInt (ep:Int)]}
def jo (w:World)(S:Addr)(f:Nat->Nat)(m ep:Nat):List (Int×Value):=if w.params.followText "set-order" =true then (pickOrder (w.params.setOrder S ep) (iZ f m).toArray).toList else iZ f m
def slotAt (m:Nat):Nat->Nat
 | 0=>0
 | i+1=>(L4 m).getD i 0+1
def fK (w:World)(m i:Nat):Nat:=if w.params.followText "set-order" =true then 0 else slotAt m i
theorem HP:∀m < 16,∀i < 5,i<=(L4 m).length->SetTable.below (L4 m).toArray (slotAt m i)=i:=by decide+kernel
theorem pK {α:Type}:∀{l:List α} {i:Nat} (h:i < l.length),List.Perm (l[i] :: l.eraseIdx i) l
 | a :: l,0,_=>List.Perm.refl _
 | a :: l,i+1,h=>by
  rw[List.getElem_cons_succ,List.eraseIdx_cons_succ]
  exact(List.Perm.swap _ _ _).trans ((pK (by simpa using h)).cons a)
theorem za {α:Type}(next:Nat->Nat):∀(fuel k:Nat) (left:List α) (out:Array α),left.length=fuel->List.Perm (pickOrder.go next fuel k left out).toList (out.toList++left)
 | 0,k,left,out,h=>by
  have:left=[]:=Yz.mp h
  subst this;simp[pickOrder.go]
 | fuel+1,k,left,out,h=>by
  have hlt:next k % left.length < left.length:=Nat.mod_lt _ (!1)
  have e:left[next k % left.length]? =some (left[next k % left.length]):=K3 hlt
  simp only[pickOrder.go,e]
  refine(za next fuel (k+1) _ _ (by rw[List.length_eraseIdx];simp[hlt];omega)).trans ?_
  rw[YK,X7]
  refine List.Perm.append_left _ ?_
  exact pK hlt
theorem kN (w:World)(S:Addr)(f:Nat->Nat)(m ep:Nat):List.Perm (jo w S f m ep) (iZ f m):=by
 unfold jo;split
 ·have:=za (w.params.setOrder S ep) (iZ f m).toArray.size 0 (iZ f m).toArray.toList #[] (by simp)
  simpa [pickOrder] using this
 ·exact List.Perm.refl _
section
variable {prog:Program}{w:World}{A:Around}{E:Z5}{s:Shared}{S it:Addr}{f:Nat->Nat}{m ep i:Nat}
theorem kO (hS:s.heap.get? S=some (qL w f m ep)):s.TypeIs (.ref S) "set":=⟨_,hS,rfl⟩
theorem ii {slot n:Nat}(h:s.heap.get? it=some (lC S slot i n ep)):s.TypeIs (.ref it) "set_iterator":=⟨_,h,rfl⟩
theorem ij (hm:m < 16):(kh (pI w) m).fits (iZ f m).toArray.size=true:=by
 have:(iZ f m).toArray.size=(L4 m).length:=by simp[iZ]
 rw[this];exact m5 _ m hm
theorem Kt {Q:Z5}(hm:m < 16)(hS:s.heap.get? S=some (qL w f m ep))(h:Q (.ref s.heap.objs.size) {s with heap:=s.heap.push (lC S 0 0 (L4 m).length ep)}) :
  wpAny (!3) A (pyIter (.ref S)) Q E s:=by
 refine wpAny_pyIter_slot (kO hS) slot_set_iter (Z8 slot_set_iter (kO hS) t3 ?_ (t0 _))
 unfold Builtin.«frozenset.__iter__»
 refine JY (wpAny_of_eq (a:=S) rfl ?_)
 unfold Builtin.Frozenset.sizeOf setEntries
 refine JY (JY (JY (wpAny_setState_of hS rfl (ij hm) (JJ (JJ ?_)))))
 unfold setDrawn setsByText
 refine JY (JY (wpAny_setState_of hS rfl (ij hm) ?_));dsimp only
 refine JY (JY (wpAny_askSetting (JJ (JJ ?_))))
 split
 ·rename_i hc;exact(K5 ((Bool.and_false (!w.params.followText "set-order")).symm.trans hc)).elim
 refine JY (JJ (JY (wpAny_setEpoch_of hS rfl (ij hm) ?_)))
 have hsz:(iZ f m).toArray.size=(L4 m).length:=by simp[iZ]
 rw[hsz]
 exact JY (Z7 (JJ ⟨_,rfl,"set_iterator",_,⟨_,Ky _ rfl,rfl⟩,cI.lookup,h⟩))
theorem Cg {slot n:Nat}{Q:Z5}(hit:s.heap.get? it=some (lC S slot i n ep))(h:Q (.ref it) s):wpAny (!3) A (pyIter (.ref it)) Q E s:=by
 refine wpAny_pyIter_slot (ii hit) lf (Z8 lf (ii hit) tY ?_ (tX _))
 show wpAny _ _ (ret (.ref it)) _ _ s;exact JJ ⟨_,rfl,"set_iterator",_,ii hit,cI.lookup,h⟩
theorem F8 {Q:Option (Value×Nat)->Shared->Prop}(hm:m < 16)(hS:s.heap.get? S=some (qL w f m ep))(hi:i<=(L4 m).length)
  (h:Q (((jo w S f m ep)[i]?).map λe=>(e.2,fK w m (i+1))) s):wpAny (!3) A (setNext S (fK w m i) i ep) Q E s:=by
 unfold setNext
 refine JY (wpAny_setState_of hS rfl (ij hm) ?_);dsimp only
 unfold setsByText
 refine JY (JY (wpAny_askSetting (JJ ?_)))
 cases hw:w.params.followText "set-order" with
 | true=>
  split
  ·split
   ·rename_i hc;exact absurd hc (by simp)
   ·unfold setWalk setsByText
    refine JY (JY (wpAny_setState_of hS rfl (ij hm) ?_));dsimp only
    refine JY (JY (wpAny_askSetting (JJ ?_)))
    split
    ·refine JY (wpAny_askSetting (JJ (JJ ?_)))
     have e1:fK w m (i+1)=fK w m i:=by unfold fK;rw[JW hw,JW hw]
     rw[e1] at h;unfold jo at h;rw[JW hw,Uu] at h
     exact h
    ·rename_i hc;exact absurd hw hc
  ·rename_i hc;exact absurd hw hc
 | false=>
  split
  ·rename_i hc;exact absurd (hw.symm.trans hc) K5
  ·split
   ·rename_i hc;exact(K5 hc).elim
   ·refine JY ?_
    show wpAny _ _ (if (!(pI w) && _)=true then _ else _) _ _ _
    have hl:pI w=true:=by unfold pI;rw[hw];rfl
    split
    ·rename_i hc;rw[hl] at hc;exact(K5 hc).elim
    ·refine JJ (JJ ?_)
     have e0:fK w m i=slotAt m i:=by unfold fK;rw[JZ (by rw[hw];exact K5)]
     have e1:fK w m (i+1)=slotAt m (i+1):=by unfold fK;rw[JZ (by rw[hw];exact K5)]
     have h4:(L4 m).length<=4:=U9 _ _
     have eb:SetTable.below (kh (pI w) m).place (slotAt m i)=i:=HP m hm i (!1) hi
     unfold jo at h;rw[JZ (by rw[hw];exact K5),e1] at h
     rw[e0,eb]
     show Q (match (iZ f m).toArray[i]?,(L4 m).toArray[i]? with
      | some (_,x),some j=>some (x,j+1)
      | _,_=>none) s
     rw[List.getElem?_toArray,List.getElem?_toArray]
     by_cases hlt:i < (L4 m).length
     ·have g1:(iZ f m)[i]? =some (((L4 m)[i]:Int),Value.int ((L4 m)[i]:Int) (f (L4 m)[i])):=by
       unfold iZ;rw[KW,K3 hlt];rfl
      rw[g1] at h⊢
      rw[K3 hlt]
      have g2:slotAt m (i+1)=(L4 m)[i]+1:=by show(L4 m).getD i 0+1=_;rw[X6,K3 hlt];rfl
      rw[g2] at h
      exact h
     ·have g1:(iZ f m)[i]? =none:=Xz (by unfold iZ;rw[K4];omega)
      rw[g1] at h⊢
      exact h
theorem Ci {n:Nat}{e:Int×Value}{Q:Option Value->Shared->Prop}(hm:m < 16)(hn:n=(L4 m).length)(hne:it≠S)(hit:s.heap.get? it=some (lC S (fK w m i) i n ep))(hS:s.heap.get? S=some (qL w f m ep))(he:(jo w S f m ep)[i]? =some e)(hi:i<=n)
  (hQ:∀h',h'.get? it=some (lC S (fK w m (i+1)) (i+1) n ep)->Heap.SameBut it s.heap h'->Q (some e.2) {s with heap:=h'}):wpAny (!3) A (pyNext (.ref it)) Q E s:=by
 unfold pyNext
 refine JY (wpAny_attempt (wpAny_callSpecial?_slot (name:=Str.ofString "__next__") (ii hit) cI (Z8 cI (ii hit) l_ ?_ (md _))))
 unfold Builtin.«set_iterator.__next__»
 refine JY (wpAny_of_eq (a:=(Value.ref it,[])) rfl ?_);dsimp only
 refine JY (wpAny_fieldsOf hit rfl ?_)
 unfold setEntries
 refine JY (JY (wpAny_setState_of hS rfl (ij hm) (JJ ?_)))
 have hsz:(iZ f m).toArray.size=n:=by rw[hn];simp[iZ]
 split
 ·rename_i hc;exact absurd hc (by simp[hsz])
 show wpAny _ _ (setNext S ((fK w m i:Nat):Int).toNat ((i:Nat):Int).toNat ((ep:Nat):Int).toNat >>=_) _ _ _
 rw[Ku,Ku,Ku]
 refine JY (F8 hm hS (hn ▸ hi) ?_);rw[he]
 refine JY (wpAny_setField hit rfl (by simp) ?_)
 have hit1:=Xw (Obj.mapFields (·.setIfInBounds 0 (rawInt ((fK w m (i+1):Nat):Int)))) hit rfl
 refine JY (wpAny_setField hit1 rfl (by simp) ?_)
 refine JJ ⟨_,rfl,JJ (hQ _ ?_ ((Heap.SameBut.update ..).trans (Heap.SameBut.update ..)))⟩
 exact Xw (Obj.mapFields (·.setIfInBounds 1 (rawInt ((i:Int)+1)))) hit1 rfl
theorem EE {n:Nat}{Q:Option Value->Shared->Prop}(hh:A.handled=none)(hm:m < 16)(hn:n=(L4 m).length)(hit:s.heap.get? it=some (lC S (fK w m n) n n ep))(hS:s.heap.get? S=some (qL w f m ep))
  (hQ:∀h' tk,Heap.ExtBut it s.heap h'->Q none {s with heap:=h',toks:=tk}):wpAny (!3) A (pyNext (.ref it)) Q E s:=by
 unfold pyNext
 refine JY (wpAny_attempt (wpAny_callSpecial?_slot (name:=Str.ofString "__next__") (ii hit) cI (Z8 cI (ii hit) l_ ?_ (md _))))
 unfold Builtin.«set_iterator.__next__»
 refine JY (wpAny_of_eq (a:=(Value.ref it,[])) rfl ?_);dsimp only
 refine JY (wpAny_fieldsOf hit rfl ?_)
 unfold setEntries
 refine JY (JY (wpAny_setState_of hS rfl (ij hm) (JJ ?_)))
 have hsz:(iZ f m).toArray.size=n:=by rw[hn];simp[iZ]
 split
 ·rename_i hc;exact absurd hc (by simp[hsz])
 show wpAny _ _ (setNext S ((fK w m n:Nat):Int).toNat ((n:Nat):Int).toNat ((ep:Nat):Int).toNat >>=_) _ _ _
 rw[Ku,Ku,Ku]
 have he:(jo w S f m ep)[n]? =none:=Xz (by rw[(kN w S f m ep).length_eq,hn];simp[iZ])
 refine JY (F8 hm hS (Nat.le_of_eq hn) ?_);rw[he]
 refine JY (wpAny_setField hit rfl (by simp) ?_)
 (first | show wpAny _ _ (newExc (.type "StopIteration") [] >>=_) _ _ _ | (wp_delta;show wpAny _ _ (newExc (.type "StopIteration") [] >>=_) _ _ _))
 refine JY ?_;simp only[newExc,newTuple];refine JY (Z7 ?_ (by size_fits));refine JY (m:=firstArgMember _ _) (wpAny_of_eq (a:=Value.none) (by first | rfl | (simp only[firstArgMember];rfl)) ?_);refine Z7 ?_ (by size_fits)
 simp only[raiseNew];refine JY (wpAny_handled ?_);(first | rw[show A.in1.handled=none from hh] | rw[hh])
 refine JY (JJ (wpAny_throw ?_));refine JY (wpAny_isInstance (T:="StopIteration") (b:=true) ⟨_,Ky _ rfl,rfl⟩ isSubtype_stop ?_)
 exact JJ (hQ _ _ (((Heap.SameBut.update ..).extBut.push _).push _))
theorem KA (hh:A.handled=none)(hm:m < 16)(hne:it≠S):Walks prog w A it [it,S] [it] (L4 m).length (λi v=>∃e,(jo w S f m ep)[i]? =some e/\v=e.2)
  (λi h=>i<=(L4 m).length/\h.get? it=some (lC S (fK w m i) i (L4 m).length ep)/\h.get? S=some (qL w f m ep)) where
 sub:=λb hb=>by simp at hb;simp[hb]
 frame:=λ_ _ _ st hk=>⟨st.1,hk it (by simp) _ st.2.1,hk S (by simp) _ st.2.2⟩
 item:=λi s Q E hi st hQ=>by
  have hlt:i < (jo w S f m ep).length:=by rw[(kN w S f m ep).length_eq];simpa [iZ] using hi
  have he:(jo w S f m ep)[i]? =some (jo w S f m ep)[i]:=K3 hlt
  refine Ci hm rfl hne st.2.1 st.2.2 he st.1 λh' hit' hs'=> ?_
  exact hQ _ h' s.toks ⟨_,he,rfl⟩ ⟨hi,hit',by rw[hs'.2 S (Ne.symm hne)];exact st.2.2⟩ λb o hb e=>hs'.extBut b o (λh=>hb (by simp[h])) e
 done:=λs Q E st hQ=>EE hh hm rfl st.2.1 st.2.2 λh' tk he'=>hQ h' tk λb o hb e=>he' b o (λh=>hb (by simp[h])) e
 self:=λ_ _ _ _ st hQ=>Cg st.2.1 hQ
end
section
variable {prog:Program}{w:World}{A:Around}{E:Z5}{s:Shared}{S:Addr}{f:Nat->Nat}{m ep:Nat}
def jI:Obj:={cls:=.type "list",data:=.seq ([]:List Value).toArray}
theorem xO {Q:List Value->Shared->Prop}(hh:A.handled=none)(hm:m < 16)(hS:s.heap.get? S=some (qL w f m ep))
  (hQ:∀h' tk,s.heap.objs.size < h'.objs.size->(∀b o,b < s.heap.objs.size->s.heap.get? b=some o->h'.get? b=some o)->Q ((jo w S f m ep).map Prod.snd) {s with heap:=h',toks:=tk}):wpAny (!3) A (collect (.ref S)) Q E s:=by
 have hSlt:S < s.heap.objs.size:=Kv hS
 have nI:s.heap.objs.size≠S:=UK hSlt
 unfold collect
 refine JY (wpAny_runValue (codeAny_builtin F.entry_proto_collect ?_));rw[Around.under_plainId F.plain_proto_collect _]
 show wpAny _ A.in1 (newList [] >>=λl=>again (.builtin "list.__iadd__" ⟨[l,.ref S],[]⟩)) _ _ s
 refine JY (Z7 ?_);refine JJ ⟨plainId_quiet F.plain_list_iadd _,codeAny_builtin F.entry_list_iadd ?_⟩;rw[Around.under_plainId F.plain_list_iadd _]
 have new1:(s.heap.push jI).get? s.heap.objs.size=some jI:=(Ky _ rfl)
 have hS1:(s.heap.push jI).get? S=some (qL w f m ep):=K6 _ hS
 have h1:Builtin.List.listSameRef (.ref s.heap.objs.size) (.ref S)=false:=by(simp[Builtin.List.listSameRef,nI])
 show wpAny _ A.in1 (Builtin.List.listExtendWith (.ref s.heap.objs.size) (.ref S) (.ref s.heap.objs.size)) _ _ {s with heap:=s.heap.push jI};unfold Builtin.List.listExtendWith
 have hT:Shared.TypeIs {s with heap:=s.heap.push jI} (.ref S) "set":=kO (w:=w) (f:=f) (m:=m) (ep:=ep) (s:={s with heap:=s.heap.push jI}) hS1
 refine JY (wpAny_typeOf hT ?_)
 rw[JZ (by rw[h1];decide)]
 refine JY (Kt (s:={s with heap:=s.heap.push jI}) hm hS1 ?_)
 have hS2:((s.heap.push jI).push (lC S 0 0 (L4 m).length ep)).get? S=some (qL w f m ep):=K6 _ hS1
 have hT2:Shared.TypeIs {s with heap:=(s.heap.push jI).push (lC S 0 0 (L4 m).length ep)} (.ref S) "set":=kO (w:=w) (f:=f) (m:=m) (ep:=ep) (s:={s with heap:=(s.heap.push jI).push (lC S 0 0 (L4 m).length ep)}) hS2
 refine JY (Z9 ?_)
 unfold Builtin.List.listLengthHint
 refine JY (Z6 hT2 t4 ?_)
 generalize hid:("set.__len__":String)=id0
 wp_delta
 rw[show splitId id0=some ("set","__len__") from by subst hid;decide+kernel]
 subst hid
 refine JY (wpAny_isInstance (b:=true) hT2 (by rw[isSubtype_type];kernel_rfl) ?_)
 rw[JZ (by decide),JW (by decide+kernel)]
 refine JY (wpAny_typeOf hT2 (JJ ?_))
 rw[JW (by decide+kernel)]
 refine JY (wpAny_rule (JY ?_))
 have new2:((s.heap.push jI).push (lC S 0 0 (L4 m).length ep)).get? s.heap.objs.size=some jI:=K6 _ new1
 show wpAny _ A.in1 (updateSeq s.heap.objs.size (·.push .none) >>=λ_=>updateSeq s.heap.objs.size (·.pop)) _ _ _
 refine JY (wpAny_updateSeq new2 rfl ?_)
 have KC:=Xw (Obj.mapSeq (·.push Value.none)) new2 rfl
 refine wpAny_updateSeq KC rfl ?_
 have HN:=Xw (Obj.mapSeq (·.pop)) KC rfl
 have Ny:s.heap.objs.size≠(s.heap.push jI).objs.size:=by rw[XX];exact X1 (Uz _)
 have Oq:(s.heap.push jI).objs.size≠S:=by rw[XX];exact UK (UX hSlt)
 have Ot:((s.heap.push jI).push (lC S 0 0 (L4 m).length ep)).get? (s.heap.push jI).objs.size=some (lC S 0 0 (L4 m).length ep):=Ky _ rfl
 have oth:∀b o,b≠s.heap.objs.size->((s.heap.push jI).push (lC S 0 0 (L4 m).length ep)).get? b=some o->((((s.heap.push jI).push (lC S 0 0 (L4 m).length ep)).update s.heap.objs.size (Obj.mapSeq (·.push Value.none))).update s.heap.objs.size (Obj.mapSeq (·.pop))).get? b=some o :=
  λb o hb e=>(Ju _ _ (Ne.symm hb)).trans ((Ju _ _ (Ne.symm hb)).trans e)
 have s0:fK w m 0=0:=by unfold fK slotAt;split <;> rfl
 have Ou:(L4 m).length<=sizeLine:=KY (U9 _ _) (by decide)
 have nS:s.heap.objs.size∉[(s.heap.push jI).objs.size,S]:=λz=>by
  rcases K0.mp z with z | z
  ·exact Ny z
  ·exact nI (K7.mp z)
 refine JJ ⟨plainId_quiet F.plain_extend_loop _,codeAny_extend_loopS ((KA (f:=f) (ep:=ep) (show A.in1.handled=none by simp[hh]) hm Oq).toS) Ou _ nS _ (L4 m).length 0 _ _ _ rfl (Xx _) ⟨Xx _,by rw[s0];exact oth _ _ (Ne.symm Ny) Ot,oth _ _ (Ne.symm nI) hS2⟩ HN (ItemsOf.nil _) λs' acc' c' LB hS' hacc=> ?_⟩
 show wpAny _ A (load s.heap.objs.size >>=_) _ _ s';refine JY (wpAny_load hS' ?_)
 obtain⟨h',g',d',tk',os'⟩:=s'
 obtain rfl:g'=s.gens:=LB.gens
 obtain rfl:d'=s.drawn:=LB.drawn
 obtain rfl:os'=s.os:=LB.os
 have MR:acc'.toList=(jo w S f m ep).map Prod.snd:=by
  have hlo:(jo w S f m ep).length=(L4 m).length:=by rw[(kN w S f m ep).length_eq];simp[iZ]
  refine List.ext_getElem? λj=> ?_
  rw[Uu,KW]
  by_cases hj:j < (L4 m).length
  ·have e1:acc'[j]? =some (acc'[j]'(by rw[hacc.1];exact hj)):=Yx _
   obtain⟨e,he,hv⟩:=hacc.2 j _ e1
   rw[e1,he,hv];rfl
  ·rw[Array.getElem?_eq_none (by rw[hacc.1];omega),Xz (!1)];rfl
 refine JJ ?_
 rw[MR]
 refine hQ h' tk' (Kv hS') λb o hb e=> ?_
 have hb1:b≠s.heap.objs.size:=X1 hb
 refine LB.heap b o (λz=> ?_) (oth b o hb1 (K6 _ (K6 _ e)))
 rcases K0.mp z with z | z
 ·exact hb1 z
 ·have z':=K7.mp z
  rw[XX] at z';exact X1 (UX hb) z'
end
theorem Ar (m:Nat):((L4 m).map λ(k:Nat)=>(k:Int)).Pairwise (· <= ·):=by
 refine List.pairwise_map.mpr ?_
 have:([0,1,2,3]:List Nat).Pairwise (λ(a b:Nat)=>(a:Int)<=(b:Int)):=by decide
 exact this.sublist (List.filter_sublist)
theorem vE:∀(l:List (Int×Value)),(∀e∈l,∃t,e.2= .int e.1 t)->IntsAre (l.map Prod.snd) (l.map Prod.fst)
 | [],_=> .nil
 | (i,v) :: l,h=>by
  obtain⟨t,e⟩:=h (i,v) K8
  have e':v= .int i t:=e
  subst e'
  exact .cons i t (vE l λe he=>h e (K9 _ he))
section
variable {prog:Program}{w:World}{A:Around}{E:Z5}{s:Shared}{S:Addr}{m:Nat}
theorem As {Q:Z5}(hh:A.handled=none)(hS:pH (pI w) s.heap S m)
  (hQ:∀h' tk a (out:List Value) c,s.heap.objs.size<=a->h'.get? a=some {cls:=.type "list",data:=.seq out.toArray c}->IntsAre out ((L4 m).map λ(k:Nat)=>(k:Int))->(∀b o,b < s.heap.objs.size->s.heap.get? b=some o->h'.get? b=some o)->Q (.ref a) {s with heap:=h',toks:=tk}) :
  wpAny (!3) A (call (.builtin "sorted") [.ref S]) Q E s:=by
 obtain⟨hm,o,ep,f,ho,hex,hd⟩:=hS
 have hS:s.heap.get? S=some (qL w f m ep):=by
  rw[ho];obtain⟨h1,h2,h3⟩:=hex;cases o;simp only at h1 h2 h3 hd;subst h1 h2 h3 hd;rfl
 refine Calls.call_function_entry kind_sorted plain_sorted entry_sorted (args_sorted1 _) ?_
 unfold Builtin.«sorted»
 refine JY (m:=checkCount "sorted" 1 1 _) (JJ ?_);refine JY (xO (show A.in1.handled=none by simp[hh]) hm hS λh1 tk hlt1 hk=> ?_)
 have hp:=kN w S f m ep
 have Ov:(jo w S f m ep).length<=4:=by rw[hp.length_eq];simp only[iZ,K4];exact U9 _ _
 refine JY (wpAny_newList ?_ (KY (by rw[K4];exact Ov) (by decide)))
 have hI:IntsAre ((jo w S f m ep).map Prod.snd) ((jo w S f m ep).map Prod.fst):=vE _ λe he=>by
  obtain⟨k,_,rfl⟩:=Kw.mp (hp.mem_iff.mp he)
  exact⟨_,rfl⟩
 have hoL:(h1.push {cls:=.type "list",data:=.seq ((jo w S f m ep).map Prod.snd).toArray}).get? h1.objs.size=some (seqObj "list" ((jo w S f m ep).map Prod.snd).toArray 0):=Ky _ rfl
 refine JY (Z9 (Z8 slot_list_sort ⟨_,hoL,rfl⟩ entry_list_sort (list_sort_tree (s:={s with heap:=h1.push {cls:=.type "list",data:=.seq ((jo w S f m ep).map Prod.snd).toArray},toks:=tk}) hoL hI (by rw[K4];omega) λout ns' a1 a2 a3=>⟨_,rfl,?_⟩) (args_list_sort _)))
 obtain⟨c,hc⟩:=sortedHeap_at (out:=out) hoL
 have hge:s.heap.objs.size<=h1.objs.size:=YJ hlt1
 have hns:ns'=(L4 m).map λ(k:Nat)=>(k:Int):=by
  refine PySem.W.ksm_same (a2.trans ((hp.map Prod.fst).trans ?_)) a3 (Ar m)
  unfold iZ;rw[KQ];exact List.Perm.refl _
 subst hns
 refine JJ ⟨_,rfl,hQ _ tk _ out.toList c hge (by simpa using hc) a1 λb o hb e=> ?_⟩
 have hb1:=hk b o hb e
 have hlt:=Kv hb1
 rw[sortedHeap_old (X1 hlt) (by rw[XX];exact UX hlt)]
 exact K6 _ hb1
end
theorem vF (val:Nat->Nat)(k:Nat):∀(c i m:Nat),(nP val c i m).testBit k=(m.testBit k || (List.range c).any λj=>val (i+j)==k)
 | 0,i,m=>by simp[nP]
 | c+1,i,m=>by
  rw[nP,vF val k c (i+1),Nat.testBit_or,Nat.testBit_two_pow,List.range_succ_eq_map,YX,List.any_map,Bool.or_assoc]
  congr 1
  have e:(decide (val i=k))=(val (i+0)==k):=by rw[Nat.add_zero];rfl
  rw[e]
  congr 1
  congr 1
  funext j
  show(val (i+1+j)==k)=(val (i+(j+1))==k)
  rw[show i+1+j=i+(j+1) by omega]
theorem rW {vs:List Value}{ns:List Int}(h:IntsAre vs ns):Vals (ns.map V.int) vs:=by
 induction h with
 | nil=>exact .nil
 | cons n t _ ih=>exact .cons ⟨t,rfl⟩ ih
theorem Cj:∀{xs:List PyData},xs.all in4=true->∃ys:List Nat,xs=ys.map (λ(k:Nat)=>PyData.int (k:Int))/\∀k∈ys,k < 4
 | [],_=>⟨[],rfl,λk hk=>by cases hk⟩
 | x :: xs,h=>by
  rw[List.all_cons,X9] at h
  obtain⟨ys,rfl,h2⟩:=Cj h.2
  obtain⟨i,rfl,h0,h4⟩:∃i:Int,x= .int i/\0<=i/\i < 4:=by
   cases x <;> first | (rename_i i;exact⟨i,rfl,by simpa [in4] using h.1⟩) | (exact absurd h.1 (by simp[in4]))
  obtain⟨k,rfl⟩:=J0 h0
  exact⟨k :: ys,rfl,λj hj=>by
   rcases K0.mp hj with z | z
   ·rw[z];omega
   ·exact h2 j z⟩
theorem rY {K:Frag}{H:Hp}:∀{ys:List Nat} {vs:List V},aw K H (ys.map λ(k:Nat)=>PyData.int (k:Int)) vs->vs=ys.map λ(k:Nat)=>V.int (k:Int)
 | [],vs,h=>by simpa [aw] using h
 | y :: ys,vs,h=>by
  simp only[KJ,aw,aH] at h
  obtain⟨v,r,rfl,rfl,h2⟩:=h
  rw[rY h2];rfl
theorem rZ {K:Frag}{H:Hp}:∀(ys:List Nat),aw K H (ys.map λ(k:Nat)=>PyData.int (k:Int)) (ys.map λ(k:Nat)=>V.int (k:Int))
 | []=>ba
 | y :: ys=>by
  simp only[KJ,aw]
  exact⟨_,_,rfl,bB,rZ ys⟩
theorem Ck (ys:List Nat):vd (ys.map λ(k:Nat)=>PyData.int (k:Int))=(L4 (nP (λi=>ys.getD i 0) ys.length 0 0)).map λ(k:Nat)=>PyData.int (k:Int):=by
 unfold vd L4
 congr 1
 refine List.filter_congr λk _=> ?_
 rw[vF,Nat.zero_testBit,Bool.false_or,List.any_map]
 rw[Yj,List.any_eq_true,List.any_eq_true]
 constructor
 ·rintro⟨y,hy,hk⟩
  obtain⟨i,hi,rfl⟩:=List.getElem_of_mem hy
  have hk2:((ys[i]:Nat):Int)=(k:Int):=by simpa [Kb] using hk
  have hk':ys[i]=k:=by omega
  exact⟨i,Xy.mpr hi,by simp[X6,K3 hi,hk']⟩
 ·rintro⟨i,hi,hk⟩
  have hi':=Xy.mp hi
  refine⟨ys[i],Uv hi',?_⟩
  have hk':ys[i]=k:=by simpa [X6,K3 hi'] using hk
  simp[Kb,hk']
section
variable {X:Cx}{K:Frag}{Ew:Str->Hp->Prop}{pos pos2 p p2:Pos}{a:Expr}{ta:TE}{fa:EF}
def Cm (K:Frag)(ta:TE):TE:=λσ H Q=>ta σ H λx H1=>∃q,∃ys:List Nat,x= .ref q/\fU K H1 q (ys.map λ(k:Nat)=>V.int (k:Int))/\(∀k∈ys,k < 4)/\∀t,H1 t=none->Q (.ref t) (upd H1 t (.lst ((L4 (nP (λi=>ys.getD i 0) ys.length 0 0)).map λ(k:Nat)=>V.int (k:Int))))
theorem xP (hc:X.calm=true)(hg:Gl X "sorted")(hm:X.mg "sorted" =none)(hg2:Gl X "set")(hm2:X.mg "set" =none)(ha:PE X a ta)
  (hs:starEach [a] X.env=(false,eval a X.env) :: starEach [] X.env:=by rfl) (hpl:(backTo pos2 (starEach [] X.env)).any (·.1)=false:=by rfl)
  (hs2:starEach [.Call (.Name "set" p2) [a] [] pos2] X.env=(false,eval (.Call (.Name "set" p2) [a] [] pos2) X.env) :: starEach [] X.env:=by rfl) (o4:(backTo pos (starEach [] X.env)).any (·.1)=false:=by rfl)
  (hnil:backTo pos (starEach [] X.env)=[]:=by rfl) :
  PE X (.Call (.Name "sorted" p) [.Call (.Name "set" p2) [a] [] pos2] [] pos) (Cm X.K ta):=by
 intro pins s σ H Q I h
 refine wpAny_Call_Name_kw (fM I hg hm PyProof.Rows.boot_sorted ?_)
 refine PyProof.Rows.callWith_builtin1 ?_ hs2 o4
 rw[hs2]
 show wpAny _ _ (spliced ((false,eval (.Call (.Name "set" p2) [a] [] pos2) X.env) :: backTo pos (starEach [] X.env))) _ _ s
 refine Calls.spliced_cons (wpAny_Call_Name_kw (fM I hg2 hm2 PyProof.Rows.boot_set ?_))
 refine PyProof.Rows.callWith_type1 (cX (bA ha cZ hs pos2 pins s σ H (λvs H1=>match vs with
  | [x]=>∃q,∃ys:List Nat,x= .ref q/\fU X.K H1 q (ys.map λ(k:Nat)=>V.int (k:Int))/\(∀k∈ys,k < 4)/\∀t,H1 t=none->Q (.ref t) (upd H1 t (.lst ((L4 (nP (λi=>ys.getD i 0) ys.length 0 0)).map λ(k:Nat)=>V.int (k:Int))))
  | _=>False) I h) λus s1 ⟨vs,H1,I1,r1,q1⟩=> ?_) hs hpl
 match vs,r1,q1 with
 | [x],r1,q1=>
  obtain⟨q,ys,rfl,hq,h4,fin⟩:=q1
  obtain⟨u,rfl,ru⟩:=r1.one
  cases ru
  obtain⟨its,rv,pl,hz⟩:=I1.list hq
  have hh:X.A.handled=none:=I1.ok.hd hc
  have hl:=rv.length
  rw[K4] at hl
  refine Aq (w:=X.w) hh pl.isList (val:=λi=>ys.getD i 0) (λi v e=> ?_) λh' tk hM hk=> ?_
  ·rw[List.getElem?_toArray] at e
   have hi:i < ys.length:=by have:=(X2.mp e).1;omega
   have e1:(ys.map λ(k:Nat)=>V.int (k:Int))[i]? =some (.int ((ys.getD i 0:Nat):Int)):=by
    rw[KW,X6,K3 hi];rfl
   obtain⟨u,hu,ru⟩:=rv.get e1
   rw[hu] at e;cases e
   exact⟨h4 _ (by rw[X6,K3 hi];exact Uv hi),ru⟩
  ·rw[hnil]
   refine Calls.spliced_nil ?_
   have Ow:its.toArray.size=ys.length:=by rw[Kj];exact hl.symm
   rw[Ow] at hM
   have hfr:=I1.fresh
   have I2:Inv X pins σ H1 {s1 with heap:=h',toks:=tk}:=I1.kept (t':=tk) λb u e=>hk b u (Kv e) e
   refine As hh hM λh2 tk2 a out c hge hat hints hk2=> ?_
   refine⟨.ref a,_,I2.laid (t':=tk2) (a:=a) (o:=.lst ((L4 (nP (λi=>ys.getD i 0) ys.length 0 0)).map λ(k:Nat)=>V.int (k:Int))) (λb u e=>hk2 b u (Kv e) e) hge ⟨?_,out,c,?_,hat⟩,rfl,fin _ (I2.hok.fresh hge)⟩
   ·rw[K4];exact KY (U9 _ _) (by decide)
   ·have:=rW hints;rw[KQ] at this;exact this
 | [],r1,q1=>exact False.elim q1
 | _ :: _ :: _,r1,q1=>exact False.elim q1
theorem xQ (hc:X.calm=true)(hg:Gl X "sorted")(hm:X.mg "sorted" =none)(hg2:Gl X "set")(hm2:X.mg "set" =none)(ha:DE X K Ew a fa)(hK:X.K=K:=by rfl)
  (hs:starEach [a] X.env=(false,eval a X.env) :: starEach [] X.env:=by rfl) (hpl:(backTo pos2 (starEach [] X.env)).any (·.1)=false:=by rfl)
  (hs2:starEach [.Call (.Name "set" p2) [a] [] pos2] X.env=(false,eval (.Call (.Name "set" p2) [a] [] pos2) X.env) :: starEach [] X.env:=by rfl) (o4:(backTo pos (starEach [] X.env)).any (·.1)=false:=by rfl)
  (hnil:backTo pos (starEach [] X.env)=[]:=by rfl) :
  DE X K Ew (.Call (.Name "sorted" p) [.Call (.Name "set" p2) [a] [] pos2] [] pos) (Bn ka fa):=(xP hc hg hm hg2 hm2 ha hs hpl hs2 o4 hnil).imp λσ H Q q=>by
 obtain⟨B,φ,Γ,r0,q⟩:=q
 refine⟨B,φ,Γ,r0,(q.bind r0).mono λu H1 s1 ⟨k,x,e1,v1,r1,_,q1⟩=> ?_⟩
 obtain⟨z,e,q⟩:=fV (kf:=λ_=> .fr []) q1
 cases x <;> simp only[ka] at e <;> try (cases e;done)
 split at e
 ·rename_i xs hn
  cases e
  obtain⟨ys,rfl,h4⟩:=Cj hn
  obtain⟨p,vs,rfl,h1,h2⟩:=aY (v1.toD r1.bs)
  have e2:=rY h2
  subst e2
  rw[hK]
  refine⟨p,ys,rfl,h1,h4,λt ht=>q _ _ (s1.trans (Same.upd ht)) (VR.fresh.mpr ?_)⟩
  rw[Ck]
  refine aQ.lst (aT _ (λ_=>rfl) _) ax ?_ (s1.free ht)
  generalize L4 (nP (λi=>ys.getD i 0) ys.length 0 0)=l
  exact rZ l
 ·cases e
end
section
variable {X:Cx}
theorem HQ:iX X (compareOp .GtE) Lx:=iX.yM Js λx y z e=>by
 cases x <;> cases y <;> simp only[Lx] at e <;> cases e
 exact⟨_,_,rfl,rfl,rfl,λ_ _=>cQ⟩
end
end L2
namespace Y
open PySem
end Y
namespace L2
open PySem PySem.Spec PyProof.Rows Y
open AutoSeq1 (wpAny_loadPart')
end L2
namespace Y
open PySem
theorem me (i:Int):bj (.int i)=true:=rfl
theorem EG:bj .none=true:=rfl
theorem HR (b:Bool):bj (.bool b)=true:=rfl
theorem EH (b:Str):bj (.str b)=true:=rfl
theorem mf (xs:List PyData):bj (.list xs)=false:=rfl
theorem cD (xs:List PyData):bj (.tuple xs)=aq xs:=rfl
theorem cU {k:Kd}{d:PyData}(h:bj d=true):cA k d= .fr []:=by unfold cA;rw[JW h]
theorem vG {k:Kd}{d:PyData}(h:bj d=false):cA k d=k:=by unfold cA;rw[JZ (by rw[h];exact K5)]
theorem oB (k:Kd)(i:Int):cA k (.int i)= .fr []:=rfl
theorem HS (k:Kd)(i:Bool):cA k (.bool i)= .fr []:=rfl
theorem EI (k:Kd)(i:Str):cA k (.str i)= .fr []:=rfl
theorem EJ (k:Kd):cA k .none= .fr []:=rfl
theorem EK (k:Kd)(xs:List PyData):cA k (.list xs)=k:=rfl
theorem EL (k:Kd)(xs:List (PyData×PyData)):cA k (.dict xs)=k:=rfl
theorem au {k:Kd}{xs:List PyData}(h:aq xs=true):cA k (.tuple xs)= .fr []:=cU h
theorem dC (l:List Int):aq (l.map PyData.int)=true:=aT _ (λ_=>rfl) l
theorem Au {n:Nat}(l:List Int):lays n (l.map PyData.int)=true:=j7 _ (λ_=>by cases n <;> rfl) l
theorem Co (i j:Int):gL (.int i) (.int j)=some (.int (i+j)):=rfl
theorem Cp (i j:Int):qE (.int i) (.int j)=some (.int (i - j)):=rfl
theorem Cq {i j:Int}(h:(-(2^64) < i/\i < 2^64)∨(-(2^64) < j/\j < 2^64)):qJ (.int i) (.int j)=some (.int (i*j)):=JW h
theorem Aw {i j:Int}(h:0 < j/\j < 2^64):gq (.int i) (.int j)=some (.int (i / j)):=JW h
theorem Cr {i j:Int}(h:0 < j):gE (.int i) (.int j)=some (.int (i % j)):=JW h
theorem Cs {i j:Int}(h:0<=j/\j<=1000000/\i.natAbs < 2^64):xn (.int i) (.int j)=some (.int (i^j.toNat)):=JW h
theorem EM (i j:Int):IP (.int i) (.int j)=some (.bool (decide (i < j))):=rfl
theorem EN (i j:Int):N3 (.int i) (.int j)=some (.bool (decide (i<=j))):=rfl
theorem EO (i j:Int):IQ (.int i) (.int j)=some (.bool (decide (j < i))):=rfl
theorem Ct (i:Int):D4 (.int i)=some (.int (-i)):=rfl
theorem ER (i j:Int):uQ (.int i) (.int j)=some (.bool (i==j)):=rfl
theorem ES (i j:Int):zM (.int i) (.int j)=some (.bool (!(i==j))):=rfl
theorem ET (x:PyData):N2 x .none=some (.bool (jd x)):=rfl
theorem xR (x:PyData):sT x .none=some (.bool (!jd x)):=rfl
theorem Ax (xs:List PyData):hX [.list xs]=some (.int xs.length):=rfl
theorem Cu (xs:List PyData):hX [.tuple xs]=some (.int xs.length):=rfl
theorem Cv (xs:List PyData)(i:Int):j0 (.list xs) (.int i)=mP xs i:=rfl
theorem EU (xs:List PyData)(i:Int):j0 (.tuple xs) (.int i)=mP xs i:=rfl
theorem iI {α:Type}{xs:List α}{j:Nat}{v:α}(h:xs[j]? =some v):mP xs (j:Int)=some v:=by
 have hj:j < xs.length:=(X2.mp h).1
 have e:nu xs.length (j:Int)=some j:=by
  unfold nu
  rw[JW (!1),JW (!1)];simp
 unfold mP;rw[e];exact h
theorem EV {α:Type}{xs:List α}{i:Int}{v:α}(h0:0<=i)(h:xs[i.toNat]? =some v):mP xs i=some v:=by
 obtain⟨j,rfl⟩:=J0 h0
 exact iI (by simpa using h)
theorem KD {x y:PyData}(hx:lay 60 x=true)(hy:lay 60 y=true):uQ x y=some (.bool (PyData.eqv x y)):=by unfold uQ;rw[hx,hy];rfl
theorem KE {x y:PyData}(hx:lay 60 x=true)(hy:lay 60 y=true):zM x y=some (.bool (!PyData.eqv x y)):=by unfold zM;rw[hx,hy];rfl
theorem vH {x:PyData}{ys:List PyData}(hx:lay 60 x=true)(hy:lays 60 ys=true):Hh x (.list ys)=some (.bool (cn ys x)):=by simp only[Hh,hx,hy,XY,if_true]
theorem vI {x:PyData}{ys:List PyData}(hx:lay 60 x=true)(hy:lays 60 ys=true):eY x (.list ys)=some (.bool (!cn ys x)):=by simp only[eY,hx,hy,XY,if_true]
theorem pL {x:PyData}{ys:List PyData}(hx:lay 60 x=true)(hy:lays 60 ys=true):eY x (.tuple ys)=some (.bool (!cn ys x)):=by simp only[eY,hx,hy,XY,if_true]
theorem lD {xs:List PyData}(h:aq xs=true):j8 [.list xs]=some (.list xs):=JW h
theorem ca {xs:List PyData}(h:aq xs=true):eZ [.list xs]=some (.tuple xs):=JW h
theorem pM {xs:List PyData}(h:aq xs=true):uT (.list xs)=some (.tuple xs.reverse):=JW h
theorem Cw {n:Int}(h:-(2^62)<=n/\n < 2^62):zP (.int n)=ag (.fr [],(List.range n.toNat).map λ(i:Nat)=>PyData.int (i:Int)):=JW h
theorem xS (l:List Int)(x:Int):cn (l.map PyData.int) (.int x)=decide (x∈l):=by
 unfold cn
 induction l with
 | nil=>rfl
 | cons y l ih=>
  rw[KJ,YX,ih]
  have e:PyData.eqv (.int y) (.int x)=(y==x):=by simp[PyData.eqv]
  rw[e]
  by_cases h:y=x
  ·subst h;simp
  ·have h':¬ x=y:=λz=>h z.symm
   simp[h,h']
theorem bn {g:GF}{b:SF}{ds:List PyData}{Γ:bf}(P:Nat->bf->Prop)(h0:P 0 Γ)
  (hs:∀(i:Nat) (d:PyData) (Γ:bf),ds[i]? =some d->P i Γ->∃Γ1 Γ2,g (cA .base d) d Γ=some Γ1/\(b Γ1=ag (.nx Γ2)∨b Γ1=ag (.ct Γ2))/\P (i+1) Γ2) :
  ∃Γ',aW g b ds Γ=ag (.nx Γ')/\P ds.length Γ':=by
 induction ds generalizing Γ P with
 | nil=>exact⟨Γ,rfl,h0⟩
 | cons d ds ih=>
  obtain⟨Γ1,Γ2,h1,h2,h3⟩:=hs 0 d Γ rfl h0
  obtain⟨Γ',h4,h5⟩:=ih (Γ:=Γ2) (λi=>P (i+1)) h3 λi d' Γ' hd hp=>hs (i+1) d' Γ' (by simpa using hd) hp
  refine⟨Γ',?_,by simpa using h5⟩
  simp only[aW,h1,bt,ar]
  rcases h2 with h2 | h2 <;> (rw[h2];exact h4)
theorem bR {n i:Nat}{d:PyData}(h:((List.range n).map λ(i:Nat)=>PyData.int (i:Int))[i]? =some d):d= .int (i:Int)/\i < n:=by
 rw[KW] at h
 by_cases hi:i < n
 ·rw[Y7 hi] at h
  exact⟨(Option.some.inj h).symm,hi⟩
 ·rw[Xz (by simpa using hi)] at h
  cases h
theorem jp {fe:EF}{cap:bf}(ds:List PyData)(f:PyData->Kd×PyData)(h:∀d∈ds,fe (some (false,d) :: cap)=ag (f d)):c_ dN fe cap ds=some (ds.map f):=by
 induction ds with
 | nil=>rfl
 | cons d ds ih=>
  have h1:=h d K8
  simp only[c_,dN,ag] at h1⊢
  rw[h1,ih λx hx=>h x (K9 _ hx)]
  rfl
theorem t5 {ft:TF}{fe:EF}{cap:bf}(ds:List PyData)(p:PyData->Bool)(f:PyData->Kd×PyData)(ht:∀d∈ds,ft (some (false,d) :: cap)=ag (p d))(h:∀d∈ds,p d=true->fe (some (false,d) :: cap)=ag (f d)):c_ ft fe cap ds=some ((ds.filter p).map f):=by
 induction ds with
 | nil=>rfl
 | cons d ds ih=>
  have h0:=ht d K8
  have ih':=ih (λx hx=>ht x (K9 _ hx)) λx hx=>h x (K9 _ hx)
  simp only[c_,ag] at h0⊢
  rw[h0]
  cases hp:p d with
  | false=>simp only[ih',Y5,hp,XU,if_false]
  | true=>
   have h1:=h d K8 hp
   simp only[ag] at h1
   simp only[h1,ih',Y5,hp,if_true,KJ,Uy]
theorem fm {α:Type}(l:List α)(f:α->PyData):gu (l.map λa=>(Kd.fr [],f a))=some (.fr []):=by
 induction l with
 | nil=>rfl
 | cons a l ih=>simp only[KJ,gu,ih]
end Y
namespace L2
open PySem PySem.Spec PyProof.Rows Y
structure Nz (P:Program)(w:World)(outer:List Env)(H:Hp)(h0:Heap)(H':Hp)(B h:Heap):Prop where
 hok:og P w H' B
 keep:∀b o,h0.get? b=some o->H b=none->b∉frs outer->B.get? b=some o
 slot:∀b o,h0.get? b=some o->H b=none->b∈frs outer->∃sl,h.get? b=some {o with slots:=sl}
 free:∀b o,h0.get? b=some o->H b=none->H' b=none
 there:∀b o,h0.get? b=some o->b∉frs outer->∃o',B.get? b=some o'
 tups:∀b xs,H b=some (.tup xs)->H' b=some (.tup xs)
 lg:∀b o u,H b=some (.A0 o u)->H' b=some (.A0 o u)
 lJ:∀b ps,H b=some (.DD ps)->∃more,H' b=some (.DD (ps++more))
theorem Nz.un {P:Program}{w:World}{outer:List Env}{H H':Hp}{h0 B h h':Heap}(T:Nz P w outer H h0 H' B h)(ff:∀b∈frs outer,H b=none)(nf:h.FunFrames B outer)(st:B.StaysIn h')(up:h.UpToSlots h'):Un (frs outer) [] H H' h0 h':=by
 have sl:∀b o,h0.get? b=some o->H b=none->b∈frs outer->∃sl,h'.get? b=some {o with slots:=sl}:=λb o e n hb=>by
  obtain⟨sl,e1⟩:=T.slot b o e n hb
  obtain⟨_,o2,e2,nd⟩:=nf.mem hb
  rw[e1] at e2
  cases e2
  obtain⟨sl',e3⟩:=up b _ e1 nd
  exact⟨sl',e3⟩
 refine⟨λb o e n hb _=>st _ _ (T.keep b o e n hb),λb o e n hb _=>sl b o e n hb,λb o e n _=>T.free b o e n,λb o e _=> ?_,T.tups,T.lg,T.lJ⟩
 by_cases hb:b∈frs outer
 ·obtain⟨s,e1⟩:=sl b o e (ff b hb) hb
  exact⟨_,e1⟩
 ·obtain⟨o',e1⟩:=T.there b o e hb
  exact⟨o',st _ _ e1⟩
end L2
namespace Y
def nx (F:FF):FF:=λds=>match F ds with
 | some (.ok r)=>some (.ok r)
 | _=>none
end Y
namespace L2
open PySem PySem.Spec PyProof.Rows Y
end L2
namespace L2
open PySem PySem.Spec PyProof.Rows Y PySem.Calls Builtin Builtin.ObjectAttr Builtin.Getset_descriptor
def KG (x D:Addr)(h:Heap):Prop:=∃ox,h.get? x=some ox/\ox.cls= .ref D
theorem KG.ty {x D:Addr}{M:Model}{h:Heap}(p:KG x D h):PySem.W.Looks M h (typeOf (.ref x)) (.ref D):=by
 obtain⟨ox,h1,h2⟩:=p
 exact h2 ▸ (PySem.W.Looks.ld h1).andThen .now
end L2
namespace Y
end Y
namespace L2
open PySem PySem.Spec PyProof.Rows Y
section
variable {X:Cx}{pins:List (Addr×Obj)}{σ:St}{H:Hp}{s:Shared}
abbrev Cx.held (X:Cx)(e:Value):Cx:={X with A:=X.A.mark (some e),calm:=false,xe:=λ_ _=>False}
theorem Inv.held (I:Inv X pins σ H s)(e:Value):Inv (X.held e) pins σ H s :=
 ⟨⟨I.ok.mod,I.ok.kind,I.ok.glob,I.ok.blt,I.ok.above,I.ok.inj,I.ok.has,I.ok.cab,λz=>(K5 z).elim,I.ok.frames,I.ok.stk,I.ok.IM,I.ok.bs,I.ok.zB,I.ok.wY,I.ok.wZ,I.ok.lh,I.ok.Dx⟩,I.os,I.bare,I.base,I.loc,I.cell,I.free,I.jZ,I.pin,I.hok,I.len⟩
end
section
variable {es elts:List Expr}{env:Env}{pos:Pos}{k:Nat}
theorem HU:starEach (.Tuple elts k pos :: es) env=(false,eval (.Tuple elts k pos) env) :: starEach es env:=by rfl
theorem bP {c:Const}:starEach (.Constant c k pos :: es) env=(false,eval (.Constant c k pos) env) :: starEach es env:=by rfl
theorem ah {x:Str}:starEach (.Name x pos :: es) env=(false,eval (.Name x pos) env) :: starEach es env:=by rfl
theorem lE {a b:Expr}:starEach (.Subscript a b pos :: es) env=(false,eval (.Subscript a b pos) env) :: starEach es env:=by rfl
end
end L2
namespace Ts
open PySem PyProof.Rows
abbrev eL:Array Keyed->Nat->StateT SortSt Sem Keyed:=sortPriv% PySem.Builtin.elem
abbrev lT:Keyed->Keyed->StateT SortSt Sem (Option Bool):=sortPriv% PySem.Builtin.lt
abbrev gal:Bool->Keyed->Array Keyed->Nat->Nat->Nat->StateT SortSt Sem (Option Nat):=sortPriv% PySem.Builtin.gallop
abbrev Ox:Array Keyed->Array Keyed->StateT SortSt Sem (Array Keyed):=sortPriv% PySem.Builtin.mergeLo
abbrev Oy:Array Keyed->Array Keyed->StateT SortSt Sem (Array Keyed):=sortPriv% PySem.Builtin.mergeHi
abbrev Oz:Nat->StateT SortSt Sem Unit:=sortPriv% PySem.Builtin.setMinGallop
def kz (x:Keyed):Int:=numOf x.1
def IK (x:Keyed):Prop:=∃n t,x.1= .int n t
section
variable {prog:Program}{w:World}{A:Around}{E:Z5}{s:Shared}
theorem aZ {M:Model}{arr:Array Keyed}{i:Nat}{x:Keyed}{Q:Keyed->SortSt->Prop}{st:SortSt}(h:arr[i]? =some x)(hq:Q x st):wpS M A E s (eL arr i) Q st:=by
 show wpS M A E s (elem' arr i) Q st
 rw[elem'_eq,h];exact Jq hq
theorem pN {x y:Keyed}{Q:Option Bool->SortSt->Prop}{st:SortSt}(hk:kindOf st=oneType')(hx:IK x)(hy:IK y)(hq:Q (some (decide (kz x < kz y))) st):wpS (!3) A E s (lT x y) Q st:=by
 obtain⟨a,t,ea⟩:=hx
 obtain⟨b,u,eb⟩:=hy
 show wpS (!3) A E s (lt' x y) Q st
 unfold kz at hq
 rw[ea,eb] at hq
 rw[lt'_eq]
 refine Jv (JK ?_)
 rw[hk,keyLt'_oneType,ea,eb]
 exact Jv (wpS_lift (wpAny_attempt (oneLt_int ⟨rfl,Jq hq⟩)))
theorem Ay {arr:Array Keyed}{i:Nat}{x:Keyed}(h:arr[i]? =some x):K arr i=kz x:=by unfold K;rw[h];rfl
def xT (left:Bool)(key:Keyed)(arr:Array Keyed)(base i:Nat):Bool:=if left=true then decide (K arr (base+i) < kz key) else !decide (kz key < K arr (base+i))
theorem mh {left:Bool}{key:Keyed}{arr:Array Keyed}{base n i:Nat}{Q:Option Bool->SortSt->Prop}{st:SortSt}(hk:kindOf st=oneType')(hkey:IK key)(ha:∀x∈arr.toList,IK x)(hb:base+n<=arr.size)(hi:i < n)
  (hq:Q (some (xT left key arr base i)) st) :
  wpS (!3) A E s (do let x←eL arr (base+i);if left=true then lT x key else do let r←lT key x;pure (Option.map (λx=> !x) r)) Q st:=by
 have hlt:base+i < arr.size:=by omega
 have hg:arr[base+i]? =some arr[base+i]:=Yx hlt
 have hx:IK arr[base+i]:=ha _ (by simp)
 refine Jv (aZ hg ?_)
 unfold xT at hq
 rw[Ay hg] at hq
 cases left with
 | true=>rw[JW rfl];exact pN hk hx hkey hq
 | false=>rw[JZ K5];exact Jv (pN hk hkey hx (Jq hq))
theorem EW {left:Bool}{key:Keyed}{arr:Array Keyed}{base n hint:Nat}{Q:Option Nat->SortSt->Prop}{st:SortSt}(hk:kindOf st=oneType')(hkey:IK key)(ha:∀x∈arr.toList,IK x)(hb:base+n<=arr.size)(hh:hint < n)
  (mono:∀i j,i<=j->j < n->xT left key arr base j=true->xT left key arr base i=true)
  (hq:∀k,k<=n->(∀i,i < k->xT left key arr base i=true)->(∀i,k<=i->i < n->xT left key arr base i=false)->Q (some k) st):wpS (!3) A E s (gal left key arr base n hint) Q st:=by
 obtain⟨B,hB⟩:∃B,xT left key arr base=B:=⟨_,rfl⟩
 rw[hB] at mono hq
 refine Jv (mh hk hkey ha hb hh ?_)
 dsimp only
 cases h0:xT left key arr base hint with
 | true=>
  rw[hB] at h0
  rw[JW rfl]
  refine Jv (wpS_mono (wpS_forRange (I:=λx c st'=>st'=st/\∃l o,c=(none,l,o)/\l < o/\x+1<=o/\l < n - hint/\B (hint+l)=true)
   (Q:=λc st'=>st'=st/\∃l o,c=(none,l,o)/\l < o/\l < n - hint/\B (hint+l)=true/\(n - hint<=o∨(o < n - hint/\B (hint+o)=false))) ?_ ?_ ⟨rfl,0,1,rfl,by omega,by omega,by omega,h0⟩) ?_)
  ·rintro x c st' _ hx ⟨rfl,l,o,rfl,a1,a2,a3,a4⟩
   dsimp only
   by_cases hge:o≥n - hint
   ·rw[JW hge]
    exact Jq ⟨rfl,l,o,rfl,a1,a3,a4,.inl hge⟩
   ·rw[JZ hge]
    refine Jv (mh hk hkey ha hb (show hint+o < n by omega) ?_)
    dsimp only
    cases hc:xT left key arr base (hint+o) with
    | true=>exact Jq ⟨rfl,o,2*o+1,rfl,by omega,by omega,by omega,by rw[←hB];exact hc⟩
    | false=>exact Jq ⟨rfl,l,o,rfl,a1,a3,a4,.inr ⟨by omega,by rw[←hB];exact hc⟩⟩
  ·rintro c st' ⟨rfl,l,o,rfl,a1,a2,a3,a4⟩
   exact⟨rfl,l,o,rfl,a1,a3,a4,.inl (!1)⟩
  ·rintro c st' ⟨est,l,o,rfl,a1,a3,a4,a5⟩
   rw[est]
   dsimp only
   have b1:hint+l+1<=hint+min o (n - hint):=by omega
   have b2:hint+min o (n - hint)<=n:=by omega
   have b3:∀i,i < hint+l+1->B i=true:=λi hi=>mono i (hint+l) (!1) (!1) a4
   have b4:∀i,hint+min o (n - hint)<=i->i < n->B i=false:=λi h1 h2=>by
    rcases a5 with a5 | ⟨a5,a6⟩
    ·omega
    ·cases hz:B i with
     | false=>rfl
     | true=>have:=mono (hint+o) i (!1) h2 hz;rw[a6] at this;cases this
   refine Jv (wpS_mono (wpS_forRange (I:=λx c st'=>st'=st/\∃l r,c=(none,l,r)/\l<=r/\r<=n/\r - l<=n - x/\(∀i,i < l->B i=true)/\∀i,r<=i->i < n->B i=false)
    (Q:=λc st'=>st'=st/\∃l r,c=(none,l,r)/\r<=n/\(∀i,i < r->B i=true)/\∀i,r<=i->i < n->B i=false) ?_ ?_ ⟨rfl,_,_,rfl,b1,b2,by omega,b3,b4⟩) ?_)
   ·rintro x c st' _ hx ⟨rfl,l,r,rfl,a1,a2,a3,a4,a5⟩
    dsimp only
    by_cases hge:l≥r
    ·rw[JW hge]
     obtain rfl:l=r:=by omega
     exact Jq ⟨rfl,l,l,rfl,a2,a4,a5⟩
    ·rw[JZ hge]
     refine Jv (mh hk hkey ha hb (show l+(r - l) / 2 < n by omega) ?_)
     dsimp only
     cases hc:xT left key arr base (l+(r - l) / 2) with
     | true=>
      rw[JW rfl]
      exact Jq ⟨rfl,l+(r - l) / 2+1,r,rfl,by omega,a2,by omega,λi hi=>mono i (l+(r - l) / 2) (!1) (!1) (hB ▸ hc),a5⟩
     | false=>
      rw[JZ K5]
      refine Jq ⟨rfl,l,l+(r - l) / 2,rfl,by omega,by omega,by omega,a4,λi h1 h2=> ?_⟩
      cases hz:B i with
      | false=>rfl
      | true=>have:=mono _ i h1 h2 hz;rw[←hB,hc] at this;cases this
   ·rintro c st' ⟨rfl,l,r,rfl,a1,a2,a3,a4,a5⟩
    obtain rfl:l=r:=by omega
    exact⟨rfl,l,l,rfl,a2,a4,a5⟩
   ·rintro c st' ⟨rfl,l,r,rfl,a2,a4,a5⟩
    exact Jq (hq r a2 a4 a5)
 | false=>
  rw[hB] at h0
  rw[JZ K5]
  refine Jv (wpS_mono (wpS_forRange (I:=λx c st'=>st'=st/\∃l o,c=(none,l,o)/\l < o/\x+1<=o/\l < hint+1/\B (hint - l)=false)
   (Q:=λc st'=>st'=st/\∃l o,c=(none,l,o)/\l < o/\l < hint+1/\B (hint - l)=false/\(hint+1<=o∨(o < hint+1/\B (hint - o)=true))) ?_ ?_ ⟨rfl,0,1,rfl,by omega,by omega,by omega,h0⟩) ?_)
  ·rintro x c st' _ hx ⟨rfl,l,o,rfl,a1,a2,a3,a4⟩
   dsimp only
   by_cases hge:o≥hint+1
   ·rw[JW hge]
    exact Jq ⟨rfl,l,o,rfl,a1,a3,a4,.inl hge⟩
   ·rw[JZ hge]
    refine Jv (mh hk hkey ha hb (show hint - o < n by omega) ?_)
    dsimp only
    cases hc:xT left key arr base (hint - o) with
    | true=>exact Jq ⟨rfl,l,o,rfl,a1,a3,a4,.inr ⟨by omega,by rw[←hB];exact hc⟩⟩
    | false=>exact Jq ⟨rfl,o,2*o+1,rfl,by omega,by omega,by omega,by rw[←hB];exact hc⟩
  ·rintro c st' ⟨rfl,l,o,rfl,a1,a2,a3,a4⟩
   exact⟨rfl,l,o,rfl,a1,a3,a4,.inl (!1)⟩
  ·rintro c st' ⟨est,l,o,rfl,a1,a3,a4,a5⟩
   rw[est]
   dsimp only
   have b1:hint+1 - min o (hint+1)<=hint - l:=by omega
   have b2:hint - l<=n:=by omega
   have b3:∀i,i < hint+1 - min o (hint+1)->B i=true:=λi hi=>by
    rcases a5 with a5 | ⟨a5,a6⟩
    ·omega
    ·exact mono i (hint - o) (!1) (!1) a6
   have b4:∀i,hint - l<=i->i < n->B i=false:=λi h1 h2=>by
    cases hz:B i with
    | false=>rfl
    | true=>have:=mono (hint - l) i (!1) h2 hz;rw[a4] at this;cases this
   refine Jv (wpS_mono (wpS_forRange (I:=λx c st'=>st'=st/\∃l r,c=(none,l,r)/\l<=r/\r<=n/\r - l<=n - x/\(∀i,i < l->B i=true)/\∀i,r<=i->i < n->B i=false)
    (Q:=λc st'=>st'=st/\∃l r,c=(none,l,r)/\r<=n/\(∀i,i < r->B i=true)/\∀i,r<=i->i < n->B i=false) ?_ ?_ ⟨rfl,_,_,rfl,b1,b2,by omega,b3,b4⟩) ?_)
   ·rintro x c st' _ hx ⟨rfl,l,r,rfl,a1,a2,a3,a4,a5⟩
    dsimp only
    by_cases hge:l≥r
    ·rw[JW hge]
     obtain rfl:l=r:=by omega
     exact Jq ⟨rfl,l,l,rfl,a2,a4,a5⟩
    ·rw[JZ hge]
     refine Jv (mh hk hkey ha hb (show l+(r - l) / 2 < n by omega) ?_)
     dsimp only
     cases hc:xT left key arr base (l+(r - l) / 2) with
     | true=>
      rw[JW rfl]
      exact Jq ⟨rfl,l+(r - l) / 2+1,r,rfl,by omega,a2,by omega,λi hi=>mono i (l+(r - l) / 2) (!1) (!1) (hB ▸ hc),a5⟩
     | false=>
      rw[JZ K5]
      refine Jq ⟨rfl,l,l+(r - l) / 2,rfl,by omega,by omega,by omega,a4,λi h1 h2=> ?_⟩
      cases hz:B i with
      | false=>rfl
      | true=>have:=mono _ i h1 h2 hz;rw[←hB,hc] at this;cases this
   ·rintro c st' ⟨rfl,l,r,rfl,a1,a2,a3,a4,a5⟩
    obtain rfl:l=r:=by omega
    exact⟨rfl,l,l,rfl,a2,a4,a5⟩
   ·rintro c st' ⟨rfl,l,r,rfl,a2,a4,a5⟩
    exact Jq (hq r a2 a4 a5)
end
abbrev jq (f:Keyed->Int)(l:List Keyed):Prop:=l.Pairwise λx y=>f x<=f y
structure MIL (f:Keyed->Int)(A B O:List Keyed)(i j:Nat):Prop where
 p:O.Perm (A.take i++B.take j)
 s:jq f O
 a:∀x∈O,∀y∈A.drop i,f x<=f y
 b:∀x∈O,∀y∈B.drop j,f x<=f y
section
variable {f:Keyed->Int}{A B O:List Keyed}{i j:Nat}
theorem MIL.symm (m:MIL f A B O i j):MIL f B A O j i:=⟨m.p.trans Jw,m.s,m.b,m.a⟩
theorem MIL.run (m:MIL f A B O i j)(sB:jq f B)(k:Nat)(h:∀x∈(B.drop j).take k,∀y∈A.drop i,f x<=f y):MIL f A B (O++(B.drop j).take k) i (j+k):=by
 have hs:jq f (B.drop j):=sB.sublist (Yv _ _)
 have hs2:jq f ((B.drop j).take k++(B.drop j).drop k):=by rw[Ux];exact hs
 refine⟨?_,?_,?_,?_⟩
 ·rw[List.take_add,←X7];exact m.p.append_right _
 ·refine Y9.mpr ⟨m.s,(Y9.mp hs2).1,λx hx y hy=>m.b x hx y (U4 hy)⟩
 ·intro x hx y hy
  rcases Kk.mp hx with z | z
  ·exact m.a x z y hy
  ·exact h x z y hy
 ·intro x hx y hy
  rw[←YV] at hy
  rcases Kk.mp hx with z | z
  ·exact m.b x z y (U3 hy)
  ·exact(Y9.mp hs2).2.2 x z y hy
theorem take1 {l:List Keyed}{j:Nat}(h:j < l.length):(l.drop j).take 1=[l[j]]:=by
 rw[U7 h];rfl
theorem MIL.push (m:MIL f A B O i j)(sB:jq f B)(hj:j < B.length)(h:∀y∈A.drop i,f B[j]<=f y):MIL f A B (O++[B[j]]) i (j+1):=by
 have:=m.run sB 1 (by rw[take1 hj];intro x hx;rw[K7.mp hx];exact h)
 rwa [take1 hj] at this
theorem MIL.fin (m:MIL f A B O i j)(hi:A.length<=i)(hj:B.length<=j):O.Perm (A++B)/\jq f O:=by
 have:=m.p
 rw[XZ hi,XZ hj] at this
 exact⟨this,m.s⟩
theorem MIL.nil (f:Keyed->Int)(A B:List Keyed):MIL f A B [] 0 0:=⟨by simp,List.Pairwise.nil,(λx hx=>by cases hx),(λx hx=>by cases hx)⟩
theorem MIL.both (m:MIL f A B O i j)(sA:jq f A)(sB:jq f B)(h:∀x∈B.drop j,∀y∈A.drop i,f x<=f y):(O++B.drop j++A.drop i).Perm (A++B)/\jq f (O++B.drop j++A.drop i):=by
 have m1:=m.run sB (B.length - j) (by rw[XZ (by rw[XJ];omega)];exact h)
 rw[XZ (by rw[XJ];omega)] at m1
 have m2:=m1.symm.run sA (A.length - i) (by
  intro x hx y hy
  rw[Jx (!1)] at hy;cases hy)
 rw[XZ (by rw[XJ];omega)] at m2
 obtain⟨q1,q2⟩:=m2.fin (!1) (!1)
 exact⟨q1.trans Jw,q2⟩
end
def MI (a b out:Array Keyed)(ia ib:Nat):Prop:=MIL kz a.toList b.toList out.toList ia ib
def Fn (a b r:Array Keyed):Prop:=r.toList.Perm (a.toList++b.toList)/\jq kz r.toList
theorem il (a:Array Keyed)(i j:Nat):(a.extract i j).toList=(a.toList.drop i).take (j - i):=by
 rw[Array.toList_extract,List.extract_eq_take_drop]
theorem mi (a:Array Keyed)(i:Nat):(a.extract i).toList=a.toList.drop i:=by
 rw[il,XZ (by rw[XJ,Kq];exact K1 _)]
section
variable {a b out:Array Keyed}{ia ib:Nat}
theorem pO {l:List Keyed}{i:Nat}{y:Keyed}(sl:jq kz l)(hi:i < l.length)(hy:y∈l.drop i):kz l[i]<=kz y:=by
 rw[U7 hi] at hy
 rcases K0.mp hy with rfl | hy
 ·exact Int.le_refl _
 ·have:jq kz (l[i] :: l.drop (i+1)):=by rw[←U7 hi];exact sl.sublist (Yv _ _)
  exact(List.pairwise_cons.mp this).1 y hy
theorem MI.r_ (m:MI a b out ia ib)(sB:jq kz b.toList)(h:ib < b.size)(hx:∀y∈a.toList.drop ia,kz b[ib]<=kz y):MI a b (out.push b[ib]) ia (ib+1):=by
 unfold MI;rw[YK];exact MIL.push m sB (by simpa using h) (by simpa using hx)
theorem MI.pP (m:MI a b out ia ib)(sA:jq kz a.toList)(h:ia < a.size)(hx:∀y∈b.toList.drop ib,kz a[ia]<=kz y):MI a b (out.push a[ia]) (ia+1) ib:=by
 unfold MI;rw[YK];exact(MIL.push (MIL.symm m) sA (by simpa using h) (by simpa using hx)).symm
theorem MI.HV (m:MI a b out ia ib)(sB:jq kz b.toList)(k:Nat)(hx:∀x∈(b.toList.drop ib).take k,∀y∈a.toList.drop ia,kz x<=kz y):MI a b (out++b.extract ib (ib+k)) ia (ib+k):=by
 unfold MI;rw[UU,il,Nat.add_sub_cancel_left];exact MIL.run m sB k hx
theorem MI.xU (m:MI a b out ia ib)(sA:jq kz a.toList)(k:Nat)(hx:∀x∈(a.toList.drop ia).take k,∀y∈b.toList.drop ib,kz x<=kz y):MI a b (out++a.extract ia (ia+k)) (ia+k) ib:=by
 unfold MI;rw[UU,il,Nat.add_sub_cancel_left];exact(MIL.run (MIL.symm m) sA k hx).symm
theorem MI.done (m:MI a b out ia ib)(sA:jq kz a.toList)(sB:jq kz b.toList)(h:a.size<=ia∨b.size<=ib):Fn a b (out++a.extract ia++b.extract ib):=by
 unfold Fn
 rw[UU,UU,mi,mi]
 have:=MIL.both (MIL.symm m) sB sA (λx hx y hy=>by
  rcases h with h | h
  ·rw[Jx (by rw[Kq];exact h)] at hx;cases hx
  ·rw[Jx (by rw[Kq];exact h)] at hy;cases hy)
 exact⟨this.1.trans Jw,this.2⟩
theorem MI.last (m:MI a b out ia ib)(sA:jq kz a.toList)(sB:jq kz b.toList)(h:∀x∈b.toList.drop ib,∀y∈a.toList.drop ia,kz x<=kz y):Fn a b (out++b.extract ib++a.extract ia):=by
 unfold Fn
 rw[UU,UU,mi,mi]
 exact MIL.both m sA sB h
end
def MH (a b out:Array Keyed)(na nb:Nat):Prop:=MIL (λx=> -kz x) a.toList.reverse b.toList.reverse out.toList (a.size - na) (b.size - nb)
theorem EX {l:List Keyed}(h:jq kz l):jq (λx=> -kz x) l.reverse:=List.pairwise_reverse.mpr (h.imp λh=>by dsimp only at h⊢;omega)
theorem Cy {l:List Keyed}(h:jq (λx=> -kz x) l):jq kz l.reverse:=List.pairwise_reverse.mpr (h.imp λh=>by dsimp only at h⊢;omega)
theorem vJ {l:List Keyed}{n:Nat}:l.reverse.drop (l.length - n)=(l.take n).reverse:=by rw[List.reverse_take]
section
variable {a b out:Array Keyed}{na nb:Nat}
theorem MH.symm (m:MH a b out na nb):MH b a out nb na:=MIL.symm m
theorem MH.xU (m:MH a b out na nb)(sA:jq kz a.toList)(at_:Nat)(h1:at_<=na)(h2:na<=a.size)(hx:∀x∈(a.toList.take na).drop at_,∀y∈b.toList.take nb,kz y<=kz x):MH a b (out++(a.extract at_ na).reverse) at_ nb:=by
 have el:a.toList.length=a.size:=Kq
 have eb:b.toList.length=b.size:=Kq
 have e1:(a.toList.reverse.drop (a.size - na)).take (na - at_)=((a.toList.take na).drop at_).reverse:=by
  rw[←el,vJ,List.reverse_drop,Xk,el,Nat.min_eq_left h2]
 have:=MIL.run (MIL.symm m) (EX sA) (na - at_) (by
  rw[e1,←eb,vJ]
  intro x hx' y hy
  have:=hx x (Uw.mp hx') y (Uw.mp hy)
  show -kz x<= -kz y
  omega)
 rw[e1,show a.size - na+(na - at_)=a.size - at_ by omega] at this
 unfold MH
 rw[UU,Array.toList_reverse,il,←List.drop_take]
 exact this.symm
theorem MH.pP (m:MH a b out na nb)(sA:jq kz a.toList)(h1:1<=na)(h2:na<=a.size)(hx:∀y∈b.toList.take nb,kz y<=kz (a[na - 1]'(!1))):MH a b (out.push (a[na - 1]'(!1))) (na - 1) nb:=by
 have e:(a.toList.take na).drop (na - 1)=[a[na - 1]'(!1)]:=by
  rw[List.drop_take,show na - (na - 1)=1 by omega,take1 (by rw[Kq];omega)];simp
 have:=m.xU sA (na - 1) (!1) h2 (by rw[e];intro x hx';rw[K7.mp hx'];exact hx)
 unfold MH at this⊢
 rw[UU,Array.toList_reverse,il,←List.drop_take,e] at this
 rw[YK];exact this
theorem MH.fin {out:Array Keyed}(m:MH a b out 0 0):Fn a b out.reverse:=by
 obtain⟨p,s⟩:=MIL.fin m (by simp) (by simp)
 unfold Fn
 rw[Array.toList_reverse]
 exact⟨((List.reverse_perm _).trans p).trans ((List.reverse_perm _).append (List.reverse_perm _)),Cy s⟩
theorem MH.both (m:MH a b out na nb)(sA:jq kz a.toList)(sB:jq kz b.toList)(h2:na<=a.size)(h3:nb<=b.size)(hx:∀x∈a.toList.take na,∀y∈b.toList.take nb,kz y<=kz x):Fn a b (b.extract 0 nb++a.extract 0 na++out.reverse):=by
 have m1:=m.xU sA 0 (!1) h2 (by rw[Y4];exact hx)
 have m2:=(m1.symm.xU sB 0 (!1) h3 (by intro x _ y hy;rw[YW] at hy;cases hy)).symm
 have:=m2.fin
 rwa [Array.reverse_append,Array.reverse_append,Array.reverse_reverse,Array.reverse_reverse,←Array.append_assoc] at this
theorem MH.done (m:MH a b out na nb)(sA:jq kz a.toList)(sB:jq kz b.toList)(h2:na<=a.size)(h3:nb<=b.size)(h:na=0∨nb=0):Fn a b (a.extract 0 na++b.extract 0 nb++out.reverse):=by
 have:=MH.both (MH.symm m) sB sA h3 h2 (λx hx y hy=>by
  rcases h with h | h
  ·rw[h,YW] at hy;cases hy
  ·rw[h,YW] at hx;cases hx)
 exact⟨this.1.trans Jw,this.2⟩
theorem MH.nil (a b:Array Keyed):MH a b #[] a.size b.size:=by
 unfold MH;rw[Nat.sub_self,Nat.sub_self];exact MIL.nil _ _ _
theorem pQ {l:List Keyed}{n:Nat}{y:Keyed}(sl:jq kz l)(hn:1<=n)(hi:n<=l.length)(hy:y∈l.take n):kz y<=kz (l[n - 1]'(!1)):=by
 obtain⟨i,hi',rfl⟩:=List.mem_iff_getElem.mp hy
 rw[Xk] at hi'
 rw[Yw]
 by_cases e:i=n - 1
 ·subst e;exact Int.le_refl _
 ·exact Yk.mp sl i (n - 1) (!1) (!1) (!1)
end
section
variable {prog:Program}{w:World}{A:Around}{E:Z5}{s:Shared}
theorem nH {arr:Array Keyed}{base n i:Nat}(hb:base+n<=arr.size)(hi:i < n):∃h:i < ((arr.toList.drop base).take n).length,K arr (base+i)=kz (((arr.toList.drop base).take n)[i]'h):=by
 have hl:((arr.toList.drop base).take n).length=n:=by rw[Xk,XJ,Kq];omega
 refine⟨by omega,?_⟩
 rw[Yw,J6]
 have hlt:base+i < arr.size:=by omega
 rw[Ay (Yx hlt)];simp
theorem vK {left:Bool}{key:Keyed}{arr:Array Keyed}{base n hint:Nat}{Q:Option Nat->SortSt->Prop}{st:SortSt}(hk:kindOf st=oneType')(hkey:IK key)(ha:∀x∈arr.toList,IK x)(hb:base+n<=arr.size)(hh:hint < n)
  (hs:jq kz ((arr.toList.drop base).take n))
  (hq:∀k,k<=n->(∀x∈((arr.toList.drop base).take n).take k,if left=true then kz x < kz key else kz x<=kz key)->(∀x∈((arr.toList.drop base).take n).drop k,if left=true then kz key<=kz x else kz key < kz x)->Q (some k) st):wpS (!3) A E s (gal left key arr base n hint) Q st:=by
 have hl:((arr.toList.drop base).take n).length=n:=by rw[Xk,XJ,Kq];omega
 refine EW hk hkey ha hb hh (λi j hij hj h=> ?_) λk hk1 h1 h2=>hq k hk1 (λx hx=> ?_) λx hx=> ?_
 ·obtain⟨u1,e1⟩:=nH (i:=i) hb (!1)
  obtain⟨u2,e2⟩:=nH (i:=j) hb hj
  have hle:K arr (base+i)<=K arr (base+j):=by
   rw[e1,e2]
   by_cases e:i=j
   ·subst e;exact Int.le_refl _
   ·exact Yk.mp hs i j u1 u2 (!1)
  unfold xT at h⊢
  cases left with
  | true=>simp only[if_true,JU] at h⊢;omega
  | false=>simp only[XU,if_false,Bool.not_eq_true',decide_eq_false_iff_not] at h⊢;omega
 ·obtain⟨i,hi,rfl⟩:=List.mem_iff_getElem.mp hx
  rw[Xk,hl] at hi
  rw[Yw]
  obtain⟨u1,e1⟩:=nH (arr:=arr) (base:=base) (i:=i) hb (!1)
  have:=h1 i (!1)
  unfold xT at this
  rw[e1] at this
  cases left with
  | true=>simpa using this
  | false=>simp only[XU,if_false,Bool.not_eq_true',decide_eq_false_iff_not] at this⊢;omega
 ·obtain⟨i,hi,rfl⟩:=List.mem_iff_getElem.mp hx
  rw[XJ,hl] at hi
  rw[J6]
  obtain⟨u1,e1⟩:=nH (arr:=arr) (base:=base) (i:=k+i) hb (!1)
  have:=h2 (k+i) (!1) (!1)
  unfold xT at this
  rw[e1] at this
  cases left with
  | true=>simp only[if_true,decide_eq_false_iff_not] at this⊢;omega
  | false=>simp only[XU,if_false,Bool.not_eq_false',JU] at this⊢;omega
theorem pR {key:Keyed}{arr:Array Keyed}{base n hint:Nat}{Q:Option Nat->SortSt->Prop}{st:SortSt}(hk:kindOf st=oneType')(hkey:IK key)(ha:∀x∈arr.toList,IK x)(hb:base+n<=arr.size)(hh:hint < n)
  (hs:jq kz ((arr.toList.drop base).take n)) (hq:∀k,k<=n->(∀x∈((arr.toList.drop base).take n).take k,kz x<=kz key)->(∀x∈((arr.toList.drop base).take n).drop k,kz key < kz x)->Q (some k) st):wpS (!3) A E s (gal false key arr base n hint) Q st :=
 vK hk hkey ha hb hh hs λk h1 h2 h3=>hq k h1 (λx hx=>by simpa using h2 x hx) λx hx=>by simpa using h3 x hx
theorem pS {key:Keyed}{arr:Array Keyed}{base n hint:Nat}{Q:Option Nat->SortSt->Prop}{st:SortSt}(hk:kindOf st=oneType')(hkey:IK key)(ha:∀x∈arr.toList,IK x)(hb:base+n<=arr.size)(hh:hint < n)
  (hs:jq kz ((arr.toList.drop base).take n)) (hq:∀k,k<=n->(∀x∈((arr.toList.drop base).take n).take k,kz x < kz key)->(∀x∈((arr.toList.drop base).take n).drop k,kz key<=kz x)->Q (some k) st):wpS (!3) A E s (gal true key arr base n hint) Q st :=
 vK hk hkey ha hb hh hs λk h1 h2 h3=>hq k h1 (λx hx=>by simpa using h2 x hx) λx hx=>by simpa using h3 x hx
end
abbrev SG (st:SortSt)(g:Nat):SortSt:=SortSt.mk' (kindOf st) (arrOf st) (pendingOf st) g (failedOf st)
section
variable {prog:Program}{w:World}{A:Around}{E:Z5}{s:Shared}
theorem oC {M:Model}{g:Nat}{Q:Unit->SortSt->Prop}{st:SortSt}(h:Q () (SG st g)):wpS M A E s (Oz g) Q st:=by
 exact wpS_modify h
theorem aP {M:Model}{α:Type}{c:Prop}[Decidable c]{m1 m2:StateT SortSt Sem α}{Q:α->SortSt->Prop}{st:SortSt}(h1:c->wpS M A E s m1 Q st)(h2:¬c->wpS M A E s m2 Q st):wpS M A E s (if c then m1 else m2) Q st:=by
 by_cases h:c
 ·rw[JW h];exact h1 h
 ·rw[JZ h];exact h2 h
theorem sd {M:Model}{α:Type}{c:Nat->Prop}[∀z,Decidable (c z)]{m1 F:Nat->StateT SortSt Sem α}{Q:α->SortSt->Prop}{st:SortSt}(h:∀z,m1 z=F (z - 1))(key:∀z,wpS M A E s (F z) Q st)(z:Nat):wpS M A E s (if c z then m1 z else F z) Q st :=
 aP (λ_=>by rw[h];exact key _) (λ_=>key _)
theorem F9 {M:Model}{α:Type}{P:Nat->Array Keyed->Prop}{c e:Nat->Array Keyed->Prop}{_:∀n o,Decidable (c n o)}{_:∀n o,Decidable (e n o)}{p t T:Nat->Array Keyed->StateT SortSt Sem α}{Q:α->SortSt->Prop}{st:SortSt}(R:Nat->Array Keyed->Prop)(X:Nat->Array Keyed->Nat)(O:Nat->Array Keyed->Array Keyed)(ht:∀n o,t n o=T (X n o) (O n o))
  (h1:∀n o,P n o->c n o->e n o->wpS M A E s (p n o) Q st) (h2:∀n o,P n o->c n o->¬e n o->R (X n o) (O n o)) (h3:∀n o,P n o->¬c n o->R n o) (k:∀n o,R n o->wpS M A E s (T n o) Q st) (n:Nat) (o:Array Keyed) (h:P n o):wpS M A E s (if c n o then (if e n o then p n o else t n o) else T n o) Q st :=
 aP (λhc=>aP (h1 n o h hc) λhe=>by rw[ht];exact k _ _ (h2 n o h hc he)) λhc=>k _ _ (h3 n o h hc)
theorem F_ {M:Model}{α:Type}{P:Nat->Array Keyed->Prop}{c e f:Nat->Array Keyed->Prop}{_:∀n o,Decidable (c n o)}{_:∀n o,Decidable (e n o)}{_:∀n o,Decidable (f n o)}{p q t T:Nat->Array Keyed->StateT SortSt Sem α}{Q:α->SortSt->Prop}{st:SortSt}(R:Nat->Array Keyed->Prop)(X:Nat->Array Keyed->Nat)(O:Nat->Array Keyed->Array Keyed)(ht:∀n o,t n o=T (X n o) (O n o))
  (h1:∀n o,P n o->c n o->e n o->wpS M A E s (p n o) Q st) (h2:∀n o,P n o->c n o->¬e n o->f n o->wpS M A E s (q n o) Q st) (h3:∀n o,P n o->c n o->¬e n o->¬f n o->R (X n o) (O n o)) (h4:∀n o,P n o->¬c n o->R n o) (k:∀n o,R n o->wpS M A E s (T n o) Q st) (n:Nat) (o:Array Keyed) (h:P n o) :
  wpS M A E s (if c n o then (if e n o then p n o else (if f n o then q n o else t n o)) else T n o) Q st :=
 aP (λhc=>aP (h1 n o h hc) λhe=>aP (h2 n o h hc he) λhf=>by rw[ht];exact k _ _ (h3 n o h hc he hf)) λhc=>k _ _ (h4 n o h hc)
theorem a_ {a:Array Keyed}{i:Nat}(h:i < a.size):a[i]? =some a[i]:=Yx h
structure Pre (a b:Array Keyed):Prop where
 ia:∀x∈a.toList,IK x
 ib:∀x∈b.toList,IK x
 sA:jq kz a.toList
 sB:jq kz b.toList
 a1:1<=a.size
 b1:1<=b.size
 h0:∀x∈a.toList,kz (b[0]'b1)<=kz x
 hl:∀x∈b.toList,kz x<=kz (a[a.size - 1]'(!1))
theorem Pre.kA {a b:Array Keyed}(p:Pre a b){i:Nat}(h:i < a.size):IK a[i]:=p.ia _ (by simp)
theorem Pre.kB {a b:Array Keyed}(p:Pre a b){i:Nat}(h:i < b.size):IK b[i]:=p.ib _ (by simp)
theorem Pre.dA {a b:Array Keyed}(p:Pre a b){i:Nat}(h:i < a.size){y:Keyed}(hy:y∈a.toList.drop i):kz a[i]<=kz y:=by
 have:=pO p.sA (by rw[Kq];exact h) hy;simpa using this
theorem Pre.dB {a b:Array Keyed}(p:Pre a b){i:Nat}(h:i < b.size){y:Keyed}(hy:y∈b.toList.drop i):kz b[i]<=kz y:=by
 have:=pO p.sB (by rw[Kq];exact h) hy;simpa using this
theorem Pre.zb {a b:Array Keyed}(p:Pre a b){i j:Nat}(h:i+1=a.size):∀x∈b.toList.drop j,∀y∈a.toList.drop i,kz x<=kz y:=λx hx y hy=>by
 have h1:=p.hl x (U3 hx)
 have h2:=p.dA (i:=i) (!1) hy
 have e:a[a.size - 1]'(by have:=p.a1;omega)=a[i]:=by congr 1;omega
 rw[e] at h1;omega
theorem mj {a:Array Keyed}{i:Nat}:(a.toList.drop i).take (a.size - i)=a.toList.drop i:=XZ (by rw[XJ,Kq];exact K1 _)
variable {a b:Array Keyed}
structure Lv (a b out:Array Keyed)(ia ib:Nat)(lo:Nat):Prop where
 m:MI a b out ia ib
 ha:ia+1 < a.size
 hb:ib < b.size
 hp:lo<=ia+ib
theorem EY {st:SortSt}{Q:Array Keyed->SortSt->Prop}(hk:kindOf st=oneType')(p:Pre a b)(hq:∀r g,Fn a b r->Q r (SG st g)):wpS (!3) A E s (Ox a b) Q st:=by
 have a1:=p.a1
 have b1:=p.b1
 refine Jv (wpS_lift (wpAny_rule ⟨rfl,?_⟩))
 dsimp only
 refine Jv (aZ (a_ b1) ?_)
 have m0:MI a b #[b[0]] 0 1:=MI.r_ (out:=#[]) (ia:=0) (ib:=0) (MIL.nil _ _ _) p.sB b1 (λy hy=>p.h0 y (U3 hy))
 by_cases e1:1=b.size
 ·rw[JW (by simpa using e1)]
  exact Jq (hq _ (gallopOf st) (m0.done p.sA p.sB (.inr (!1))))
 rw[JZ (by simpa using e1)]
 by_cases e2:0+1=a.size
 ·rw[JW (by simpa using e2)]
  exact Jq (hq _ (gallopOf st) (m0.last p.sA p.sB (p.zb e2)))
 rw[JZ (by simpa using e2)]
 refine Jv (JK ?_)
 refine Jv (wpS_mono (wpS_forRange (I:=λx c st'=>∃g out ia ib mg,st'=SG st g/\c=(none,out,ia,ib,mg)/\Lv a b out ia ib (x+1))
  (Q:=λc st'=>∃g r d,st'=SG st g/\c=(some r,d)/\Fn a b r) ?_ ?_ ⟨gallopOf st,_,_,_,_,rfl,rfl,m0,by omega,by omega,by omega⟩) ?_)
 ·rintro x c st' _ hx ⟨g,out,ia,ib,mg,rfl,rfl,lv⟩
  dsimp only
  refine Jv (wpS_mono (wpS_forRange (I:=λy c st'=>∃out ia ib ac bc,st'=SG st g/\c=(none,out,ia,ib,ac,bc)/\Lv a b out ia ib (x+1+y))
   (Q:=λc st'=>st'=SG st g/\((∃r d,c=(some r,d)/\Fn a b r)∨∃out ia ib ac bc,c=(none,out,ia,ib,ac,bc)/\Lv a b out ia ib (x+2))) ?_ ?_ ⟨_,_,_,_,_,rfl,rfl,lv⟩) ?_)
  ·rintro y c st' _ hy ⟨out,ia,ib,ac,bc,rfl,rfl,m,ha,hb,hp⟩
   dsimp only
   refine Jv (aZ (a_ hb) ?_)
   refine Jv (aZ (a_ (show ia < a.size by omega)) ?_)
   refine Jv (pN hk (p.kB hb) (p.kA (!1)) ?_)
   dsimp only
   by_cases hw:kz b[ib] < kz a[ia]
   ·rw[JW (JV hw)]
    have m':=m.r_ p.sB hb (λy hy=>by have:=p.dA (!1) hy;omega)
    refine Jv (aZ (a_ hb) ?_)
    by_cases e:ib+1=b.size
    ·rw[JW (by simpa using e)]
     exact Jq ⟨rfl,.inl ⟨_,_,rfl,m'.done p.sA p.sB (.inr (!1))⟩⟩
    ·rw[JZ (by simpa using e)]
     refine aP (λeI=> ?_) λeI=> ?_
     ·exact Jq ⟨rfl,.inr ⟨_,_,_,_,_,rfl,m',ha,by omega,by omega⟩⟩
     ·exact Jq ⟨_,_,_,_,_,rfl,rfl,m',ha,by omega,by omega⟩
   ·rw[JZ (by rw[JQ hw];exact K5)]
    have m':=m.pP p.sA (!1) (λy hy=>by have:=p.dB hb hy;omega)
    refine Jv (aZ (a_ (show ia < a.size by omega)) ?_)
    by_cases e:ia+1+1=a.size
    ·rw[JW (by simpa using e)]
     exact Jq ⟨rfl,.inl ⟨_,_,rfl,m'.last p.sA p.sB (p.zb e)⟩⟩
    ·rw[JZ (by simpa using e)]
     refine aP (λeI=> ?_) λeI=> ?_
     ·exact Jq ⟨rfl,.inr ⟨_,_,_,_,_,rfl,m',by omega,hb,by omega⟩⟩
     ·exact Jq ⟨_,_,_,_,_,rfl,rfl,m',by omega,hb,by omega⟩
  ·rintro c st' ⟨out,ia,ib,ac,bc,rfl,rfl,m,ha,hb,hp⟩
   exact⟨rfl,.inr ⟨_,_,_,_,_,rfl,m,ha,hb,by omega⟩⟩
  ·rintro c st' ⟨rfl,⟨r,d,rfl,hr⟩ | ⟨out,ia,ib,ac,bc,rfl,lv⟩⟩
   ·exact Jq ⟨g,r,_,rfl,rfl,hr⟩
   dsimp only
   refine Jv (wpS_lift (wpAny_rule ⟨rfl,?_⟩))
   refine Jv (wpS_mono (wpS_forRange (I:=λy c st'=>∃g out ia ib mg ac bc,st'=SG st g/\c=(none,out,ia,ib,mg,ac,bc)/\Lv a b out ia ib (x+2))
    (Q:=λc st'=>(∃g r d,st'=SG st g/\c=(some r,d)/\Fn a b r)∨∃g out ia ib mg ac bc,st'=SG st g/\c=(none,out,ia,ib,mg,ac,bc)/\Lv a b out ia ib (x+2)) ?_ ?_ ⟨_,_,_,_,_,_,_,rfl,rfl,lv⟩) ?_)
   ·rintro y c st' _ hy ⟨g,out,ia,ib,mg,ac,bc,rfl,rfl,m,ha,hb,hp⟩
    dsimp only
    revert mg
    refine sd (λ_=>rfl) λmg=> ?_
    refine Jv (oC ?_)
    refine Jv (aZ (a_ hb) ?_)
    refine Jv (pR hk (p.kB hb) p.ia (!1) (!1) (by rw[mj];exact p.sA.sublist (Yv _ _)) λk q1 q2 q3=> ?_)
    rw[mj] at q2 q3
    dsimp only
    have mA:=m.xU p.sA k (λx hx y hy=>by have:=q2 x hx;have:=p.dB hb hy;omega)
    rw[YV] at q3
    have hP:MI a b out ia ib/\MI a b (out++a.extract ia (ia+k)) (ia+k) ib/\ia+1 < a.size/\x+2<=ia+ib/\k<=a.size - ia/\∀y∈a.toList.drop (ia+k),kz b[ib] < kz y:=⟨m,mA,by omega,hp,q1,q3⟩
    clear mA m ha hp q1 q2 q3
    revert hP
    revert out
    revert ia
    refine F_ (λx' o=>x'+1 < a.size/\x+2<=x'+ib/\MI a b o x' ib/\∀y∈a.toList.drop x',kz b[ib]<=kz y) (λn _=>n+k) (λn o=>o++a.extract n (n+k)) ?_ (λia out ⟨m,mA,ha,hp,q1,q3⟩ _ e5=> ?_) (λia out ⟨m,mA,ha,hp,q1,q3⟩ _ e5 e6=> ?_) (λia out ⟨m,mA,ha,hp,q1,q3⟩ _ e5 e6=> ?_) (λia out ⟨m,mA,ha,hp,q1,q3⟩ hk1=> ?_) ?_
    ·intro _ _;rfl
    ·exact Jq (.inl ⟨_,_,_,rfl,rfl,mA.last p.sA p.sB (p.zb (beq_iff_eq.mp e5))⟩)
    ·exact Jq (.inl ⟨_,_,_,rfl,rfl,mA.done p.sA p.sB (.inl (by simp only[JX] at e6;omega))⟩)
    ·simp only[JX] at e5 e6
     exact⟨by omega,by omega,mA,λy hy=>Y0 (q3 y hy)⟩
    ·obtain rfl:k=0:=by omega
     exact⟨ha,hp,m,λy hy=>Y0 (q3 y hy)⟩
    rintro Ga o ⟨ha3,hp,m2,hx2⟩
    have ha2:Ga < a.size:=by omega
    refine Jv (aZ (a_ hb) ?_)
    have mB:=m2.r_ p.sB hb hx2
    generalize o.push b[ib]=o1 at mB⊢
    generalize hib:ib+1=A2 at mB⊢
    refine aP (λe3=> ?_) λe3=> ?_
    ·exact Jq (.inl ⟨_,_,_,rfl,rfl,mB.done p.sA p.sB (.inr (by simp only[JX] at e3;omega))⟩)
    simp only[JX] at e3
    refine Jv (aZ (a_ ha2) ?_)
    refine Jv (pS hk (p.kA ha2) p.ib (!1) (!1) (by rw[mj];exact p.sB.sublist (Yv _ _)) λk2 r1 r2 r3=> ?_)
    rw[mj] at r2 r3
    dsimp only
    have mC:=mB.HV p.sB k2 (λx hx y hy=>by have:=r2 x hx;have:=p.dA ha2 hy;omega)
    rw[YV] at r3
    have hP:MI a b o1 Ga A2/\MI a b (o1++b.extract A2 (A2+k2)) Ga (A2+k2)/\A2 < b.size/\x+3<=Ga+A2/\k2<=b.size - A2/\∀z∈b.toList.drop (A2+k2),kz a[Ga]<=kz z:=⟨mB,mC,by omega,by omega,r1,r3⟩
    clear mC mB r1 r2 r3 e3 hib
    revert hP
    revert o1
    revert A2
    refine F9 (λy o=>y < b.size/\x+3<=Ga+y/\MI a b o Ga y/\∀z∈b.toList.drop y,kz a[Ga]<=kz z) (λn _=>n+k2) (λn o=>o++b.extract n (n+k2)) ?_ (λA2 o1 ⟨mB,mC,i1,i2,r1,r3⟩ _ e5=> ?_) (λA2 o1 ⟨mB,mC,i1,i2,r1,r3⟩ _ e5=> ?_) (λA2 o1 ⟨mB,mC,i1,i2,r1,r3⟩ hk2=> ?_) ?_
    ·intro _ _;rfl
    ·exact Jq (.inl ⟨_,_,_,rfl,rfl,mC.done p.sA p.sB (.inr (by simp only[JX] at e5;omega))⟩)
    ·simp only[JX] at e5
     exact⟨by omega,by omega,mC,r3⟩
    ·obtain rfl:k2=0:=by omega
     exact⟨i1,i2,mB,r3⟩
    rintro O1 o ⟨hb2,hb3,m3,OA⟩
    refine Jv (aZ (a_ ha2) ?_)
    have m4:=m3.pP p.sA ha2 OA
    refine aP (λe4=> ?_) λe4=> ?_
    ·exact Jq (.inl ⟨_,_,_,rfl,rfl,m4.last p.sA p.sB (p.zb (beq_iff_eq.mp e4))⟩)
    simp only[JX] at e4
    refine aP (λeJ=> ?_) λeJ=> ?_
    ·exact Jq (.inr ⟨_,_,_,_,_,_,_,rfl,rfl,m4,by omega,by omega,by omega⟩)
    ·exact Jq ⟨_,_,_,_,_,_,_,rfl,rfl,m4,by omega,by omega,by omega⟩
   ·rintro c st' ⟨g,out,ia,ib,mg,ac,bc,rfl,rfl,lv⟩
    exact .inr ⟨_,_,_,_,_,_,_,rfl,rfl,lv⟩
   ·rintro c st' (⟨g,r,d,rfl,rfl,hr⟩ | ⟨g,out,ia,ib,mg,ac,bc,rfl,rfl,lv⟩)
    ·exact Jq ⟨_,_,_,rfl,rfl,hr⟩
    ·dsimp only
     exact Jv (oC (Jq ⟨_,_,_,_,_,rfl,rfl,lv⟩))
 ·rintro c st' ⟨g,out,ia,ib,mg,rfl,rfl,m,ha,hb,hp⟩
  omega
 ·rintro c st' ⟨g,r,d,rfl,rfl,hr⟩
  exact Jq (hq r g hr)
end
section
variable {prog:Program}{w:World}{A:Around}{E:Z5}{s:Shared}{a b out:Array Keyed}{na nb:Nat}
theorem MH.r_ (m:MH a b out na nb)(sB:jq kz b.toList)(h1:1<=nb)(h2:nb<=b.size)(hx:∀y∈a.toList.take na,kz y<=kz (b[nb - 1]'(!1))):MH a b (out.push (b[nb - 1]'(!1))) na (nb - 1):=(m.symm.pP sB h1 h2 hx).symm
theorem MH.HV (m:MH a b out na nb)(sB:jq kz b.toList)(at_:Nat)(h1:at_<=nb)(h2:nb<=b.size)(hx:∀x∈(b.toList.take nb).drop at_,∀y∈a.toList.take na,kz y<=kz x):MH a b (out++(b.extract at_ nb).reverse) na at_:=(m.symm.xU sB at_ h1 h2 hx).symm
theorem Pre.tA (p:Pre a b){n:Nat}(h1:1<=n)(h:n<=a.size){y:Keyed}(hy:y∈a.toList.take n):kz y<=kz (a[n - 1]'(!1)):=by
 have:=pQ p.sA h1 (by rw[Kq];exact h) hy;simpa using this
theorem Pre.tB (p:Pre a b){n:Nat}(h1:1<=n)(h:n<=b.size){y:Keyed}(hy:y∈b.toList.take n):kz y<=kz (b[n - 1]'(!1)):=by
 have:=pQ p.sB h1 (by rw[Kq];exact h) hy;simpa using this
theorem Pre.t6 (p:Pre a b){n m:Nat}(h:m=1):∀x∈a.toList.take n,∀y∈b.toList.take m,kz y<=kz x:=λx hx y hy=>by
 subst h
 have h1:=p.h0 x (U4 hx)
 have h2:=p.tB (n:=1) (K1 _) p.b1 hy
 exact Yq h2 h1
structure Lh (a b out:Array Keyed)(na nb lo:Nat):Prop where
 m:MH a b out na nb
 h1:1<=na
 g1:na<=a.size
 h2:2<=nb
 g2:nb<=b.size
 hp:lo<=(a.size - na)+(b.size - nb)
theorem EZ {st:SortSt}{Q:Array Keyed->SortSt->Prop}(hk:kindOf st=oneType')(p:Pre a b)(hq:∀r g,Fn a b r->Q r (SG st g)):wpS (!3) A E s (Oy a b) Q st:=by
 have a1:=p.a1
 have b1:=p.b1
 refine Jv (wpS_lift (wpAny_rule ⟨rfl,?_⟩))
 dsimp only
 refine Jv (aZ (a_ (show a.size - 1 < a.size by omega)) ?_)
 have m0:MH a b #[a[a.size - 1]] (a.size - 1) b.size:=(MH.nil a b).pP p.sA a1 (K1 _) (λy hy=>p.hl y (U4 hy))
 refine aP (λe1=> ?_) λe1=> ?_
 ·simp only[JX] at e1
  exact Jq (hq _ (gallopOf st) (m0.done p.sA p.sB (!1) (K1 _) (.inl e1)))
 simp only[JX] at e1
 refine aP (λe2=> ?_) λe2=> ?_
 ·simp only[JX] at e2
  exact Jq (hq _ (gallopOf st) (m0.both p.sA p.sB (!1) (K1 _) (p.t6 e2)))
 simp only[JX] at e2
 refine Jv (JK ?_)
 refine Jv (wpS_mono (wpS_forRange (I:=λx c st'=>∃g na nb out mg,st'=SG st g/\c=(none,na,nb,out,mg)/\Lh a b out na nb (x+1))
  (Q:=λc st'=>∃g r d,st'=SG st g/\c=(some r,d)/\Fn a b r) ?_ ?_ ⟨gallopOf st,_,_,_,_,rfl,rfl,m0,by omega,by omega,by omega,by omega,by omega⟩) ?_)
 ·rintro x c st' _ hx ⟨g,na,nb,out,mg,rfl,rfl,lv⟩
  dsimp only
  refine Jv (wpS_mono (wpS_forRange (I:=λy c st'=>∃na nb out ac bc,st'=SG st g/\c=(none,na,nb,out,ac,bc)/\Lh a b out na nb (x+1+y))
   (Q:=λc st'=>st'=SG st g/\((∃r d,c=(some r,d)/\Fn a b r)∨∃na nb out ac bc,c=(none,na,nb,out,ac,bc)/\Lh a b out na nb (x+2))) ?_ ?_ ⟨_,_,_,_,_,rfl,rfl,lv⟩) ?_)
  ·rintro y c st' _ hy ⟨na,nb,out,ac,bc,rfl,rfl,m,h1,g1,h2,g2,hp⟩
   dsimp only
   refine Jv (aZ (a_ (show nb - 1 < b.size by omega)) ?_)
   refine Jv (aZ (a_ (show na - 1 < a.size by omega)) ?_)
   refine Jv (pN hk (p.kB (!1)) (p.kA (!1)) ?_)
   dsimp only
   by_cases hw:kz (b[nb - 1]'(!1)) < kz (a[na - 1]'(!1))
   ·rw[JW (JV hw)]
    have m':=m.pP p.sA h1 g1 (λy hy=>by have:=p.tB (!1) g2 hy;omega)
    refine Jv (aZ (a_ (show na - 1 < a.size by omega)) ?_)
    refine aP (λe=> ?_) λe=> ?_
    ·simp only[JX] at e
     exact Jq ⟨rfl,.inl ⟨_,_,rfl,m'.done p.sA p.sB (!1) g2 (.inl e)⟩⟩
    ·simp only[JX] at e
     refine aP (λeI=> ?_) λeI=> ?_
     ·exact Jq ⟨rfl,.inr ⟨_,_,_,_,_,rfl,m',by omega,by omega,by omega,by omega,by omega⟩⟩
     ·exact Jq ⟨_,_,_,_,_,rfl,rfl,m',by omega,by omega,by omega,by omega,by omega⟩
   ·rw[JZ (by rw[JQ hw];exact K5)]
    have m':=m.r_ p.sB (!1) g2 (λy hy=>by have:=p.tA h1 g1 hy;omega)
    refine Jv (aZ (a_ (show nb - 1 < b.size by omega)) ?_)
    refine aP (λe=> ?_) λe=> ?_
    ·simp only[JX] at e
     exact Jq ⟨rfl,.inl ⟨_,_,rfl,m'.both p.sA p.sB g1 (!1) (p.t6 e)⟩⟩
    ·simp only[JX] at e
     refine aP (λeI=> ?_) λeI=> ?_
     ·exact Jq ⟨rfl,.inr ⟨_,_,_,_,_,rfl,m',by omega,by omega,by omega,by omega,by omega⟩⟩
     ·exact Jq ⟨_,_,_,_,_,rfl,rfl,m',by omega,by omega,by omega,by omega,by omega⟩
  ·rintro c st' ⟨na,nb,out,ac,bc,rfl,rfl,m,h1,g1,h2,g2,hp⟩
   exact⟨rfl,.inr ⟨_,_,_,_,_,rfl,m,h1,g1,h2,g2,by omega⟩⟩
  ·rintro c st' ⟨rfl,⟨r,d,rfl,hr⟩ | ⟨na,nb,out,ac,bc,rfl,lv⟩⟩
   ·exact Jq ⟨g,r,_,rfl,rfl,hr⟩
   dsimp only
   refine Jv (wpS_lift (wpAny_rule ⟨rfl,?_⟩))
   refine Jv (wpS_mono (wpS_forRange (I:=λy c st'=>∃g na nb out mg ac bc,st'=SG st g/\c=(none,na,nb,out,mg,ac,bc)/\Lh a b out na nb (x+2))
    (Q:=λc st'=>(∃g r d,st'=SG st g/\c=(some r,d)/\Fn a b r)∨∃g na nb out mg ac bc,st'=SG st g/\c=(none,na,nb,out,mg,ac,bc)/\Lh a b out na nb (x+2)) ?_ ?_ ⟨_,_,_,_,_,_,_,rfl,rfl,lv⟩) ?_)
   ·rintro y c st' _ hy ⟨g,na,nb,out,mg,ac,bc,rfl,rfl,m,h1,g1,h2,g2,hp⟩
    dsimp only
    revert mg
    refine sd (λ_=>rfl) λmg=> ?_
    refine Jv (oC ?_)
    refine Jv (aZ (a_ (show nb - 1 < b.size by omega)) ?_)
    refine Jv (pR hk (p.kB (!1)) p.ia (!1) (!1) (by rw[Y4];exact p.sA.sublist (J9 _ _)) λat1 q1 q2 q3=> ?_)
    rw[Y4] at q2 q3
    rw[List.take_take,Nat.min_eq_left q1] at q2
    dsimp only
    have hlt:nb - 1 < b.size:=by clear q2 q3;omega
    replace q2:∀z∈a.toList.take at1,kz z<=kz (b[nb - 1]'hlt):=q2
    generalize hac:na - at1=OB
    have mA:=m.xU p.sA at1 q1 g1 (λx hx y hy=>by have:=q3 x hx;have:=p.tB (!1) g2 hy;omega)
    have hP:MH a b out na nb/\MH a b (out++(a.extract at1 na).reverse) at1 nb/\1<=na/\na<=a.size/\x+2<=a.size - na+(b.size - nb)/\at1<=na/\na - at1=OB:=⟨m,mA,h1,g1,hp,q1,hac⟩
    clear mA m h1 g1 hp q1 q3 hac
    revert hP
    revert out
    revert na
    refine F9 (λy o=>1<=y/\y<=a.size/\x+2<=a.size - y+(b.size - nb)/\MH a b o y nb/\∀z∈a.toList.take y,kz z<=kz (b[nb - 1]'hlt)) (λ_ _=>at1) (λn o=>o++(a.extract at1 n).reverse) ?_ (λna out ⟨m,mA,h1,g1,hp,q1,hac⟩ _ e5=> ?_) (λna out ⟨m,mA,h1,g1,hp,q1,hac⟩ _ e5=> ?_) (λna out ⟨m,mA,h1,g1,hp,q1,hac⟩ hk1=> ?_) ?_
    ·intro _ _;rfl
    ·exact Jq (.inl ⟨_,_,_,rfl,rfl,mA.done p.sA p.sB (!1) g2 (.inl (beq_iff_eq.mp e5))⟩)
    ·simp only[JX] at e5
     exact⟨by omega,by omega,by omega,mA,q2⟩
    ·obtain rfl:at1=na:=by omega
     exact⟨h1,g1,hp,m,q2⟩
    clear q2
    rintro Dz o ⟨f1,f2,hp,m2,q2⟩
    refine Jv (aZ (a_ (show nb - 1 < b.size by omega)) ?_)
    have mB:=m2.r_ p.sB (!1) g2 q2
    generalize o.push (b[nb - 1]'(!1))=o1 at mB⊢
    generalize hnb:nb - 1=zc at mB⊢
    refine aP (λe3=> ?_) λe3=> ?_
    ·exact Jq (.inl ⟨_,_,_,rfl,rfl,mB.both p.sA p.sB (!1) (!1) (p.t6 (beq_iff_eq.mp e3))⟩)
    simp only[JX] at e3
    refine Jv (aZ (a_ (show Dz - 1 < a.size by omega)) ?_)
    refine Jv (pS hk (p.kA (!1)) p.ib (!1) (!1) (by rw[Y4];exact p.sB.sublist (J9 _ _)) λat2 r1 r2 r3=> ?_)
    rw[Y4] at r2 r3
    rw[List.take_take,Nat.min_eq_left r1] at r2
    dsimp only
    have hla:Dz - 1 < a.size:=by clear r2 r3;omega
    replace r2:∀z∈b.toList.take at2,kz z < kz (a[Dz - 1]'hla):=r2
    generalize hbc:zc - at2=OC
    have mC:=mB.HV p.sB at2 r1 (!1) (λx hx y hy=>by have:=r3 x hx;have:=p.tA f1 f2 hy;omega)
    have hP:MH a b o1 Dz zc/\MH a b (o1++(b.extract at2 zc).reverse) Dz at2/\2<=zc/\zc<=b.size/\x+3<=a.size - Dz+(b.size - zc)/\at2<=zc/\zc - at2=OC:=⟨mB,mC,by omega,by omega,by omega,r1,hbc⟩
    clear mC mB r1 r3 hbc e3 q2 hnb
    revert hP
    revert o1
    revert zc
    refine F_ (λy o=>2<=y/\y<=b.size/\x+3<=a.size - Dz+(b.size - y)/\MH a b o Dz y/\∀z∈b.toList.take y,kz z < kz (a[Dz - 1]'hla)) (λ_ _=>at2) (λn o=>o++(b.extract at2 n).reverse) ?_ (λzc o1 ⟨mB,mC,i1,i2,i3,r1,hbc⟩ _ e5=> ?_) (λzc o1 ⟨mB,mC,i1,i2,i3,r1,hbc⟩ _ e5 e6=> ?_) (λzc o1 ⟨mB,mC,i1,i2,i3,r1,hbc⟩ _ e5 e6=> ?_) (λzc o1 ⟨mB,mC,i1,i2,i3,r1,hbc⟩ hk2=> ?_) ?_
    ·intro _ _;rfl
    ·exact Jq (.inl ⟨_,_,_,rfl,rfl,mC.both p.sA p.sB f2 (!1) (p.t6 (beq_iff_eq.mp e5))⟩)
    ·exact Jq (.inl ⟨_,_,_,rfl,rfl,mC.done p.sA p.sB f2 (!1) (.inr (beq_iff_eq.mp e6))⟩)
    ·simp only[JX] at e5 e6
     exact⟨by omega,by omega,by omega,mC,r2⟩
    ·obtain rfl:at2=zc:=by omega
     exact⟨i1,i2,i3,mB,r2⟩
    clear r2
    rintro O2 o ⟨k2,k1,i3,m3,r2⟩
    refine Jv (aZ (a_ (show Dz - 1 < a.size by omega)) ?_)
    have m4:=m3.pP p.sA f1 f2 (λy hy=>Y0 (r2 y hy))
    refine aP (λe4=> ?_) λe4=> ?_
    ·exact Jq (.inl ⟨_,_,_,rfl,rfl,m4.done p.sA p.sB (!1) (!1) (.inl (beq_iff_eq.mp e4))⟩)
    simp only[JX] at e4
    refine aP (λeJ=> ?_) λeJ=> ?_
    ·exact Jq (.inr ⟨_,_,_,_,_,_,_,rfl,rfl,m4,by omega,by omega,by omega,by omega,by omega⟩)
    ·exact Jq ⟨_,_,_,_,_,_,_,rfl,rfl,m4,by omega,by omega,by omega,by omega,by omega⟩
   ·rintro c st' ⟨g,na,nb,out,mg,ac,bc,rfl,rfl,lv⟩
    exact .inr ⟨_,_,_,_,_,_,_,rfl,rfl,lv⟩
   ·rintro c st' (⟨g,r,d,rfl,rfl,hr⟩ | ⟨g,na,nb,out,mg,ac,bc,rfl,rfl,lv⟩)
    ·exact Jq ⟨_,_,_,rfl,rfl,hr⟩
    ·dsimp only
     exact Jv (oC (Jq ⟨_,_,_,_,_,rfl,rfl,lv⟩))
 ·rintro c st' ⟨g,na,nb,out,mg,rfl,rfl,m,h1,g1,h2,g2,hp⟩
  omega
 ·rintro c st' ⟨g,r,d,rfl,rfl,hr⟩
  exact Jq (hq r g hr)
end
abbrev lA:Nat->Nat->StateT SortSt Sem (Option Bool):=sortPriv% PySem.Builtin.ltAt
abbrev rS:Nat->Nat->StateT SortSt Sem Unit:=sortPriv% PySem.Builtin.reverseSlice
abbrev mD:Nat->Nat->StateT SortSt Sem Unit:=sortPriv% PySem.Builtin.moveDown
abbrev cR:Nat->Nat->StateT SortSt Sem (Option Nat):=sortPriv% PySem.Builtin.countRun
abbrev bS:Nat->Nat->Nat->StateT SortSt Sem Bool:=sortPriv% PySem.Builtin.binarySort
structure El (a₀:Array Keyed):Prop where
 k:∀x∈a₀.toList,IK x
 d:a₀.toList.Pairwise λx y=>kz x≠kz y
structure SB (a₀:Array Keyed)(st:SortSt):Prop where
 perm:(arrOf st).Perm a₀
 kind:kindOf st=oneType'
 failed:failedOf st=none
def k7 (xs:Array Keyed)(lo hi:Nat):Prop:=∀i j,lo<=i->i < j->j < hi->K xs i<=K xs j
section
variable {prog:Program}{w:World}{A:Around}{E:Z5}{s:Shared}{a₀:Array Keyed}{st:SortSt}
theorem SB.size (h:SB a₀ st):(arrOf st).size=a₀.size:=h.perm.size_eq
theorem SB.ik (h:SB a₀ st)(e:El a₀):∀x∈(arrOf st).toList,IK x:=λx hx=>e.k x ((Array.perm_iff_toList_perm.mp h.perm).mem_iff.mp hx)
theorem SB.dist (h:SB a₀ st)(e:El a₀):(arrOf st).toList.Pairwise λx y=>kz x≠kz y:=((Array.perm_iff_toList_perm.mp h.perm).pairwise_iff λh=>h.symm).mpr e.d
theorem SB.ne (h:SB a₀ st)(e:El a₀){i j:Nat}(hi:i < a₀.size)(hj:j < a₀.size)(hn:i≠j):K (arrOf st) i≠K (arrOf st) j:=by
 have hi':i < (arrOf st).size:=by rw[h.size];exact hi
 have hj':j < (arrOf st).size:=by rw[h.size];exact hj
 rw[Ay (a_ hi'),Ay (a_ hj')]
 have pw:=Yk.mp (h.dist e)
 rcases Nat.lt_or_gt_of_ne hn with z | z
 ·have:=pw i j (by simpa using hi') (by simpa using hj') z
  simpa using this
 ·have:=pw j i (by simpa using hj') (by simpa using hi') z
  intro q;exact this (by simpa using q.symm)
theorem SB.set (h:SB a₀ st){xs:Array Keyed}(hp:xs.Perm (arrOf st)):SB a₀ (setArr st xs):=⟨hp.trans h.perm,h.kind,h.failed⟩
theorem m6 {i j:Nat}{Q:Option Bool->SortSt->Prop}(hB:SB a₀ st)(e:El a₀)(hi:i < a₀.size)(hj:j < a₀.size)(h:Q (some (decide (K (arrOf st) i < K (arrOf st) j))) st):wpS (!3) A E s (lA i j) Q st:=by
 have hi':i < (arrOf st).size:=by rw[hB.size];exact hi
 have hj':j < (arrOf st).size:=by rw[hB.size];exact hj
 rw[Ay (a_ hi'),Ay (a_ hj')] at h
 show wpS (!3) A E s (ltAt' i j) Q st
 rw[ltAt'_eq]
 refine Jv (JK ?_)
 refine Jv (aZ (a_ hi') (Jv (aZ (a_ hj') ?_)))
 exact pN hB.kind (hB.ik e _ (by simp)) (hB.ik e _ (by simp)) h
theorem HW {M:Model}{i j:Nat}{Q:Unit->SortSt->Prop}(h:Q () (setArr st (mirror (arrOf st) i j ((j - i) / 2)))):wpS M A E s (rS i j) Q st:=by
 show wpS M A E s (reverseSlice' i j) Q st
 rw[reverseSlice'_eq];exact wpS_modify h
theorem HX {M:Model}{i j:Nat}{Q:Unit->SortSt->Prop}(h:Q () (setArr st (bubble (arrOf st) i (i - j)))):wpS M A E s (mD i j) Q st:=by
 show wpS M A E s (moveDown' i j) Q st
 rw[moveDown'_eq];exact wpS_modify h
theorem k7.one (xs:Array Keyed)(lo:Nat):k7 xs lo (lo+1):=λi j h1 h2 h3=>by omega
theorem k7.up {xs:Array Keyed}{lo n:Nat}(h:k7 xs lo (lo+n))(h1:1<=n)(hl:K xs (lo+n - 1)<=K xs (lo+n)):k7 xs lo (lo+(n+1)):=λi j a1 a2 a3=>by
 by_cases hj:j=lo+n
 ·subst hj
  by_cases hi:i=lo+n - 1
  ·rw[hi];exact hl
  ·exact Yq (h i (lo+n - 1) a1 (!1) (!1)) hl
 ·exact h i j a1 a2 (!1)
theorem HY {lo nrem:Nat}{Q:Option Nat->SortSt->Prop}(hB:SB a₀ st)(e:El a₀)(hn:lo+nrem<=a₀.size)(h1:1<=nrem)
  (h:∀m xs,xs.Perm (arrOf st)->(∀k,k < lo->xs[k]? =(arrOf st)[k]?)->1<=m->m<=nrem->k7 xs lo (lo+m)->Q (some m) (setArr st xs)):wpS (!3) A E s (cR lo nrem) Q st:=by
 refine Jv (wpS_mono (wpS_forRange (I:=λx c st'=>st'=st/\c=(none,x)/\k7 (arrOf st) lo (lo+x))
  (Q:=λc st'=>st'=st/\∃n,c=(none,n)/\1<=n/\n<=nrem/\k7 (arrOf st) lo (lo+n)/\(n=nrem∨K (arrOf st) (lo+n) < K (arrOf st) (lo+n - 1))) ?_ ?_ ⟨rfl,rfl,k7.one _ _⟩) ?_)
 ·rintro x c st' OD hxn ⟨rfl,rfl,hs'⟩
  dsimp only
  refine Jv (m6 hB e (!1) (!1) ?_)
  dsimp only
  refine aP (λhl=> ?_) λhl=> ?_
  ·simp only[JU] at hl
   exact Jq ⟨rfl,x,rfl,by omega,by omega,hs',.inr hl⟩
  ·simp only[JU] at hl
   exact Jq ⟨rfl,rfl,hs'.up (!1) (!1)⟩
 ·rintro c st' ⟨rfl,rfl,hs'⟩
  rw[show max 1 nrem=nrem by omega] at hs'⊢
  exact⟨rfl,nrem,rfl,h1,K1 _,hs',.inl rfl⟩
 rintro c st' ⟨est,n,rfl,n1,n2,hs,hor⟩
 rw[est]
 dsimp only
 refine aP (λe1=> ?_) λe1=> ?_
 ·exact Jq (h n (arrOf st) (Array.Perm.refl _) (λ_ _=>rfl) n1 n2 hs)
 simp only[JX] at e1
 have hlt:=hor.resolve_left e1
 refine aP (λe2=> ?_) λe2=> ?_
 ·have hr:K (arrOf st) lo < K (arrOf st) (lo+n - 1):=by
   have q1:=hs lo (lo+n - 1) (!1) (!1) (!1)
   have q2:=hB.ne e (i:=lo) (j:=lo+n - 1) (!1) (!1) (!1)
   omega
  refine Jv (m6 hB e (!1) (!1) ?_)
  dsimp only
  rw[JW (JV hr)]
  exact Jq (h n (arrOf st) (Array.Perm.refl _) (λ_ _=>rfl) n1 n2 hs)
 obtain rfl:n=1:=by omega
 refine Jv (wpS_lift (wpAny_rule ⟨rfl,?_⟩))
 refine Jv (wpS_mono (wpS_forRange (I:=λx c st'=>st'=st/\c=(none,x,0)/\∀i j,lo<=i->i < j->j < lo+x->K (arrOf st) j < K (arrOf st) i)
  (Q:=λc st'=>st'=st/\∃n,c=(none,n,0)/\2<=n/\n<=nrem/\∀i j,lo<=i->i < j->j < lo+n->K (arrOf st) j < K (arrOf st) i) ?_ ?_ ⟨rfl,rfl,λi j u1 u2 u3=>by
   obtain rfl:i=lo:=by omega
   obtain rfl:j=i+1:=by omega
   exact hlt⟩) ?_)
 ·rintro x c st' hx1 hxn ⟨rfl,rfl,hs'⟩
  dsimp only
  refine Jv (m6 hB e (!1) (!1) ?_)
  dsimp only
  refine aP (λhl=> ?_) λhl=> ?_
  ·simp only[JU] at hl
   rw[JZ (!1)]
   refine Jq ⟨rfl,rfl,λi j u1 u2 u3=> ?_⟩
   by_cases hj:j=lo+x
   ·subst hj
    by_cases hi:i=lo+x - 1
    ·rw[hi];exact hl
    ·exact Int.lt_trans hl (hs' i (lo+x - 1) u1 (!1) (!1))
   ·exact hs' i j u1 u2 (!1)
  ·simp only[JU] at hl
   have q2:=hB.ne e (i:=lo+x) (j:=lo+x - 1) (!1) (!1) (!1)
   have hl2:K (arrOf st') (lo+x - 1) < K (arrOf st') (lo+x):=by omega
   refine Jv (m6 hB e (!1) (!1) ?_)
   dsimp only
   rw[JW (JV hl2)]
   exact Jq ⟨rfl,x,rfl,by omega,by omega,hs'⟩
 ·rintro c st' ⟨rfl,rfl,hs'⟩
  rw[show max (1+1) nrem=nrem by omega] at hs'⊢
  exact⟨rfl,nrem,rfl,by omega,K1 _,hs'⟩
 rintro c st' ⟨est,n,rfl,m1,m2,hd⟩
 rw[est]
 dsimp only
 rw[JZ (!1)]
 refine Jv (HW ?_)
 have hsz:lo+n<=(arrOf st).size:=by rw[hB.size];omega
 have hp:=mirror_perm (arrOf st) lo (lo+n) ((lo+n - lo) / 2)
 have hkeep:∀k,k < lo->(mirror (arrOf st) lo (lo+n) ((lo+n - lo) / 2))[k]? =(arrOf st)[k]?:=λk hk=>by
  rw[getElem?_mirror_all hsz,JZ (!1)]
 have hs2:k7 (mirror (arrOf st) lo (lo+n) ((lo+n - lo) / 2)) lo (lo+n):=λi j u1 u2 u3=>by
  rw[K_mirror hsz,K_mirror hsz,JW (!1),JW (!1)]
  exact Y0 (hd _ _ (!1) (!1) (!1))
 have hB2:=hB.set hp
 generalize mirror (arrOf st) lo (lo+n) ((lo+n - lo) / 2)=ys at hp hkeep hs2 hB2
 obtain⟨st2,E1⟩:∃st2,st2=setArr st ys:=⟨_,rfl⟩
 have IW:arrOf st2=ys:=by rw[E1]
 rw[←E1] at hB2⊢
 refine Jv (wpS_mono (wpS_forRange (I:=λx c st'=>st'=st2/\c=(none,x)/\k7 (arrOf st2) lo (lo+x))
  (Q:=λc st'=>st'=st2/\∃k,c=(none,k)/\n<=k/\k<=nrem/\k7 (arrOf st2) lo (lo+k)/\(k=nrem∨K (arrOf st2) (lo+k) < K (arrOf st2) (lo+k - 1))) ?_ ?_ ⟨rfl,rfl,by rw[IW];exact hs2⟩) ?_)
 ·clear hB
  have hB:=hB2
  clear hB2
  clear E1 IW
  rintro x c st' OD hxn ⟨rfl,rfl,hs'⟩
  dsimp only
  refine Jv (m6 hB e (!1) (!1) ?_)
  dsimp only
  refine aP (λhl=> ?_) λhl=> ?_
  ·simp only[JU] at hl
   exact Jq ⟨rfl,x,rfl,by omega,by omega,hs',.inr hl⟩
  ·simp only[JU] at hl
   exact Jq ⟨rfl,rfl,hs'.up (!1) (!1)⟩
 ·rintro c st' ⟨rfl,rfl,hs'⟩
  rw[show max n nrem=nrem by omega] at hs'⊢
  exact⟨rfl,nrem,rfl,m2,K1 _,hs',.inl rfl⟩
 rintro c st' ⟨e3,k,rfl,k1,k2,hs3,_⟩
 rw[e3,E1]
 rw[IW] at hs3
 exact Jq (h k ys hp hkeep (!1) k2 hs3)
theorem HZ {lo n ok:Nat}{Q:Bool->SortSt->Prop}(hB:SB a₀ st)(e:El a₀)(hn:lo+n<=a₀.size)(h1:1<=ok)(hok:ok<=n)(hs:k7 (arrOf st) lo (lo+ok))
  (h:∀xs,xs.Perm (arrOf st)->(∀k,k < lo->xs[k]? =(arrOf st)[k]?)->k7 xs lo (lo+n)->Q true (setArr st xs)):wpS (!3) A E s (bS lo n ok) Q st:=by
 refine Jv (wpS_mono (wpS_forRange (I:=λk c st'=>c=(none,())/\∃xs,st'=setArr st xs/\xs.Perm (arrOf st)/\(∀k,k < lo->xs[k]? =(arrOf st)[k]?)/\k7 xs lo (lo+min k n))
  (Q:=λc st'=>c=(none,())/\∃xs,st'=setArr st xs/\xs.Perm (arrOf st)/\(∀k,k < lo->xs[k]? =(arrOf st)[k]?)/\k7 xs lo (lo+n)) ?_ ?_ ⟨rfl,arrOf st,rfl,Array.Perm.refl _,λ_ _=>rfl,by rw[show min (max ok 1) n=ok by omega];exact hs⟩) ?_)
 ·rintro k c st' hk1 hkn ⟨rfl,xs,est,hp,hkeep,hs'⟩
  rw[show min k n=k by omega] at hs'
  have hB2:SB a₀ st':=by rw[est];exact hB.set hp
  have IW:arrOf st'=xs:=by rw[est]
  refine Jv (wpS_mono (wpS_forRange (I:=λx c st''=>st''=st'/\∃l r,c=(none,l,r)/\l<=r/\r<=k/\r - l<=k - x/\(∀i,lo<=i->i < lo+l->K (arrOf st') i<=K (arrOf st') (lo+k))/\∀i,lo+r<=i->i < lo+k->K (arrOf st') (lo+k) < K (arrOf st') i)
   (Q:=λc st''=>st''=st'/\∃l r,c=(none,l,r)/\l<=k/\(∀i,lo<=i->i < lo+l->K (arrOf st') i<=K (arrOf st') (lo+k))/\∀i,lo+l<=i->i < lo+k->K (arrOf st') (lo+k) < K (arrOf st') i) ?_ ?_ ⟨rfl,0,k,rfl,by omega,by omega,by omega,λi _ _=>by omega,λi _ _=>by omega⟩) ?_)
  ·rintro x c st'' _ hx ⟨rfl,l,r,rfl,u1,u2,u3,u4,u5⟩
   dsimp only
   refine aP (λhge=> ?_) λhge=> ?_
   ·obtain rfl:l=r:=by omega
    exact Jq ⟨rfl,l,l,rfl,u2,u4,u5⟩
   ·refine Jv (m6 hB2 e (!1) (!1) ?_)
    dsimp only
    rw[←IW] at hs'
    refine aP (λhl=> ?_) λhl=> ?_
    ·simp only[JU] at hl
     refine Jq ⟨rfl,l,(l+r) / 2,rfl,by omega,by omega,by omega,u4,λi v1 v2=> ?_⟩
     by_cases hi:i=lo+(l+r) / 2
     ·rw[hi];exact hl
     ·exact Int.lt_of_lt_of_le hl (hs' _ _ (!1) (!1) v2)
    ·simp only[JU] at hl
     refine Jq ⟨rfl,(l+r) / 2+1,r,rfl,by omega,by omega,by omega,λi v1 v2=> ?_,u5⟩
     by_cases hi:i=lo+(l+r) / 2
     ·rw[hi];omega
     ·have:=hs' i (lo+(l+r) / 2) v1 (!1) (!1);omega
  ·rintro c st'' ⟨rfl,l,r,rfl,u1,u2,u3,u4,u5⟩
   obtain rfl:l=r:=by omega
   exact⟨rfl,l,l,rfl,u2,u4,u5⟩
  ·rintro c st'' ⟨e2,l,r,rfl,u2,u4,u5⟩
   rw[e2]
   dsimp only
   refine Jv (HX ?_)
   rw[IW] at u4 u5
   have hsz:lo+k < xs.size:=by rw[hp.size_eq,hB.size];omega
   refine Jq ⟨rfl,bubble xs (lo+k) (lo+k - (lo+l)),?_,(bubble_perm _ _ _).trans hp,λj hj=> ?_,?_⟩
   ·rw[est]
   ·rw[getElem?_bubble hsz _ (!1),JZ (!1),JZ (!1)];exact hkeep j hj
   ·rw[show min (k+1) n=k+1 by omega]
    intro i j v1 v2 v3
    rw[K_bubble hsz (!1),K_bubble hsz (!1),show lo+k - (lo+k - (lo+l))=lo+l by omega]
    repeat' split
    all_goals first
     | (exfalso;omega)
     | exact u4 _ (!1) (!1)
     | exact Y0 (u5 _ (!1) (!1))
     | exact hs' _ _ (!1) (!1) (!1)
 ·rintro c st' ⟨rfl,xs,rfl,hp,hkeep,hs'⟩
  rw[show min (max (max ok 1) n) n=n by omega] at hs'
  exact⟨rfl,xs,rfl,hp,hkeep,hs'⟩
 ·rintro c st' ⟨rfl,xs,rfl,hp,hkeep,hs'⟩
  exact Jq (h xs hp hkeep hs')
end
abbrev NA:Nat->StateT SortSt Sem Bool:=sortPriv% PySem.Builtin.mergeAt
theorem Cz {xs:Array Keyed}{lo n:Nat}(h:k7 xs lo (lo+n))(hb:lo+n<=xs.size):jq kz ((xs.toList.drop lo).take n):=by
 refine Yk.mpr λi j hi hj hij=> ?_
 have hl:((xs.toList.drop lo).take n).length=n:=by rw[Xk,XJ,Kq];omega
 obtain⟨u1,e1⟩:=nH (arr:=xs) (base:=lo) (i:=i) hb (!1)
 obtain⟨u2,e2⟩:=nH (arr:=xs) (base:=lo) (i:=j) hb (!1)
 rw[←e1,←e2]
 exact h _ _ (!1) (!1) (!1)
theorem KH {xs:Array Keyed}{lo n:Nat}(h:jq kz ((xs.toList.drop lo).take n))(hb:lo+n<=xs.size):k7 xs lo (lo+n):=λi j u1 u2 u3=>by
 obtain⟨v1,e1⟩:=nH (arr:=xs) (base:=lo) (i:=i - lo) hb (!1)
 obtain⟨v2,e2⟩:=nH (arr:=xs) (base:=lo) (i:=j - lo) hb (!1)
 rw[show lo+(i - lo)=i by omega] at e1
 rw[show lo+(j - lo)=j by omega] at e2
 rw[e1,e2]
 exact Yk.mp h _ _ v1 v2 (!1)
theorem E2 (P M T:List Keyed)(u v:Keyed):(P++u :: M++T).toArray.setIfInBounds P.length v=(P++[v]++M++T).toArray:=by
 apply Array.toList_inj.mp
 rw[Array.toList_setIfInBounds]
 simp
theorem pT (q:Nat)(T:List Keyed):∀(r P M:List Keyed) (m:Nat),M.length=r.length->P.length=q+m->(r.zipIdx m).foldl (λa x=>a.setIfInBounds (q+x.snd) x.fst) (P++M++T).toArray=(P++r++T).toArray
 | [],P,M,m,hM,_=>by
  rw[UJ] at hM
  rw[List.eq_nil_of_length_eq_zero hM];rfl
 | v :: r,P,M,m,hM,hP=>by
  cases M with
  | nil=>simp at hM
  | cons u M=>
   rw[List.zipIdx_cons,UZ]
   dsimp only
   rw[←hP,E2 P M T u v]
   have ih:=pT q T r (P++[v]) M (m+1) (by simpa using hM) (by rw[K2,X5];omega)
   rw[ih]
   simp
theorem CA {P M M' T:List Keyed}(hl:M'.length=M.length){k:Nat}(h:k < P.length∨P.length+M.length<=k):(P++M'++T)[k]? =(P++M++T)[k]?:=by
 rcases h with h | h
 ·rw[X7,X7,Xq h,Xq h]
 ·rw[U2 (by rw[K2,hl];exact h),U2 (by rw[K2];exact h),K2,K2,hl]
def Mg (arr xs:Array Keyed)(sa n:Nat):Prop:=xs.Perm arr/\(∀k,k < sa∨sa+n<=k->xs[k]? =arr[k]?)/\k7 xs sa (sa+n)
theorem mg_of {arr xs:Array Keyed}{P M M' T:List Keyed}{sa n:Nat}(h1:arr.toList=P++M++T)(h2:xs.toList=P++M'++T)(hp:M'.Perm M)(hs:jq kz M')(hP:P.length=sa)(hM:M.length=n):Mg arr xs sa n:=by
 have hl:=hp.length_eq
 refine⟨Array.perm_iff_toList_perm.mpr ?_,λk hk=> ?_,KH ?_ ?_⟩
 ·rw[h1,h2];exact(hp.append_left P).append_right T
 ·rw[←Uu,←Uu,h1,h2];exact CA hl (by rw[hP,hM];exact hk)
 ·rw[h2,X7,←hP,List.drop_left,←hM,←hl,List.take_left];exact hs
 ·rw[←Kq,h2,K2,K2];omega
section
variable {prog:Program}{w:World}{A:Around}{E:Z5}{s:Shared}{a₀:Array Keyed}{st:SortSt}
theorem E3 {M:Model}{t:SortSt}{Q:PUnit->SortSt->Prop}(h:Q ⟨⟩ t):wpS M A E s (set t:StateT SortSt Sem PUnit) Q st:=by
 unfold wpS;rw[StateT.run_set];exact JJ ⟨rfl,h⟩
theorem CB {i sa na nb pw q:Nat}{Q:Bool->SortSt->Prop}(hB:SB a₀ st)(e:El a₀)(hi:(pendingOf st)[i]? =some (sa,na,pw))(hj:(pendingOf st)[i+1]? =some (sa+na,nb,q))(n1:1<=na)(n2:1<=nb)(hb:sa+(na+nb)<=a₀.size)
  (s1:k7 (arrOf st) sa (sa+na)) (s2:k7 (arrOf st) (sa+na) (sa+na+nb))
  (h:∀xs g,Mg (arrOf st) xs sa (na+nb)->Q true (SortSt.mk' (kindOf st) xs (((pendingOf st).setIfInBounds i (sa,na+nb,pw)).eraseIdxIfInBounds (i+1)) g (failedOf st))):wpS (!3) A E s (NA i) Q st:=by
 have hsz:=hB.size
 have ik:=hB.ik e
 have hk:=hB.kind
 have hf:=hB.failed
 have c1:=Cz s1 (!1)
 have c2:=Cz s2 (!1)
 obtain⟨P,hP⟩:∃P,P=(arrOf st).toList.take sa:=⟨_,rfl⟩
 obtain⟨R1,E4⟩:∃R1,R1=((arrOf st).toList.drop sa).take na:=⟨_,rfl⟩
 obtain⟨R2,E5⟩:∃R2,R2=((arrOf st).toList.drop (sa+na)).take nb:=⟨_,rfl⟩
 obtain⟨T,hT⟩:∃T,T=(arrOf st).toList.drop (sa+na+nb):=⟨_,rfl⟩
 have hL:(arrOf st).toList=P++(R1++R2)++T:=by
  rw[hP,E4,E5,hT,X7,X7]
  rw[←YV (i:=nb),Ux,←YV (i:=na),Ux,Ux]
 have lP:P.length=sa:=by rw[hP,Xk,Kq];omega
 have l1:R1.length=na:=by rw[E4,Xk,XJ,Kq];omega
 have l2:R2.length=nb:=by rw[E5,Xk,XJ,Kq];omega
 have g1:sa+na < (arrOf st).size:=by omega
 have g2:sa+na - 1 < (arrOf st).size:=by omega
 have NB:(arrOf st)[sa+na]=R2[0]'(!1):=by
  have:(arrOf st).toList[sa+na]'(by simpa using g1)=R2[0]'(!1):=by
   simp only[E5,Yw,J6,Nat.add_zero]
  simpa using this
 have NC:(arrOf st)[sa+na - 1]=R1[na - 1]'(!1):=by
  have:(arrOf st).toList[sa+na - 1]'(by simpa using g2)=R1[na - 1]'(!1):=by
   simp only[E4,Yw,J6]
   congr 1;omega
  simpa using this
 have mb:∀y∈R2,kz (R2[0]'(!1))<=kz y:=λy hy=>by
  rw[←E5] at c2
  exact pO c2 (!1) (by rw[Y4];exact hy)
 have ma:∀y∈R1,kz y<=kz (R1[na - 1]'(!1)):=λy hy=>by
  rw[←E4] at c1
  exact pQ c1 n1 (!1) (by rw[XZ (!1)];exact hy)
 refine Jv (JK ?_)
 dsimp only
 simp only[hi,hj]
 refine Jv (E3 ?_)
 refine Jv (aZ (a_ g1) ?_)
 rw[NB]
 refine Jv (pR hk (ik _ (by rw[←NB];simp)) ik (show sa+na<=(arrOf st).size by omega) (!1) c1 λk q1 q2 q3=> ?_)
 rw[←E4] at q2 q3
 dsimp only
 refine aP (λe1=> ?_) λe1=> ?_
 ·simp only[JX] at e1
  refine Jq (h (arrOf st) (gallopOf st) (mg_of hL hL (List.Perm.refl _) ?_ lP (by rw[K2];omega)))
  rw[←E4] at c1
  rw[←E5] at c2
  refine Y9.mpr ⟨c1,c2,λx hx y hy=>Yq (q2 x ?_) (mb y hy)⟩
  rw[XZ (!1)];exact hx
 simp only[JX] at e1
 rw[show sa+k+(na - k) - 1=sa+na - 1 by omega]
 refine Jv (aZ (a_ g2) ?_)
 rw[NC]
 refine Jv (pS hk (ik _ (by rw[←NC];simp)) ik (show sa+na+nb<=(arrOf st).size by omega) (!1) c2 λk2 r1 r2 r3=> ?_)
 rw[←E5] at r2 r3
 rw[←E4] at c1
 rw[←E5] at c2
 dsimp only
 refine aP (λe2=> ?_) λe2=> ?_
 ·simp only[JX] at e2
  refine Jq (h (arrOf st) (gallopOf st) (mg_of hL hL (List.Perm.refl _) ?_ lP (by rw[K2];omega)))
  refine Y9.mpr ⟨c1,c2,λx hx y hy=>Yq (ma x hx) (r3 y ?_)⟩
  rw[e2,Y4];exact hy
 simp only[JX] at e2
 have ex:((arrOf st).extract (sa+k) (sa+na)).toList=R1.drop k:=by
  rw[il,E4,List.drop_take,YV,show sa+na - (sa+k)=na - k by omega]
 have ey:((arrOf st).extract (sa+na) (sa+na+k2)).toList=R2.take k2:=by
  rw[il,E5,List.take_take,Nat.add_sub_cancel_left,Nat.min_eq_left r1]
 have sx:((arrOf st).extract (sa+k) (sa+na)).size=na - k:=by rw[←Kq,ex,XJ,l1]
 have sy:((arrOf st).extract (sa+na) (sa+na+k2)).size=k2:=by rw[←Kq,ey,Xk,l2];omega
 have OE:((arrOf st).extract (sa+na) (sa+na+k2))[0]'(!1)=R2[0]'(!1):=by
  have:((arrOf st).extract (sa+na) (sa+na+k2)).toList[0]'(by rw[Kq];omega)=R2[0]'(!1):=by
   simp only[ey,Yw]
  simpa using this
 have OG:((arrOf st).extract (sa+k) (sa+na))[((arrOf st).extract (sa+k) (sa+na)).size - 1]'(!1)=R1[na - 1]'(!1):=by
  have:((arrOf st).extract (sa+k) (sa+na)).toList[((arrOf st).extract (sa+k) (sa+na)).size - 1]'(by rw[Kq];omega)=R1[na - 1]'(!1):=by
   simp only[ex,J6]
   congr 1;omega
  simpa using this
 have OH:∀x∈R1,x∈(arrOf st).toList:=λx hx=>by rw[E4] at hx;exact U3 (U4 hx)
 have OI:∀x∈R2,x∈(arrOf st).toList:=λx hx=>by rw[E5] at hx;exact U3 (U4 hx)
 have pre:Pre ((arrOf st).extract (sa+k) (sa+na)) ((arrOf st).extract (sa+na) (sa+na+k2)):=by
  refine⟨?_,?_,?_,?_,by omega,by omega,?_,?_⟩
  ·rw[ex];exact λx hx=>ik x (OH x (U3 hx))
  ·rw[ey];exact λx hx=>ik x (OI x (U4 hx))
  ·rw[ex];exact c1.sublist (Yv _ _)
  ·rw[ey];exact c2.sublist (J9 _ _)
  ·rw[ex,OE];exact λx hx=>Y0 (q3 x hx)
  ·rw[ey,OG];exact λx hx=>Y0 (r2 x hx)
 have KI:∀r,Fn ((arrOf st).extract (sa+k) (sa+na)) ((arrOf st).extract (sa+na) (sa+na+k2)) r->Mg (arrOf st) (List.foldl (λa x=>a.setIfInBounds (sa+k+x.snd) x.fst) (arrOf st) r.toList.zipIdx) sa (na+nb):=by
  rintro r ⟨p1,p2⟩
  rw[ex,ey] at p1
  have hlr:(R1.drop k++R2.take k2).length=r.toList.length:=p1.length_eq.symm
  have hL2:(arrOf st).toList=P++R1.take k++(R1.drop k++R2.take k2)++(R2.drop k2++T):=by
   rw[hL]
   conv=>lhs;rw[←Ux k R1,←Ux k2 R2]
   simp only[X7]
  have hw:List.foldl (λa x=>a.setIfInBounds (sa+k+x.snd) x.fst) (arrOf st) r.toList.zipIdx=(P++R1.take k++r.toList++(R2.drop k2++T)).toArray:=by
   have:=pT (sa+k) (R2.drop k2++T) r.toList (P++R1.take k) (R1.drop k++R2.take k2) 0 hlr (by rw[K2,Xk];omega)
   rw[←hL2,Array.toArray_toList] at this
   exact this
  rw[hw]
  refine mg_of (P:=P) (M:=R1++R2) (M':=R1.take k++r.toList++R2.drop k2) (T:=T) hL (by simp only[X7]) ?_ ?_ lP (by rw[K2];omega)
  ·have:(R1.take k++r.toList++R2.drop k2).Perm (R1.take k++(R1.drop k++R2.take k2)++R2.drop k2):=(p1.append_left _).append_right _
   refine this.trans (List.Perm.of_eq ?_)
   conv=>rhs;rw[←Ux k R1,←Ux k2 R2]
   simp only[X7]
  ·have rm:∀x∈r.toList,x∈R1.drop k∨x∈R2.take k2:=λx hx=>Kk.mp (p1.mem_iff.mp hx)
   have hal:∀x∈r.toList,kz (R2[0]'(!1))<=kz x/\kz x<=kz (R1[na - 1]'(!1)):=λx hx=>by
    rcases rm x hx with z | z
    ·exact⟨Y0 (q3 x z),ma x (U3 z)⟩
    ·exact⟨mb x (U4 z),Y0 (r2 x z)⟩
   refine Y9.mpr ⟨Y9.mpr ⟨c1.sublist (J9 _ _),p2,λx hx y hy=>Yq (q2 x hx) (hal y hy).1⟩,c2.sublist (Yv _ _),λx hx y hy=> ?_⟩
   rcases Kk.mp hx with z | z
   ·exact Yq (q2 x z) (mb y (U3 hy))
   ·exact Yq (hal x z).2 (r3 y hy)
 refine aP (λe3=> ?_) λe3=> ?_
 ·refine Jv (EY hk pre λr g hr=> ?_)
  refine Jv (wpS_modify ?_)
  refine Jv (JK ?_)
  refine Jq ?_
  have:=h _ g (KI r hr)
  rw[show(failedOf st).isNone=true by rw[hf];rfl]
  exact this
 ·refine Jv (EZ hk pre λr g hr=> ?_)
  refine Jv (wpS_modify ?_)
  refine Jv (JK ?_)
  refine Jq ?_
  have:=h _ g (KI r hr)
  rw[show(failedOf st).isNone=true by rw[hf];rfl]
  exact this
end
abbrev OJ:StateT SortSt Sem Unit:=sortPriv% PySem.Builtin.sortRuns
def iJ (xs:Array Keyed):List (Nat×Nat×Nat)->Nat->Nat->Prop
 | [],lo,hi=>lo=hi
 | t :: r,lo,hi=>t.1=lo/\1<=t.2.1/\k7 xs lo (lo+t.2.1)/\iJ xs r (lo+t.2.1) hi
theorem iJ.len {xs:Array Keyed}:∀{l:List (Nat×Nat×Nat)} {lo hi:Nat},iJ xs l lo hi->lo+l.length<=hi
 | [],lo,hi,h=>by rw[iJ] at h;simp;omega
 | t :: r,lo,hi,h=>by rw[iJ] at h;have:=iJ.len h.2.2.2;simp only[Kz];omega
theorem iJ.app {xs:Array Keyed}{l2:List (Nat×Nat×Nat)}:∀{l1:List (Nat×Nat×Nat)} {lo hi:Nat},iJ xs (l1++l2) lo hi↔∃mid,iJ xs l1 lo mid/\iJ xs l2 mid hi
 | [],lo,hi=>⟨λh=>⟨lo,rfl,h⟩,λ⟨mid,h1,h2⟩=>by rw[iJ] at h1;subst h1;exact h2⟩
 | t :: r,lo,hi=>by
  rw[U8,iJ,iJ.app (l1:=r)]
  constructor
  ·rintro⟨a,b,c,mid,d,e⟩;exact⟨mid,⟨a,b,c,d⟩,e⟩
  ·rintro⟨mid,⟨a,b,c,d⟩,e⟩;exact⟨a,b,c,mid,d,e⟩
theorem k7.keep {xs ys:Array Keyed}{lo hi:Nat}(h:k7 xs lo hi)(hk:∀k,lo<=k->k < hi->ys[k]? =xs[k]?):k7 ys lo hi:=λi j a b c=>by
 rw[K_congr (hk i a (!1)),K_congr (hk j (!1) c)];exact h i j a b c
theorem iJ.keep {xs ys:Array Keyed}:∀{l:List (Nat×Nat×Nat)} {lo hi:Nat},iJ xs l lo hi->(∀k,lo<=k->k < hi->ys[k]? =xs[k]?)->iJ ys l lo hi
 | [],lo,hi,h,_=>h
 | t :: r,lo,hi,⟨a,b,c,d⟩,hk=>by
  have:=d.len
  exact⟨a,b,c.keep λk h1 h2=>hk k h1 (!1),d.keep λk h1 h2=>hk k (!1) h2⟩
theorem iJ.push {xs:Array Keyed}{l:List (Nat×Nat×Nat)}{lo n p:Nat}(h:iJ xs l 0 lo)(h1:1<=n)(hs:k7 xs lo (lo+n)):iJ xs (l++[(lo,n,p)]) 0 (lo+n):=iJ.app.mpr ⟨lo,h,rfl,h1,hs,rfl⟩
theorem iJ.pow {xs:Array Keyed}{f:Nat×Nat×Nat->Nat×Nat×Nat}(hf:∀t,(f t).1=t.1/\(f t).2.1=t.2.1):∀{l:List (Nat×Nat×Nat)} {i lo hi:Nat},iJ xs l lo hi->iJ xs (l.modify i f) lo hi
 | [],i,lo,hi,h=>by cases i <;> exact h
 | t :: r,0,lo,hi,h=>by
  rw[List.modify_zero_cons]
  obtain⟨a,b,c,d⟩:=h
  rw[iJ,(hf t).1,(hf t).2];exact⟨a,b,c,d⟩
 | t :: r,i+1,lo,hi,⟨a,b,c,d⟩=>by rw[List.modify_succ_cons];exact⟨a,b,c,d.pow hf⟩
theorem H_ {c:Prop}[Decidable c]{n:Nat}(h:¬ n<=1):(if c then n - 2 - 1 else n - 2)+1 < n:=by split <;> omega
section
variable {prog:Program}{w:World}{A:Around}{E:Z5}{s:Shared}{a₀:Array Keyed}{st:SortSt}
theorem zd {i hi:Nat}{Q:Bool->SortSt->Prop}(hB:SB a₀ st)(e:El a₀)(hr:iJ (arrOf st) (pendingOf st).toList 0 hi)(hhi:hi<=a₀.size)(hi1:i+1 < (pendingOf st).size)
  (h:∀st',SB a₀ st'->iJ (arrOf st') (pendingOf st').toList 0 hi->(pendingOf st').size+1=(pendingOf st).size->(∀k,hi<=k->(arrOf st')[k]? =(arrOf st)[k]?)->Q true st'):wpS (!3) A E s (NA i) Q st:=by
 obtain⟨l,hl⟩:∃l,(pendingOf st).toList=l:=⟨_,rfl⟩
 have hsz:(pendingOf st).size=l.length:=by rw[←hl,Kq]
 rw[hl] at hr
 have hi2:i < l.length:=by omega
 have ND:i+1 < l.length:=by omega
 have el:l=l.take i++l[i] :: l[i+1] :: l.drop (i+2):=by
  rw[←U7 ND,←U7 hi2,Ux]
 have e1:(pendingOf st)[i]? =some l[i]:=by rw[←Uu,hl,K3 hi2]
 have e2:(pendingOf st)[i+1]? =some l[i+1]:=by rw[←Uu,hl,K3 ND]
 obtain⟨l1,hl1⟩:∃l1,l1=l.take i:=⟨_,rfl⟩
 obtain⟨l2,hl2⟩:∃l2,l2=l.drop (i+2):=⟨_,rfl⟩
 have n1:l1.length=i:=by rw[hl1,Xk];omega
 obtain⟨⟨sa,na,pw⟩,ht1⟩:∃t,t=l[i]:=⟨_,rfl⟩
 obtain⟨⟨sb,nb,q⟩,Ad⟩:∃t,t=l[i+1]:=⟨_,rfl⟩
 rw[←ht1] at e1
 rw[←Ad] at e2
 rw[←hl1,←hl2,←ht1,←Ad] at el
 rw[el] at hr
 obtain⟨mid,r1,x1,x2,x3,y1,y2,y3,r2⟩:=iJ.app.mp hr
 dsimp only at x1 x2 x3 y1 y2 y3 r2
 subst x1 y1
 have len2:=r2.len
 refine CB hB e e1 e2 x2 y2 (!1) x3 y3 λxs g ⟨m1,m2,m3⟩=> ?_
 have el2:(((pendingOf st).setIfInBounds i (sa,na+nb,pw)).eraseIdxIfInBounds (i+1)).toList=l1++(sa,na+nb,pw) :: l2:=by
  have:(((pendingOf st).setIfInBounds i (sa,na+nb,pw)).eraseIdxIfInBounds (i+1)).toList=((pendingOf st).toList.set i (sa,na+nb,pw)).eraseIdx (i+1):=by
   rw[Array.toList_eraseIdxIfInBounds,Array.toList_setIfInBounds]
  rw[this,hl,el,←n1]
  simp[List.eraseIdx_append_of_length_le]
 refine h _ ⟨m1.trans hB.perm,hB.kind,hB.failed⟩ ?_ ?_ λk hk=>m2 k (.inr (!1))
 ·show iJ xs _ 0 hi
  rw[el2]
  refine iJ.app.mpr ⟨sa,r1.keep λk _ hk=>m2 k (.inl hk),rfl,by show 1<=na+nb;omega,m3,?_⟩
  have:=r2.keep (ys:=xs) λk h1 _=>m2 k (.inr (!1))
  rw[show sa+na+nb=sa+(na+nb) by omega] at this
  exact this
 ·show(((pendingOf st).setIfInBounds i (sa,na+nb,pw)).eraseIdxIfInBounds (i+1)).size+1=_
  rw[←Kq,el2,hsz,el]
  simp only[K2,Kz];omega
theorem Ia {Q:Unit->SortSt->Prop}(hB:SB a₀ st)(e:El a₀)(hp:pendingOf st= #[])(h1:1<=a₀.size)(h:∀st',SB a₀ st'->k7 (arrOf st') 0 a₀.size->Q () st'):wpS (!3) A E s OJ Q st:=by
 refine Jv (JK ?_)
 dsimp only
 simp only[hB.size]
 refine Jv (wpS_mono (wpS_forRange (I:=λx c st'=>∃lo,c=(none,lo)/\SB a₀ st'/\iJ (arrOf st') (pendingOf st').toList 0 lo/\lo<=a₀.size/\(x<=lo∨lo=a₀.size))
  (Q:=λc st'=>c=(none,a₀.size)/\SB a₀ st'/\iJ (arrOf st') (pendingOf st').toList 0 a₀.size) ?_ ?_ ⟨0,rfl,hB,by rw[hp];rfl,by omega,.inl (!1)⟩) ?_)
 ·rintro x c st' _ hx ⟨lo,rfl,hB',hr,hlo,OL⟩
  dsimp only
  refine aP (λhge=> ?_) λhge=> ?_
  ·obtain rfl:lo=a₀.size:=by omega
   exact Jq ⟨rfl,hB',hr⟩
  refine Jv (HY hB' e (!1) (!1) λm xs hpm hkp m1 m2 hs=> ?_)
  have KL:=hB'.set hpm
  have hr1:iJ xs (pendingOf st').toList 0 lo:=hr.keep λk _ hk=>hkp k hk
  dsimp only
  refine aP (λhm=> ?_) (λhm=> ?_)
  case' refine_2=>
   obtain⟨s1,hs1⟩:∃s1,s1=setArr st' xs:=⟨_,rfl⟩
   rw[←hs1]
   have g1:SB a₀ s1:=by rw[hs1];exact KL
   have g2:iJ (arrOf s1) (pendingOf s1).toList 0 lo:=by rw[hs1];exact hr1
   have g3:k7 (arrOf s1) lo (lo+m):=by rw[hs1];exact hs
   obtain⟨n,hn⟩:∃n,n=m:=⟨_,rfl⟩
   rw[←hn] at g3⊢
   have n1:1<=n:=by omega
   have n2:lo+n<=a₀.size:=by omega
   clear hs1 hn
  case' refine_1=>
   refine Jv (wpS_lift (wpAny_rule ⟨rfl,?_⟩))
   obtain⟨n,hn⟩:∃n,n=min (a₀.size - lo) ((sortPriv% PySem.Builtin.minRun) a₀.size a₀.size 0):=⟨_,rfl⟩
   rw[←hn]
   have n1:1<=n:=by omega
   have n2:lo+n<=a₀.size:=by omega
   refine Jv (HZ KL e n2 m1 (!1) hs λys hpy hky MA=> ?_)
   obtain⟨s1,hs1⟩:∃s1,s1=setArr (setArr st' xs) ys:=⟨_,rfl⟩
   rw[←hs1]
   have g1:SB a₀ s1:=by rw[hs1];exact KL.set hpy
   have g2:iJ (arrOf s1) (pendingOf s1).toList 0 lo:=by rw[hs1];exact hr1.keep λk _ hk=>hky k hk
   have g3:k7 (arrOf s1) lo (lo+n):=by rw[hs1];exact MA
   rw[JZ (by simp)]
   clear hs1 hn
  all_goals
   refine Jv (JK ?_)
   rcases hb:(pendingOf s1).back? with _ | ⟨u1,u2,u3⟩
   ·dsimp only
    refine Jv (wpS_modify (Jq ⟨lo+n,rfl,⟨g1.perm,g1.kind,g1.failed⟩,?_,n2,by omega⟩))
    show iJ (arrOf s1) ((pendingOf s1).push _).toList 0 (lo+n)
    rw[YK];exact g2.push n1 g3
   ·dsimp only
    refine Jv (wpS_mono (wpS_forRange (I:=λ_ c s2=>c=(none,())/\SB a₀ s2/\iJ (arrOf s2) (pendingOf s2).toList 0 lo/\k7 (arrOf s2) lo (lo+n))
     (Q:=λc s2=>c=(none,())/\SB a₀ s2/\iJ (arrOf s2) (pendingOf s2).toList 0 lo/\k7 (arrOf s2) lo (lo+n)) ?_ (λc s2 h=>h) ⟨rfl,g1,g2,g3⟩) ?_)
    ·rintro y c s2 _ hy ⟨rfl,q1,q2,q3⟩
     refine Jv (JK ?_)
     by_cases hsz:(pendingOf s2).size > 1
     ·rw[JW hsz]
      have hlt:(pendingOf s2).size - 2 < (pendingOf s2).size:=by omega
      rw[Yx hlt]
      obtain⟨t,ht⟩:∃t,(pendingOf s2)[(pendingOf s2).size - 2]=t:=⟨_,rfl⟩
      rw[ht]
      obtain⟨v1,v2,v3⟩:=t
      dsimp only
      refine aP (λho=> ?_) λho=> ?_
      ·exact Jq ⟨rfl,q1,q2,q3⟩
      ·refine Jv (zd q1 e q2 hlo (show(pendingOf s2).size - 2+1 < (pendingOf s2).size by omega) λs3 c1 c2 _ c4=> ?_)
       exact Jq ⟨rfl,c1,c2,q3.keep λk h1 _=>c4 k h1⟩
     ·rw[JZ hsz]
      exact Jq ⟨rfl,q1,q2,q3⟩
    ·rintro c s2 ⟨rfl,q1,q2,q3⟩
     dsimp only
     refine Jv (wpS_modify (Jv (wpS_modify (Jq ⟨lo+n,rfl,⟨q1.perm,q1.kind,q1.failed⟩,?_,n2,by omega⟩))))
     show iJ (arrOf s2) (((pendingOf s2).modify _ _).push _).toList 0 (lo+n)
     rw[YK,Array.toList_modify]
     refine iJ.push (iJ.pow ?_ q2) n1 q3
     exact λt=>⟨rfl,rfl⟩
 ·rintro c st' ⟨lo,rfl,hB',hr,hlo,OL⟩
  obtain rfl:lo=a₀.size:=by omega
  exact⟨rfl,hB',hr⟩
 rintro c st1 ⟨rfl,KL,hr1⟩
 dsimp only
 have hlen:=hr1.len
 rw[Kq] at hlen
 refine Jv (wpS_mono (wpS_forRange (I:=λx c st'=>c=(none,())/\SB a₀ st'/\iJ (arrOf st') (pendingOf st').toList 0 a₀.size/\((pendingOf st').size<=1∨(pendingOf st').size+x<=a₀.size))
  (Q:=λc st'=>c=(none,())/\SB a₀ st'/\iJ (arrOf st') (pendingOf st').toList 0 a₀.size/\(pendingOf st').size<=1) ?_ ?_ ⟨rfl,KL,hr1,.inr (!1)⟩) ?_)
 ·rintro x c st' _ hx ⟨rfl,q1,q2,q3⟩
  refine Jv (JK ?_)
  refine aP (λhs=> ?_) λhs=> ?_
  ·exact Jq ⟨rfl,q1,q2,hs⟩
  ·have hs:¬ (pendingOf st').size<=1:=hs
   refine Jv (zd q1 e q2 (K1 _) (H_ hs) λs3 c1 c2 c3 _=> ?_)
   exact Jq ⟨rfl,c1,c2,.inr (!1)⟩
 ·rintro c st' ⟨rfl,q1,q2,q3⟩
  exact⟨rfl,q1,q2,by omega⟩
 rintro c st' ⟨rfl,q1,q2,q3⟩
 refine Jq (h st' q1 ?_)
 have q3:(pendingOf st').toList.length<=1:=by rw[Kq];exact q3
 generalize (pendingOf st').toList=l at q2 q3
 match l,q2,q3 with
 | [],q2,_=>rw[iJ] at q2;omega
 | [t],q2,_=>
  obtain⟨_,_,a3,a4⟩:=q2
  rw[iJ] at a4
  rw[a4] at a3;exact a3
 | _ :: _ :: _,_,q3=>simp at q3
end
end Ts
namespace Ts
open PySem PyProof.Rows PySem.Calls PyProof.V PySem.Spec
section
variable {prog:Program}{w:World}{A:Around}{E:Z5}{s:Shared}
theorem KN {vs:List Value}{ns:List Int}(hI:IntsAre vs ns)(hd:ns.Nodup):El (pairsOf vs):=by
 refine⟨hI.intKeys,?_⟩
 rw[pairsOf_toList]
 have e:(vs.zip vs).map kz=ns:=by
  rw[←hI.nums]
  clear hI hd
  induction vs with
  | nil=>rfl
  | cons v vs ih=>rw[List.zip_cons_cons,KJ,KJ,ih];rfl
 rw[←e] at hd
 exact List.Pairwise.of_map _ (λa b h=>h) hd
theorem E6 {a:Addr}{vs:List Value}{ns:List Int}{n:Nat}{P:Fin->Shared->Prop}(ho:s.heap.get? a=some (seqObj "list" vs.toArray n))(hI:IntsAre vs ns)(hd:ns.Nodup)(hl:vs.length<=sizeLine)
  (h:∀(out:Array Value) (ns':List Int),IntsAre out.toList ns'->ns'.Perm ns->ns'.Pairwise (· <= ·)->P (.done (.ret .none)) {s with heap:=sortedHeap s.heap a vs out}):wpAny (!3) A (Builtin.«list.sort» ⟨[.ref a],[]⟩) P E s:=by
 by_cases h64:vs.length < 64
 ·exact list_sort_tree ho hI h64 h
 have ha:=Kv ho
 have hz:vs.toArray.size=vs.length:=by simp
 obtain⟨e1,o1⟩:∃e1,(s.heap.update a (Obj.mapSeq λ_=> #[])).get? a=some (seqObj "list" #[] e1):=⟨_,get?_update_seq ho λ_=> #[]⟩
 have o6:(((s.heap.update a (Obj.mapSeq λ_=> #[])).push (seqObj "tuple" vs.toArray 0)).push (seqObj "list" #[] 0)).get? a=some (seqObj "list" #[] e1) :=
  K6 _ (K6 _ o1)
 rw[list_sort_plain]
 refine JY (listItems_at ho rfl (JY (listUpdate_at ho rfl (JY (seqEpoch_at o1 rfl (JY (wpAny_newTuple (JY (wpAny_newList (Z9 ?_) (Xx _))) (by simpa using hl))))) (by rw[hz];exact hl) (Xx _))))
 have fin:∀st':SortSt,(arrOf st').Perm (pairsOf vs)->k7 (arrOf st') 0 (pairsOf vs).size->P (.done (.ret .none)) {s with heap:=sortedHeap s.heap a vs ((arrOf st').map (·.2))}:=λst' hp hs=>by
  obtain⟨ns',q1,q2,q3⟩:=sorted_out hI hp (λi j hij hj=>by
   by_cases e:i=j
   ·subst e;exact Int.le_refl _
   ·exact hs i j (!1) (!1) hj)
  exact h _ ns' q1 q2 q3
 show wpAny (!3) A _ P E {s with heap:=((s.heap.update a (Obj.mapSeq λ_=> #[])).push (seqObj "tuple" vs.toArray 0)).push (seqObj "list" #[] 0)}
 dsimp only
 have h2:¬ vs.toArray.size < 2:=by omega
 rw[JZ h2,JZ h2]
 have el:=KN hI hd
 have hk:keyKind' vs.toArray=pure oneType':=by
  match vs,hI,h64 with
  | [],_,h64=>simp at h64
  | [_],_,h64=>simp at h64
  | _ :: _ :: _,hI,_=>exact keyKind_ints hI
 rw[hk]
 refine JY (JJ ?_)
 have run:=Ia (prog:=prog) (w:=w) (A:=A) (E:=E) (s:={s with heap:=((s.heap.update a (Obj.mapSeq λ_=> #[])).push (seqObj "tuple" vs.toArray 0)).push (seqObj "list" #[] 0)})
  (a₀:=pairsOf vs) (st:=SortSt.mk' oneType' (vs.toArray.zip vs.toArray) #[] 7 none) (Q:=λ_ st'=>(arrOf st').Perm (pairsOf vs)/\failedOf st'=none/\k7 (arrOf st') 0 (pairsOf vs).size)
  ⟨Array.Perm.refl _,rfl,rfl⟩ el rfl (by rw[pairsOf_size];omega) λst' b g=>⟨b.perm,b.failed,g⟩
 refine JY (wpAny_mono run ?_ λ_ _ e=>e)
 rintro⟨⟨⟩,st'⟩ s' ⟨rfl,hp,hf,hs⟩
 dsimp only
 refine JY (seqEpoch_at o6 rfl (JY (listUpdate_at o6 rfl ?_ (Xx _) (by rw[Array.size_map,hp.size_eq,pairsOf_size];omega))))
 rw[hf]
 simp only[bne_self_eq_false,XU,if_false]
 exact JJ (fin st' hp hs)
theorem jr:∀l:List Int,(Y.vp l).Perm l
 | []=>List.Perm.refl _
 | x :: l=>(Ib x (Y.vp l)).trans ((jr l).cons x)
where Ib (x:Int):∀l:List Int,(Y.insI x l).Perm (x :: l)
 | []=>List.Perm.refl _
 | y :: l=>by
  rw[Y.insI]
  split
  ·exact List.Perm.refl _
  ·exact((Ib x l).cons y).trans (List.Perm.swap x y l)
theorem vL (x:Int):∀{l:List Int},l.Pairwise (· <= ·)->(Y.insI x l).Pairwise (· <= ·)
 | [],_=>by simp[Y.insI]
 | y :: l,h=>by
  obtain⟨h1,h2⟩:=List.pairwise_cons.mp h
  rw[Y.insI]
  split
  ·rename_i hc
   refine List.pairwise_cons.mpr ⟨λz hz=> ?_,h⟩
   rcases K0.mp hz with rfl | hz
   ·exact hc
   ·exact Yq hc (h1 z hz)
  ·rename_i hc
   refine List.pairwise_cons.mpr ⟨λz hz=> ?_,vL x h2⟩
   rcases K0.mp ((jr.Ib x l).mem_iff.mp hz) with rfl | hz
   ·omega
   ·exact h1 z hz
theorem pU:∀l:List Int,(Y.vp l).Pairwise (· <= ·)
 | []=> .nil
 | x :: l=>vL x (pU l)
theorem CC {T:String}{r d:Addr}{n:Nat}{Pk:Nat->Value->Prop}{OK:Heap->Prop}{R:List Value->Shared->Prop}(Ks:PySem.W.KdlSrc prog w T r d n Pk OK)(hh:A.handled=none)(hok:OK s.heap)(hn:n<=sizeLine)
  (h:∀(h':Heap) (tk:Nat) (acc:Array Value),s.heap.objs.size < h'.objs.size->(∀b o,s.heap.get? b=some o->h'.get? b=some o)->ItemsOf Pk acc n->R acc.toList {s with heap:=h',toks:=tk}):wpAny (!3) A (collect (.ref r)) R E s:=by
 have hlt:=Ks.there _ hok
 have push:∀b o,s.heap.get? b=some o->(s.heap.push {cls:=.type "list",data:=.seq ([]:List Value).toArray}).get? b=some o:=λb o e=>K6 _ e
 unfold collect
 refine JY (wpAny_runValue (codeAny_builtin entry_proto_collect' ?_))
 rw[Around.under_plainId PySem.F.plain_proto_collect _]
 show wpAny _ A.in1 (newList [] >>=λz=>again (.builtin "list.__iadd__" ⟨[z,.ref r],[]⟩)) _ _ s
 refine JY (Z7 (JJ ⟨plainId_quiet PySem.F.plain_list_iadd _,codeAny_builtin entry_list_iadd' ?_⟩))
 rw[Around.under_plainId PySem.F.plain_list_iadd _]
 have fin:∀(q:Result) (s':Shared),(∃(h':Heap) (tk:Nat) (acc:Array Value) (c:Nat),q= .ok (.ret (.ref s.heap.objs.size))/\s'={s with heap:=h',toks:=tk}/\(∀b o,s.heap.get? b=some o->h'.get? b=some o)/\
   h'.get? s.heap.objs.size=some {cls:=.type "list",dict:=none,data:=.seq acc c,slots:=#[]}/\ItemsOf Pk acc n)->∃(h':Heap) (tk:Nat) (acc:Array Value),q= .ok (.ret (.ref s.heap.objs.size))/\s'={s with heap:=h',toks:=tk}/\
   ∀{F:Z5},wpAny (!3) A (load s.heap.objs.size >>=λo=>match o.data with | .seq xs _=>pure xs.toList | _=>unsupported "internal:collect") R F s':=by
  rintro q s' ⟨h',tk,acc,c,rfl,rfl,hk,hS,hacc⟩
  exact⟨h',tk,acc,rfl,rfl,JY (wpAny_load hS (JJ (h h' tk acc (Kv hS) hk hacc)))⟩
 refine wpAny_mono (PySem.W.kdl_extend (A:=A) (s:={s with heap:=s.heap.push {cls:=.type "list",data:=.seq ([]:List Value).toArray}})
  (R:=λq s'=>∃(h':Heap) (tk:Nat) (acc:Array Value) (c:Nat),q= .ok (.ret (.ref s.heap.objs.size))/\s'={s with heap:=h',toks:=tk}/\(∀b o,s.heap.get? b=some o->h'.get? b=some o)/\
   h'.get? s.heap.objs.size=some {cls:=.type "list",dict:=none,data:=.seq acc c,slots:=#[]}/\ItemsOf Pk acc n)
  Ks hh (Ks.keep _ _ hok λb _ o e=>push b o e) s.heap.objs.size (UK hlt.1) (UK hlt.2) (.ref s.heap.objs.size) 0 (Ky _ rfl)
  (λh' tk acc c hk hS hacc=>⟨h',tk,acc,c,rfl,rfl,λb o e=>hk b o (X1 (Kv e)) (push b o e),hS,hacc⟩) hn) (λf s' x=> ?_) λe s' x=> ?_
 ·cases f with
  | done f=>
   obtain⟨h',tk,acc,e,rfl,hw⟩:=fin _ _ x
   cases e
   exact hw
  | again c=>
   refine⟨x.1,codeAny_mono x.2 λq s2 y=> ?_⟩
   obtain⟨h',tk,acc,rfl,rfl,hw⟩:=fin _ _ y
   exact hw
 ·obtain⟨_,_,_,_,e',_⟩:=x
  cases e'
theorem xV {d:Addr}{xs:List (Int×Value)}{Q:Z5}(hh:A.handled=none)(hD:s.heap.DictOf (intKind prog w) d xs)(lo:(d==sysModules)=false)(hn:xs.length<=sizeLine)
  (hQ:∀h' tk a (out:List Value) c,s.heap.objs.size<=a->h'.get? a=some {cls:=.type "list",data:=.seq out.toArray c}->IntsAre out (Y.vp (xs.map (·.1)))->(∀b o,b < s.heap.objs.size->s.heap.get? b=some o->h'.get? b=some o)->Q (.ref a) {s with heap:=h',toks:=tk}) :
  wpAny (!3) A (call (.builtin "sorted") [.ref d]) Q E s:=by
 obtain⟨ep,hat⟩:=hD.dictAt
 have hnd:=hat.nodup
 refine Calls.call_function_entry kind_sorted plain_sorted entry_sorted (args_sorted1 _) ?_
 unfold Builtin.«sorted»
 refine JY (m:=checkCount "sorted" 1 1 _) (JJ (JY (CC (A:=A.in1) (PySem.W.kdl_dict (knd:=intKind prog w) (kvs:=xs) (ep:=ep) lo) (show A.in1.handled=none by simp[hh]) hat hn λh1 tk acc hlt1 hk hacc=> ?_)))
 have hl:acc.toList.length=xs.length:=by rw[Kq];exact hacc.1
 have hI:IntsAre acc.toList (xs.map (·.1)):=by
  have key:∀(vs:List Value) (ys:List (Int×Value)),vs.length=ys.length->(∀(j:Nat) (v:Value),vs[j]? =some v->∃k x,ys[j]? =some (k,x)/\(intKind prog w).is k v=true)->IntsAre vs (ys.map (·.1)):=by
   intro vs
   induction vs with
   | nil=>intro ys hl _;cases ys with
    | nil=>exact .nil
    | cons y ys=>simp at hl
   | cons v vs ih=>
    intro ys hl hv
    cases ys with
    | nil=>simp at hl
    | cons y ys=>
     obtain⟨k,x,e,hi⟩:=hv 0 v rfl
     have e':y=(k,x):=by simpa using e
     obtain⟨t,et⟩:=Value.isInt_shape hi
     subst et
     rw[KJ,e']
     exact .cons k t (ih ys (by simpa using hl) λj u hu=>by simpa using hv (j+1) u (by simpa using hu))
  exact key _ _ hl λj v e=>hacc.2 j v (by rw[←Uu];exact e)
 refine JY (wpAny_newList ?_ (by rw[hl];exact hn))
 have hoL:(h1.push {cls:=.type "list",data:=.seq acc.toList.toArray}).get? h1.objs.size=some (seqObj "list" acc.toList.toArray 0):=Ky _ rfl
 refine JY (Z9 (Z8 slot_list_sort ⟨_,hoL,rfl⟩ entry_list_sort (E6 (s:={s with heap:=h1.push {cls:=.type "list",data:=.seq acc.toList.toArray},toks:=tk}) hoL hI hnd (by rw[hl];exact hn) λout ns' a1 a2 a3=>⟨_,rfl,?_⟩) (args_list_sort _)))
 obtain⟨c,hc⟩:=sortedHeap_at (out:=out) hoL
 have hns:ns'=Y.vp (xs.map (·.1)):=PySem.W.ksm_same (a2.trans (jr _).symm) a3 (pU _)
 subst hns
 have hge:s.heap.objs.size<=h1.objs.size:=YJ hlt1
 refine JJ ⟨_,rfl,hQ _ tk _ out.toList c hge (by simpa using hc) a1 λb o hb e=> ?_⟩
 have hb1:=hk b o e
 have hlt:=Kv hb1
 rw[sortedHeap_old (X1 hlt) (by rw[XX];exact UX hlt)]
 exact K6 _ hb1
end
end Ts
namespace Y
open PySem
def E7:PyData->Int
 | .int i=>i
 | _=>0
def pV:List PyData->Option PyData
 | [.dict kvs]=>if allI kvs=true then some (.list ((vp (kvs.map λp=>E7 p.1)).map PyData.int)) else none
 | _=>none
end Y
namespace L2
open PySem PySem.Spec PyProof.Rows Y
theorem Gb {K:Frag}{H:Hp}:∀{kvs:kZ} {ks:List (PyData×V×V)} {ys:List (Int×Value)},aR K H kvs ks->Paired qD ks ys->(kvs.map λp=>E7 p.1)=ys.map (·.1)
 | [],ks,ys,t,p=>by simp only[aR] at t;subst t;cases p;rfl
 | (k,d) :: r,ks,ys,t,p=>by
  simp only[aR] at t
  obtain⟨kv,v,q,rfl,h1,h2,h3⟩:=t
  cases p with
  | @cons _ y _ ys' hp pt=>
   rw[KJ,KJ,Gb h3 pt]
   have e:k= .int y.1:=hp.1
   rw[e];rfl
theorem se {K:Frag}{H:Hp}:∀(l:List Int),aw K H (l.map PyData.int) (l.map V.int)
 | []=>ba
 | i :: l=>aX rfl (se l)
section
variable {X:Cx}
def Ic (K:Frag):List V->Hp->VK->Prop:=λxs H Q=>∃q ks kvs,xs=[.ref q]/\Rd H q (.dct q ks)/\aR K H kvs ks.1/\allI kvs=true/\∀t,H t=none->Q (.ref t) (upd H t (.lst ((vp (kvs.map λp=>E7 p.1)).map V.int)))
theorem xX (hc:X.calm=true):hJ X (.builtin "sorted") (Ic X.K):=by
 intro pins s σ H xs us Q I rv h
 obtain⟨q,ks,kvs,rfl,hr,t,ht,fin⟩:=h
 obtain⟨u,rfl,ru⟩:=rv.one
 cases ru
 obtain⟨ys,hD,p,hs,hl⟩:=iH I hr t ht
 have hlen:ks.1.length=ys.length:=Paired.length p
 rw[Gb t p] at fin
 refine Ts.xV (I.ok.hd hc) hD hs (!1) λh' tk a out c hge hat hints hk=> ?_
 refine⟨.ref a,_,I.laid (t':=tk) (a:=a) (o:=.lst ((vp (ys.map (·.1))).map V.int)) (λb u e=>hk b u (Kv e) e) hge ⟨?_,out,c,rW hints,hat⟩,rfl,fin _ (I.hok.fresh hge)⟩
 rw[K4,(Ts.jr _).length_eq,K4];omega
theorem vM (hc:X.calm=true):CallD X (.builtin "sorted") pV:=⟨_,xX hc,λxs z us H Q e h q=>by
 match xs,e,h with
 | [.dict kvs],e,h=>
  simp only[pV] at e
  split at e
  ·rename_i ht
   cases e
   obtain⟨u,rfl,hu⟩:=dQ h
   obtain⟨a,ks,rfl,hr,t⟩:=cf hu
   exact⟨a,ks,kvs,rfl,hr,t,ht,λt' ht'=>q _ _ (Same.upd ht') (aQ.lst (aT _ (λ_=>rfl) _) ax (se _) ht')⟩
  ·cases e⟩
end
end L2
namespace Y
open PySem
end Y
namespace L2
open PySem PySem.Spec PyProof.Rows Y
section
variable {K:Frag}{B H:Hp}{φ:Nat->List Addr}{Γ:bf}{σ:St}
theorem Rep.inner {n m:Nat}{xs ys ys':List PyData}{l b:Addr}{vs ws ws':List V}{bs:List Addr}(r:Rep K B φ Γ σ H)(hv:σ[n]? =some (some (.ref l)))(hl:H l=some (.lst vs))(ht:ay K H xs vs bs)(hφ:φ n=l :: bs)
  (e2:xs[m]? =some (.list ys)) (e3:aq ys=true) (f1:vs[m]? =some (.ref b)) (f2:H b=some (.lst ws)) (hn:aq ys'=true) (hd:aw K (upd H b (.lst ws')) ys' ws') :
  ∃ψ,Rep K B ψ (Γ.set n (some (true,.list (xs.set m (.list ys'))))) σ (upd H b (.lst ws')):=by
 have nd:(l :: bs).Nodup:=hφ ▸ r.nd n
 obtain⟨NF,MS⟩:=KU.mp nd
 obtain⟨b',O3,g1,g2,g3,g4,g5⟩:=tF ht MS e2 e3
 have hbb:b'=b:=by rw[f1] at g1;cases g1;rfl
 subst hbb
 have hnl:l≠b':=λz=>NF (z ▸ g4)
 exact⟨_,r.chg (i:=n) (o':=.lst ws') (v:=.ref l) (as:=l :: bs) (by rw[hφ];exact K9 _ g4) f2 trivial hv (dz (by rw[aS hnl];exact hl) (g5 _ _ (aw.toT _ _ hn hd))) nd (λa ha=> .inl (by rw[hφ];exact ha)) trivial⟩
end
end L2
namespace Y
open PySem
def m7 (n:Nat)(fi:EF):SF:=λΓ=>match Γ[n]? with
 | some (some (true,.list xs))=>ap (fi Γ) λa=>ap (mo (o8 xs a.2)) λp=>ag (.nx (Γ.set n (some (true,.list (xs.set p.1 (.list []))))))
 | _=>none
end Y
namespace L2
open PySem PySem.Spec PyProof.Rows Y
section
variable {X:Cx}{K:Frag}{Ew:Str->Hp->Prop}{p1 p2 p apos cpos pos:Pos}{ie:Expr}{fi:EF}{nn:Str}
theorem CD {n:Nat}(vn:PE X (.Name nn p1) (kX n))(hi:DE X K Ew ie fi)(hpi:sM ie)(hK:X.K=K:=by rfl)
  (hbase:attributeBase (.Subscript (.Name nn p1) ie p2) "clear" X.env (eval (.Subscript (.Name nn p1) ie p2) X.env)=eval (.Subscript (.Name nn p1) ie p2) X.env:=by rfl) (hline:(apos.endLine==cpos.line)=true:=by rfl)
  (hsw:swapsWith (.Call (.Attribute (.Subscript (.Name nn p1) ie p2) "clear" apos) [] [] cpos) none pos.line X.env=pure false:=by rfl) :
  DS X K Ew (.Expr (.Call (.Attribute (.Subscript (.Name nn p1) ie p2) "clear" apos) [] [] cpos) pos) (m7 n fi) :=
 (kE (G9 PySem.F.plainAttrs_list PySem.F.slot_list_clear PySem.F.type_list_clear Bi (FV yC vn hi hpi) hbase hline) hsw).imp λD σ H q=>by
  subst hK
  obtain⟨B,φ,Γ,r,q⟩:=q
  unfold m7 at q
  match hg:Γ[n]?,q with
  | some (some (true,.list xs)),q=>
   obtain⟨v,hv,hT⟩:=r.own hg
   obtain⟨l,vs,bs,rfl,hl,ht,hφ⟩:=bD hT
   refine⟨.ref l,hv,B,φ,Γ,r,?_⟩
   match hm:fi Γ,q with
   | none,q=>cases q
   | some (.ex c),q=>exact .inr ⟨c,rfl,q⟩
   | some (.ok (k1,d1)),q=>
    refine .inl ⟨k1,d1,rfl,λw H2 sa hw=> ?_⟩
    have r2:=r.same sa
    cases hb:o8 xs d1 with
    | none=>simp only[ap,hb,mo] at q;exact False.elim q
    | some p=>
     obtain⟨i,rfl,e1,e2,e3⟩:=xB hb
     have:=aD (hw.toD r2.bs)
     subst this
     have nd:(l :: bs).Nodup:=hφ ▸ r.nd n
     obtain⟨NF,MS⟩:=KU.mp nd
     obtain⟨b,ws,f1,f2,f3,f4,f5⟩:=tF (ay.same sa _ _ _ ht) MS e2 e3
     have lv:vs.length=xs.length:=bG ht
     refine⟨l,vs,i,.ref b,rfl,rfl,fU.of (sa _ _ hl),?_,.inl ⟨rfl,ws,fU.of f2⟩,b,ws,rfl,rfl,f2,?_⟩
     ·show(nu vs.length i).bind _=_
      rw[lv]
      have e1':L2.nu xs.length i=some p.1:=e1
      rw[e1']
      exact f1
     simp only[ap,hb,mo,ag,Uy] at q
     obtain⟨ψ,r6⟩:=r2.inner (m:=p.1) (ys:=p.2) (ys':=[]) (ws':=[]) hv (sa _ _ hl) (ay.same sa _ _ _ ht) hφ e2 e3 f1 f2 rfl ba
     exact q B ψ σ _ (Same.refl B) r6
  | some (some (true,.none)),q|some (some (true,.bool _)),q|some (some (true,.int _)),q|some (some (true,.str _)),q|some (some (true,.tuple _)),q|some (some (true,.dict _)),q|some (some (false,_)),q|some none,q|none,q=>cases q
end
theorem OM {P:List Value->Prop}(h:P [])(us:List Value)(hl:us.length=0):P us:=Yz.mp hl ▸ h
theorem LC {n:Nat}{P:List Value->Prop}(h:∀a us,us.length=n->P (a :: us))(us:List Value)(hl:us.length=n+1):P us:=by
 cases us with
 | nil=>cases hl
 | cons a us=>exact h a us (Nat.succ.inj hl)
theorem Gc {P:List Value->Prop}(h:∀a,P [a]):∀us:List Value,us.length=1->P us:=LC λa=>OM (P:=λl=>P (a :: l)) (h a)
theorem Az {P:List Value->Prop}(h:∀a b,P [a,b]):∀us:List Value,us.length=2->P us:=LC λa=>Gc (P:=λl=>P (a :: l)) (h a)
theorem A3 {P:List Value->Prop}(h:∀a b c,P [a,b,c]):∀us:List Value,us.length=3->P us:=LC λa=>Az (P:=λl=>P (a :: l)) (h a)
theorem NG {P:List Value->Prop}(h:∀a b c d,P [a,b,c,d]):∀us:List Value,us.length=4->P us:=LC λa=>A3 (P:=λl=>P (a :: l)) (h a)
structure FI where
 n:Str
 s:Stmt
 ps:List Str
structure Fx (K:Frag)(mg:Str->Option Value)(i:FI)(f:Addr)(d:FuncData):Prop where
 F:Dy K i.n i.n i.s f d
 m:mg i.n=some (.ref f)
 b:Binds K d i.ps []
def FX (K:Frag)(n:Str)(s:Stmt):Prop:=∃(f:Addr) (oc:Value) (od:Option Addr) (kV dc pm:Value) (an:Option Addr) (cd ct:Value) (sl:Array (Option Value)),
 nsIn K mainGlobals n=some (some (.ref f))/\K.lookup f=some ⟨oc,od,.func (fnOf n n (jx s) (ee s) (ai s) .none kV dc pm an cd ct),sl⟩/\codeIn K cd n=true/\keepIn K (.ref f)=true
theorem FX.mk {K:Frag}{n:Str}{s:Stmt}{f:Addr}{oc:Value}{od:Option Addr}{kV dc pm:Value}{an:Option Addr}{cd ct:Value}{sl:Array (Option Value)}(a:nsIn K mainGlobals n=some (some (.ref f)))
  (l:K.lookup f=some ⟨oc,od,.func (fnOf n n (jx s) (ee s) (ai s) .none kV dc pm an cd ct),sl⟩) (c:codeIn K cd n=true) (k:keepIn K (.ref f)=true):FX K n s:=⟨f,oc,od,kV,dc,pm,an,cd,ct,sl,a,l,c,k⟩
def Ex (K:Frag)(mg:Str->Option Value)(i:FI):Prop:=∃f d,Fx K mg i f d
theorem FX.ex {K:Frag}{mg:Str->Option Value}{h:Heap}{i:FI}(X:K.In h)(G:h.Ns mainGlobals mg)(x:FX K i.n i.s)
  (hb:∀(kV dc pm:Value) (an:Option Addr) (cd ct:Value) (us:List Value),us.length=i.ps.length->bindArgs (fnOf i.n i.n (jx i.s) (ee i.s) (ai i.s) .none kV dc pm an cd ct) ⟨us,[]⟩=pure (i.ps.zip us)):Ex K mg i:=by
 obtain⟨f,oc,od,kV,dc,pm,an,cd,ct,sl,e1,e2,e3,e4⟩:=x
 have F:=Hd e2 e3 e4
 exact⟨f,_,F,mg_of X G e1,F.binds hb⟩
theorem Fx.uniq {K:Frag}{mg:Str->Option Value}{i:FI}{f f':Addr}{d d':FuncData}(x:Fx K mg i f d)(y:Fx K mg i f' d'):f=f'/\d=d':=by
 cases x.m.symm.trans y.m
 obtain⟨_,_,_,_,_,_,_,_,_,_,e,_⟩:=x.F.ex
 obtain⟨_,_,_,_,_,_,_,_,_,_,e',_⟩:=y.F.ex
 cases e.symm.trans e'
 exact⟨rfl,rfl⟩
def Gx (P:Program)(w:World)(K:Frag)(mg:Str->Option Value)(base:Heap)(k:Nat)(i:FI)(sp:Sp):Prop:=∃f d,Fx K mg i f d/\jb P w K mg base yF k f d i.ps sp
section
variable {P:Program}{w:World}{K:Frag}{mg:Str->Option Value}{base:Heap}{i:FI}{N:List Str}
theorem lF (k n m:Nat){fb:SF}(hn:N.length=n)(hm:i.ps.length=m)(x:Ex K mg i)(S:aK N i.ps (ai i.s))
  (hbody:∀(f:Addr) (cdv:Value) (A:Around) (outer:List Env) (s:Shared) (H:Hp) (E:XK),dM k (A.deeper (envOfC i.n (ai i.s) s.heap.objs.size f cdv))->(A.deeper (envOfC i.n (ai i.s) s.heap.objs.size f cdv)).units+80 < cLine->
   zT (qG yF P w K mg base N i.n (ai i.s) f cdv A outer s H E).A1 K (λ_ _=>False) (ee i.s) fb):Gx P w K mg base (k+1) i (jv K m (cF n fb)):=by
 obtain⟨f,d,x⟩:=x
 exact⟨f,d,x,Mq k n m hn hm x.F S λcdv A outer s H E hr=>hbody f cdv A outer s H E hr hr.yL⟩
end
section
variable {X:Cx}{K:Frag}{Ew:Str->Hp->Prop}{e:Expr}{es:List Expr}{pos:Pos}
theorem aA {n k k':Nat}{F:FF}{i:FI}{p:Pos}{zW:List EF}(G:Gx X.prog X.w X.K X.mg X.base k i (jv K n F))(hr:dM k' X.A)(ha:DA X K Ew (e :: es) zW)(hk:k<=k':=by decide)(hg:Gl X i.n:=by rfl)
  (hn:zW.length=n:=by rfl) (hE:∀c H,¬ Ew c H:=by exact λ_ _ h=>h) (hdb:(i.n==("__debug__":Str))=false:=by decide) (he:starEach (e :: es) X.env=(false,eval e X.env) :: starEach es X.env:=by rfl) (hpl:(backTo pos (starEach es X.env)).any (·.1)=false:=by rfl) :
  DE X K Ew (.Call (.Name i.n p) (e :: es) [] pos) (aJ F zW):=by
 obtain⟨f,d,x,g⟩:=G
 exact Ec g (hr.mono hk) hg x.m x.F.kp x.b (E:=E0) FW ha hn hE hdb he hpl
end
end L2
namespace K31
open PySem Y
def jJ:SF :=
 (aE 0 (bp gq (eV 0) (eC (.int 2147483648))))
def jK:SF :=
 (aB (ja (tE (bp Lx (eV 0) (bp xn (eC (.int 10)) (eC (.int 12)))))
 (aB (aE 0 (bp qE (bp gq (eV 0) (bp xn (eC (.int 10)) (eC (.int 12)))) (eC (.int 1))))
 (aB (bx (eK (bp gE (eV 1) (eC (.int 61)))) (bY 2)
 jJ)
 (bZ (bp gE (eV 0) (eC (.int 2147483648))))))
 cB)
 (aB (aE 3 (bp gE (bp qJ (bp gL (bp gL (bp gE (eV 0) (eC (.int 1000003))) (bp qJ (bp qJ (eV 1) (eV 1)) (eC (.int 7919)))) (eV 1)) (eC (.int 48271))) (eC (.int 2147483629))))
 (aB (aE 3 (bp gE (bp qJ (eV 3) (eV 3)) (eC (.int 2147483587))))
 (bZ (bp gq (bp gE (bp qJ (eV 3) (bp gL (eV 3) (eC (.int 2)))) (eC (.int 2147483579))) (eC (.int 7)))))))
def dh:FF:=cF 4 jK
def pX:SF :=
 (ja (tE (bp zM (eV 2) (eV 3)))
 (iW 1 (iU [(eV 2),(eV 3)]))
 cB)
def pY:SF :=
 (bx (eK (eV 0)) (bY 3)
 pX)
def ml:SF :=
 (aB (aE 1 (cm []))
 (aB (bx (eK (eV 0)) (bY 2)
 pY)
 (bZ (eV 1))))
def jL:FF:=cF 4 ml
def dD:SF :=
 (aB (ja (tE (bp uQ (bp gE (eV 0) (eC (.int 3))) (eC (.int 0))))
 (iW 2 (eV 3))
 cB)
 (aE 0 (bp gq (eV 0) (eC (.int 3)))))
def im:SF :=
 (aB (aE 2 (cm []))
 (aB (bx (ny (aJ jL [(eV 1)])) (bY 3)
 dD)
 (bZ (iF eZ [(eV 2)]))))
def di:FF:=cF 4 im
def fq:SF :=
 (aB (ja (tE (bp IP (eV 1) (iF hX [(eV 0)])))
 (bZ (kF j0 (eV 0) (eV 1)))
 cB)
 (bZ (eC (.int 0))))
def aF:FF:=cF 2 fq
def cJ:SF :=
 (aB (aE 5 (aJ dh [(aJ aF [(eV 0),(bp gL (eC (.int 2)) (eV 4))]),(bp gL (eC (.int 20)) (eV 4))]))
 (aB (aE 6 (aJ di [(eV 5),(eV 1)]))
 (aB (ja (tE (bp uQ (bp gE (bp gq (eV 5) (eC (.int 600000))) (eC (.int 3))) (eC (.int 1))))
 (aE 6 (Ls (eV 6) none (some (eC (.int 1)))))
 cB)
 (ja (rf (tE (bp eY (eV 6) (eV 3))) (tE (bp IP (iF hX [(eV 3)]) (eV 2))))
 (iW 3 (eV 6))
 cB))))
def ki:SF :=
 (aB (aE 3 (cm []))
 (aB (ja (tE (bp uQ (bp gE (aJ aF [(eV 0),(eC (.int 1))]) (eC (.int 2))) (eC (.int 1))))
 (iW 3 (iU []))
 cB)
 (aB (bx (eK (eV 2)) (bY 4)
 cJ)
 (bZ (eV 3)))))
def kj:FF:=cF 7 ki
def fX:SF :=
 (aB (aE 1 (bp gE (aJ aF [(eV 0),(eC (.int 5))]) (bp xn (eC (.int 10)) (eC (.int 60)))))
 (aB (aE 2 (bp gL (bp gL (eV 1) (eC (.int 1))) (bp gE (aJ aF [(eV 0),(eC (.int 6))]) (eC (.int 5)))))
 (aB (ja (tE (bp uQ (bp gE (aJ aF [(eV 0),(eC (.int 7))]) (eC (.int 2))) (eC (.int 1))))
 (aE 2 (bp qE (Bn D4 (eC (.int 1))) (bp gE (aJ aF [(eV 0),(eC (.int 6))]) (bp xn (eC (.int 10)) (eC (.int 59))))))
 cB)
 (bZ (cm [(bp gq (eV 1) (eC (.int 10))),(bp qE (bp gq (eV 2) (eC (.int 10))) (eC (.int 1))),(bp gL (eC (.int 7)) (bp gq (eV 1) (eC (.int 10))))])))))
def cK:FF:=cF 3 fX
def bo:EF :=
 (kF j0 (eV 1) (bp gE (bp gE (bp gq (eV 2) (kF j0 (cm [(eC (.int 1)),(eC (.int 4)),(eC (.int 16)),(eC (.int 64))]) (eV 0))) (eC (.int 4))) (eC (.int 3))))
def bT:SF :=
 (aB (aE 6 (aJ dh [(aJ aF [(eV 0),(bp gL (eC (.int 8)) (eV 5))]),(bp gL (eC (.int 300)) (eV 5))]))
 (aB (aE 7 (iF eZ [(cp (eK (eV 1)) [3,6] dN bo)]))
 (ja (tE (bp eY (eV 7) (eV 4)))
 (iW 4 (eV 7))
 cB)))
def i6:SF :=
 (aB (aE 3 (aJ cK [(eV 0)]))
 (aB (aE 4 (cm []))
 (aB (bx (eK (eV 2)) (bY 5)
 bT)
 (bZ (eV 4)))))
def i7:FF:=cF 8 i6
def kl:SF :=
 (aB (aE 1 (bp gL (eC (.int 2)) (bp gE (aJ aF [(eV 0),(eC (.int 0))]) (eC (.int 3)))))
 (aB (aE 2 (kF j0 (cm [(eC (.int 3)),(eC (.int 3)),(eC (.int 2))]) (bp qE (eV 1) (eC (.int 2)))))
 (aB (aE 3 (bp gE (bp gq (aJ aF [(eV 0),(eC (.int 0))]) (eC (.int 3))) (kF j0 (cm [(eC (.int 4)),(eC (.int 3)),(eC (.int 3))]) (bp qE (eV 1) (eC (.int 2))))))
 (aB (aE 4 (aJ kj [(eV 0),(eV 1),(eV 2)]))
 (aB (aE 5 (aJ i7 [(eV 0),(eV 1),(bp gL (eC (.int 1)) (bp gE (bp gq (aJ aF [(eV 0),(eC (.int 7))]) (eC (.int 2))) (eC (.int 6))))]))
 (bZ (iU [(eV 1),(eV 4),(eV 3),(eV 5)])))))))
def dk:FF:=cF 6 kl
def fY:SF :=
 (iW 5 (bp gL (eV 6) (iU [(eV 7)])))
def cL:SF :=
 (bx (ny (eV 0)) (bY 7)
 fY)
def dS:SF :=
 (aB (aE 5 (cm []))
 (aB (bx (ny (eV 3)) (bY 6)
 cL)
 (xq 3 5)))
def cM:SF :=
 (iW 8 (iU [(eV 9),(eV 6)]))
def dU:SF :=
 (bx (ny (eV 3)) (bY 6)
 cM)
def km:SF :=
 (aB (aE 3 (cm [(iU [])]))
 (aB (bx (eK (eV 1)) (bY 4)
 dS)
 (aB (aE 8 (cm []))
 (aB (bx (ny (eV 2)) (bY 9)
 dU)
 (bZ (eV 8))))))
def gz:FF:=cF 10 km
def fu:EF :=
 (kF j0 (eV 1) (eV 0))
def bw:SF :=
 (ja (tE (bp IQ (kF j0 (eV 2) (eV 7)) (eV 6)))
 (aB (zR 2 (eV 7) (eV 6))
 (aE 3 (eC (.bool true))))
 cB)
def dm:SF :=
 (aB (aE 6 (iF rP [(cp (ny (eV 5)) [2] dN fu)]))
 (bx (ny (eV 5)) (bY 7)
 bw))
def dq:SF :=
 (aB (aE 3 (eC (.bool false)))
 (bx (tS (eV 1)) (jy [4,5])
 dm))
def ip:TF :=
 (tE (eV 3))
def iq:TF :=
 (tE (bp uQ (kF j0 (eV 2) (eV 0)) (eV 1)))
def iu:EF :=
 (eV 0)
def cr:SF :=
 (ja (tE (bp uQ (kF j0 (eV 2) (eV 9)) (eV 9)))
 (iW 8 (cp (eK (eV 0)) [9,2] iq iu))
 cB)
def jM:SF :=
 (aB (aE 2 (Bn pD (eV 0)))
 (aB (aE 3 (eC (.bool true)))
 (aB (oS uS ip
 dq)
 (aB (aE 8 (cm []))
 (aB (bx (eK (eV 0)) (bY 9)
 cr)
 (bZ (eV 8)))))))
def fw:FF:=cF 10 jM
def fO:SF :=
 (Ab 1 (eV 4) 2)
def cu:SF :=
 (bx (ny (eV 3)) (bY 4)
 fO)
def iy:SF :=
 (aB (aE 1 lO)
 (aB (bx (jH (eV 0)) (jy [2,3])
 cu)
 (bZ (eV 1))))
def fx:FF:=cF 5 iy
def cE:EF :=
 (iU [(eV 1),(eV 0)])
def a8:SF :=
 (ja (tE (bp e7 (eV 5) (eV 2)))
 (aB (oT 2 (eV 5) (eC (.bool true)))
 (xt 3 (cp (ny (kF D7 (eV 1) (eV 5))) [4] dN cE)))
 cB)
def cb:SF :=
 (aB (aE 3 (cm []))
 (aB (bx (jH (eV 0)) (jy [4,5])
 a8)
 cB))
def cc:=runIO 6 3 cb
def bH:SF :=
 (ja (tE (bp e7 (eV 9) (eV 3)))
 (aB (rh 3 (eV 9) (iU [(eV 8),(eV 7)]))
 (iW 6 (eV 9)))
 cB)
def cN:SF :=
 (y6 4 cc (kF j0 (eV 0) (eV 7)) (eV 1) (jy [8,9])
 bH)
def dX:SF :=
 (aB (aE 6 (cm []))
 (aB (bx (ny (eV 5)) (bY 7)
 cN)
 (xq 5 6)))
def fZ:TF :=
 (tE (bp IQ (iF hX [(eV 5)]) (eC (.int 0))))
def kn:SF :=
 (aB (aE 3 (uW (eV 2) (eC .none)))
 (aB (aE 4 lO)
 (aB (aE 5 (cm [(eV 2)]))
 (aB (oS uS fZ
 dX)
 (bZ (eV 3))))))
def ko:FF:=cF 10 kn
def bK:SF :=
 (ja (tE (bp e7 (eV 4) (eV 2)))
 (aB (aE 5 (aJ ko [(eV 0),(eV 1),(eV 4)]))
 (aB (rg 2 (eV 5))
 (iW 3 (iF pV [(eV 5)]))))
 cB)
def iz:SF :=
 (aB (aE 1 (aJ fx [(eV 0)]))
 (aB (aE 2 lO)
 (aB (aE 3 (cm []))
 (aB (bx (eK (iF hX [(eV 0)])) (bY 4)
 bK)
 (bZ (eV 3))))))
def iA:FF:=cF 6 iz
def iK:TF :=
 (rf (tE (bp zM (eV 0) (eV 1))) (tE (bp eY (iU [(eV 0),(eV 1)]) (eV 2))))
def kq:EF :=
 (eV 0)
def m8:SF :=
 (bZ (iF eZ [(cp (eK (eV 0)) [2,1] iK kq)]))
def kP:FF:=cF 3 m8
def cV:EF :=
 (JO (tE (bp Hh (eV 0) (eV 1))) (aJ kP [(eV 2),(eV 3),(eV 0)]) (eC .none))
def gH:SF :=
 (bZ (iF eZ [(cp (eK (eV 0)) [2,0,1] dN cV)]))
def eB:FF:=cF 3 gH
def cW:SF :=
 (ja (tE (bp sT (eV 3) (eC .none)))
 (xt 2 (eV 3))
 cB)
def gI:SF :=
 (aB (aE 2 (iF j8 [(eV 0)]))
 (aB (bx (ny (eV 1)) (bY 3)
 cW)
 (bZ (Bn ka (eV 2)))))
def eD:FF:=cF 4 gI
def pZ:SF :=
 (aB (aE 7 (aJ eB [(eV 3),(eV 6),(eV 4)]))
 (aB (iW 5 (eV 7))
 (aE 4 (aJ eD [(eV 4),(eV 7)]))))
def mm:EF :=
 (JO (tE (bp Hh (eV 0) (eV 1))) (kF j0 (eV 2) (eV 0)) (eC .none))
def xY:SF :=
 (aB (aE 2 (kF j0 (eV 0) (eC (.int 0))))
 (aB (aE 3 (iF hX [(eV 2)]))
 (aB (aE 4 (cm [(eV 1)]))
 (aB (aE 5 (cm []))
 (aB (bx (Bq (kF j0 (eV 0) (eC (.int 1)))) (bY 6)
 pZ)
 (aB (aE 8 (cp (eK (eV 3)) [4,2] dN mm))
 (bZ (iU [(eV 1),(iF eZ [(eV 8)]),(Bn uT (eV 5))]))))))))
def p0:FF:=cF 9 xY
def jN:EF :=
 (aJ p0 [(eV 1),(eV 0)])
def lG:SF :=
 (bZ (cp (eK (eV 0)) [1] dN jN))
def jO:FF:=cF 2 lG
def fP:EF :=
 (aJ jO [(eV 1),(eV 0)])
def iB:SF :=
 (bZ (cp (ny (eV 1)) [0] dN fP))
def fy:FF:=cF 2 iB
def i8:SF :=
 (aE 2 (bp qJ (eV 2) (iF hX [(eV 0)])))
def kr:SF :=
 (aB (aE 2 (eC (.int 1)))
 (aB (bx (eK (eV 1)) (bY 3)
 i8)
 (bZ (eV 2))))
def gA:FF:=cF 4 kr
def kt:SF :=
 (bZ (bp qJ (iF hX [(eV 2)]) (aJ gA [(eV 0),(eV 1)])))
def gB:FF:=cF 3 kt
def lH:SF :=
 (aB (iW 3 (kF j0 (eV 0) (bp gE (eV 4) (iF hX [(eV 0)]))))
 (aE 4 (bp gq (eV 4) (iF hX [(eV 0)]))))
def p5:SF :=
 (aB (aE 3 (cm []))
 (aB (xq 4 2)
 (aB (bx (eK (eV 1)) (bY 5)
 lH)
 (bZ (Bn uT (eV 3))))))
def mn:FF:=cF 6 p5
def p6:SF :=
 (aB (aE 4 (aJ gA [(eV 0),(eV 1)]))
 (bZ (iU [(kF j0 (eV 2) (bp gq (eV 3) (eV 4))),(aJ mn [(eV 0),(eV 1),(bp gE (eV 3) (eV 4))])])))
def mq:FF:=cF 5 p6
def gR:EF :=
 (aJ mq [(eV 1),(eV 2),(eV 3),(eV 0)])
def lI:SF :=
 (aB (aE 3 (aJ gB [(eV 0),(eV 1),(eV 2)]))
 (aB (ja (tE (bp IQ (eV 3) (eC (.int 3000))))
 Bp
 cB)
 (bZ (cp (eK (eV 3)) [0,1,2] dN gR))))
def jP:FF:=cF 4 lI
def t7:SF :=
 (bZ (aJ iA [(aJ fy [(eV 0),(aJ jP [(eV 1),(eV 2),(eV 3)])])]))
def kQ:FF:=cF 4 t7
def cv:SF :=
 (ja (rf (tE (bp zM (eV 4) (eV 2))) (tE (bp eY (iU [(eV 4),(eV 2)]) (eV 1))))
 (iW 3 (eV 4))
 cB)
def iC:SF :=
 (aB (aE 3 (cm []))
 (aB (bx (eK (eV 0)) (bY 4)
 cv)
 (bZ (iF eZ [(eV 3)]))))
def du:FF:=cF 5 iC
def f6:EF :=
 (uW (iU [(eV 0),(eC (.int 0))]) (eC (.bool true)))
def f7:SF :=
 (rg 8 (kF j0 (eV 3) (eV 9)))
def f9:SF :=
 (aB (aE 8 (iF oq [(kF j0 (eV 3) (eV 7))]))
 (aB (bx (ny (aJ du [(eV 2),(eV 5),(eV 7)])) (bY 9)
 f7)
 (aB (rh 8 (iU [(eV 7),(bp gL (eV 4) (eC (.int 1)))]) (eC (.bool true)))
 (iW 6 (eV 8)))))
def f_:SF :=
 (aB (aE 6 (cm []))
 (aB (bx (eK (eV 2)) (bY 7)
 f9)
 (xq 3 6)))
def dY:SF :=
 (ja (tE (bp uV (iU [(eV 7),(eC (.int 0))]) (kF j0 (eV 3) (eV 1))))
 (zR 10 (eV 7) (kF j0 (kF j0 (eV 0) (eC (.int 0))) (eV 7)))
 cB)
def dZ:SF :=
 (ja (tE (bp uV (iU [(eV 7),(bp gL (eV 4) (eC (.int 1)))]) (kF j0 (eV 3) (eV 1))))
 (zR 12 (eV 7) (aJ du [(eV 2),(eV 5),(eV 7)]))
 cB)
def gc:SF :=
 (aB (aE 12 (D5 (cm [(eC .none)]) (eV 2)))
 (aB (bx (eK (eV 2)) (bY 7)
 dZ)
 (iW 11 (iF eZ [(eV 12)]))))
def ku:SF :=
 (aB (aE 2 (iF hX [(kF j0 (eV 0) (eC (.int 0)))]))
 (aB (aE 3 (cp (eK (eV 2)) [] dN f6))
 (aB (bx (sV (kF j0 (eV 0) (eC (.int 1)))) (jy [4,5])
 f_)
 (aB (aE 10 (D5 (cm [(eC .none)]) (eV 2)))
 (aB (aE 11 (cm []))
 (aB (bx (eK (eV 2)) (bY 7)
 dY)
 (aB (bx (sV (kF j0 (eV 0) (eC (.int 1)))) (jy [4,5])
 gc)
 (bZ (iU [(eV 1),(iF eZ [(eV 10)]),(iF eZ [(eV 11)])])))))))))
def gC:FF:=cF 13 ku
def eE:SF :=
 (Ab 2 (aJ gC [(eV 4),(eV 5)]) 3)
def bU:SF :=
 (bx (eK (eV 0)) (bY 5)
 eE)
def i9:SF :=
 (aB (aE 2 lO)
 (aB (bx (jH (eV 1)) (jy [3,4])
 bU)
 (bZ (eV 2))))
def d_:FF:=cF 6 i9
def jQ:SF :=
 (bZ (Hg (uR "int" (eV 0)) (Bo (uR "bool" (eV 0)))))
def gS:FF:=cF 1 jQ
def dv:SF :=
 (ja (lN (tE (aJ gS [(eV 3)])))
 (bZ (eC (.bool false)))
 cB)
def cw:SF :=
 (aB (ja (lN (tE (uR "list" (eV 2))))
 (bZ (eC (.bool false)))
 cB)
 (bx (ny (eV 2)) (bY 3)
 dv))
def jR:SF :=
 (aB (ja (zL (lN (tE (uR "list" (eV 0)))) (tE (bp zM (iF hX [(eV 0)]) (iF hX [(eV 1)]))))
 (bZ (eC (.bool false)))
 cB)
 (aB (bx (ny (eV 0)) (bY 2)
 cw)
 (bZ (bp uQ (eV 0) (eV 1)))))
def gT:FF:=cF 4 jR
def CF:SF :=
 (aB (zQ (jy [1,2,3,4]) (aJ dk [(eV 0)]))
 (aB (aE 5 (aJ gz [(eV 2),(eV 3),(eV 4)]))
 (aB (aE 6 (aJ fw [(iF hX [(eV 5)]),(aJ d_ [(eV 1),(eV 5)])]))
 (aB (aE 7 (cm [(iF j8 [(eV 2)]),(iF j8 [(eV 4)])]))
 (aB (aE 8 (aJ kQ [(eV 1),(kF j0 (eV 7) (eC (.int 0))),(eV 3),(kF j0 (eV 7) (eC (.int 1)))]))
 (aB (ja (zL (lN (tE (aJ gT [(eV 8),(eV 6)]))) (tE (bp zM (eV 7) (cm [(eV 2),(eV 4)]))))
 (bZ (eC (.bool false)))
 cB)
 (aB (m7 8 (eC (.int 0)))
 (bZ (bp uQ (aJ kQ [(eV 1),(kF j0 (eV 7) (eC (.int 0))),(eV 3),(kF j0 (eV 7) (eC (.int 1)))]) (eV 6))))))))))
def p7:FF:=cF 9 CF
end K31
namespace K31
open PySem L2 Y
def top (i:Nat):Stmt:=PySem.Challenge.pw_losspact_k31_parts.main.body.getD i (.Pass ⟨0,0,0,0⟩)
abbrev iL:FI:=⟨"many_rows",top 5,["things","length"]⟩
theorem gU:aK ["things","length","many","place"] iL.ps (ai iL.s):=(!0)
abbrev mr:FI:=⟨"row_at",top 6,["things","length","number"]⟩
theorem jt:aK ["things","length","number","row","rest","place"] mr.ps (ai mr.s):=(!0)
abbrev iM:FI:=⟨"many_runs",top 7,["road","rounds","starts"]⟩
theorem t8:aK ["road","rounds","starts"] iM.ps (ai iM.s):=(!0)
abbrev mw:FI:=⟨"run_at",top 8,["road","rounds","starts","number"]⟩
theorem sf:aK ["road","rounds","starts","number","many"] mw.ps (ai mw.s):=(!0)
abbrev fQ:FI:=⟨"all_runs",top 9,["road","rounds","starts"]⟩
theorem nJ:aK ["road","rounds","starts","many"] fQ.ps (ai fQ.s):=(!0)
abbrev g9:FI:=⟨"came_to",top 11,["hands","weather","hand"]⟩
theorem xZ:aK ["hands","weather","hand"] g9.ps (ai g9.s):=(!0)
abbrev m9:FI:=⟨"view",top 12,["run","hand"]⟩
theorem gV:aK ["run","hand","values","hands","heard","came","weather","came_here","seen_values"] m9.ps (ai m9.s):=(!0)
abbrev bV:FI:=⟨"came_to_heard",top 13,["hands","weather","heard"]⟩
theorem m_:aK ["hands","weather","heard"] bV.ps (ai bV.s):=(!0)
abbrev eG:FI:=⟨"heard_earlier",top 14,["heard","came_here"]⟩
theorem fR:aK ["heard","came_here","earlier","starts"] eG.ps (ai eG.s):=(!0)
abbrev oD:FI:=⟨"parts",top 16,["hands","road","rounds","starts"]⟩
theorem CG:aK ["hands","road","rounds","starts"] oD.ps (ai oD.s):=(!0)
abbrev cx:FI:=⟨"views_of_all",top 17,["hands","runs"]⟩
theorem nQ:aK ["hands","runs"] cx.ps (ai cx.s):=(!0)
abbrev fS:FI:=⟨"views_in",top 18,["hands","run"]⟩
theorem vN:aK ["hands","run"] fS.ps (ai fS.s):=(!0)
abbrev fz:FI:=⟨"runs_by_view",top 19,["seen"]⟩
theorem cG:aK ["seen","sharing","number","views","one_view"] fz.ps (ai fz.s):=(!0)
abbrev fB:FI:=⟨"joined_parts",top 20,["seen"]⟩
theorem bW:aK ["seen","sharing","placed","told","number","ways"] fB.ps (ai fB.s):=(!0)
abbrev iN:FI:=⟨"ways_from",top 21,["seen","sharing","first"]⟩
theorem bF:aK ["seen","sharing","first","ways","walked","wave","further","ahead","hand","number"] iN.ps (ai iN.s):=(!0)
abbrev bh:FI:=⟨"steps_by_new_views",top 22,["views","sharing","walked"]⟩
theorem bM:aK ["views","sharing","walked","steps","hand","one_view"] bh.ps (ai bh.s):=(!0)
abbrev fC:FI:=⟨"_law_cell_at",top 24,["_law_script","_law_k"]⟩
theorem nU:aK ["_law_script","_law_k"] fC.ps (ai fC.s):=(!0)
abbrev jS:FI:=⟨"_law_mix",top 25,["_law_cell","_law_k"]⟩
theorem eS:aK ["_law_cell","_law_k","_law_turn","_law_number"] jS.ps (ai jS.s):=(!0)
abbrev gX:FI:=⟨"_law_whole",top 26,["_law_found"]⟩
theorem qM:aK ["_law_found"] gX.ps (ai gX.s):=(!0)
abbrev gY:FI:=⟨"_law_pairs",top 27,["_law_hands"]⟩
theorem gg:aK ["_law_hands","_law_found","_law_start","_law_goal"] gY.ps (ai gY.s):=(!0)
abbrev fE:FI:=⟨"_law_weather",top 28,["_law_number","_law_hands"]⟩
theorem eH:aK ["_law_number","_law_hands","_law_lost","_law_pair"] fE.ps (ai fE.s):=(!0)
abbrev iO:FI:=⟨"_law_road",top 29,["_law_script","_law_hands","_law_many"]⟩
theorem dE:aK ["_law_script","_law_hands","_law_many","_law_road_here","_law_k","_law_drawn","_law_weather_here"] iO.ps (ai iO.s):=(!0)
abbrev gh:FI:=⟨"_law_values",top 30,["_law_script"]⟩
theorem fF:aK ["_law_script","_law_one","_law_other"] gh.ps (ai gh.s):=(!0)
abbrev cO:FI:=⟨"_law_starts",top 31,["_law_script","_law_hands","_law_many"]⟩
theorem cy:aK ["_law_script","_law_hands","_law_many","_law_values_here","_law_starts_here","_law_k","_law_number","_law_start"] cO.ps (ai cO.s):=(!0)
abbrev iP:FI:=⟨"_law_case",top 32,["_law_script"]⟩
theorem dF:aK ["_law_script","_law_hands","_law_many","_law_rounds","_law_road_here","_law_starts_here"] iP.ps (ai iP.s):=(!0)
abbrev iQ:FI:=⟨"_law_runs",top 33,["_law_road_here","_law_rounds","_law_starts_here"]⟩
theorem bu:aK ["_law_road_here","_law_rounds","_law_starts_here","_law_rows","_law_k","_law_longer","_law_row","_law_weather_here","_law_found","_law_start"] iQ.ps (ai iQ.s):=(!0)
abbrev fG:FI:=⟨"_law_senders",top 34,["_law_hands","_law_weather_here","_law_hand"]⟩
theorem gJ:aK ["_law_hands","_law_weather_here","_law_hand","_law_found","_law_other"] fG.ps (ai fG.s):=(!0)
abbrev eT:FI:=⟨"_law_view",top 35,["_law_run","_law_hand"]⟩
theorem aO:aK ["_law_run","_law_hand","_law_hands","_law_known","_law_k","_law_weather_here","_law_after","_law_other","_law_some","_law_start","_law_values_here","_law_came","_law_row"] eT.ps (ai eT.s):=(!0)
abbrev gj:FI:=⟨"_law_groups",top 36,["_law_hands","_law_runs_here"]⟩
theorem dw:aK ["_law_hands","_law_runs_here","_law_groups_here","_law_number","_law_run","_law_hand"] gj.ps (ai gj.s):=(!0)
abbrev ce:FI:=⟨"_law_parts",top 37,["_law_many","_law_groups_here"]⟩
theorem bb:aK ["_law_many","_law_groups_here","_law_names","_law_busy","_law_seen","_law_group","_law_least","_law_number","_law_found","_law_name"] ce.ps (ai ce.s):=(!0)
abbrev gZ:FI:=⟨"_law_alike",top 38,["_law_found","_law_due"]⟩
theorem i_:aK ["_law_found","_law_due","_law_part","_law_number"] gZ.ps (ai gZ.s):=(!0)
abbrev ze:FI:=⟨"law",top 39,["_law_script"]⟩
theorem jT:aK ["_law_script","_law_hands","_law_road_here","_law_rounds","_law_starts_here","_law_runs_here","_law_due","_law_handed","_law_found"] ze.ps (ai ze.s):=(!0)
structure Tx (K:Frag)(mg:Str->Option Value)(t:Nat):Prop where
 vO:Ex K mg iL
 CH:Ex K mg mr
 vP:Ex K mg iM
 CI:Ex K mg mw
 x0:Ex K mg fQ
 AA:Ex K mg g9
 Ie:Ex K mg m9
 nV:Ex K mg bV
 nX:Ex K mg eG
 E8:Ex K mg oD
 p8:Ex K mg cx
 x4:Ex K mg fS
 p9:Ex K mg fz
 p_:Ex K mg fB
 vQ:Ex K mg iN
 kx:Ex K mg bh
 qa:Ex K mg fC
 x5:Ex K mg jS
 t9:Ex K mg gX
 t_:Ex K mg gY
 qb:Ex K mg fE
 vR:Ex K mg iO
 qN:Ex K mg gh
 qO:Ex K mg cO
 vS:Ex K mg iP
 vT:Ex K mg iQ
 qc:Ex K mg fG
 vU:Ex K mg eT
 qP:Ex K mg gj
 ua:Ex K mg ce
 ub:Ex K mg gZ
 Gd:Ex K mg ze
 bool:mg "bool" =none
 dict:mg "dict" =none
 enumerate:mg "enumerate" =none
 int:mg "int" =none
 isinstance:mg "isinstance" =none
 len:mg "len" =none
 list:mg "list" =none
 min:mg "min" =none
 range:mg "range" =none
 reversed:mg "reversed" =none
 set:mg "set" =none
 sorted:mg "sorted" =none
 tuple:mg "tuple" =none
 vV:mg "MOST_RUNS" =some (.int 3000 t)
section
variable {P:Program}{w:World}{K:Frag}{mg:Str->Option Value}{base:Heap}{t:Nat}
seal DS zT DE DA DT DW DI
theorem nK (T:Tx K mg t):Gx P w K mg base 1 jS (jv K 2 dh):=lF (fb:=jK) 0 4 2 rfl rfl T.x5 eS λ_ _ _ _ _ _ _ hr bd=>
 (ae (dI (bm (HQ) (af 0) (aM (ow) ao ao) (ck _))
 (ae (az (i:=0) eS.nd rfl (!4) (aM (lS) (aM (cq) (af 0) (aM (ow) ao ao)) ao))
 (ae (a9 PassesOwn.never rfl (df (by rfl) T.range (aM (bC) (af 1) ao)) (ci (i:=2) eS.nd rfl (!4))
 (ak (az (i:=0) eS.nd rfl (!4) (aM (cq) (af 0) ao))))
 (ak (aV (aM (bC) (af 0) ao)))))
 bq)
 (ae (az (i:=3) eS.nd rfl (!4) (aM (bC) (aM (jD) (aM (cC) (aM (cC) (aM (bC) (af 0) ao) (aM (jD) (aM (jD) (af 1) (af 1)) ao)) (af 1)) ao) ao))
 (ae (az (i:=3) eS.nd rfl (!4) (aM (bC) (aM (jD) (af 3) (af 3)) ao))
 (ak (aV (aM (cq) (aM (bC) (aM (jD) (af 3) (aM (cC) (af 3) ao)) ao) ao))))))
theorem qQ (T:Tx K mg t):Gx P w K mg base 1 gY (jv K 1 jL):=lF (fb:=ml) 0 4 1 rfl rfl T.t_ gg λ_ _ _ _ _ _ _ hr bd=>
 (ae (az (i:=1) gg.nd rfl (!4) (bv aj))
 (ae (a9 PassesOwn.never rfl (df (by rfl) T.range (af 0)) (ci (i:=2) gg.nd rfl (!4))
 (ak (a9 PassesOwn.never rfl (df (by rfl) T.range (af 0)) (ci (i:=3) gg.nd rfl (!4))
 (ak (dI (bm (oX bd) (af 2) (af 3) (ck _))
 (ak (eN (i:=1) (pv 1) (dg (ab (af 2) (ab (af 3) aj ah) ah))))
 bq)))))
 (ak (aV (af 1)))))
theorem nY (T:Tx K mg t):Gx P w K mg base 2 fE (jv K 2 di):=lF (fb:=im) 1 4 2 rfl rfl T.qb eH λ_ _ _ _ _ _ _ hr bd=>
 (ae (az (i:=2) eH.nd rfl (!4) (bv aj))
 (ae (a9 PassesOwn.never rfl (lu (aA (qQ T) hr (ab (af 1) aj ah))) (ci (i:=3) eH.nd rfl (!4))
 (ae (dI (bm (j_ bd) (aM (bC) (af 0) ao) ao (ck _))
 (ak (eN (i:=2) (pv 2) (af 3)))
 bq)
 (ak (az (i:=0) eH.nd rfl (!4) (aM (cq) (af 0) ao)))))
 (ak (aV (bI b_ (by rfl) T.tuple PyProof.Rows.boot_tuple (ab (af 2) aj ah))))))
theorem a7 (T:Tx K mg t):Gx P w K mg base 1 fC (jv K 2 aF):=lF (fb:=fq) 0 2 2 rfl rfl T.qa nU λ_ _ _ _ _ _ _ hr bd=>
 (ae (dI (bm (Bt) (af 1) (bL bJ (by rfl) T.len PySem.boot_len (ab (af 0) aj ah)) (ck _))
 (ak (aV (b9 lV (af 0) (af 1) (λ_ _=>rfl))))
 bq)
 (ak (aV ao)))
theorem uc (T:Tx K mg t):Gx P w K mg base 3 iO (jv K 3 kj):=lF (fb:=ki) 2 7 3 rfl rfl T.vR dE λ_ _ _ _ _ _ _ hr bd=>
 (ae (az (i:=3) dE.nd rfl (!4) (bv aj))
 (ae (dI (bm (j_ bd) (aM (bC) (aA (a7 T) hr (ab (af 0) (ab ao aj bP) ah)) ao) ao (ck _))
 (ak (eN (i:=3) (pv 3) (dg aj)))
 bq)
 (ae (a9 PassesOwn.never rfl (df (by rfl) T.range (af 2)) (ci (i:=4) dE.nd rfl (!4))
 (ae (az (i:=5) dE.nd rfl (!4) (aA (nK T) hr (ab (aA (a7 T) hr (ab (af 0) (ab (aM (cC) ao (af 4)) aj) ah)) (ab (aM (cC) ao (af 4)) aj))))
 (ae (az (i:=6) dE.nd rfl (!4) (aA (nY T) hr (ab (af 5) (ab (af 1) aj ah) ah)))
 (ae (dI (bm (j_ bd) (aM (bC) (aM (cq) (af 5) ao) ao) ao (ck _))
 (ak (az (i:=6) dE.nd rfl (!4) (Ka (af 6) BL (BM ao))))
 bq)
 (ak (dI (DW.dt (xy (bm (jh bd) (af 6) (af 3) (by rfl)) (sX (bm (Bt) (bL bJ (by rfl) T.len PySem.boot_len (ab (af 3) aj ah)) (af 2) (ck _)))))
 (ak (eN (i:=3) (pv 3) (af 6)))
 bq))))))
 (ak (aV (af 3))))))
theorem qd (T:Tx K mg t):Gx P w K mg base 2 gh (jv K 1 cK):=lF (fb:=fX) 1 3 1 rfl rfl T.qN fF λ_ _ _ _ _ _ _ hr bd=>
 (ae (az (i:=1) fF.nd rfl (!4) (aM (bC) (aA (a7 T) hr (ab (af 0) (ab ao aj bP) ah)) (aM (ow) ao ao)))
 (ae (az (i:=2) fF.nd rfl (!4) (aM (cC) (aM (cC) (af 1) ao) (aM (bC) (aA (a7 T) hr (ab (af 0) (ab ao aj bP) ah)) ao)))
 (ae (dI (bm (j_ bd) (aM (bC) (aA (a7 T) hr (ab (af 0) (ab ao aj bP) ah)) ao) ao (ck _))
 (ak (az (i:=2) fF.nd rfl (!4) (aM (lS) (JR Eb ao) (aM (bC) (aA (a7 T) hr (ab (af 0) (ab ao aj bP) ah)) (aM (ow) ao ao)))))
 bq)
 (ak (aV (bv (ab (aM (cq) (af 1) ao) (ab (aM (lS) (aM (cq) (af 2) ao) ao) (ab (aM (cC) ao (aM (cq) (af 1) ao)) aj)))))))))
theorem qe (T:Tx K mg t):Gx P w K mg base 3 cO (jv K 3 i7):=lF (fb:=i6) 2 8 3 rfl rfl T.qO cy λ_ _ _ _ _ _ _ hr bd=>
 (ae (az (i:=3) cy.nd rfl (Or.inr rfl) (aA (qd T) hr (ab (af 0) aj ah)))
 (ae (az (i:=4) cy.nd rfl (!4) (bv aj))
 (ae (a9 PassesOwn.never rfl (df (by rfl) T.range (af 2)) (ci (i:=5) cy.nd rfl (!4))
 (ae (az (i:=6) cy.nd rfl (Or.inr rfl) (aA (nK T) hr (ab (aA (a7 T) hr (ab (af 0) (ab (aM (cC) ao (af 5)) aj) ah)) (ab (aM (cC) ao (af 5)) aj))))
 (ae (az (i:=7) cy.nd rfl (!4) (bI b_ (by rfl) T.tuple PyProof.Rows.boot_tuple (ab (gP rfl (F:=["_law_values_here","_law_number"]) (ix:=[3,6]) ⟨rfl,rfl,by decide+kernel,by decide+kernel,by(change∀y∈(_:List (Str×NameKind)),y.2=NameKind.free->(ai cO.s).names.lookup y.1=some .cell∨(ai cO.s).names.lookup y.1=some .free);decide+kernel,by decide+kernel,by decide+kernel,rfl⟩ (df (by rfl) T.range (af 1)) (λ_ _ _ _ _=>gO) (λ_ _ _ _ _=>(b9 lV (af 1) (aM (bC) (aM (bC) (aM (cq) (af 2) (b9 lV (bv (ab ao (ab ao (ab ao (ab ao aj bP) bP) bP) bP)) (af 0) (λ_ _=>rfl))) ao) ao) (λ_ _=>rfl)))) aj)))
 (ak (dI (bm (jh bd) (af 7) (af 4) (by rfl))
 (ak (eN (i:=4) (pv 4) (af 7)))
 bq)))))
 (ak (aV (af 4))))))
theorem ud (T:Tx K mg t):Gx P w K mg base 4 iP (jv K 1 dk):=lF (fb:=kl) 3 6 1 rfl rfl T.vS dF λ_ _ _ _ _ _ _ hr bd=>
 (ae (az (i:=1) dF.nd rfl (!4) (aM (cC) ao (aM (bC) (aA (a7 T) hr (ab (af 0) (ab ao aj bP) ah)) ao)))
 (ae (az (i:=2) dF.nd rfl (!4) (b9 lV (bv (ab ao (ab ao (ab ao aj bP) bP) bP)) (aM (lS) (af 1) ao) (λ_ _=>rfl)))
 (ae (az (i:=3) dF.nd rfl (!4) (aM (bC) (aM (cq) (aA (a7 T) hr (ab (af 0) (ab ao aj bP) ah)) ao) (b9 lV (bv (ab ao (ab ao (ab ao aj bP) bP) bP)) (aM (lS) (af 1) ao) (λ_ _=>rfl))))
 (ae (az (i:=4) dF.nd rfl (!4) (aA (uc T) hr (ab (af 0) (ab (af 1) (ab (af 2) aj ah) ah) ah)))
 (ae (az (i:=5) dF.nd rfl (!4) (aA (qe T) hr (ab (af 0) (ab (af 1) (ab (aM (cC) ao (aM (bC) (aM (cq) (aA (a7 T) hr (ab (af 0) (ab ao aj bP) ah)) ao) ao)) aj) ah) ah)))
 (ak (aV (dg (ab (af 1) (ab (af 4) (ab (af 3) (ab (af 5) aj ah) ah) ah) ah)))))))))
theorem ue (T:Tx K mg t):Gx P w K mg base 1 iQ (jv K 3 gz):=lF (fb:=km) 0 10 3 rfl rfl T.vT bu λ_ _ _ _ _ _ _ hr bd=>
 (ae (az (i:=3) bu.nd rfl (!4) (bv (ab (dg aj) aj HU)))
 (ae (a9 PassesOwn.never rfl (df (by rfl) T.range (af 1)) (ci (i:=4) bu.nd rfl (!4))
 (ae (az (i:=5) bu.nd rfl (!4) (bv aj))
 (ae (a9 PassesOwn.never rfl (lu (af 3)) (ci (i:=6) bu.nd rfl (!4))
 (ak (a9 PassesOwn.never rfl (lu (af 0)) (ci (i:=7) bu.nd rfl (!4))
 (ak (eN (i:=5) (pv 5) (aM (cC) (af 6) (dg (ab (af 7) aj ah))))))))
 (ak (s_ (i:=3) (j:=5) bu.nd rfl (!4) (pv 5))))))
 (ae (az (i:=8) bu.nd rfl (!4) (bv aj))
 (ae (a9 PassesOwn.never rfl (lu (af 2)) (ci (i:=9) bu.nd rfl (!4))
 (ak (a9 PassesOwn.never rfl (lu (af 3)) (ci (i:=6) bu.nd rfl (!4))
 (ak (eN (i:=8) (pv 8) (dg (ab (af 9) (ab (af 6) aj ah) ah)))))))
 (ak (aV (af 8)))))))
theorem qR (T:Tx K mg t):Gx P w K mg base 1 ce (jv K 2 fw):=lF (fb:=jM) 0 10 2 rfl rfl T.ua bb λ_ _ _ _ _ _ _ hr bd=>
 (ae (az (i:=2) bb.nd rfl (Or.inr rfl) (B7 rfl (by rfl) T.list (by rfl) T.range (af 0)))
 (ae (az (i:=3) bb.nd rfl (!4) la)
 (ae (u7 uS PassesOwn.never (oY (af 3))
 (ae (az (i:=3) bb.nd rfl (!4) la)
 (ak (a9 PassesOwn.never rfl (Cd (af 1)) (o0 (is:=[4,5]) rfl (br (bz (i:=4) bb.nd rfl (!4)) (br (bz (i:=5) bb.nd rfl (!4)) iE)))
 (ae (az (i:=6) bb.nd rfl (!4) (bL (xH rfl) (by rfl) T.min PyProof.Rows.boot_min (ab (gP rfl (F:=["_law_names"]) (ix:=[2]) ⟨rfl,rfl,by decide+kernel,by decide+kernel,by(change∀y∈(_:List (Str×NameKind)),y.2=NameKind.free->(ai ce.s).names.lookup y.1=some .cell∨(ai ce.s).names.lookup y.1=some .free);decide+kernel,by decide+kernel,by decide+kernel,rfl⟩ (lu (af 5)) (λ_ _ _ _ _=>gO) (λ_ _ _ _ _=>(b9 lV (af 1) (af 0) (λ_ _=>rfl)))) aj)))
 (ak (a9 PassesOwn.never rfl (lu (af 5)) (ci (i:=7) bb.nd rfl (!4))
 (ak (dI (bm (xx) (b9 lV (af 2) (af 7) (λ_ _=>rfl)) (af 6) (ck _))
 (ae (tu (i:=2) (pv 2) (af 7) (af 6))
 (ak (az (i:=3) bb.nd rfl (!4) la)))
 bq)))))))))
 (ae (az (i:=8) bb.nd rfl (!4) (bv aj))
 (ae (a9 PassesOwn.never rfl (df (by rfl) T.range (af 0)) (ci (i:=9) bb.nd rfl (Or.inr rfl))
 (ak (dI (bm (j_ bd) (b9 lV (af 2) (af 9) (λ_ _=>rfl)) (af 9) (ck _))
 (ak (eN (i:=8) (pv 8) (gP rfl (F:=["_law_name","_law_names"]) (ix:=[9,2]) ⟨rfl,rfl,by decide+kernel,by decide+kernel,by(change∀y∈(_:List (Str×NameKind)),y.2=NameKind.free->(ai ce.s).names.lookup y.1=some .cell∨(ai ce.s).names.lookup y.1=some .free);decide+kernel,by decide+kernel,by decide+kernel,rfl⟩ (df (by rfl) T.range (af 0)) (λ_ _ _ _ _=>(yQ (bm (j_ bd) (b9 lV (af 2) (af 0) (λ_ _=>rfl)) (af 1) (ck _)))) (λ_ _ _ _ _=>(af 0)))))
 bq)))
 (ak (aV (af 8))))))))
theorem nZ (T:Tx K mg t):Gx P w K mg base 1 fz (jv K 1 fx):=lF (fb:=iy) 0 5 1 rfl rfl T.p9 cG λ_ _ _ _ _ _ _ hr bd=>
 (ae (az (i:=1) cG.nd rfl (!4) oA)
 (ae (a9 PassesOwn.never rfl (pF (by rfl) T.enumerate (af 0)) (o0 (is:=[2,3]) rfl (br (bz (i:=2) cG.nd rfl (!4)) (br (bz (i:=3) cG.nd rfl (!4)) iE)))
 (ak (a9 PassesOwn.never rfl (lu (af 3)) (ci (i:=4) cG.nd rfl (!4))
 (ak (F6 bd (i:=1) (j:=2) (pv 1) (af 4) (pv 2))))))
 (ak (aV (af 1)))))
theorem j5 (T:Tx K mg t):Gx P w K mg base 1 bh (HG K 2 cc):=by
 obtain⟨f,d,x⟩:=T.kx
 refine⟨f,d,x,MK (fb:=cb) 0 6 2 3 rfl rfl x.F bM (by decide) (by decide) λcdv A outer s H E aa hr=> ?_⟩
 have bd:=hr.yL
 exact(vB (HD (i:=3) bM.nd rfl (!4) (bv aj))
 (vB (HE PassesOwn.never rfl (pF (by rfl) T.enumerate (af 0)) (Kn (is:=[4,5]) rfl (br (bz (i:=4) bM.nd rfl (Or.inr rfl)) (br (bz (i:=5) bM.nd rfl (!4)) iE)))
 (y7 (Km (bm (lz bd) (af 5) (af 2) (by rfl))
 (BZ (Et bd (i:=2) (pv 2) (af 5) la)
 (y7 (HF (i:=3) (pv 3) (gP rfl (F:=["hand"]) (ix:=[4]) ⟨rfl,rfl,by decide+kernel,by decide+kernel,by(change∀y∈(_:List (Str×NameKind)),y.2=NameKind.free->(ai bh.s).names.lookup y.1=some .cell∨(ai bh.s).names.lookup y.1=some .free);decide+kernel,by decide+kernel,by decide+kernel,rfl⟩ (lu (b9 (MB bd) (af 1) (af 5) (λ_ _=>rfl))) (λ_ _ _ _ _=>gO) (λ_ _ _ _ _=>(dg (ab (af 1) (ab (af 0) aj ah) ah)))))))
 Es)))
 (B5 (pv 3))))
theorem uf (T:Tx K mg t):Gx P w K mg base 2 iN (jv K 3 ko):=by
 obtain⟨fW,dW,xW,gW⟩:=j5 (P:=P) (w:=w) (base:=base) T
 refine lF (fb:=kn) 1 10 3 rfl rfl T.vQ bF λ_ _ _ _ _ _ _ hr bd=> ?_
 exact(ae (az (i:=3) bF.nd rfl (!4) (y4 bd (af 2) mW))
 (ae (az (i:=4) bF.nd rfl (!4) oA)
 (ae (az (i:=5) bF.nd rfl (!4) (bv (ab (af 2) aj ah)))
 (ae (u7 uS PassesOwn.never (bm (xx) (bL bJ (by rfl) T.len PySem.boot_len (ab (af 5) aj ah)) ao (ck _))
 (ae (az (i:=6) bF.nd rfl (!4) (bv aj))
 (ae (a9 PassesOwn.never rfl (lu (af 5)) (ci (i:=7) bF.nd rfl (!4))
 (ak (Eu (iw:=4) PassesOwn.never rfl gW (hr.mono (by decide)) (by rfl) xW.m xW.F.kp xW.b (E:=E0) FW (b9 lV (af 0) (af 7) (λ_ _=>rfl)) (af 1) (pv 4) (o0 (is:=[8,9]) rfl (br (bz (i:=8) bF.nd rfl (!4)) (br (bz (i:=9) bF.nd rfl (!4)) iE)))
 (ak (dI (bm (lz bd) (af 9) (af 3) (by rfl))
 (ae (y0 bd (i:=3) (pv 3) (af 9) (dg (ab (af 8) (ab (af 7) aj ah) ah)))
 (ak (eN (i:=6) (pv 6) (af 9))))
 bq)))))
 (ak (s_ (i:=5) (j:=6) bF.nd rfl (!4) (pv 6))))))
 (ak (aV (af 3)))))))
theorem n5 (T:Tx K mg t):Gx P w K mg base 3 fB (jv K 1 iA):=lF (fb:=iz) 2 6 1 rfl rfl T.p_ bW λ_ _ _ _ _ _ _ hr bd=>
 (ae (az (i:=1) bW.nd rfl (!4) (aA (nZ T) hr (ab (af 0) aj ah)))
 (ae (az (i:=2) bW.nd rfl (!4) oA)
 (ae (az (i:=3) bW.nd rfl (!4) (bv aj))
 (ae (a9 PassesOwn.never rfl (df (by rfl) T.range (bL bJ (by rfl) T.len PySem.boot_len (ab (af 0) aj ah))) (ci (i:=4) bW.nd rfl (!4))
 (ak (dI (bm (lz bd) (af 4) (af 2) (by rfl))
 (ae (az (i:=5) bW.nd rfl (!4) (aA (uf T) hr (ab (af 0) (ab (af 1) (ab (af 4) aj ah) ah) ah)))
 (ae (BW bd (i:=2) (pv 2) (af 5))
 (ak (eN (i:=3) (pv 3) (bL (vM rfl) (by rfl) T.sorted PyProof.Rows.boot_sorted (ab (af 5) aj ah))))))
 bq)))
 (ak (aV (af 3)))))))
theorem x6 (T:Tx K mg t):Gx P w K mg base 1 g9 (jv K 3 kP):=lF (fb:=m8) 0 3 3 rfl rfl T.AA xZ λ_ _ _ _ _ _ _ hr bd=>
 (ak (aV (bI b_ (by rfl) T.tuple PyProof.Rows.boot_tuple (ab (gP rfl (F:=["hand","weather"]) (ix:=[2,1]) ⟨rfl,rfl,by decide+kernel,by decide+kernel,by(change∀y∈(_:List (Str×NameKind)),y.2=NameKind.free->(ai g9.s).names.lookup y.1=some .cell∨(ai g9.s).names.lookup y.1=some .free);decide+kernel,by decide+kernel,by decide+kernel,rfl⟩ (df (by rfl) T.range (af 0)) (λ_ _ _ _ _=>(yQ (DW.dt (xy (bm (oX bd) (af 0) (af 1) (ck _)) (sX (bm (jh bd) (dg (ab (af 0) (ab (af 1) aj ah) ah)) (af 2) (by rfl))))))) (λ_ _ _ _ _=>(af 0))) aj))))
theorem nc (T:Tx K mg t):Gx P w K mg base 2 bV (jv K 3 eB):=lF (fb:=gH) 1 3 3 rfl rfl T.nV m_ λ_ _ _ _ _ _ _ hr bd=>
 (ak (aV (bI b_ (by rfl) T.tuple PyProof.Rows.boot_tuple (ab (gP rfl (F:=["heard","hands","weather"]) (ix:=[2,0,1]) ⟨rfl,rfl,by decide+kernel,by decide+kernel,by(change∀y∈(_:List (Str×NameKind)),y.2=NameKind.free->(ai bV.s).names.lookup y.1=some .cell∨(ai bV.s).names.lookup y.1=some .free);decide+kernel,by decide+kernel,by decide+kernel,rfl⟩ (df (by rfl) T.range (af 0)) (λ_ _ _ _ _=>gO) (λ_ _ _ _ _=>(F1 (bm (xw bd) (af 0) (af 1) (by rfl)) (aA (x6 T) hr (ab (af 2) (ab (af 3) (ab (af 0) aj ah) ah) ah)) mW))) aj))))
theorem ng (T:Tx K mg t):Gx P w K mg base 1 eG (jv K 2 eD):=lF (fb:=gI) 0 4 2 rfl rfl T.nX fR λ_ _ _ _ _ _ _ hr bd=>
 (ae (az (i:=2) fR.nd rfl (!4) (bI lw (by rfl) T.list PyProof.Rows.boot_list (ab (af 0) aj ah)))
 (ae (a9 PassesOwn.never rfl (lu (af 1)) (ci (i:=3) fR.nd rfl (!4))
 (ak (dI (bm (zU) (af 3) mW (ck _))
 (ak (Hr (i:=2) (pv 2) (af 3)))
 bq)))
 (ak (aV (xQ rfl (by rfl) T.sorted (by rfl) T.set (af 2))))))
theorem E9 (T:Tx K mg t):Gx P w K mg base 3 m9 (jv K 2 p0):=lF (fb:=xY) 2 9 2 rfl rfl T.Ie gV λ_ _ _ _ _ _ _ hr bd=>
 (ae (az (i:=2) gV.nd rfl (Or.inr rfl) (b9 lV (af 0) ao (λ_ _=>rfl)))
 (ae (az (i:=3) gV.nd rfl (!4) (bL bJ (by rfl) T.len PySem.boot_len (ab (af 2) aj ah)))
 (ae (az (i:=4) gV.nd rfl (Or.inr rfl) (bv (ab (af 1) aj ah)))
 (ae (az (i:=5) gV.nd rfl (!4) (bv aj))
 (ae (a9 PassesOwn.never rfl (Ht rfl (by rfl) T.reversed (b9 lV (af 0) ao (λ_ _=>rfl))) (ci (i:=6) gV.nd rfl (!4))
 (ae (az (i:=7) gV.nd rfl (!4) (aA (nc T) hr (ab (af 3) (ab (af 6) (ab (af 4) aj ah) ah) ah)))
 (ae (eN (i:=5) (pv 5) (af 7))
 (ak (az (i:=4) gV.nd rfl (Or.inr rfl) (aA (ng T) hr (ab (af 4) (ab (af 7) aj ah) ah)))))))
 (ae (o3 (i:=8) gV.nd rfl (!4) rfl (F:=["heard","values"]) (ix:=[4,2]) ⟨rfl,rfl,by decide+kernel,by decide+kernel,by(change∀y∈(_:List (Str×NameKind)),y.2=NameKind.free->(ai m9.s).names.lookup y.1=some .cell∨(ai m9.s).names.lookup y.1=some .free);decide+kernel,by decide+kernel,by decide+kernel,rfl⟩ (df (by rfl) T.range (af 3)) (λ_ _ _ _ _=>gO) (λ_ _ _ _ _=>(F1 (bm (xw bd) (af 0) (af 1) (by rfl)) (b9 lV (af 2) (af 0) (λ_ _=>rfl)) mW)) (by rfl))
 (ak (aV (dg (ab (af 1) (ab (bI b_ (by rfl) T.tuple PyProof.Rows.boot_tuple (ab (af 8) aj ah)) (ab (rC rfl (by rfl) T.tuple (by rfl) T.reversed (af 5)) aj)) ah))))))))))
theorem vW (T:Tx K mg t):Gx P w K mg base 4 fS (jv K 2 jO):=lF (fb:=lG) 3 2 2 rfl rfl T.x4 vN λ_ _ _ _ _ _ _ hr bd=>
 (ak (aV (gP rfl (F:=["run"]) (ix:=[1]) ⟨rfl,rfl,by decide+kernel,by decide+kernel,by(change∀y∈(_:List (Str×NameKind)),y.2=NameKind.free->(ai fS.s).names.lookup y.1=some .cell∨(ai fS.s).names.lookup y.1=some .free);decide+kernel,by decide+kernel,by decide+kernel,rfl⟩ (df (by rfl) T.range (af 0)) (λ_ _ _ _ _=>gO) (λ_ _ _ _ _=>(aA (E9 T) hr (ab (af 1) (ab (af 0) aj ah) ah))))))
theorem n6 (T:Tx K mg t):Gx P w K mg base 5 cx (jv K 2 fy):=lF (fb:=iB) 4 2 2 rfl rfl T.p8 nQ λ_ _ _ _ _ _ _ hr bd=>
 (ak (aV (gP rfl (F:=["hands"]) (ix:=[0]) ⟨rfl,rfl,by decide+kernel,by decide+kernel,by(change∀y∈(_:List (Str×NameKind)),y.2=NameKind.free->(ai cx.s).names.lookup y.1=some .cell∨(ai cx.s).names.lookup y.1=some .free);decide+kernel,by decide+kernel,by decide+kernel,rfl⟩ (lu (af 1)) (λ_ _ _ _ _=>gO) (λ_ _ _ _ _=>(aA (vW T) hr (ab (af 1) (ab (af 0) aj ah) ah))))))
theorem mx (T:Tx K mg t):Gx P w K mg base 1 iL (jv K 2 gA):=lF (fb:=kr) 0 4 2 rfl rfl T.vO gU λ_ _ _ _ _ _ _ hr bd=>
 (ae (az (i:=2) gU.nd rfl (!4) ao)
 (ae (a9 PassesOwn.never rfl (df (by rfl) T.range (af 1)) (ci (i:=3) gU.nd rfl (!4))
 (ak (az (i:=2) gU.nd rfl (!4) (aM (jD) (af 2) (bL bJ (by rfl) T.len PySem.boot_len (ab (af 0) aj ah))))))
 (ak (aV (af 2)))))
theorem ug (T:Tx K mg t):Gx P w K mg base 2 iM (jv K 3 gB):=lF (fb:=kt) 1 3 3 rfl rfl T.vP t8 λ_ _ _ _ _ _ _ hr bd=>
 (ak (aV (aM (jD) (bL bJ (by rfl) T.len PySem.boot_len (ab (af 2) aj ah)) (aA (mx T) hr (ab (af 0) (ab (af 1) aj ah) ah)))))
theorem AB (T:Tx K mg t):Gx P w K mg base 1 mr (jv K 3 mn):=lF (fb:=p5) 0 6 3 rfl rfl T.CH jt λ_ _ _ _ _ _ _ hr bd=>
 (ae (az (i:=3) jt.nd rfl (!4) (bv aj))
 (ae (s_ (i:=4) (j:=2) jt.nd rfl (!4) (pv 2))
 (ae (a9 PassesOwn.never rfl (df (by rfl) T.range (af 1)) (ci (i:=5) jt.nd rfl (!4))
 (ae (eN (i:=3) (pv 3) (b9 lV (af 0) (aM (bC) (af 4) (bL bJ (by rfl) T.len PySem.boot_len (ab (af 0) aj ah))) (λ_ _=>rfl)))
 (ak (az (i:=4) jt.nd rfl (!4) (aM (cq) (af 4) (bL bJ (by rfl) T.len PySem.boot_len (ab (af 0) aj ah)))))))
 (ak (aV (rC rfl (by rfl) T.tuple (by rfl) T.reversed (af 3)))))))
theorem AD (T:Tx K mg t):Gx P w K mg base 2 mw (jv K 4 mq):=lF (fb:=p6) 1 5 4 rfl rfl T.CI sf λ_ _ _ _ _ _ _ hr bd=>
 (ae (az (i:=4) sf.nd rfl (!4) (aA (mx T) hr (ab (af 0) (ab (af 1) aj ah) ah)))
 (ak (aV (dg (ab (b9 lV (af 2) (aM (cq) (af 3) (af 4)) (λ_ _=>rfl)) (ab (aA (AB T) hr (ab (af 0) (ab (af 1) (ab (aM (bC) (af 3) (af 4)) aj) ah) ah)) aj) lE)))))
theorem vX (T:Tx K mg t):Gx P w K mg base 3 fQ (jv K 3 jP):=lF (fb:=lI) 2 4 3 rfl rfl T.x0 nJ λ_ _ _ _ _ _ _ hr bd=>
 (ae (az (i:=3) nJ.nd rfl (!4) (aA (ug T) hr (ab (af 0) (ab (af 1) (ab (af 2) aj ah) ah) ah)))
 (ae (dI (bm (xx) (af 3) (Ea (DJ (v:=.int 3000) (by rfl) T.vV ⟨_,rfl⟩) rfl λ_=>bB) (ck _))
 (ak BJ)
 bq)
 (ak (aV (gP rfl (F:=["road","rounds","starts"]) (ix:=[0,1,2]) ⟨rfl,rfl,by decide+kernel,by decide+kernel,by(change∀y∈(_:List (Str×NameKind)),y.2=NameKind.free->(ai fQ.s).names.lookup y.1=some .cell∨(ai fQ.s).names.lookup y.1=some .free);decide+kernel,by decide+kernel,by decide+kernel,rfl⟩ (df (by rfl) T.range (af 3)) (λ_ _ _ _ _=>gO) (λ_ _ _ _ _=>(aA (AD T) hr (ab (af 1) (ab (af 2) (ab (af 3) (ab (af 0) aj ah) ah) ah) ah))))))))
theorem vY (T:Tx K mg t):Gx P w K mg base 6 oD (jv K 4 kQ):=lF (fb:=t7) 5 4 4 rfl rfl T.E8 CG λ_ _ _ _ _ _ _ hr bd=>
 (ak (aV (aA (n5 T) hr (ab (aA (n6 T) hr (ab (af 0) (ab (aA (vX T) hr (ab (af 1) (ab (af 2) (ab (af 3) aj ah) ah) ah)) aj) ah)) aj))))
theorem j2 (T:Tx K mg t):Gx P w K mg base 1 fG (jv K 3 du):=lF (fb:=iC) 0 5 3 rfl rfl T.qc gJ λ_ _ _ _ _ _ _ hr bd=>
 (ae (az (i:=3) gJ.nd rfl (!4) (bv aj))
 (ae (a9 PassesOwn.never rfl (df (by rfl) T.range (af 0)) (ci (i:=4) gJ.nd rfl (!4))
 (ak (dI (DW.dt (xy (bm (oX bd) (af 4) (af 2) (ck _)) (sX (bm (jh bd) (dg (ab (af 4) (ab (af 2) aj ah) ah)) (af 1) (by rfl)))))
 (ak (eN (i:=3) (pv 3) (af 4)))
 bq)))
 (ak (aV (bI b_ (by rfl) T.tuple PyProof.Rows.boot_tuple (ab (af 3) aj ah))))))
theorem uh (T:Tx K mg t):Gx P w K mg base 2 eT (jv K 2 gC):=lF (fb:=ku) 1 13 2 rfl rfl T.vU aO λ_ _ _ _ _ _ _ hr bd=>
 (ae (az (i:=2) aO.nd rfl (!4) (bL bJ (by rfl) T.len PySem.boot_len (ab (b9 lV (af 0) ao (λ_ _=>rfl)) aj lE)))
 (ae (o3 (i:=3) aO.nd rfl (!4) rfl (F:=[]) (ix:=[]) ⟨rfl,rfl,by decide+kernel,by decide+kernel,by(change∀y∈(_:List (Str×NameKind)),y.2=NameKind.free->(ai eT.s).names.lookup y.1=some .cell∨(ai eT.s).names.lookup y.1=some .free);decide+kernel,by decide+kernel,by decide+kernel,rfl⟩ (df (by rfl) T.range (af 2)) (λ_ _ _ _ _=>gO) (λ_ _ _ _ _=>(y4 bd (dg (ab (af 0) (ab ao aj bP) ah)) la)) (by rfl))
 (ae (a9 PassesOwn.never rfl (y9 (by rfl) T.enumerate (b9 lV (af 0) ao (λ_ _=>rfl))) (o0 (is:=[4,5]) rfl (br (bz (i:=4) aO.nd rfl (!4)) (br (bz (i:=5) aO.nd rfl (!4)) iE)))
 (ae (az (i:=6) aO.nd rfl (!4) (bv aj))
 (ae (a9 PassesOwn.never rfl (df (by rfl) T.range (af 2)) (ci (i:=7) aO.nd rfl (!4))
 (ae (az (i:=8) aO.nd rfl (!4) (bI xD (by rfl) T.dict PyProof.Rows.boot_dict (ab (b9 lV (af 3) (af 7) (λ_ _=>rfl)) aj lE)))
 (ae (a9 PassesOwn.never rfl (lu (aA (j2 T) hr (ab (af 2) (ab (af 5) (ab (af 7) aj ah) ah) ah))) (ci (i:=9) aO.nd rfl (!4))
 (ak (BW bd (i:=8) (pv 8) (b9 lV (af 3) (af 9) (λ_ _=>rfl)))))
 (ae (y0 bd (i:=8) (pv 8) (dg (ab (af 7) (ab (aM (cC) (af 4) ao) aj) ah)) la)
 (ak (eN (i:=6) (pv 6) (af 8)))))))
 (ak (s_ (i:=3) (j:=6) aO.nd rfl (!4) (pv 6))))))
 (ae (az (i:=10) aO.nd rfl (!4) (BG (bv (ab mW aj bP)) (af 2)))
 (ae (az (i:=11) aO.nd rfl (!4) (bv aj))
 (ae (a9 PassesOwn.never rfl (df (by rfl) T.range (af 2)) (ci (i:=7) aO.nd rfl (!4))
 (ak (dI (bm (yY bd) (dg (ab (af 7) (ab ao aj bP) ah)) (b9 lV (af 3) (af 1) (λ_ _=>rfl)) (by rfl))
 (ak (tu (i:=10) (pv 10) (af 7) (b9 lV (b9 lV (af 0) ao (λ_ _=>rfl)) (af 7) (λ_ _=>rfl))))
 bq)))
 (ae (a9 PassesOwn.never rfl (y9 (by rfl) T.enumerate (b9 lV (af 0) ao (λ_ _=>rfl))) (o0 (is:=[4,5]) rfl (br (bz (i:=4) aO.nd rfl (!4)) (br (bz (i:=5) aO.nd rfl (!4)) iE)))
 (ae (az (i:=12) aO.nd rfl (!4) (BG (bv (ab mW aj bP)) (af 2)))
 (ae (a9 PassesOwn.never rfl (df (by rfl) T.range (af 2)) (ci (i:=7) aO.nd rfl (!4))
 (ak (dI (bm (yY bd) (dg (ab (af 7) (ab (aM (cC) (af 4) ao) aj) ah)) (b9 lV (af 3) (af 1) (λ_ _=>rfl)) (by rfl))
 (ak (tu (i:=12) (pv 12) (af 7) (aA (j2 T) hr (ab (af 2) (ab (af 5) (ab (af 7) aj ah) ah) ah))))
 bq)))
 (ak (eN (i:=11) (pv 11) (bI b_ (by rfl) T.tuple PyProof.Rows.boot_tuple (ab (af 12) aj ah)))))))
 (ak (aV (dg (ab (af 1) (ab (bI b_ (by rfl) T.tuple PyProof.Rows.boot_tuple (ab (af 10) aj ah)) (ab (bI b_ (by rfl) T.tuple PyProof.Rows.boot_tuple (ab (af 11) aj ah)) aj)) ah)))))))))))
theorem qf (T:Tx K mg t):Gx P w K mg base 3 gj (jv K 2 d_):=lF (fb:=i9) 2 6 2 rfl rfl T.qP dw λ_ _ _ _ _ _ _ hr bd=>
 (ae (az (i:=2) dw.nd rfl (!4) oA)
 (ae (a9 PassesOwn.never rfl (pF (by rfl) T.enumerate (af 1)) (o0 (is:=[3,4]) rfl (br (bz (i:=3) dw.nd rfl (!4)) (br (bz (i:=4) dw.nd rfl (!4)) iE)))
 (ak (a9 PassesOwn.never rfl (df (by rfl) T.range (af 0)) (ci (i:=5) dw.nd rfl (!4))
 (ak (F6 bd (i:=2) (j:=3) (pv 2) (aA (uh T) hr (ab (af 4) (ab (af 5) aj ah) ah)) (pv 3))))))
 (ak (aV (af 2)))))
theorem qS (T:Tx K mg t):Gx P w K mg base 1 gX (jv K 1 gS):=lF (fb:=jQ) 0 1 1 rfl rfl T.t9 qM λ_ _ _ _ _ _ _ hr bd=>
 (ak (aV (Hm (tm (by decide) (by rfl) T.isinstance (af 0) (oh (v:=.ty "int") (by rfl) T.int PyProof.Rows.boot_int rfl)) (Hl (Hn (tm (by decide) (by rfl) T.isinstance (af 0) (oh (v:=.ty "bool") (by rfl) T.bool PyProof.Rows.boot_bool rfl)))))))
theorem qT (T:Tx K mg t):Gx P w K mg base 2 gZ (jv K 2 gT):=lF (fb:=jR) 1 4 2 rfl rfl T.ub i_ λ_ _ _ _ _ _ _ hr bd=>
 (ae (dI (DW.dt (F0 (sY (oY (tm (by decide) (by rfl) T.isinstance (af 0) (oh (v:=.ty "list") (by rfl) T.list PyProof.Rows.boot_list rfl)))) (Bu (bm (oX bd) (bL bJ (by rfl) T.len PySem.boot_len (ab (af 0) aj ah)) (bL bJ (by rfl) T.len PySem.boot_len (ab (af 1) aj ah)) (ck _)))))
 (ak (aV la))
 bq)
 (ae (a9 PassesOwn.never rfl (lu (af 0)) (ci (i:=2) i_.nd rfl (!4))
 (ae (dI (sY (oY (tm (by decide) (by rfl) T.isinstance (af 2) (oh (v:=.ty "list") (by rfl) T.list PyProof.Rows.boot_list rfl))))
 (ak (aV la))
 bq)
 (ak (a9 PassesOwn.never rfl (lu (af 2)) (ci (i:=3) i_.nd rfl (!4))
 (ak (dI (sY (oY (aA (qS T) hr (ab (af 3) aj ah))))
 (ak (aV la))
 bq))))))
 (ak (aV (Br (j_ bd) (af 0) (af 1) (ck _))))))
theorem Ig (T:Tx K mg t):Gx P w K mg base 7 ze (jv K 1 p7):=lF (fb:=CF) 6 9 1 rfl rfl T.Gd jT λ_ _ _ _ _ _ _ hr bd=>
 (ae (Hq (aA (ud T) hr (ab (af 0) aj ah)) (o0 (is:=[1,2,3,4]) rfl (br (bz (i:=1) jT.nd rfl (!4)) (br (bz (i:=2) jT.nd rfl (!4)) (br (bz (i:=3) jT.nd rfl (!4)) (br (bz (i:=4) jT.nd rfl (!4)) iE))))))
 (ae (az (i:=5) jT.nd rfl (!4) (aA (ue T) hr (ab (af 2) (ab (af 3) (ab (af 4) aj ah) ah) ah)))
 (ae (az (i:=6) jT.nd rfl (!4) (aA (qR T) hr (ab (bL bJ (by rfl) T.len PySem.boot_len (ab (af 5) aj ah)) (ab (aA (qf T) hr (ab (af 1) (ab (af 5) aj ah) ah)) aj))))
 (ae (az (i:=7) jT.nd rfl (!4) (bv (ab (bI lw (by rfl) T.list PyProof.Rows.boot_list (ab (af 2) aj ah)) (ab (bI lw (by rfl) T.list PyProof.Rows.boot_list (ab (af 4) aj ah)) aj))))
 (ae (az (i:=8) jT.nd rfl (!4) (aA (vY T) hr (ab (af 1) (ab (b9 lV (af 7) ao (λ_ _=>rfl)) (ab (af 3) (ab (b9 lV (af 7) ao (λ_ _=>rfl)) aj lE) ah) lE) ah)))
 (ae (dI (DW.dt (F0 (sY (oY (aA (qT T) hr (ab (af 8) (ab (af 6) aj ah) ah)))) (Bu (bm (oX bd) (af 7) (bv (ab (af 2) (ab (af 4) aj ah) ah)) (ck _)))))
 (ak (aV la))
 bq)
 (ae (CD (n:=8) (pv 8) ao (λ_ _=>rfl))
 (ak (aV (Br (j_ bd) (aA (vY T) hr (ab (af 1) (ab (b9 lV (af 7) ao (λ_ _=>rfl)) (ab (af 3) (ab (b9 lV (af 7) ao (λ_ _=>rfl)) aj lE) ah) lE) ah)) (af 6) (ck _)))))))))))
end
theorem all_mk {l:OpenLaw}{w:World}{K:Frag}{h:Heap}{mg:Str->Option Value}{fa:Addr}{t:Nat}(X:K.In h)(G:h.Ns mainGlobals mg)(hfa:mg "law" =some (.ref fa))
  (vZ:FX K "many_rows" (top 5))
  (CJ:FX K "row_at" (top 6))
  (v4:FX K "many_runs" (top 7))
  (CK:FX K "run_at" (top 8))
  (x8:FX K "all_runs" (top 9))
  (AE:FX K "came_to" (top 11))
  (Ih:FX K "view" (top 12))
  (n8:FX K "came_to_heard" (top 13))
  (n9:FX K "heard_earlier" (top 14))
  (E_:FX K "parts" (top 16))
  (qg:FX K "views_of_all" (top 17))
  (x9:FX K "views_in" (top 18))
  (qh:FX K "runs_by_view" (top 19))
  (qi:FX K "joined_parts" (top 20))
  (v5:FX K "ways_from" (top 21))
  (ky:FX K "steps_by_new_views" (top 22))
  (qj:FX K "_law_cell_at" (top 24))
  (x_:FX K "_law_mix" (top 25))
  (uk:FX K "_law_whole" (top 26))
  (ul:FX K "_law_pairs" (top 27))
  (qk:FX K "_law_weather" (top 28))
  (v6:FX K "_law_road" (top 29))
  (qU:FX K "_law_values" (top 30))
  (qV:FX K "_law_starts" (top 31))
  (v7:FX K "_law_case" (top 32))
  (v8:FX K "_law_runs" (top 33))
  (ql:FX K "_law_senders" (top 34))
  (v9:FX K "_law_view" (top 35))
  (qW:FX K "_law_groups" (top 36))
  (um:FX K "_law_parts" (top 37))
  (uo:FX K "_law_alike" (top 38))
  (KO:FX K "law" (top 39))
  (Ii:nsIn K mainGlobals "bool" =some none)
  (Ij:nsIn K mainGlobals "dict" =some none)
  (v_:nsIn K mainGlobals "enumerate" =some none)
  (KP:nsIn K mainGlobals "int" =some none)
  (uq:nsIn K mainGlobals "isinstance" =some none)
  (KR:nsIn K mainGlobals "len" =some none)
  (Ik:nsIn K mainGlobals "list" =some none)
  (KS:nsIn K mainGlobals "min" =some none)
  (Fa:nsIn K mainGlobals "range" =some none)
  (ya:nsIn K mainGlobals "reversed" =some none)
  (K_:nsIn K mainGlobals "set" =some none)
  (CL:nsIn K mainGlobals "sorted" =some none)
  (Fb:nsIn K mainGlobals "tuple" =some none)
  (wa:nsIn K mainGlobals "MOST_RUNS" =some (some (.int 3000 t)))
  :∃fd:FuncData,(∀(s:Shared) (v:Value),BindsTo s fd ⟨[v],[]⟩ [("_law_script",v)])/\∀base:Heap,K.In base->base.Ns mainGlobals mg->jb l.prog w K mg base yF 7 fa fd ["_law_script"] (jv K 1 p7):=by
 have T:Tx K mg t:=⟨FX.ex X G vZ λ_ _ _ _ _ _=>Az λ_ _=>rfl,FX.ex X G CJ λ_ _ _ _ _ _=>A3 λ_ _ _=>rfl,FX.ex X G v4 λ_ _ _ _ _ _=>A3 λ_ _ _=>rfl,FX.ex X G CK λ_ _ _ _ _ _=>NG λ_ _ _ _=>rfl,FX.ex X G x8 λ_ _ _ _ _ _=>A3 λ_ _ _=>rfl,FX.ex X G AE λ_ _ _ _ _ _=>A3 λ_ _ _=>rfl,FX.ex X G Ih λ_ _ _ _ _ _=>Az λ_ _=>rfl,FX.ex X G n8 λ_ _ _ _ _ _=>A3 λ_ _ _=>rfl,FX.ex X G n9 λ_ _ _ _ _ _=>Az λ_ _=>rfl,FX.ex X G E_ λ_ _ _ _ _ _=>NG λ_ _ _ _=>rfl,FX.ex X G qg λ_ _ _ _ _ _=>Az λ_ _=>rfl,FX.ex X G x9 λ_ _ _ _ _ _=>Az λ_ _=>rfl,FX.ex X G qh λ_ _ _ _ _ _=>Gc λ_=>rfl,FX.ex X G qi λ_ _ _ _ _ _=>Gc λ_=>rfl,FX.ex X G v5 λ_ _ _ _ _ _=>A3 λ_ _ _=>rfl,FX.ex X G ky λ_ _ _ _ _ _=>A3 λ_ _ _=>rfl,FX.ex X G qj λ_ _ _ _ _ _=>Az λ_ _=>rfl,FX.ex X G x_ λ_ _ _ _ _ _=>Az λ_ _=>rfl,FX.ex X G uk λ_ _ _ _ _ _=>Gc λ_=>rfl,FX.ex X G ul λ_ _ _ _ _ _=>Gc λ_=>rfl,FX.ex X G qk λ_ _ _ _ _ _=>Az λ_ _=>rfl,FX.ex X G v6 λ_ _ _ _ _ _=>A3 λ_ _ _=>rfl,FX.ex X G qU λ_ _ _ _ _ _=>Gc λ_=>rfl,FX.ex X G qV λ_ _ _ _ _ _=>A3 λ_ _ _=>rfl,FX.ex X G v7 λ_ _ _ _ _ _=>Gc λ_=>rfl,FX.ex X G v8 λ_ _ _ _ _ _=>A3 λ_ _ _=>rfl,FX.ex X G ql λ_ _ _ _ _ _=>A3 λ_ _ _=>rfl,FX.ex X G v9 λ_ _ _ _ _ _=>Az λ_ _=>rfl,FX.ex X G qW λ_ _ _ _ _ _=>Az λ_ _=>rfl,FX.ex X G um λ_ _ _ _ _ _=>Az λ_ _=>rfl,FX.ex X G uo λ_ _ _ _ _ _=>Az λ_ _=>rfl,FX.ex X G KO λ_ _ _ _ _ _=>Gc λ_=>rfl,PySem.W.mg_none_of X G Ii,PySem.W.mg_none_of X G Ij,PySem.W.mg_none_of X G v_,PySem.W.mg_none_of X G KP,PySem.W.mg_none_of X G uq,PySem.W.mg_none_of X G KR,PySem.W.mg_none_of X G Ik,PySem.W.mg_none_of X G KS,PySem.W.mg_none_of X G Fa,PySem.W.mg_none_of X G ya,PySem.W.mg_none_of X G K_,PySem.W.mg_none_of X G CL,PySem.W.mg_none_of X G Fb,mg_of X G wa⟩
 obtain⟨f,d,x⟩:=T.Gd
 cases hfa.symm.trans x.m
 refine⟨d,?_,λbase _ _=> ?_⟩
 ·obtain⟨_,_,kV,dc,pm,an,cd,ct,_,rfl,_⟩:=x.F.ex
  exact λs v=> .of_eq rfl
 ·obtain⟨f,d,y,g⟩:=Ig (P:=l.prog) (w:=w) (base:=base) T
  obtain⟨rfl,rfl⟩:=x.uniq y
  exact g
theorem walk (La:∀ns:List Int,ns.length<=63->∃o,p7 [.list (!5)]=some (.ok (o,.bool true))){l:OpenLaw}{q:Program}{loose:List Str}{XP:(Str->Option Value)->Heap->Prop}{YP:World->Heap->Prop}{d:DefRec}{K:Params->Frag}(hn:l.most=some 63)(hdf:d.params.defaults=[])
  (hY:∀(w:World) (h:Heap),YP w h->(K w.params).In h)
  (F:∀(w:World) (mg:Str->Option Value) (fa:Addr) (h:Heap),(K w.params).In h->h.Ns mainGlobals mg->mg d.name=some (.ref fa)->
   ∃fd:FuncData,(∀(s:Shared) (u:Value),BindsTo s fd ⟨[u],[]⟩ [("_law_script",u)])/\∀base:Heap,(K w.params).In base->base.Ns mainGlobals mg->jb l.prog w (K w.params) mg base yF 7 fa fd ["_law_script"] (jv (K w.params) 1 p7)) :
  PySem.W.WalkO q loose XP YP l.row.toRowW d [] (λf vs=>PySem.call f vs) :=
 L2.DZ (n:=63) (k:=7) (x:="_law_script") (CX:=λ_=>yF) (sp:=λw=>jv (K w.params) 1 p7) hn (by decide) hdf ⟨rfl,by decide,by decide⟩ hY F (λ_ _ a ns hl _ hS=>BK hS (La ns hl)) λ_ _ _ _ _ z=>z
end K31
namespace K31
open PySem Y
def aI {a b:Prop}(x:a)(y:b):=And.intro x y
def rn:=aI @cF.eq_1<|aI @cP.eq_1<|aI @aB.eq_1<|aI @ja.eq_1<|aI @bZ.eq_1<|aI @cB.eq_1<|aI @Mk.eq_1<|aI @aE.eq_1<|aI @zQ.eq_1<|aI @xq.eq_1<|aI @bx.eq_1<|aI @iW.eq_1<|aI @xt.eq_1<|aI @zR.eq_1<|aI @bp.eq_1<|aI @Bn.eq_1<|aI @eV.eq_1<|aI @eC.eq_1<|aI @kF.eq_1<|aI @JO.eq_1<|aI @Hf.eq_1<|aI @Hg.eq_1<|aI @Bo.eq_1<|aI @eArgs.eq_1<|aI @eArgs.eq_2<|aI @iU.eq_1<|aI @cm.eq_1<|aI @iF.eq_1<|aI @aJ.eq_1<|aI @uR.eq_1<|aI @oQ.eq_1<|aI @oQ.eq_2<|aI @oQ.eq_3<|aI @oQ.eq_4<|aI @oQ.eq_5<|aI @oQ.eq_6<|aI @oQ.eq_7<|aI @D5.eq_1<|aI @tE.eq_1<|aI @rf.eq_1<|aI @zL.eq_1<|aI @lN.eq_1<|aI @dN.eq_1<|aI @mU.eq_1<|aI @mU.eq_2<|aI @bO.eq_1<|aI @bO.eq_2<|aI @bO.eq_3<|aI @iV.eq_1<|aI @iV.eq_2<|aI @iV.eq_3<|aI @iV.eq_4<|aI @j9.eq_1<|aI @j9.eq_2<|aI @j9.eq_3<|aI @j9.eq_4<|aI @bY.eq_1<|aI @ny.eq_1<|aI @eK.eq_1<|aI @itemsOf.eq_1<|aI @itemsOf.eq_2<|aI @itemsOf.eq_3<|aI @kY.eq_1<|aI @ar<|aI @bt<|aI @EM<|aI @EN<|aI @EO<|aI @Ax<|aI @Cu<|aI @Cv<|aI @EU<|aI @Co<|aI @Cp<|aI @Cq<|aI @Aw<|aI @Cr<|aI @Cs<|aI @Ct<|aI @ER<|aI @ES<|aI @ET<|aI @xR<|aI @jd.eq_1<|aI @jd.eq_2<|aI @Cw<|aI @oB<|aI @HS<|aI @EI<|aI @EJ<|aI @EK<|aI @EL<|aI @me<|aI @HR<|aI @EH<|aI @EG<|aI @mf<|aI @cD<|aI @List.map_cons.{0,0}<|aI @List.map_nil.{0,0}<|aI @List.cons_append.{0}<|aI @List.nil_append.{0}<|aI @List.getElem?_cons_zero.{0}<|aI @List.getElem?_cons_succ.{0}<|aI @List.length_cons.{0}<|aI @List.length_nil.{0}<|aI @List.length_map.{0,0}<|aI @List.length_range<|aI @List.set_cons_zero.{0}<|aI @List.set_cons_succ.{0}<|aI @List.replicate_succ.{0}<|aI @List.replicate_zero.{0}<|aI @if_true.{0}<|aI @if_false.{0}<|aI @Bool.false_eq_true<|aI @Bool.not_true<|aI @Bool.not_false<|aI @decide_true<|aI @decide_false<|aI @ite_true.{0}<|aI @ite_false.{0}<|aI @Option.map_some.{0,0}<|aI @Option.join_some.{0}<|aI @beq_self_eq_true.{0}<|aI @eq_self.{0}<|aI @Bool.or_false<|aI @Bool.false_or<|aI @Bool.or_true<|@Bool.true_or
abbrev tL (x:List Z4):Option (Bool×Z4):=some (true,.list x)
abbrev tI (x:Int):Option (Bool×Z4):=some (true,.int x)
abbrev tN (x:Nat):Option (Bool×Z4):=some (true,.int (x:Int))
abbrev tT (x:List Z4):Option (Bool×Z4):=some (true,.tuple x)
abbrev tD (x:List (Z4×Z4)):Option (Bool×Z4):=some (true,.dict x)
abbrev tB (x:Bool):Option (Bool×Z4):=some (true,.bool x)
abbrev tA (x:Z4):Option (Bool×Z4):=some (true,x)
abbrev fL (x:List Z4):Option (Bool×Z4):=some (false,.list x)
abbrev fI (x:Int):Option (Bool×Z4):=some (false,.int x)
abbrev fN (x:Nat):Option (Bool×Z4):=some (false,.int (x:Int))
abbrev fT (x:List Z4):Option (Bool×Z4):=some (false,.tuple x)
abbrev fD (x:List (Z4×Z4)):Option (Bool×Z4):=some (false,.dict x)
abbrev fA (x:Z4):Option (Bool×Z4):=some (false,x)
noncomputable def nat (o:Nat):Z4:=.int (o:Int)
abbrev ON:=(Nat->List Nat)×(Nat->List Nat)
def bQ (h:Nat)(W:List Z4)(k:Nat):List Nat:=(!2).filter λo=> !((o:Int)==(k:Int)) && !cn W (.tuple [.int (o:Int),.int (k:Int)])
theorem Fc (h k:Nat)(W:List Z4)(hh:h<=4)(hW:lays 60 W=true):kP [.int (h:Int),.tuple W,.int (k:Int)]=ag (true,.tuple ((bQ h W k).map nat)):=by
 have hp:∀o:Nat,lay 60 (.tuple [.int (o:Int),.int (k:Int)])=true:=λ_=>rfl
 have hc:=t5 (ft:=iK) (fe:=kq) (cap:=[fN k,fT W]) ((!2).map λ(i:Nat)=>PyData.int (i:Int))
  (λd=>match d with | .int o=> !(o==(k:Int)) && !cn W (.tuple [.int o,.int (k:Int)]) | _=>false) (λd=>(Kd.fr [],d)) (λd hd=>by
   obtain⟨o,_,rfl⟩:=Kw.mp hd
   have e:=pL (hp o) hW
   have n2:aq [PyData.int (o:Int),.int (k:Int)]=true:=rfl
   cases hb:(((o:Nat):Int)==(k:Int)) with
   | true=>simp(disch:=omega) only[iK,rn,reduceIte,hb,YQ]
   | false=>simp(disch:=omega) only[iK,rn,reduceIte,hb,e,au n2,J5]) (λd hd _=>by
   obtain⟨o,_,rfl⟩:=Kw.mp hd
   simp(disch:=omega) only[kq,rn,reduceIte])
 have e1:((((!2).map λ(i:Nat)=>PyData.int (i:Int)).filter λd=>match d with | .int o=> !(o==(k:Int)) && !cn W (.tuple [.int o,.int (k:Int)]) | _=>false))=(bQ h W k).map nat:=by
  rw[List.filter_map];rfl
 rw[e1] at hc
 have k1:=fm ((bQ h W k).map nat) id
 simp only[id] at k1
 have m1:(((bQ h W k).map nat).map λd=>(Kd.fr [],d)).map Prod.snd=(bQ h W k).map nat:=by rw[KQ];exact List.map_id _
 have hl:h<=100000:=by omega
 have nW:aq ((bQ h W k).map nat)=true:=aT _ (λ_=>rfl) _
 generalize (bQ h W k).map nat=L at*
 simp(disch:=omega) only[kP,m8,cp,rn,reduceIte,Ku,hc,k1,m1,hl,ca nW,au nW]
theorem qm (h k:Nat)(W:List Z4)(hh:h<=4)(hW:lays 60 W=true):du [.int (h:Int),.tuple W,.int (k:Int)]=ag (true,.tuple ((bQ h W k).map nat)):=by
 have hp:∀o:Nat,lay 60 (.tuple [.int (o:Int),.int (k:Int)])=true:=λ_=>rfl
 obtain⟨Γ',h1,c4,h2⟩:=bn (g:=bY 4) (b:=cv) (ds:=(!2).map λ(i:Nat)=>PyData.int (i:Int)) (Γ:=[fN h,fT W,fN k,tL [],none])
  (λi Γ=>∃c4:Option (Bool×Z4),Γ=[fN h,fT W,fN k,tL ((bQ i W k).map nat),c4]) ⟨none,rfl⟩ (by
  rintro i d Γ hd ⟨c4,rfl⟩
  obtain⟨rfl,hi⟩:=bR hd
  refine⟨_,[fN h,fT W,fN k,tL ((bQ (i+1) W k).map nat),tN i],rfl,.inl ?_,_,rfl⟩
  have e:=pL (hp i) hW
  have n2:aq [PyData.int (i:Int),.int (k:Int)]=true:=rfl
  have hsz:(bQ i W k).length < sizeLine:=Xv (KY (U9 _ _) (by rw[X8];omega:_<=4)) (by decide)
  have es:bQ (i+1) W k=bQ i W k++(if (!((i:Int)==(k:Int)) && !cn W (.tuple [.int (i:Int),.int (k:Int)]))=true then [i] else []):=by
   unfold bQ;rw[Yy,List.filter_append,Y5,Jz]
  rw[es]
  cases hb:(((i:Nat):Int)==(k:Int)) with
  | true=>simp(disch:=omega) only[cv,rn,reduceIte,hb,YQ,Xu]
  | false=>
   cases ha:cn W (.tuple [.int (i:Int),.int (k:Int)]) with
   | true=>simp(disch:=omega) only[cv,rn,reduceIte,hb,e,ha,au n2,J5,Xu]
   | false=>simp(disch:=omega) only[cv,rn,reduceIte,hb,e,ha,au n2,J5,hsz,X0,nat])
 rw[K4,X8] at h2
 have nW:aq ((bQ h W k).map nat)=true:=aT _ (λ_=>rfl) _
 simp(disch:=omega) only[du,iC,rn,reduceIte,Ku,h1,h2,ca nW,au nW]
theorem qo (H:List Nat)(k:Nat):cn (H.map nat) (.int (k:Int))=decide (k∈H):=by
 have e:H.map nat=(H.map λ(o:Nat)=>(o:Int)).map PyData.int:=by rw[KQ];rfl
 rw[e,xS]
 congr 1
 rw[Kw,eq_iff_iff]
 exact⟨λ⟨o,ho,h⟩=>(show o=k by omega) ▸ ho,λh=>⟨k,h,rfl⟩⟩
def cg (h:Nat)(W:List Z4)(H:List Nat)(k:Nat):Z4:=if k∈H then .tuple ((bQ h W k).map nat) else .none
theorem jU (h:Nat)(W:List Z4)(H:List Nat)(k:Nat):bj (cg h W H k)=true:=by
 unfold cg;split
 ·exact aT _ (λ_=>rfl) _
 ·rfl
theorem CM (h:Nat)(W:List Z4)(H:List Nat)(hh:h<=4)(hW:lays 60 W=true) :
  eB [.int (h:Int),.tuple W,.list (H.map nat)]=ag (true,.tuple ((!2).map (cg h W H))):=by
 have hc:=jp (fe:=cV) (cap:=[fL (H.map nat),fN h,fT W]) ((!2).map λ(i:Nat)=>PyData.int (i:Int))
  (λd=>match d with | .int k=>(.fr [],cg h W H k.toNat) | _=>(.fr [],.none)) (λd hd=>by
   obtain⟨k,_,rfl⟩:=Kw.mp hd
   have e:=vH (x:=.int (k:Int)) (ys:=H.map nat) rfl (j7 _ (λ_=>rfl) _)
   rw[qo] at e
   have c:=Fc h k W hh hW
   have nW:aq ((bQ h W k).map nat)=true:=aT _ (λ_=>rfl) _
   by_cases hb:k∈H
   ·simp(disch:=omega) only[cV,rn,reduceIte,e,hb,c,au nW,Ku,cg]
   ·simp(disch:=omega) only[cV,rn,reduceIte,e,hb,Ku,cg])
 rw[KQ] at hc
 have e1:(((!2).map λ(i:Nat)=>PyData.int (i:Int)).map λd=>match d with | .int k=>(Kd.fr [],cg h W H k.toNat) | _=>(Kd.fr [],PyData.none))=(!2).map λk=>(Kd.fr [],cg h W H k):=by
  rw[KQ];refine Uj λk _=> ?_;simp only[Function.comp,Ku]
 rw[KQ] at e1
 rw[e1] at hc
 have k1:=fm (!2) (cg h W H)
 have m1:((!2).map λk=>(Kd.fr [],cg h W H k)).map Prod.snd=(!2).map (cg h W H):=by rw[KQ];rfl
 have hl:h<=100000:=by omega
 have nW:aq ((!2).map (cg h W H))=true:=aT _ (jU h W H) _
 simp(disch:=omega) only[eB,gH,cp,rn,reduceIte,Ku,hc,k1,m1,hl,ca nW,au nW]
def jV (h:Nat)(W:List Z4)(H:List Nat)(i:Nat):List Nat:=H++((List.range i).filter λk=>decide (k∈H)).flatMap (bQ h W)
def iR (h:Nat)(W:List Z4)(H:List Nat):List Nat:=[0,1,2,3].filter λk=>decide (k∈jV h W H h)
theorem yb (E:List Nat):vd (E.map nat)=([0,1,2,3].filter λk=>decide (k∈E)).map nat:=by
 unfold vd
 show List.map nat _=_
 congr 1
 refine List.filter_congr λk _=> ?_
 rw[List.any_map,Yj,List.any_eq_true,JU]
 constructor
 ·rintro⟨y,hy,hk⟩
  have hk2:((y:Nat):Int)=(k:Int):=by simpa [Kb,nat] using hk
  have:y=k:=by omega
  exact this ▸ hy
 ·intro h;exact⟨k,h,by simp[Kb,nat]⟩
theorem my {h:Nat}{W:List Z4}{k o:Nat}(ho:o∈bQ h W k):o < h:=Xy.mp (UY.mp ho).1
theorem yc (h:Nat)(W:List Z4)(H:List Nat)(hh:h<=4)(hH:∀k∈H,k < h)(hl:H.length<=4) :
  eD [.list (H.map nat),.tuple ((!2).map (cg h W H))]=ag (true,.list ((iR h W H).map nat)):=by
 have Lb:∀k,(bQ h W k).length<=4:=λk=>KY (U9 _ _) (by rw[X8];exact hh)
 have MT:∀i,i<=h->(jV h W H i).length<=4+4*i:=by
  intro i
  induction i with
  | zero=>intro _;simp[jV];omega
  | succ i ih=>
   intro hi
   have:=ih (!1)
   have s:=Lb i
   unfold jV at this⊢
   rw[Yy,List.filter_append,List.flatMap_append,←X7,K2]
   by_cases hm:i∈H
   ·simp only[Y5,hm,decide_true,if_true,Jz,List.flatMap_cons,List.flatMap_nil,Xu];omega
   ·simp only[Y5,hm,decide_false,XU,if_false,Jz,List.flatMap_nil,UJ];omega
 obtain⟨Γ',h1,c3,h2⟩:=bn (g:=bY 3) (b:=cW) (ds:=(!2).map (cg h W H)) (Γ:=[fL (H.map nat),fT ((!2).map (cg h W H)),tL (H.map nat),none])
  (λi Γ=>∃c3:Option (Bool×Z4),Γ=[fL (H.map nat),fT ((!2).map (cg h W H)),tL ((jV h W H i).map nat),c3]) ⟨none,by simp[jV]⟩ (by
  rintro i d Γ hd ⟨c3,rfl⟩
  have hi:i < h:=by have:=(X2.mp hd).1;simpa using this
  rw[KW,Y7 hi] at hd
  have hd':cg h W H i=d:=Option.some.inj hd
  subst hd'
  refine⟨_,[fL (H.map nat),fT ((!2).map (cg h W H)),tL ((jV h W H (i+1)).map nat),tA (cg h W H i)],by rw[cU (jU h W H i)];rfl,.inl ?_,_,rfl⟩
  have f1:=MT i (!1)
  have s1:=Lb i
  have nW:aq ((bQ h W i).map nat)=true:=aT _ (λ_=>rfl) _
  have hsz:(jV h W H i).length+(bQ h W i).length<=sizeLine:=KY (show _<=100 by omega) (by decide)
  have es:jV h W H (i+1)=jV h W H i++(if i∈H then bQ h W i else []):=by
   unfold jV
   rw[Yy,List.filter_append,List.flatMap_append,←X7]
   by_cases hm:i∈H
   ·simp only[Y5,hm,decide_true,if_true,Jz,List.flatMap_cons,List.flatMap_nil,Xu]
   ·simp only[Y5,hm,decide_false,XU,if_false,Jz,List.flatMap_nil]
  rw[es]
  by_cases hm:i∈H
  ·simp(disch:=omega) only[cW,rn,jd,mU,bO,reduceIte,cg,hm,au nW,xr,nW,hsz,X0,and_self]
  ·simp(disch:=omega) only[cW,rn,jd,mU,bO,reduceIte,cg,hm,Xu])
 rw[K4,X8] at h2
 have hlt:∀k∈jV h W H h,k < 4:=λk hk=>by
  unfold jV at hk
  rcases Kk.mp hk with hk | hk
  ·have:=hH k hk;omega
  ·obtain⟨j,_,hj⟩:=Y6.mp hk
   have:=my hj;omega
 have hin:((jV h W H h).map nat).all in4=true:=by
  rw[List.all_map,Y3]
  intro k hk
  have:=hlt k hk
  simp only[Function.comp,nat,in4,X9,JU]
  omega
 have hs:ka (.list ((jV h W H h).map nat))=some (.list ((iR h W H).map nat)):=by
  simp only[ka,hin,if_true,yb,iR]
 have n1:aq (H.map nat)=true:=aT _ (λ_=>rfl) _
 have n2:aq ((!2).map (cg h W H))=true:=aT _ (jU h W H) _
 simp(disch:=omega) only[eD,gI,rn,jd,mU,bO,reduceIte,lD n1,au n2,h1,h2,hs]
noncomputable def hs (h:Nat):List (List Z4)->List Nat->List Nat
 | [],H=>H
 | W :: R,H=>hs h R (iR h W H)
noncomputable def rows (h:Nat):List (List Z4)->List Nat->List Z4
 | [],_=> []
 | W :: R,H=> .tuple ((!2).map (cg h W H)) :: rows h R (iR h W H)
theorem zf (h:Nat)(W:List Z4):∀(R:List (List Z4)) (H:List Nat),hs h (R++[W]) H=iR h W (hs h R H)
 | [],H=>rfl
 | V :: R,H=>by rw[U8,hs,hs,zf h W R]
theorem sg (h:Nat)(W:List Z4):∀(R:List (List Z4)) (H:List Nat),rows h (R++[W]) H=rows h R H++[.tuple ((!2).map (cg h W (hs h R H)))]
 | [],H=>rfl
 | V :: R,H=>by rw[U8,rows,rows,sg h W R,hs,U8]
theorem wb {h:Nat}{W:List Z4}{H:List Nat}(hH:∀k∈H,k < h):∀k∈iR h W H,k < h:=λk hk=>by
 have hk':k∈jV h W H h:=by simpa using (UY.mp hk).2
 unfold jV at hk'
 rcases Kk.mp hk' with z | z
 ·exact hH k z
 ·obtain⟨j,_,hj⟩:=Y6.mp z;exact my hj
theorem AF (h:Nat)(W:List Z4)(H:List Nat):(iR h W H).length<=4:=U9 _ _
theorem Ge {h:Nat}:∀{R:List (List Z4)} {H:List Nat},(∀k∈H,k < h)->H.length<=4->(∀k∈hs h R H,k < h)/\(hs h R H).length<=4
 | [],H,h1,h2=>⟨h1,h2⟩
 | W :: R,H,h1,h2=>Ge (R:=R) (H:=iR h W H) (wb h1) (AF h W H)
theorem mz {h:Nat}:∀{R:List (List Z4)} {H:List Nat},aq (rows h R H)=true
 | [],H=>rfl
 | W :: R,H=>by rw[rows,aq,mz,cD,aT _ (jU h W H)];rfl
theorem mE {h:Nat}:∀{R:List (List Z4)} {H:List Nat},(rows h R H).length=R.length
 | [],H=>rfl
 | W :: R,H=>by rw[rows,Kz,mE,Kz]
def cj (vs:List Int)(H:List Nat)(k:Nat):Z4:=if k∈H then .int (vs.getD k 0) else .none
theorem mF (vs:List Int)(H:List Nat)(k:Nat):bj (cj vs H k)=true:=by unfold cj;split <;> rfl
def cz (vs:List Int)(Ws:List (List Z4))(hand:Nat):Z4 :=
 .tuple [.int (hand:Int),.tuple ((List.range vs.length).map (cj vs (hs vs.length Ws.reverse [hand]))),.tuple (rows vs.length Ws.reverse [hand]).reverse]
def jW (vs:List Int)(Ws:List (List Z4)):Z4:=.tuple [.tuple (vs.map PyData.int),.tuple (Ws.map PyData.tuple)]
theorem ur {vs:List Int}{Ws:List (List Z4)}(hn:∀W∈Ws,aq W=true):aq [PyData.tuple (vs.map PyData.int),.tuple (Ws.map PyData.tuple)]=true:=by
 have:aq (Ws.map PyData.tuple)=true:=aU.mpr λx hx=>by
  obtain⟨W,hW,rfl⟩:=Kw.mp hx;exact hn W hW
 simp only[aq,cD,dC,this,XY]
theorem Fd (vs:List Int)(Ws:List (List Z4))(hand:Nat)(hh:vs.length<=4)(hd:hand < vs.length)(hr:Ws.length<=5)(hn:∀W∈Ws,aq W=true)(hW:∀W∈Ws,lays 60 W=true) :
  p0 [jW vs Ws,.int (hand:Int)]=ag (true,cz vs Ws hand):=by
 have nr:=ur (vs:=vs) hn
 have nw:aq (Ws.map PyData.tuple)=true:=by simp only[aq,cD,dC,J5,Bool.and_true] at nr;exact nr
 generalize hh':vs.length=h at*
 have a0:mP [PyData.tuple (vs.map PyData.int),.tuple (Ws.map PyData.tuple)] 0=some (.tuple (vs.map PyData.int)):=rfl
 have a1:mP [PyData.tuple (vs.map PyData.int),.tuple (Ws.map PyData.tuple)] 1=some (.tuple (Ws.map PyData.tuple)):=rfl
 have hml:(vs.map PyData.int).length=h:=by rw[K4];exact hh'
 obtain⟨Γ',h1,c6,c7,h2⟩:=bn (g:=bY 6) (b:=pZ) (ds:=Ws.reverse.map PyData.tuple) (Γ:=[fA (jW vs Ws),fN hand,tT (vs.map PyData.int),tN h,tL [.int (hand:Int)],tL [],none,none,none])
  (λi Γ=>∃c6 c7:Option (Bool×Z4),Γ=[fA (jW vs Ws),fN hand,tT (vs.map PyData.int),tN h,tL ((hs h (Ws.reverse.take i) [hand]).map nat),tL (rows h (Ws.reverse.take i) [hand]),c6,c7,none]) ⟨none,none,rfl⟩ (by
  rintro i d Γ hd2 ⟨c6,c7,rfl⟩
  have hi:i < Ws.reverse.length:=by have:=(X2.mp hd2).1;simpa using this
  rw[KW,K3 hi] at hd2
  have hd':PyData.tuple Ws.reverse[i]=d:=Option.some.inj hd2
  subst hd'
  have hm:Ws.reverse[i]∈Ws:=Uw.mp (Uv hi)
  have et:Ws.reverse.take (i+1)=Ws.reverse.take i++[Ws.reverse[i]]:=by rw[J8,K3 hi];rfl
  obtain⟨o1,o2⟩:=Ge (R:=Ws.reverse.take i) (H:=[hand]) (h:=h) (λk hk=>by rw[K7.mp hk];exact hd) (by simp)
  have n1:=hn _ hm
  have c1:=CM h Ws.reverse[i] (hs h (Ws.reverse.take i) [hand]) hh (hW _ hm)
  have c2:=yc h Ws.reverse[i] (hs h (Ws.reverse.take i) [hand]) hh o1 o2
  have nR:aq ((!2).map (cg h Ws.reverse[i] (hs h (Ws.reverse.take i) [hand])))=true:=aT _ (jU _ _ _) _
  have hsz:(rows h (Ws.reverse.take i) [hand]).length < sizeLine:=Xv (show _<=5 by rw[mE];simp at hi⊢;omega) (by decide)
  refine⟨_,[fA (jW vs Ws),fN hand,tT (vs.map PyData.int),tN h,tL ((hs h (Ws.reverse.take (i+1)) [hand]).map nat),tL (rows h (Ws.reverse.take (i+1)) [hand]),tT Ws.reverse[i],tT ((!2).map (cg h Ws.reverse[i] (hs h (Ws.reverse.take i) [hand]))),none],by rw[au n1];rfl,.inl ?_,_,_,rfl⟩
  rw[et,zf,sg]
  generalize Ws.reverse[i]=W at*
  simp(disch:=omega) only[pZ,rn,reduceIte,au n1,c1,au nR,hsz,c2])
 rw[K4,J4] at h2
 simp only[jW] at h1 h2
 have hc:=jp (fe:=mm) (cap:=[fL ((hs h Ws.reverse [hand]).map nat),fT (vs.map PyData.int)]) ((!2).map λ(i:Nat)=>PyData.int (i:Int))
  (λd=>match d with | .int k=>(.fr [],cj vs (hs h Ws.reverse [hand]) k.toNat) | _=>(.fr [],.none)) (λd hd=>by
   obtain⟨k,hk,rfl⟩:=Kw.mp hd
   have e:=vH (x:=.int (k:Int)) (ys:=(hs h Ws.reverse [hand]).map nat) rfl (j7 _ (λ_=>rfl) _)
   rw[qo] at e
   have hk':k < vs.length:=by rw[hh'];exact Xy.mp hk
   have ea:mP (vs.map PyData.int) (k:Int)=some (.int (vs.getD k 0)):=iI (by rw[KW,X6,K3 hk'];rfl)
   by_cases hb:k∈hs h Ws.reverse [hand]
   ·simp(disch:=omega) only[mm,rn,reduceIte,e,hb,ea,au (dC vs),Ku,cj]
   ·simp(disch:=omega) only[mm,rn,reduceIte,e,hb,Ku,cj])
 have e1:(((!2).map λ(i:Nat)=>PyData.int (i:Int)).map λd=>match d with | .int k=>(Kd.fr [],cj vs (hs h Ws.reverse [hand]) k.toNat) | _=>(Kd.fr [],PyData.none))=(!2).map λk=>(Kd.fr [],cj vs (hs h Ws.reverse [hand]) k):=by
  rw[KQ];refine Uj λk _=> ?_;simp only[Function.comp,Ku]
 rw[e1] at hc
 have k1:=fm (!2) (cj vs (hs h Ws.reverse [hand]))
 have m1:((!2).map λk=>(Kd.fr [],cj vs (hs h Ws.reverse [hand]) k)).map Prod.snd=(!2).map (cj vs (hs h Ws.reverse [hand])):=by rw[KQ];rfl
 have hl:h<=100000:=by omega
 have n1:aq ((!2).map (cj vs (hs h Ws.reverse [hand])))=true:=aT _ (mF _ _) _
 have n2:aq (rows h Ws.reverse [hand])=true:=mz
 have n3:aq (rows h Ws.reverse [hand]).reverse=true:=aU.mpr λx hx=>aU.mp n2 x (Uw.mp hx)
 have n4:aq [PyData.int (hand:Int),.tuple ((!2).map (cj vs (hs h Ws.reverse [hand]))),.tuple (rows h Ws.reverse [hand]).reverse]=true:=by simp only[aq,me,cD,n1,n3,XY]
 simp(disch:=omega) only[p0,xY,cp,Bq,D6,rn,reduceIte,jW,a0,a1,au nr,au (dC vs),au nw,hml,hh',←List.map_reverse,h1,h2,Ku,hc,k1,m1,hl,ca n1,pM n2,au n1,au n3,au n4,cz]
mutual
noncomputable def pl:Z4->Bool
 | .none=>true
 | .int _=>true
 | .tuple xs=>DB xs
 | _=>false
noncomputable def DB:List Z4->Bool
 | []=>true
 | d :: ds=>pl d && DB ds
end
mutual
theorem CN:∀(x y:Z4),pl x=true->pl y=true->PyData.eqv x y=true->x=y
 | .none,.none,_,_,_=>rfl
 | .int i,.int j,_,_,h=>by simp[PyData.eqv] at h;rw[h]
 | .tuple xs,.tuple ys,hx,hy,h=>by
  rw[pl] at hx hy
  simp only[PyData.eqv] at h
  rw[zg xs ys hx hy h]
 | .none,.int _,_,_,h=>by simp[PyData.eqv] at h
 | .none,.tuple _,_,_,h=>by simp[PyData.eqv] at h
 | .int _,.none,_,_,h=>by simp[PyData.eqv] at h
 | .int _,.tuple _,_,_,h=>by simp[PyData.eqv] at h
 | .tuple _,.none,_,_,h=>by simp[PyData.eqv] at h
 | .tuple _,.int _,_,_,h=>by simp[PyData.eqv] at h
 | .bool _,_,hx,_,_=>by simp[pl] at hx
 | .str _,_,hx,_,_=>by simp[pl] at hx
 | .list _,_,hx,_,_=>by simp[pl] at hx
 | .dict _,_,hx,_,_=>by simp[pl] at hx
 | .none,.bool _,_,hy,_=>by simp[pl] at hy
 | .none,.str _,_,hy,_=>by simp[pl] at hy
 | .none,.list _,_,hy,_=>by simp[pl] at hy
 | .none,.dict _,_,hy,_=>by simp[pl] at hy
 | .int _,.bool _,_,hy,_=>by simp[pl] at hy
 | .int _,.str _,_,hy,_=>by simp[pl] at hy
 | .int _,.list _,_,hy,_=>by simp[pl] at hy
 | .int _,.dict _,_,hy,_=>by simp[pl] at hy
 | .tuple _,.bool _,_,hy,_=>by simp[pl] at hy
 | .tuple _,.str _,_,hy,_=>by simp[pl] at hy
 | .tuple _,.list _,_,hy,_=>by simp[pl] at hy
 | .tuple _,.dict _,_,hy,_=>by simp[pl] at hy
theorem zg:∀(xs ys:List Z4),DB xs=true->DB ys=true->PyData.eqvAll xs ys=true->xs=ys
 | [],[],_,_,_=>rfl
 | x :: xs,y :: ys,hx,hy,h=>by
  rw[DB,X9] at hx hy
  simp only[PyData.eqvAll,X9] at h
  rw[CN x y hx.1 hy.1 h.1,zg xs ys hx.2 hy.2 h.2]
 | [],_ :: _,_,_,h=>by simp[PyData.eqvAll] at h
 | _ :: _,[],_,_,h=>by simp[PyData.eqvAll] at h
end
theorem kR:∀{xs:List Z4},DB xs=true↔∀x∈xs,pl x=true
 | []=>by simp[DB]
 | x :: xs=>by rw[DB,X9,kR (xs:=xs)];simp
theorem Il (h:Nat)(W:List Z4)(H:List Nat)(k:Nat):pl (cg h W H k)=true:=by
 unfold cg;split
 ·rw[pl];exact kR.mpr λx hx=>by
   obtain⟨o,_,rfl⟩:=Kw.mp hx;rfl
 ·rfl
theorem zh {h:Nat}:∀{R:List (List Z4)} {H:List Nat},∀x∈rows h R H,pl x=true
 | [],H,x,hx=>by cases hx
 | W :: R,H,x,hx=>by
  rw[rows] at hx
  rcases K0.mp hx with rfl | hx
  ·rw[pl];exact kR.mpr λy hy=>by
    obtain⟨k,_,rfl⟩:=Kw.mp hy;exact Il h W H k
  ·exact zh x hx
theorem ut (vs:List Int)(Ws:List (List Z4))(hand:Nat):pl (cz vs Ws hand)=true:=by
 unfold cz
 rw[pl]
 refine kR.mpr λx hx=> ?_
 simp only[K0,List.not_mem_nil,or_false] at hx
 rcases hx with rfl | rfl | rfl
 ·rfl
 ·rw[pl];exact kR.mpr λy hy=>by
   obtain⟨k,_,rfl⟩:=Kw.mp hy;unfold cj;split <;> rfl
 ·rw[pl];exact kR.mpr λy hy=>zh y (Uw.mp hy)
def zz (h:Nat)(R1 R2:List (List Z4)):List ON:=(R1.zip R2).map λx=>(bQ h x.1,bQ h x.2)
theorem qp {h:Nat}{W:List Z4}{H:List Nat}(hh:h<=4)(hH:∀k∈H,k < h)(k:Nat):k∈iR h W H↔k∈H++H.flatMap (bQ h W):=by
 have e:∀k,k∈jV h W H h↔k∈H++H.flatMap (bQ h W):=λk=>by
  unfold jV
  simp only[Kk,Y6,UY,Xy,JU]
  exact⟨λz=>z.imp id λ⟨j,⟨_,hj⟩,r⟩=>⟨j,hj,r⟩,λz=>z.imp id λ⟨j,hj,r⟩=>⟨j,⟨hH j hj,hj⟩,r⟩⟩
 rw[←e k]
 unfold iR
 rw[UY,JU]
 refine⟨λz=>z.2,λz=>⟨?_,z⟩⟩
 have hk:k < h:=by
  rcases Kk.mp ((e k).mp z) with y | y
  ·exact hH k y
  ·obtain⟨j,_,hj⟩:=Y6.mp y;exact my hj
 simp only[K0,List.not_mem_nil,or_false];omega
mutual
theorem zi:∀(x:Z4),pl x=true->PyData.eqv x x=true
 | .none,_=>by simp[PyData.eqv]
 | .int _,_=>by simp[PyData.eqv]
 | .tuple xs,h=>by rw[pl] at h;simp only[PyData.eqv];exact wc xs h
 | .bool _,h=>by simp[pl] at h
 | .str _,h=>by simp[pl] at h
 | .list _,h=>by simp[pl] at h
 | .dict _,h=>by simp[pl] at h
theorem wc:∀(xs:List Z4),DB xs=true->PyData.eqvAll xs xs=true
 | [],_=>by simp[PyData.eqvAll]
 | x :: xs,h=>by
  rw[DB,X9] at h
  simp only[PyData.eqvAll,zi x h.1,wc xs h.2,XY]
end
theorem mG {x y:Z4}(hx:pl x=true)(hy:pl y=true):PyData.eqv x y=true↔x=y :=
 ⟨CN x y hx hy,λh=>by rw[←h];exact zi x hx⟩
theorem mH (vs:List Int)(Ws:List (List Z4))(hand:Nat):bj (cz vs Ws hand)=true:=by
 have n1:aq ((List.range vs.length).map (cj vs (hs vs.length Ws.reverse [hand])))=true:=aT _ (mF _ _) _
 have n2:aq (rows vs.length Ws.reverse [hand])=true:=mz
 have n3:aq (rows vs.length Ws.reverse [hand]).reverse=true:=aU.mpr λx hx=>aU.mp n2 x (Uw.mp hx)
 unfold cz
 rw[cD]
 simp only[aq,me,cD,n1,n3,XY]
structure qX (h:Nat)(b:Nat)(vs:List Int)(Ws:List (List Z4)):Prop where
 hv:vs.length=h
 hr:Ws.length<=5
 hp:∀W∈Ws,(∀x∈W,∃i j:Int,x= .tuple [.int i,.int j])/\W.length<=b
theorem qX.n {h b:Nat}{vs:List Int}{Ws:List (List Z4)}(w:qX h b vs Ws):∀W∈Ws,aq W=true:=λW hW=>aU.mpr λx hx=>by
 obtain⟨i,j,rfl⟩:=(w.hp W hW).1 x hx;rfl
theorem qX.l {h b:Nat}{vs:List Int}{Ws:List (List Z4)}(w:qX h b vs Ws):∀W∈Ws,lays 60 W=true:=λW hW=>gp.mpr λx hx=>by
 obtain⟨i,j,rfl⟩:=(w.hp W hW).1 x hx;rfl
theorem qX.take {h b:Nat}{vs:List Int}{Ws:List (List Z4)}(w:qX h b vs Ws)(r:Nat):qX h b vs (Ws.take r) :=
 ⟨w.hv,by rw[Xk];have:=w.hr;omega,λW hW=>w.hp W (U4 hW)⟩
theorem qX.view {h b:Nat}{vs:List Int}{Ws:List (List Z4)}(w:qX h b vs Ws)(hh:h<=4){k:Nat}(hk:k < h):p0 [jW vs Ws,.int (k:Int)]=ag (true,cz vs Ws k) :=
 Fd vs Ws k (w.hv ▸ hh) (w.hv ▸ hk) w.hr w.n w.l
theorem kC {h b:Nat}{vs:List Int}{Ws:List (List Z4)}(w:qX h b vs Ws):bj (jW vs Ws)=true:=ur w.n
theorem Fe {xs:List Z4}{lo hi:Option Int}(h:aq xs=true):Lr (.tuple xs) lo hi=some (.tuple (cutD xs lo hi)):=JW h
theorem Ff {h b:Nat}{vs:List Int}{Ws:List (List Z4)}(w:qX h b vs Ws):aq (Ws.map PyData.tuple)=true:=aU.mpr λx hx=>by
 obtain⟨W,hW,rfl⟩:=Kw.mp hx;exact w.n W hW
theorem NH (vs:List Int)(Ws:List (List Z4)):j0 (jW vs Ws) (.int 0)=some (.tuple (vs.map PyData.int)):=rfl
theorem OO (vs:List Int)(Ws:List (List Z4)):j0 (jW vs Ws) (.int 1)=some (.tuple (Ws.map PyData.tuple)):=rfl
noncomputable def sp (p:Nat×Nat):Z4:=.tuple [.int (p.1:Int),.int (p.2:Int)]
def enc (l:List (Nat×Nat)):List (Z4×Z4):=l.map λp=>(sp p,.bool true)
noncomputable def ins (l:List (Nat×Nat))(p:Nat×Nat):List (Nat×Nat):=if p∈l then l else l++[p]
theorem Im (p q:Nat×Nat):PyData.eqv (sp p) (sp q)=decide (p=q):=by
 obtain⟨a,b⟩:=p
 obtain⟨c,d⟩:=q
 have e:PyData.eqv (sp (a,b)) (sp (c,d))=((a:Int)==(c:Int) && ((b:Int)==(d:Int) && true)):=by simp[sp,PyData.eqv,PyData.eqvAll]
 rw[e,Yj,JU,Prod.mk.injEq]
 simp only[Bool.and_true,X9,JX]
 omega
theorem wd (l:List (Nat×Nat))(p:Nat×Nat):lj (enc l) (sp p)=decide (p∈l):=by
 unfold lj enc
 rw[List.any_map]
 induction l with
 | nil=>rfl
 | cons q l ih=>
  rw[YX,ih]
  simp only[Function.comp,Im]
  by_cases h:q=p
  ·simp[h]
  ·have h':¬ p=q:=λz=>h z.symm
   simp[h,h']
theorem wg (l:List (Nat×Nat))(p:Nat×Nat):putK (enc l) (sp p) (.bool true)=enc (ins l p):=by
 unfold putK ins
 rw[wd]
 by_cases h:p∈l
 ·rw[JW (JV h),JW h]
  unfold enc
  rw[KQ]
  refine Uj λq _=> ?_
  simp only[Function.comp]
  split <;> rfl
 ·rw[JZ (by rw[JQ h];exact K5),JZ h]
  unfold enc
  rw[X0];rfl
theorem sh:∀(m l:List (Nat×Nat)),k9 (enc l) (enc m)=enc (m.foldl ins l)
 | [],l=>rfl
 | p :: m,l=>by
  show k9 (putK (enc l) (sp p) (.bool true)) (enc m)=_
  rw[wg,sh m];rfl
theorem uv {l:List (Nat×Nat)}{p q:Nat×Nat}:q∈ins l p↔q∈l∨q=p:=by
 unfold ins
 split
 ·rename_i h
  exact⟨.inl,λz=>z.elim id λe=>e ▸ h⟩
 ·simp
theorem sj:∀{m l:List (Nat×Nat)} {q:Nat×Nat},q∈m.foldl ins l↔q∈l∨q∈m
 | [],l,q=>by simp
 | p :: m,l,q=>by
  rw[UZ,sj (m:=m),uv,K0]
  exact⟨λz=>z.elim (λy=>y.elim .inl λe=> .inr (.inl e)) λy=> .inr (.inr y),λz=>z.elim (λy=> .inl (.inl y)) λy=>y.elim (λe=> .inl (.inr e)) .inr⟩
theorem sk {l:List (Nat×Nat)}{p:Nat×Nat}(h:l.Nodup):(ins l p).Nodup:=by
 unfold ins
 split
 ·exact h
 ·rename_i hp
  refine Xj.mpr ⟨h,KU.mpr ⟨by simp,X3⟩,λa ha b hb e=>hp ?_⟩
  rw[←K7.mp hb,←e];exact ha
theorem nL:∀{m l:List (Nat×Nat)},l.Nodup->(m.foldl ins l).Nodup
 | [],l,h=>h
 | p :: m,l,h=>nL (m:=m) (sk h)
theorem zj (l:List (Nat×Nat))(p:Nat×Nat):(ins l p).length<=l.length+1:=by
 unfold ins;split
 ·omega
 ·rw[K2,X5];omega
theorem nh:∀(m l:List (Nat×Nat)),(m.foldl ins l).length<=l.length+m.length
 | [],l=>K1 _
 | p :: m,l=>by
  have h1:=nh m (ins l p)
  have h2:=zj l p
  rw[UZ,Kz];omega
theorem CO (l:List (Nat×Nat))(p:Nat×Nat):ins l p≠[]:=λz=>by
 have:p∈ins l p:=uv.mpr (.inr rfl)
 rw[z] at this;cases this
theorem qq:∀{m l:List (Nat×Nat)},l≠[]->m.foldl ins l≠[]
 | [],l,h=>h
 | p :: m,l,h=>qq (m:=m) (CO l p)
def Fg:List (Nat×Nat):=(List.range 4).flatMap λa=>(List.range 6).map λb=>(a,b)
theorem AG:(Fg.map λp=>fJ (sp p))=[-8458139203682520985,-1950498447580522560,7204814214171964562,-4734289103435588629,1773351652666409796,
  -3119722376306286570,-5164621852614943976,8389048192121911274,-3550055125485641917,-1440771752368011620,
  -6333845781340707986,173794974761290439,4685526799349444076,6794810172467074373,1901736143494378007,
  8409376899596376432,3516302870623680066,-8422800446983873125,2248468952609198383,8756109708711196808,
  3863035679738500442,5972319052856130739,1079245023883434373,7586885779985432798]:=by decide+kernel
theorem yd:(Fg.map λp=>fJ (sp p)).Nodup:=by rw[AG];decide+kernel
theorem CP {α:Type}(f:α->Int):∀{l:List α},(l.map f).Nodup->∀{p q:α},p∈l->q∈l->f p=f q->p=q
 | x :: l,h,p,q,hp,hq,e=>by
  rw[KJ,KU] at h
  rcases K0.mp hp with z1 | z1
  ·rcases K0.mp hq with z2 | z2
   ·rw[z1,z2]
   ·refine absurd ?_ h.1
    rw[←z1,e];exact Yu z2
  ·rcases K0.mp hq with z2 | z2
   ·refine absurd ?_ h.1
    rw[←z2,←e];exact Yu z1
   ·exact CP f h.2 z1 z2 e
theorem wj {α:Type}(f:α->Int):∀{l:List α},l.Nodup->(∀p∈l,∀q∈l,f p=f q->p=q)->(l.map f).Nodup
 | [],_,_=>X3
 | x :: l,h,hf=>by
  rw[KU] at h
  rw[KJ,KU]
  refine⟨λz=> ?_,wj f h.2 λp hp q hq=>hf p (K9 _ hp) q (K9 _ hq)⟩
  obtain⟨y,hy,e⟩:=Kw.mp z
  exact h.1 (hf y (K9 _ hy) x K8 e ▸ hy)
theorem wk {p:Nat×Nat}(h:p.1 < 4/\p.2 < 6):p∈Fg:=by
 unfold Fg
 exact Y6.mpr ⟨p.1,Xy.mpr h.1,Kw.mpr ⟨p.2,Xy.mpr h.2,rfl⟩⟩
theorem CQ (f:Z4->Int)(l:List (Nat×Nat)):((enc l).map λp=>f p.1)=l.map λp=>f (sp p):=by unfold enc;rw[KQ];rfl
theorem ye {l:List (Nat×Nat)}(h:l.Nodup)(hb:∀p∈l,p.1 < 4/\p.2 < 6):((enc l).map λp=>fJ p.1).Nodup:=by
 rw[CQ fJ]
 exact wj _ h λp hp q hq e=>CP _ yd (wk (hb p hp)) (wk (hb q hq)) e
theorem mI (l:List (Nat×Nat)):dP (enc l)=true:=by
 unfold dP enc
 rw[KQ];exact aT _ (λ_=>rfl) l
theorem Fh (p:Nat×Nat):da (sp p)=true:=rfl
theorem kD (l:List (Nat×Nat)):((enc l).all λp=>da p.1)=true:=by
 unfold enc;rw[List.all_map,Y3];intro p _;rfl
theorem sq {l:List (Nat×Nat)}(h:l≠[]):(enc l).isEmpty=false:=by
 cases l with
 | nil=>exact absurd rfl h
 | cons p l=>rfl
theorem uw (l:List (Nat×Nat)):(enc l).length=l.length:=K4 _
theorem wm {l:List (Nat×Nat)}(h0:l≠[])(hn:l.Nodup)(hb:∀p∈l,p.1 < 4/\p.2 < 6):oq [.dict (enc l)]=some (.dict (enc l)):=JW ⟨sq h0,kD l,mI l,ye hn hb⟩
theorem CS {l m:List (Nat×Nat)}(h0:l≠[])(hz:l.length+m.length<=sizeLine):uX 8 (.fr [3]) (enc l) (.dict (enc m))=some (enc (m.foldl ins l)):=by
 simp only[uX]
 rw[JW ⟨rfl,.inl ⟨sq h0,kD l,kD m⟩,mI l,mI m,by rw[uw,uw];exact hz⟩,sh]
theorem wn (l:List (Nat×Nat))(p:Nat×Nat):uV (sp p) (.dict (enc l))=some (.bool (decide (p∈l))):=by
 simp only[uV]
 rw[JW (show dO (enc l) (sp p)=true by unfold dO gF;rw[kD,Fh];rfl),wd]
def n_ (h:Nat)(W:List Z4)(f:Nat->List (Nat×Nat))(k:Nat)(S:List Nat):List (Nat×Nat):=S.foldl (λacc s=>(f s).foldl ins acc) (f k)
def Lk (h:Nat)(Ws:List (List Z4)):Nat->Nat->List (Nat×Nat)
 | 0,k=> [(k,0)]
 | i+1,k=>ins (n_ h (Ws.getD i []) (Lk h Ws i) k (bQ h (Ws.getD i []) k)) (k,i+1)
theorem wo {h:Nat}{W:List Z4}{f:Nat->List (Nat×Nat)}{q:Nat×Nat}:∀{S:List Nat} {l:List (Nat×Nat)},q∈S.foldl (λacc s=>(f s).foldl ins acc) l↔q∈l∨∃s∈S,q∈f s
 | [],l=>by simp
 | s :: S,l=>by
  rw[UZ,wo (h:=h) (W:=W) (S:=S),sj]
  simp only[K0,exists_eq_or_imp]
  exact or_assoc
theorem qr {h:Nat}{Ws:List (List Z4)}{i k:Nat}{q:Nat×Nat}:q∈Lk h Ws (i+1) k↔(q∈Lk h Ws i k∨∃s∈bQ h (Ws.getD i []) k,q∈Lk h Ws i s)∨q=(k,i+1):=by
 rw[Lk,uv,n_,wo (h:=h) (W:=Ws.getD i [])]
theorem zk {h:Nat}{W:List Z4}{f:Nat->List (Nat×Nat)}{k c:Nat}(h0:f k≠[])(hn:(f k).Nodup)(hl:∀s,(f s).length<=c):∀{S:List Nat},n_ h W f k S≠[]/\(n_ h W f k S).Nodup/\(n_ h W f k S).length<=c+S.length*c:=by
 intro S
 have:∀(S:List Nat) (l:List (Nat×Nat)),l≠[]->l.Nodup->S.foldl (λacc s=>(f s).foldl ins acc) l≠[]/\(S.foldl (λacc s=>(f s).foldl ins acc) l).Nodup/\(S.foldl (λacc s=>(f s).foldl ins acc) l).length<=l.length+S.length*c:=by
  intro S
  induction S with
  | nil=>intro l a b;exact⟨a,b,by simp⟩
  | cons s S ih=>
   intro l a b
   obtain⟨x,y,z⟩:=ih _ (qq (m:=f s) a) (nL (m:=f s) b)
   have:=nh (f s) l
   have:=hl s
   refine⟨x,y,?_⟩
   rw[UZ,Kz,UQ];omega
 obtain⟨x,y,z⟩:=this S (f k) h0 hn
 have:=hl k
 exact⟨x,y,by unfold n_;omega⟩
theorem wq (h:Nat)(W:List Z4)(k:Nat)(hh:h<=4):(bQ h W k).length<=4:=KY (U9 _ _) (by rw[X8];exact hh)
theorem Gf {h:Nat}{Ws:List (List Z4)}(hh:h<=4):∀(i k:Nat),Lk h Ws i k≠[]/\(Lk h Ws i k).Nodup/\(Lk h Ws i k).length<=6^i
 | 0,k=>⟨by simp[Lk],by simp[Lk],by simp[Lk]⟩
 | i+1,k=>by
  have ih:=Gf (Ws:=Ws) hh i
  obtain⟨x,y,z⟩:=zk (h:=h) (W:=Ws.getD i []) (f:=Lk h Ws i) (k:=k) (c:=6^i) (ih k).1 (ih k).2.1 (λs=>(ih s).2.2) (S:=bQ h (Ws.getD i []) k)
  refine⟨CO _ _,sk y,?_⟩
  have h1:=zj (n_ h (Ws.getD i []) (Lk h Ws i) k (bQ h (Ws.getD i []) k)) (k,i+1)
  have h2:=wq h (Ws.getD i []) k hh
  have h3:(bQ h (Ws.getD i []) k).length*6^i<=4*6^i:=Nat.mul_le_mul_right _ h2
  have h4:0 < 6^i:=Nat.pow_pos (by decide)
  rw[Lk,Nat.pow_succ];omega
theorem CT {h:Nat}{Ws:List (List Z4)}:∀(i k:Nat),k < h->∀q∈Lk h Ws i k,q.1 < h/\q.2<=i
 | 0,k,hk,q,hq=>by
  rw[Lk,K7] at hq;subst hq;exact⟨hk,K1 _⟩
 | i+1,k,hk,q,hq=>by
  rcases qr.mp hq with(hq | ⟨s,hs,hq⟩) | hq
  ·have:=CT i k hk q hq;exact⟨this.1,Nat.le_succ_of_le this.2⟩
  ·have:=CT i s (my hs) q hq;exact⟨this.1,Nat.le_succ_of_le this.2⟩
  ·subst hq;exact⟨hk,K1 _⟩
theorem zl {h:Nat}{Ws:List (List Z4)}(hh:h<=4):∀(i:Nat),i<=Ws.length->∀(H:List Nat),(∀k∈H,k < h)->∀(o j:Nat),(∃k∈H,(o,j)∈Lk h Ws i k)↔j<=i/\o∈hs h ((Ws.take i).drop j).reverse H
 | 0,_,H,hH,o,j=>by
  simp only[Lk,K7,Prod.mk.injEq,YW,List.drop_nil,List.reverse_nil,hs]
  constructor
  ·rintro⟨k,hk,rfl,rfl⟩;exact⟨K1 _,hk⟩
  ·rintro⟨hj,ho⟩;exact⟨o,ho,rfl,by omega⟩
 | i+1,hi,H,hH,o,j=>by
  have hi':i < Ws.length:=by omega
  have eW:Ws.getD i []=Ws[i]:=by rw[X6,K3 hi'];rfl
  have ih:=zl (Ws:=Ws) hh i (!1) (iR h Ws[i] H) (wb hH) o j
  have key:(∃k∈H,(o,j)∈Lk h Ws (i+1) k)↔(∃k∈iR h Ws[i] H,(o,j)∈Lk h Ws i k)∨(j=i+1/\o∈H):=by
   constructor
   ·rintro⟨k,hk,hq⟩
    rcases qr.mp hq with(hq | ⟨s,hs',hq⟩) | hq
    ·exact .inl ⟨k,(qp hh hH k).mpr (KZ _ hk),hq⟩
    ·rw[eW] at hs'
     exact .inl ⟨s,(qp hh hH s).mpr (Kx _ (Y6.mpr ⟨k,hk,hs'⟩)),hq⟩
    ·obtain⟨rfl,rfl⟩:=Prod.mk.inj hq
     exact .inr ⟨rfl,hk⟩
   ·rintro(⟨k,hk,hq⟩ | ⟨rfl,ho⟩)
    ·rcases Kk.mp ((qp hh hH k).mp hk) with hk | hk
     ·exact⟨k,hk,qr.mpr (.inl (.inl hq))⟩
     ·obtain⟨k',hk',hs'⟩:=Y6.mp hk
      exact⟨k',hk',qr.mpr (.inl (.inr ⟨k,by rw[eW];exact hs',hq⟩))⟩
    ·exact⟨o,ho,qr.mpr (.inr rfl)⟩
  rw[key,ih]
  have et:Ws.take (i+1)=Ws.take i++[Ws[i]]:=by rw[J8,K3 hi'];rfl
  have el:(Ws.take i).length=i:=by rw[Xk];omega
  by_cases hj:j<=i
  ·have ed:((Ws.take (i+1)).drop j).reverse=Ws[i] :: ((Ws.take i).drop j).reverse:=by
    rw[et,List.drop_append_of_le_length (by rw[el];exact hj),List.reverse_append];rfl
   rw[ed,hs]
   exact⟨λz=>z.elim (λy=>⟨by omega,y.2⟩) λy=>by omega,λz=> .inl ⟨hj,z.2⟩⟩
  ·have ed:((Ws.take (i+1)).drop (i+1)).reverse=[]:=by
    have z:(Ws.take (i+1)).drop (i+1)=[]:=Jx (by rw[Xk];omega)
    rw[z];rfl
   constructor
   ·rintro(y | ⟨rfl,ho⟩)
    ·omega
    ·refine⟨K1 _,?_⟩
     rw[ed];exact ho
   ·rintro⟨hj',ho⟩
    have:j=i+1:=by omega
    subst this
    rw[ed] at ho
    exact .inr ⟨rfl,ho⟩
theorem zm {h:Nat}{Ws:List (List Z4)}{hand:Nat}(hh:h<=4)(hd:hand < h)(o j:Nat):(o,j)∈Lk h Ws Ws.length hand↔j<=Ws.length/\o∈hs h (Ws.drop j).reverse [hand]:=by
 have:=zl (Ws:=Ws) hh Ws.length (K1 _) [hand] (λk hk=>by rw[K7.mp hk];exact hd) o j
 rw[J4] at this
 rw[←this];simp
theorem wu {h:Nat}:∀(R:List (List Z4)) (H:List Nat) (m:Nat) (hm:m < R.length),(rows h R H)[m]? =some (.tuple ((!2).map (cg h R[m] (hs h (R.take m) H))))
 | W :: R,H,0,_=>by rw[rows,List.getElem?_cons_zero,YW,hs];rfl
 | W :: R,H,m+1,hm=>by
  rw[rows,J2,wu R (iR h W H) m (by simpa using hm)]
  simp only[List.getElem_cons_succ,List.take_succ_cons,hs]
theorem CU {h:Nat}{Ws:List (List Z4)}{hand m:Nat}(hm:m < Ws.length):(rows h Ws.reverse [hand]).reverse[m]? =some (.tuple ((!2).map (cg h Ws[m] (hs h (Ws.drop (m+1)).reverse [hand])))):=by
 have hl:(rows h Ws.reverse [hand]).length=Ws.length:=by rw[mE,Uk]
 rw[List.getElem?_reverse (!1),hl,wu _ _ _ (by rw[Uk];omega)]
 have e1:Ws.reverse[Ws.length - 1 - m]'(by rw[Uk];omega)=Ws[m]:=by rw[List.getElem_reverse];congr 1;omega
 have e2:Ws.reverse.take (Ws.length - 1 - m)=(Ws.drop (m+1)).reverse:=by
  rw[List.take_reverse];congr 2;omega
 rw[e1,e2]
abbrev Slot:=Option (Bool×Z4)
def j3 (h:Nat)(f:Nat->List (Nat×Nat)):List Z4:=(!2).map λk=> .dict (enc (f k))
theorem ux {h k:Nat}{f:Nat->List (Nat×Nat)}(hk:k < h):mP (j3 h f) (k:Int)=some (.dict (enc (f k))):=iI (by unfold j3;rw[KW,Y7 hk];rfl)
theorem CV (o:Nat):f6 [fN o]=ag (.fr [],.dict (enc [(o,0)])):=by
 have hk:da (.tuple [.int (o:Int),.int 0])=true:=rfl
 have n2:aq [PyData.int (o:Int),.int 0]=true:=rfl
 simp(disch:=omega) only[f6,uW,rn,reduceIte,hk,au n2,and_self]
 rfl
theorem CW (c0 c1 c2 c4 c5 c6 c7 c9 oa uF c12:Slot)(h c:Nat)(f:Nat->List (Nat×Nat))(hl:∀s,(f s).length<=c)(S:List Nat)(hS:∀s∈S,s < h)(l0:List (Nat×Nat))(h0:l0≠[])(hz:l0.length+S.length*c<=100000) :
  ∃jX:Slot,aW (bY 9) f7 (S.map nat) [c0,c1,c2,tL (j3 h f),c4,c5,c6,c7,tD (enc l0),c9,oa,uF,c12]=
   ag (.nx [c0,c1,c2,tL (j3 h f),c4,c5,c6,c7,tD (enc (S.foldl (λacc s=>(f s).foldl ins acc) l0)),jX,oa,uF,c12]):=by
 have len:∀(S:List Nat) (l:List (Nat×Nat)),(S.foldl (λacc s=>(f s).foldl ins acc) l).length<=l.length+S.length*c:=by
  intro S
  induction S with
  | nil=>intro l;simp
  | cons s S ih=>
   intro l
   have:=ih ((f s).foldl ins l)
   have:=nh (f s) l
   have:=hl s
   rw[UZ,Kz,UQ];omega
 have ne:∀(S:List Nat) (l:List (Nat×Nat)),l≠[]->S.foldl (λacc s=>(f s).foldl ins acc) l≠[]:=by
  intro S
  induction S with
  | nil=>intro l a;exact a
  | cons s S ih=>intro l a;exact ih _ (qq (m:=f s) a)
 obtain⟨Γ',g1,jX,g2⟩:=bn (g:=bY 9) (b:=f7) (ds:=S.map nat) (Γ:=[c0,c1,c2,tL (j3 h f),c4,c5,c6,c7,tD (enc l0),c9,oa,uF,c12])
  (λi Γ=>∃jX:Slot,Γ=[c0,c1,c2,tL (j3 h f),c4,c5,c6,c7,tD (enc ((S.take i).foldl (λacc s=>(f s).foldl ins acc) l0)),jX,oa,uF,c12]) ⟨c9,by simp⟩ (by
  rintro i d Γ hd ⟨jX,rfl⟩
  have hi:i < S.length:=by have:=(X2.mp hd).1;simpa using this
  rw[KW,K3 hi] at hd
  have hd':nat S[i]=d:=Option.some.inj hd
  subst hd'
  have hs:=hS _ (Uv hi)
  have et:S.take (i+1)=S.take i++[S[i]]:=by rw[J8,K3 hi];rfl
  refine⟨_,[c0,c1,c2,tL (j3 h f),c4,c5,c6,c7,tD (enc ((S.take (i+1)).foldl (λacc s=>(f s).foldl ins acc) l0)),tA (nat S[i]),oa,uF,c12],rfl,.inl ?_,_,rfl⟩
  rw[et,List.foldl_append,UZ,List.foldl_nil]
  have hlen:=len (S.take i) l0
  have hmul:(S.take i).length*c+c<=S.length*c:=by
   rw[←UQ];exact Nat.mul_le_mul_right _ (by rw[Xk];omega)
  have hne:=ne (S.take i) l0 h0
  have hfs:=hl S[i]
  generalize (S.take i).foldl (λacc s=>(f s).foldl ins acc) l0=l at*
  generalize S[i]=s at*
  have ek:=ux (f:=f) hs
  have eu:=CS (l:=l) (m:=f s) hne (KY (show _<=100000 by omega) (by decide))
  simp(disch:=omega) only[f7,rg,rn,reduceIte,nat,ek,eu])
 rw[K4,J4] at g2
 exact⟨jX,by rw[g1,g2]⟩
theorem Io (c0 c1 c9 oa uF c12:Slot)(h c i j:Nat)(hh:h<=4)(hj:j < h)(hi:i < 5)(W:List Z4)(nW:aq W=true)(hW:lays 60 W=true)(f:Nat->List (Nat×Nat))(hl:∀s,(f s).length<=c)(hc:c<=10000)(h0:∀s,f s≠[])(hn:∀s,(f s).Nodup)(hb:∀s,s < h->∀p∈f s,p.1 < h/\p.2<=i)(Lc:List Z4)(ha:Lc.length < 10) :
  ∃jX:Slot,f9 [c0,c1,tN h,tL (j3 h f),tN i,tT W,tL Lc,tN j,none,c9,oa,uF,c12]=
   ag (.nx [c0,c1,tN h,tL (j3 h f),tN i,tT W,tL (Lc++[.dict (enc (ins (n_ h W f j (bQ h W j)) (j,i+1)))]),tN j,none,jX,oa,uF,c12]):=by
 have ek:=ux (f:=f) hj
 have gd:=wm (h0 j) (hn j) λp hp=>⟨by have:=(hb j hj p hp).1;omega,by have:=(hb j hj p hp).2;omega⟩
 have sn:=qm h j W hh hW
 have nS:aq ((bQ h W j).map nat)=true:=aT _ (λ_=>rfl) _
 have sl:=wq h W j hh
 have O4:=hl j
 have hm:(bQ h W j).length*c<=4*c:=Nat.mul_le_mul_right _ sl
 obtain⟨jX,hu⟩:=CW c0 c1 (tN h) (tN i) (tT W) (tL Lc) (tN j) c9 oa uF c12 h c f hl (bQ h W j) (λs hs=>my hs) (f j) (h0 j) (!1)
 have e1:((i:Int)+1)=((i+1:Nat):Int):=by omega
 obtain⟨_,_,gl⟩:=zk (h:=h) (W:=W) (f:=f) (k:=j) (c:=c) (h0 j) (hn j) hl (S:=bQ h W j)
 have eg:(bQ h W j).foldl (λacc s=>(f s).foldl ins acc) (f j)=n_ h W f j (bQ h W j):=rfl
 rw[eg] at hu
 generalize n_ h W f j (bQ h W j)=G at*
 have hk:da (.tuple [.int (j:Int),.int ((i+1:Nat):Int)])=true:=rfl
 have n2:aq [PyData.int (j:Int),.int ((i+1:Nat):Int)]=true:=rfl
 have hp:putK (enc G) (.tuple [.int (j:Int),.int ((i+1:Nat):Int)]) (.bool true)=enc (ins G (j,i+1)):=wg G (j,i+1)
 have hsz:(enc G).length < sizeLine:=by rw[uw];exact Xv (show _<=100000 by omega) (by decide)
 have hsz2:Lc.length < sizeLine:=X4 ha (by decide)
 have nv:=mI G
 have hom:dO (enc G) (.tuple [.int (j:Int),.int ((i+1:Nat):Int)])=true:=by unfold dO gF;rw[kD,hk];rfl
 refine⟨jX,?_⟩
 simp(disch:=omega) only[f9,rh,oT,hom,rn,reduceIte,ek,gd,sn,au nW,au nS,hu,e1,hk,au n2,nv,hsz,hp,hsz2,and_self,ne_eq,Nat.reduceEqDiff,not_false_eq_true,and_true]
theorem wv {Ws:List (List Z4)}{i:Nat}{d:Z4}(h:(dH 0 (Ws.map PyData.tuple))[i]? =some d):∃hi:i < Ws.length,d= .tuple [.int (i:Int),.tuple Ws[i]]:=by
 rw[L2.jn,KW] at h
 by_cases hi:i < Ws.length
 ·rw[K3 hi] at h
  exact⟨hi,by have:=Option.some.inj h;rw[←this,Nat.zero_add]⟩
 ·rw[Xz (!1)] at h;cases h
theorem Gg (c0 c1 c2 c3 c4 c5 c6 c7 c8 c9 oa uF c12:Slot)(i:Nat)(W:List Z4)(nW:aq W=true) :
  jy [4,5] (cA .base (.tuple [.int (i:Int),.tuple W])) (.tuple [.int (i:Int),.tuple W]) [c0,c1,c2,c3,c4,c5,c6,c7,c8,c9,oa,uF,c12]=some [c0,c1,c2,c3,tN i,tT W,c6,c7,c8,c9,oa,uF,c12]:=by
 have n2:aq [PyData.int (i:Int),.tuple W]=true:=by simp only[aq,me,cD,nW,XY]
 rw[au n2]
 simp only[jy,Kz,UJ,if_true,oR,yG,oB,au nW,iV,List.set_cons_zero,List.set_cons_succ]
theorem CY {h b:Nat}{vs:List Int}{Ws:List (List Z4)}(w:qX h b vs Ws)(hh:h<=4)(c0 c1:Slot) :
  ∃c4 c5 c7 c9:Slot,aW (jy [4,5]) f_ (dH 0 (Ws.map PyData.tuple)) [c0,c1,tN h,tL (j3 h (Lk h Ws 0)),none,none,none,none,none,none,none,none,none]=
   ag (.nx [c0,c1,tN h,tL (j3 h (Lk h Ws Ws.length)),c4,c5,none,c7,none,c9,none,none,none]):=by
 obtain⟨Γ',g1,c4,c5,c7,c9,g2⟩:=bn (g:=jy [4,5]) (b:=f_) (ds:=dH 0 (Ws.map PyData.tuple)) (Γ:=[c0,c1,tN h,tL (j3 h (Lk h Ws 0)),none,none,none,none,none,none,none,none,none])
  (λi Γ=>∃c4 c5 c7 c9:Slot,Γ=[c0,c1,tN h,tL (j3 h (Lk h Ws i)),c4,c5,none,c7,none,c9,none,none,none]) ⟨_,_,_,_,rfl⟩ (by
  rintro i d Γ hd ⟨c4,c5,c7,c9,rfl⟩
  obtain⟨hi,rfl⟩:=wv hd
  have hr:=w.hr
  have nW:=w.n _ (Uv hi)
  have lW:=w.l _ (Uv hi)
  have eW:Ws.getD i []=Ws[i]:=by rw[X6,K3 hi];rfl
  have MU:=Gf (Ws:=Ws) hh i
  have h6:6^i<=6^5:=Nat.pow_le_pow_right (by decide) (!1)
  obtain⟨Γ',k1,eU,jX,k2⟩:=bn (g:=bY 7) (b:=f9) (ds:=(!2).map λ(i:Nat)=>PyData.int (i:Int)) (Γ:=[c0,c1,tN h,tL (j3 h (Lk h Ws i)),tN i,tT Ws[i],tL [],c7,none,c9,none,none,none])
   (λj Γ=>∃c7 c9:Slot,Γ=[c0,c1,tN h,tL (j3 h (Lk h Ws i)),tN i,tT Ws[i],tL (j3 j (Lk h Ws (i+1))),c7,none,c9,none,none,none]) ⟨_,_,rfl⟩ (by
   rintro j d Γ hd ⟨c7,c9,rfl⟩
   obtain⟨rfl,hj⟩:=bR hd
   obtain⟨jX,e⟩:=Io c0 c1 c9 none none none h (6^i) i j hh hj (!1) Ws[i] nW lW (Lk h Ws i) (λs=>(MU s).2.2) (KY h6 (by decide)) (λs=>(MU s).1) (λs=>(MU s).2.1) (λs hs=>CT i s hs) (j3 j (Lk h Ws (i+1))) (by unfold j3;rw[K4,X8];omega)
   refine⟨_,_,rfl,.inl e,tN j,jX,?_⟩
   have e2:j3 (j+1) (Lk h Ws (i+1))=j3 j (Lk h Ws (i+1))++[.dict (enc (ins (n_ h Ws[i] (Lk h Ws i) j (bQ h Ws[i] j)) (j,i+1)))]:=by
    unfold j3;rw[Yy,X0]
    have:Lk h Ws (i+1) j=ins (n_ h Ws[i] (Lk h Ws i) j (bQ h Ws[i] j)) (j,i+1):=by rw[Lk,eW]
    rw[KJ,Jk,this]
   rw[e2])
  rw[K4,X8] at k2
  refine⟨_,[c0,c1,tN h,tL (j3 h (Lk h Ws (i+1))),tN i,tT Ws[i],none,eU,none,jX,none,none,none],Gg _ _ _ _ _ _ _ _ _ _ _ _ _ i Ws[i] nW,.inl ?_,_,_,_,_,rfl⟩
  simp(disch:=omega) only[f_,rn,reduceIte,Ku,k1,k2,Nat.reduceEqDiff])
 rw[L2.cH,K4] at g2
 exact⟨c4,c5,c7,c9,by rw[g1,g2]⟩
def pf (g:Nat->Z4)(i o:Nat):Z4:=if o < i then g o else .none
theorem CZ {g:Nat->Z4}(hg:∀o,bj (g o)=true)(i o:Nat):bj (pf g i o)=true:=by unfold pf;split;exact hg o;rfl
theorem wx (g:Nat->Z4){i h:Nat}(hi:i < h):((!2).map (pf g i)).set i (g i)=(!2).map (pf g (i+1)):=by
 refine J1 (by simp) λm h1 h2=> ?_
 rw[List.getElem_set,J3,J3,List.getElem_range]
 by_cases hm:i=m
 ·subst hm;rw[JW rfl,pf,JW (!1)]
 ·rw[JZ hm,pf,pf]
  by_cases hlt:m < i
  ·rw[JW hlt,JW (!1)]
  ·rw[JZ hlt,JZ (!1)]
theorem sr (g:Nat->Z4){i h:Nat}(hg:g i= .none):(!2).map (pf g i)=(!2).map (pf g (i+1)):=by
 refine Uj λm _=> ?_
 unfold pf
 by_cases hlt:m < i
 ·rw[JW hlt,JW (!1)]
 ·rw[JZ hlt]
  by_cases hm:m=i
  ·subst hm;rw[JW (!1),hg]
  ·rw[JZ (!1)]
theorem AH (g:Nat->Z4)(h:Nat):(List.replicate h [PyData.none]).flatten=(!2).map (pf g 0):=by
 have:∀h:Nat,(List.replicate h [PyData.none]).flatten=List.replicate h PyData.none:=λh=>by
  induction h with
  | zero=>rfl
  | succ h ih=>rw[U0,Y8,ih,U0];rfl
 rw[this]
 refine J1 (by simp) λm h1 h2=> ?_
 rw[List.getElem_replicate,J3,pf,JZ (!1)]
theorem wy (g:Nat->Z4)(h:Nat):(!2).map (pf g h)=(!2).map g:=Uj λm hm=>by
 unfold pf;rw[JW (Xy.mp hm)]
theorem oF {n i:Nat}(h:i < n):Y.nu n (i:Int)=some i:=by
 unfold Y.nu;rw[JW (!1),JW (!1)];simp
theorem C0 {xs:List Z4}{k:Int}(h:aq xs=true/\ -(2^63)<=k/\k < 2^63/\xs.length*k.toNat<=sizeLine):zN xs (.int k)=ag (.fr [],.list (List.replicate k.toNat xs).flatten):=JW h
theorem su (h:Nat)(hh:h<=4)(g:Nat->Z4):zN [.none] (.int (h:Int))=ag (Kd.fr [],.list ((!2).map (pf g 0))):=by
 rw[←AH,C0 ⟨rfl,by omega,by omega,KY (show _<=4 by rw[Ku,X5,Nat.one_mul];exact hh) (by decide)⟩,Ku]
theorem AI {h b:Nat}{vs:List Int}{Ws:List (List Z4)}(w:qX h b vs Ws)(hh:h<=4){hand:Nat}(hd:hand < h)(c4 c5 c7 c9:Slot) :
  ∃eU:Slot,aW (bY 7) dY ((!2).map λ(i:Nat)=>PyData.int (i:Int)) [fA (jW vs Ws),fN hand,tN h,tL (j3 h (Lk h Ws Ws.length)),c4,c5,none,c7,none,c9,tL ((!2).map (pf (cj vs (hs h Ws.reverse [hand])) 0)),tL [],none]=
   ag (.nx [fA (jW vs Ws),fN hand,tN h,tL (j3 h (Lk h Ws Ws.length)),c4,c5,none,eU,none,c9,tL ((!2).map (cj vs (hs h Ws.reverse [hand]))),tL [],none]):=by
 have nr:=ur (vs:=vs) w.n
 have hv:=w.hv
 have ek:=ux (f:=Lk h Ws Ws.length) hd
 obtain⟨Γ',g1,eU,g2⟩:=bn (g:=bY 7) (b:=dY) (ds:=(!2).map λ(i:Nat)=>PyData.int (i:Int)) (Γ:=[fA (jW vs Ws),fN hand,tN h,tL (j3 h (Lk h Ws Ws.length)),c4,c5,none,c7,none,c9,tL ((!2).map (pf (cj vs (hs h Ws.reverse [hand])) 0)),tL [],none])
  (λi Γ=>∃c7:Slot,Γ=[fA (jW vs Ws),fN hand,tN h,tL (j3 h (Lk h Ws Ws.length)),c4,c5,none,c7,none,c9,tL ((!2).map (pf (cj vs (hs h Ws.reverse [hand])) i)),tL [],none]) ⟨_,rfl⟩ (by
  rintro i d Γ hd' ⟨c7,rfl⟩
  obtain⟨rfl,hi⟩:=bR hd'
  refine⟨_,[fA (jW vs Ws),fN hand,tN h,tL (j3 h (Lk h Ws Ws.length)),c4,c5,none,tN i,none,c9,tL ((!2).map (pf (cj vs (hs h Ws.reverse [hand])) (i+1))),tL [],none],rfl,.inl ?_,_,rfl⟩
  have gi:uV (.tuple [.int (i:Int),.int 0]) (.dict (enc (Lk h Ws Ws.length hand)))=some (.bool (decide ((i,0)∈Lk h Ws Ws.length hand))):=wn _ (i,0)
  have n2:aq [PyData.int (i:Int),.int 0]=true:=rfl
  have hm:(i,0)∈Lk h Ws Ws.length hand↔i∈hs h Ws.reverse [hand]:=by rw[zm hh hd,Y4];exact⟨λz=>z.2,λz=>⟨Xx _,z⟩⟩
  have np:=CZ (mF vs (hs h Ws.reverse [hand])) i
  have nl:aq ((!2).map (pf (cj vs (hs h Ws.reverse [hand])) i))=true:=aT _ np _
  have hix:Y.nu ((!2).map (pf (cj vs (hs h Ws.reverse [hand])) i)).length (i:Int)=some i:=oF (by rw[K4,X8];exact hi)
  rw[K4,X8] at hix
  have hk':i < vs.length:=by omega
  have ea:mP (vs.map PyData.int) (i:Int)=some (.int (vs.getD i 0)):=iI (by rw[KW,X6,K3 hk'];rfl)
  by_cases hb:i∈hs h Ws.reverse [hand]
  ·have hb':=hm.mpr hb
   have hg:cj vs (hs h Ws.reverse [hand]) i= .int (vs.getD i 0):=JW hb
   rw[←wx _ hi,hg]
   simp(disch:=omega) only[dY,rn,reduceIte,ek,gi,hb',au n2,NH,cU (kC w),au (dC vs),ea,hix,nl,XY]
  ·have hb':¬ (i,0)∈Lk h Ws Ws.length hand:=λz=>hb (hm.mp z)
   rw[←sr _ (JZ hb)]
   simp(disch:=omega) only[dY,rn,reduceIte,ek,gi,hb',au n2])
 rw[K4,X8,wy] at g2
 exact⟨eU,by rw[g1,g2]⟩
theorem C1 {h b:Nat}{vs:List Int}{Ws:List (List Z4)}(w:qX h b vs Ws)(hh:h<=4){hand m:Nat}(hd:hand < h)(hm:m < Ws.length)(c0 c7 c9 oa uF:Slot) :
  ∃eU:Slot,aW (bY 7) dZ ((!2).map λ(i:Nat)=>PyData.int (i:Int)) [c0,fN hand,tN h,tL (j3 h (Lk h Ws Ws.length)),tN m,tT Ws[m],none,c7,none,c9,oa,uF,tL ((!2).map (pf (cg h Ws[m] (hs h (Ws.drop (m+1)).reverse [hand])) 0))]=
   ag (.nx [c0,fN hand,tN h,tL (j3 h (Lk h Ws Ws.length)),tN m,tT Ws[m],none,eU,none,c9,oa,uF,tL ((!2).map (cg h Ws[m] (hs h (Ws.drop (m+1)).reverse [hand])))]):=by
 have ek:=ux (f:=Lk h Ws Ws.length) hd
 have nW:=w.n _ (Uv hm)
 have lW:=w.l _ (Uv hm)
 have e1:((m:Int)+1)=((m+1:Nat):Int):=by omega
 generalize O5:Ws[m]=W at*
 obtain⟨Γ',g1,eU,g2⟩:=bn (g:=bY 7) (b:=dZ) (ds:=(!2).map λ(i:Nat)=>PyData.int (i:Int)) (Γ:=[c0,fN hand,tN h,tL (j3 h (Lk h Ws Ws.length)),tN m,tT W,none,c7,none,c9,oa,uF,tL ((!2).map (pf (cg h W (hs h (Ws.drop (m+1)).reverse [hand])) 0))])
  (λi Γ=>∃c7:Slot,Γ=[c0,fN hand,tN h,tL (j3 h (Lk h Ws Ws.length)),tN m,tT W,none,c7,none,c9,oa,uF,tL ((!2).map (pf (cg h W (hs h (Ws.drop (m+1)).reverse [hand])) i))]) ⟨_,rfl⟩ (by
  rintro i d Γ hd' ⟨c7,rfl⟩
  obtain⟨rfl,hi⟩:=bR hd'
  refine⟨_,[c0,fN hand,tN h,tL (j3 h (Lk h Ws Ws.length)),tN m,tT W,none,tN i,none,c9,oa,uF,tL ((!2).map (pf (cg h W (hs h (Ws.drop (m+1)).reverse [hand])) (i+1)))],rfl,.inl ?_,_,rfl⟩
  have gi:uV (.tuple [.int (i:Int),.int ((m+1:Nat):Int)]) (.dict (enc (Lk h Ws Ws.length hand)))=some (.bool (decide ((i,m+1)∈Lk h Ws Ws.length hand))):=wn _ (i,m+1)
  have n2:aq [PyData.int (i:Int),.int ((m+1:Nat):Int)]=true:=rfl
  have hmm:(i,m+1)∈Lk h Ws Ws.length hand↔i∈hs h (Ws.drop (m+1)).reverse [hand]:=by rw[zm hh hd];exact⟨λz=>z.2,λz=>⟨by omega,z⟩⟩
  have nl:aq ((!2).map (pf (cg h W (hs h (Ws.drop (m+1)).reverse [hand])) i))=true:=aT _ (CZ (jU h W _) i) _
  have hix:Y.nu h (i:Int)=some i:=oF hi
  have sn:=qm h i W hh lW
  have nS:aq ((bQ h W i).map nat)=true:=aT _ (λ_=>rfl) _
  by_cases hb:i∈hs h (Ws.drop (m+1)).reverse [hand]
  ·have hb':=hmm.mpr hb
   have hg:cg h W (hs h (Ws.drop (m+1)).reverse [hand]) i= .tuple ((bQ h W i).map nat):=JW hb
   rw[←wx _ hi,hg]
   simp(disch:=omega) only[dZ,rn,reduceIte,e1,ek,gi,hb',au n2,au nW,sn,au nS,nS,hix,nl,XY]
  ·have hb':¬ (i,m+1)∈Lk h Ws Ws.length hand:=λz=>hb (hmm.mp z)
   rw[←sr _ (JZ hb)]
   simp(disch:=omega) only[dZ,rn,reduceIte,e1,ek,gi,hb',au n2])
 rw[K4,X8,wy] at g2
 exact⟨eU,by rw[g1,g2]⟩
theorem AJ {h b:Nat}{vs:List Int}{Ws:List (List Z4)}(w:qX h b vs Ws)(hh:h<=4){hand:Nat}(hd:hand < h)(c0 c4 c5 c7 c9 oa:Slot) :
  ∃mQ mR eU Ip:Slot,aW (jy [4,5]) gc (dH 0 (Ws.map PyData.tuple)) [c0,fN hand,tN h,tL (j3 h (Lk h Ws Ws.length)),c4,c5,none,c7,none,c9,oa,tL [],none]=
   ag (.nx [c0,fN hand,tN h,tL (j3 h (Lk h Ws Ws.length)),mQ,mR,none,eU,none,c9,oa,tL (rows h Ws.reverse [hand]).reverse,Ip]):=by
 have hr:=w.hr
 obtain⟨Γ',g1,mQ,mR,eU,Ip,g2⟩:=bn (g:=jy [4,5]) (b:=gc) (ds:=dH 0 (Ws.map PyData.tuple)) (Γ:=[c0,fN hand,tN h,tL (j3 h (Lk h Ws Ws.length)),c4,c5,none,c7,none,c9,oa,tL [],none])
  (λi Γ=>∃c4 c5 c7 c12:Slot,Γ=[c0,fN hand,tN h,tL (j3 h (Lk h Ws Ws.length)),c4,c5,none,c7,none,c9,oa,tL ((rows h Ws.reverse [hand]).reverse.take i),c12]) ⟨_,_,_,_,rfl⟩ (by
  rintro i d Γ hd' ⟨c4,c5,c7,c12,rfl⟩
  obtain⟨hi,rfl⟩:=wv hd'
  have nW:=w.n _ (Uv hi)
  obtain⟨eU,e⟩:=C1 w hh hd hi c0 c7 c9 oa (tL ((rows h Ws.reverse [hand]).reverse.take i))
  have er:=CU (h:=h) (hand:=hand) hi
  have et:(rows h Ws.reverse [hand]).reverse.take (i+1)=(rows h Ws.reverse [hand]).reverse.take i++[.tuple ((!2).map (cg h Ws[i] (hs h (Ws.drop (i+1)).reverse [hand])))]:=by rw[J8,er];rfl
  refine⟨_,[c0,fN hand,tN h,tL (j3 h (Lk h Ws Ws.length)),tN i,tT Ws[i],none,eU,none,c9,oa,tL ((rows h Ws.reverse [hand]).reverse.take (i+1)),tL ((!2).map (cg h Ws[i] (hs h (Ws.drop (i+1)).reverse [hand])))],Gg _ _ _ _ _ _ _ _ _ _ _ _ _ i Ws[i] nW,.inl ?_,_,_,_,_,rfl⟩
  rw[et]
  have hsz:((rows h Ws.reverse [hand]).reverse.take i).length < sizeLine:=Xv (show _<=5 by rw[Xk];omega) (by decide)
  generalize Ws[i]=W at*
  have rp:=su h hh (cg h W (hs h (Ws.drop (i+1)).reverse [hand]))
  have nR:aq ((!2).map (cg h W (hs h (Ws.drop (i+1)).reverse [hand])))=true:=aT _ (jU h W _) _
  simp(disch:=omega) only[gc,rn,reduceIte,zO,isNew,rp,Ku,e,ca nR,au nR,hsz])
 rw[L2.cH,K4,XZ (by rw[Uk,mE,Uk];exact K1 _)] at g2
 exact⟨mQ,mR,eU,Ip,by rw[g1,g2]⟩
theorem yf {h b:Nat}{vs:List Int}{Ws:List (List Z4)}(w:qX h b vs Ws)(hh:h<=4){hand:Nat}(hd:hand < h):gC [jW vs Ws,.int (hand:Int)]=ag (true,cz vs Ws hand):=by
 have hv:=w.hv
 have hr:=w.hr
 have nr:=kC w
 have nw:=Ff w
 have hml:(vs.map PyData.int).length=h:=by rw[K4];exact hv
 have hc:=jp (fe:=f6) (cap:=[]) ((!2).map λ(i:Nat)=>PyData.int (i:Int))
  (λd=>match d with | .int k=>(.fr [],.dict (enc [(k.toNat,0)])) | _=>(.fr [],.none)) (λd hd=>by
   obtain⟨k,hk,rfl⟩:=Kw.mp hd
   rw[CV];simp only[Ku])
 have e1:(((!2).map λ(i:Nat)=>PyData.int (i:Int)).map λd=>match d with | .int k=>(Kd.fr [],PyData.dict (enc [(k.toNat,0)])) | _=>(Kd.fr [],PyData.none))=(!2).map λk=>(Kd.fr [],PyData.dict (enc (Lk h Ws 0 k))):=by
  rw[KQ];refine Uj λk _=> ?_;simp only[Function.comp,Ku,Lk]
 rw[e1] at hc
 have k1:=fm (!2) λk=>PyData.dict (enc (Lk h Ws 0 k))
 have e2:((!2).map λk=>(Kd.fr [],PyData.dict (enc (Lk h Ws 0 k)))).map Prod.snd=j3 h (Lk h Ws 0):=by rw[KQ];rfl
 have hle:h<=100000:=by omega
 obtain⟨c4,c5,c7,c9,l1⟩:=CY w hh (fA (jW vs Ws)) (fN hand)
 have rp:=su h hh (cj vs (hs h Ws.reverse [hand]))
 obtain⟨eU,l2⟩:=AI w hh hd c4 c5 c7 c9
 obtain⟨d4,d5,d7,O6,l3⟩:=AJ w hh hd (fA (jW vs Ws)) c4 c5 eU c9 (tL ((!2).map (cj vs (hs h Ws.reverse [hand]))))
 have n1:aq ((!2).map (cj vs (hs h Ws.reverse [hand])))=true:=aT _ (mF _ _) _
 have n2:aq (rows h Ws.reverse [hand]).reverse=true:=aU.mpr λx hx=>aU.mp (mz (h:=h) (R:=Ws.reverse) (H:=[hand])) x (Uw.mp hx)
 have n4:aq [PyData.int (hand:Int),.tuple ((!2).map (cj vs (hs h Ws.reverse [hand]))),.tuple (rows h Ws.reverse [hand]).reverse]=true:=by simp only[aq,me,cD,n1,n2,XY]
 simp(disch:=omega) only[gC,ku,cp,sV,D9,zO,isNew,rn,reduceIte,NH,OO,cU nr,au nw,au (dC vs),hv,hml,Ku,hc,k1,e2,hle,l1,rp,l2,l3,ca n1,ca n2,au n1,au n2,au n4,cz]
theorem AK (i:Int):gS [.int i]=ag (true,.bool true):=by
 simp(disch:=omega) only[gS,jQ,rn,jd,mU,bO,reduceCtorEq,reduceIte,String.reduceBEq]
mutual
theorem mJ:∀(n:Nat) (d:Z4),lay n d=true->PyData.eqv d d=true
 | _,.none,_=>by simp[PyData.eqv]
 | _,.bool _,_=>by simp[PyData.eqv]
 | _,.int _,_=>by simp[PyData.eqv]
 | _,.str _,_=>by simp[PyData.eqv]
 | 0,.list xs,h=>by simp[lay] at h
 | 0,.tuple xs,h=>by simp[lay] at h
 | n+1,.list xs,h=>by rw[lay] at h;simp only[PyData.eqv];exact qt n xs h
 | n+1,.tuple xs,h=>by rw[lay] at h;simp only[PyData.eqv];exact qt n xs h
 | 0,.dict _,h=>by simp[lay] at h
 | n+1,.dict _,h=>by simp[lay] at h
theorem qt:∀(n:Nat) (ds:List Z4),lays n ds=true->PyData.eqvAll ds ds=true
 | _,[],_=>by simp[PyData.eqvAll]
 | n,d :: ds,h=>by
  rw[lays,X9] at h
  simp only[PyData.eqvAll,mJ n d h.1,qt n ds h.2,XY]
end
theorem wz {n:Nat}{xs ys:List Z4}(h1:lays n xs=true)(h2:lays n ys=true):lays n (xs++ys)=true:=gp.mpr λx hx=>by
 rcases Kk.mp hx with h | h
 ·exact gp.mp h1 x h
 ·exact gp.mp h2 x h
structure Good (xs:List Z4):Prop where
 u:∀(d:Nat) (x:Z4),xs[d]? =some x->qK x xs=some d
 n:aq xs=true
 l:∀n,lays (n+3) xs=true
theorem sv {x:Z4}:∀{xs:List Z4} {d:Nat} (zs:List Z4),qK x xs=some d->qK x (xs++zs)=some d
 | [],d,zs,h=>by cases h
 | y :: ys,d,zs,h=>by
  rw[U8,qK]
  rw[qK] at h
  by_cases hy:PyData.eqv y x=true
  ·rw[JW hy] at h⊢;exact h
  ·rw[JZ hy] at h⊢
   cases e:qK x ys with
   | none=>rw[e] at h;cases h
   | some k=>rw[e] at h;rw[sv zs e];exact h
theorem qu {x:Z4}(hx:PyData.eqv x x=true):∀{xs:List Z4},cn xs x=false->qK x (xs++[x])=some xs.length
 | [],_=>by simp[qK,hx]
 | y :: ys,h=>by
  rw[cn,YX,Bool.or_eq_false_iff] at h
  rw[U8,qK,JZ (by rw[h.1];exact K5),qu hx h.2];rfl
theorem Good.snoc {xs:List Z4}{x:Z4}(g:Good xs)(hn:bj x=true)(hl:∀n,lay (n+3) x=true)(hx:cn xs x=false):Good (xs++[x]) where
 u:=λd y h=>by
  by_cases hd:d < xs.length
  ·rw[Xq hd] at h
   exact sv _ (g.u d y h)
  ·rw[U2 (!1)] at h
   have h0:d - xs.length=0:=by
    have:=(X2.mp h).1
    simp at this;omega
   rw[h0] at h
   have:x=y:=by simpa using h
   subst this
   rw[qu (mJ _ _ (hl 0)) hx]
   congr 1;omega
 n:=by rw[gm,g.n,aq,aq,hn];rfl
 l:=λn=>wz (g.l n) (by rw[lays,lays,hl n];rfl)
theorem qv:Good []:=⟨λd x h=>by simp at h,rfl,λ_=>rfl⟩
theorem Good.bj {xs:List Z4}{x:Z4}(g:Good xs)(h:x∈xs):bj x=true:=aU.mp g.n x h
theorem Good.lay {xs:List Z4}{x:Z4}(g:Good xs)(h:x∈xs)(n:Nat):Y.lay (n+3) x=true:=gp.mp (g.l n) x h
theorem Good.cn {xs:List Z4}{x:Z4}(g:Good xs)(h:x∈xs):Y.cn xs x=true:=List.any_eq_true.mpr ⟨x,h,mJ _ _ (g.lay h 0)⟩
theorem zn (xs:List Z4)(n:Nat)(hx:xs.length<=1000)(hn:n<=100):gA [.list xs,.int (n:Int)]=ag (true,.int ((xs.length^n:Nat):Int)):=by
 obtain⟨Γ',h1,c3,h2⟩:=bn (g:=bY 3) (b:=i8) (ds:=(List.range n).map λ(i:Nat)=>PyData.int (i:Int)) (Γ:=[fL xs,fN n,tI 1,none])
  (λi Γ=>∃c3:Option (Bool×Z4),Γ=[fL xs,fN n,tI ((xs.length^i:Nat):Int),c3]) ⟨none,by simp⟩ (by
  rintro i d Γ hd ⟨c3,rfl⟩
  obtain⟨rfl,hi⟩:=bR hd
  refine⟨_,[fL xs,fN n,tI ((xs.length^(i+1):Nat):Int),tN i],rfl,.inl ?_,_,rfl⟩
  simp(disch:=omega) only[i8,rn,reduceIte,Nat.pow_succ,Int.natCast_mul])
 simp(disch:=omega) only[gA,kr,rn,reduceIte,h1,h2,Ku]
noncomputable def dig (L n:Nat):Nat->List Nat
 | 0=> []
 | k+1=>dig L n k++[n / L^k % L]
theorem zo (L n k:Nat):(dig L n k).length=k:=by
 induction k with
 | zero=>rfl
 | succ k ih=>rw[dig,K2,ih];rfl
theorem C2 {L n k d:Nat}(hL:0 < L)(h:d∈dig L n k):d < L:=by
 induction k with
 | zero=>cases h
 | succ k ih=>
  rw[dig] at h
  rcases Kk.mp h with h | h
  ·exact ih h
  ·rw[K7.mp h];exact Nat.mod_lt _ hL
noncomputable def k8 (xs:List Z4)(n k:Nat):List Z4:=(dig xs.length n k).reverse.map λd=>xs.getD d .none
theorem getD_at {xs:List Z4}{d:Nat}(h:d < xs.length):xs[d]? =some (xs.getD d .none):=by rw[X6,K3 h];rfl
theorem getD_mem {xs:List Z4}{d:Nat}(h:d < xs.length):xs.getD d .none∈xs:=List.mem_of_getElem? (getD_at h)
theorem C3 (xs:List Z4)(n k:Nat):(k8 xs n k).length=k:=by unfold k8;rw[K4,Uk,zo]
theorem wA {xs:List Z4}{n k:Nat}{x:Z4}(hv:1<=xs.length)(h:x∈k8 xs n k):x∈xs:=by
 obtain⟨d,hd,rfl⟩:=Kw.mp h
 exact getD_mem (C2 hv (Uw.mp hd))
theorem C4 (xs:List Z4)(n k:Nat)(g:Good xs)(hv:1<=xs.length)(F5:xs.length<=1000)(hk:k<=100):mn [.list xs,.int (k:Int),.int (n:Int)]=ag (true,.tuple (k8 xs n k)):=by
 obtain⟨Γ',h1,c5,h2⟩:=bn (g:=bY 5) (b:=lH) (ds:=(List.range k).map λ(i:Nat)=>PyData.int (i:Int)) (Γ:=[fL xs,fN k,fN n,tL [],tN n,none])
  (λi Γ=>∃c5:Option (Bool×Z4),Γ=[fL xs,fN k,fN n,tL ((dig xs.length n i).map λd=>xs.getD d .none),tI ((n / xs.length^i:Nat):Int),c5]) ⟨none,by simp[dig]⟩ (by
  rintro i d Γ hd ⟨c5,rfl⟩
  obtain⟨rfl,hi⟩:=bR hd
  refine⟨_,[fL xs,fN k,fN n,tL ((dig xs.length n (i+1)).map λd=>xs.getD d .none),tI ((n / xs.length^(i+1):Nat):Int),tN i],rfl,.inl ?_,_,rfl⟩
  have hlt:n / xs.length^i % xs.length < xs.length:=Nat.mod_lt _ hv
  have e1:((n / xs.length^i:Nat):Int) % (xs.length:Int)=((n / xs.length^i % xs.length:Nat):Int):=(Int.natCast_emod _ _).symm
  have e2:mP xs ((n / xs.length^i % xs.length:Nat):Int)=some (xs.getD (n / xs.length^i % xs.length) .none):=iI (getD_at hlt)
  have e3:((n / xs.length^i:Nat):Int) / (xs.length:Int)=((n / xs.length^(i+1):Nat):Int):=by
   rw[Nat.pow_succ,←Nat.div_div_eq_div_mul];exact(Int.natCast_ediv _ _).symm
  have hsz:(dig xs.length n i).length < sizeLine:=Xv (show _<=100 by rw[zo];omega) (by decide)
  have e4:bj (xs.getD (n / xs.length^i % xs.length) .none)=true:=g.bj (getD_mem hlt)
  simp(disch:=omega) only[lH,rn,reduceIte,e1,e2,e3,hsz,dig,X0,cU e4])
 have hn:aq ((dig xs.length n k).map λd=>xs.getD d .none)=true:=aU.mpr λx hx=>by
  obtain⟨d,hd,rfl⟩:=Kw.mp hx
  exact g.bj (getD_mem (C2 hv hd))
 rw[K4,X8] at h2
 simp(disch:=omega) only[mn,p5,rn,reduceIte,h1,h2,Ku,pM hn,k8,←List.map_reverse]
theorem C5 (ws ss:List Z4)(k N:Nat)(gw:Good ws)(gs:Good ss)(hv:1<=ws.length)(F5:ws.length<=8)(hk:k<=5)(hN:N < ss.length*ws.length^k) :
  mq [.list ws,.int (k:Int),.list ss,.int (N:Int)]=ag (true,.tuple [ss.getD (N / ws.length^k) .none,.tuple (k8 ws (N % ws.length^k) k)]):=by
 have hp:0 < ws.length^k:=Nat.pow_pos hv
 have hp2:ws.length^k<=32768:=KY (Nat.pow_le_pow_left F5 k) (KY (Nat.pow_le_pow_right (by decide) hk) (by decide))
 have hq:N / ws.length^k < ss.length:=Nat.div_lt_of_lt_mul (by rw[YY];exact hN)
 have hm:=zn ws k (!1) (!1)
 have hr:=C4 ws (N % ws.length^k) k gw hv (!1) (!1)
 have e1:((N:Nat):Int) / ((ws.length^k:Nat):Int)=((N / ws.length^k:Nat):Int):=(Int.natCast_ediv _ _).symm
 have e2:((N:Nat):Int) % ((ws.length^k:Nat):Int)=((N % ws.length^k:Nat):Int):=(Int.natCast_emod _ _).symm
 have e3:=iI (getD_at hq)
 have ns:bj (ss.getD (N / ws.length^k) .none)=true:=gs.bj (getD_mem hq)
 have nr:aq (k8 ws (N % ws.length^k) k)=true:=aU.mpr λx hx=>gw.bj (wA hv hx)
 have hT:aq [ss.getD (N / ws.length^k) .none,.tuple (k8 ws (N % ws.length^k) k)]=true:=by simp only[aq,ns,cD,nr,XY]
 generalize ws.length^k=L at*
 simp(disch:=omega) only[mq,p6,rn,reduceIte,hm,hr,e1,e2,e3,cU ns,au nr,au hT]
theorem Fi (ws ss:List Z4)(k:Nat)(F5:ws.length<=8)(hs:ss.length<=81)(hk:k<=5) :
  gB [.list ws,.int (k:Int),.list ss]=ag (true,.int ((ss.length*ws.length^k:Nat):Int)):=by
 have hm:=zn ws k (!1) (!1)
 simp(disch:=omega) only[gB,kt,rn,reduceIte,hm,Int.natCast_mul]
theorem C6 {xs ys:List Z4}(h1:aq xs=true)(h2:aq ys=true)(h3:xs.length+ys.length<=sizeLine):gL (.tuple xs) (.tuple ys)=some (.tuple (xs++ys)):=by
 simp only[gL,h1,h2,XY,J5,JV h3,if_true]
theorem wB (L m:Nat):∀k:Nat,dig L m (k+1)=(m % L) :: dig L (m / L) k
 | 0=>by simp[dig]
 | k+1=>by
  rw[dig,wB L m k,dig,U8,Nat.pow_succ,YY (L^k) L,←Nat.div_div_eq_div_mul]
theorem AL (xs:List Z4)(n d k:Nat)(hd:d < xs.length):k8 xs (n*xs.length+d) (k+1)=k8 xs n k++[xs.getD d .none]:=by
 have e1:(n*xs.length+d) % xs.length=d:=by rw[YY,Nat.mul_add_mod,Nat.mod_eq_of_lt hd]
 have e2:(n*xs.length+d) / xs.length=n:=by rw[YY,Nat.mul_add_div (!1),Nat.div_eq_of_lt hd,Nat.add_zero]
 unfold k8
 rw[wB,e1,e2,J7,X0]
 rfl
theorem sw (a b:Nat):List.range (a*b)=(List.range a).flatMap λn=>(List.range b).map λd=>n*b+d:=by
 induction a with
 | zero=>simp
 | succ a ih=>
  rw[UQ,List.range_add,ih,Yy,List.flatMap_append]
  simp
theorem map_getD (xs:List Z4):(List.range xs.length).map (λd=>xs.getD d .none)=xs:=by
 refine J1 (by simp) λi h1 h2=> ?_
 simp[X6,K3 h2]
theorem Iq {α:Type}(xs:List Z4)(f:Z4->α):xs.map f=(List.range xs.length).map λd=>f (xs.getD d .none):=(congrArg (List.map f) (map_getD xs)).symm.trans (KQ ..)
theorem Fj {α:Type}(xs:List Z4)(f:Z4->List α):xs.flatMap f=(List.range xs.length).flatMap λd=>f (xs.getD d .none):=(congrArg (List.flatMap f) (map_getD xs)).symm.trans (List.flatMap_map ..)
noncomputable def rws (ws:List Z4):Nat->List (List Z4)
 | 0=> [[]]
 | k+1=>(rws ws k).flatMap λr=>ws.map λw=>r++[w]
theorem yg (ws:List Z4):∀k:Nat,rws ws k=(List.range (ws.length^k)).map λn=>k8 ws n k
 | 0=>by simp[rws,k8,dig]
 | k+1=>by
  rw[rws,yg ws k,Nat.pow_succ,sw,List.map_flatMap,List.flatMap_map]
  refine congrArg (λf=>List.flatMap f (List.range (ws.length^k))) (funext λn=> ?_)
  rw[KQ,Iq ws]
  refine Uj λd hd=> ?_
  exact(AL ws n d k (Xy.mp hd)).symm
def uy (ws ss:List Z4)(k N:Nat):Z4:=.tuple [ss.getD (N / ws.length^k) .none,.tuple (k8 ws (N % ws.length^k) k)]
def wC (ws ss:List Z4)(k:Nat):List Z4:=(List.range (ss.length*ws.length^k)).map (uy ws ss k)
theorem Fk (ws ss:List Z4)(k:Nat):(ss.flatMap λs=>(rws ws k).map λr=>PyData.tuple [s,.tuple r])=wC ws ss k:=by
 unfold wC
 rw[sw,List.map_flatMap]
 rw[Fj ss]
 refine congrArg (λf=>List.flatMap f (List.range ss.length)) (funext λm=> ?_)
 rw[yg,KQ,KQ]
 refine Uj λn hn=> ?_
 have hn':n < ws.length^k:=Xy.mp hn
 show PyData.tuple [ss.getD m .none,.tuple (k8 ws n k)]=uy ws ss k (m*ws.length^k+n)
 unfold uy
 rw[YY,Nat.mul_add_div (!1),Nat.div_eq_of_lt hn',Nat.add_zero,Nat.mul_add_mod,Nat.mod_eq_of_lt hn']
theorem Fl (ws:List Z4)(k:Nat):(rws ws k).length=ws.length^k:=by rw[yg];simp
theorem uz {ws:List Z4}:∀{k:Nat} {r:List Z4},r∈rws ws k->r.length=k/\∀x∈r,x∈ws
 | 0,r,h=>by rw[K7.mp h];exact⟨rfl,λx hx=>by cases hx⟩
 | k+1,r,h=>by
  obtain⟨r',h1,h2⟩:=Y6.mp h
  obtain⟨w,h3,rfl⟩:=Kw.mp h2
  obtain⟨h4,h5⟩:=uz h1
  refine⟨by rw[K2,h4];rfl,λx hx=> ?_⟩
  rcases Kk.mp hx with hx | hx
  ·exact h5 x hx
  ·rw[K7.mp hx];exact h3
theorem wD {ws:List Z4}(g:Good ws){k:Nat}{r:List Z4}(h:r∈rws ws k):aq r=true:=aU.mpr λx hx=>g.bj ((uz h).2 x hx)
def tups (l:List (List Z4)):List Z4:=l.map PyData.tuple
theorem wF (a b:List (List Z4)):tups (a++b)=tups a++tups b:=by simp[tups]
def pairD (s:Z4)(l:List (List Z4)):List Z4:=l.map λr=>PyData.tuple [s,.tuple r]
theorem Ir (ws ss:List Z4)(k:Nat)(g:Good ws)(gs:Good ss)(hw1:1<=ws.length)(hw:ws.length<=8)(hk:k<=5)(hs:ss.length<=81)(hm:ss.length*ws.length^k<=3000) :
  jP [.list ws,.int (k:Int),.list ss]=ag (true,.list (wC ws ss k)):=by
 have hr:gB [.list ws,.int (k:Int),.list ss]=ag (true,.int ((ss.length*ws.length^k:Nat):Int)):=Fi ws ss k hw hs hk
 have hgt:decide ((3000:Int) < ((ss.length*ws.length^k:Nat):Int))=false:=JQ (!1)
 have hc:c_ dN gR [fL ws,fN k,fL ss] ((List.range (ss.length*ws.length^k)).map λ(i:Nat)=>PyData.int (i:Int))=some (((List.range (ss.length*ws.length^k)).map λ(i:Nat)=>PyData.int (i:Int)).map λd=>(Kd.fr [],match d with | .int i=>uy ws ss k i.toNat | _=> .none)):=jp _ _ λd hd=>by
  obtain⟨N,hN,rfl⟩:=Kw.mp hd
  have e:=C5 ws ss k N g gs hw1 hw hk (Xy.mp hN)
  simp(disch:=omega) only[gR,rn,reduceIte,e,vG (mf _),Ku,uy]
  unfold cA;split <;> rfl
 rw[KQ] at hc
 have k1:=fm (List.range (ss.length*ws.length^k)) (uy ws ss k)
 have m1:((List.range (ss.length*ws.length^k)).map λa=>(Kd.fr [],uy ws ss k a)).map Prod.snd=wC ws ss k:=by rw[KQ];rfl
 have hc':c_ dN gR [fL ws,fN k,fL ss] ((List.range (ss.length*ws.length^k)).map λ(i:Nat)=>PyData.int (i:Int))=some ((List.range (ss.length*ws.length^k)).map λa=>(Kd.fr [],uy ws ss k a)):=hc
 have hl:ss.length*ws.length^k<=100000:=by omega
 generalize hM:ss.length*ws.length^k=Mm at*
 simp(disch:=omega) only[jP,lI,cp,rn,reduceIte,hr,hgt,Ku,hc',k1,m1,hl,vG (mf _)]
end K31
namespace Y
open PySem
section
variable {a b:SF}{t:TF}{Γ Γ':bf}{o:Bool}{d:Z4}
theorem aC (h:a Γ=ag (.nx Γ')):aB a b Γ=b Γ':=by unfold aB;rw[h];rfl
theorem C7 (h:t Γ=ag true):ja t a b Γ=a Γ:=by unfold ja;rw[h];rfl
theorem zp (h:t Γ=ag false):ja t a b Γ=b Γ:=by unfold ja;rw[h];rfl
theorem Fm (Γ:bf):cB Γ=ag (.nx Γ):=rfl
theorem gk {n:Nat}{ds:List Z4}(h:a (cP n ds)=ag (.rt o d)):cF n a ds=ag (o,d):=by unfold cF;rw[h];rfl
theorem mK {n:Nat}(h:t Γ=ag true)(h2:b Γ=ag (.nx Γ')):eM (n+1) t b Γ=eM n t b Γ':=by rw[eM,h,ar,JW rfl,h2,ar]
theorem qw {n:Nat}(h:t Γ=ag false):eM (n+1) t b Γ=ag (.nx Γ):=by rw[eM,h,ar,JZ K5]
end
end Y
namespace K31
open PySem Y
def fH (ns:List Int)(k:Int):Int:=if k < ns.length then (ns[k.toNat]?).getD 0 else 0
theorem jY (ns:List Int)(k:Int)(hk:0<=k):aF [.list (!5),.int k]=ag (true,.int (fH ns k)):=by
 by_cases h:k < ns.length
 ·have e:(!5)[k.toNat]? =some (.int (fH ns k)):=by
   rw[KW,K3 (!1),fH,JW h,K3 (!1)];rfl
  simp(disch:=omega) only[aF,fq,rn,reduceIte,h,EV hk e]
 ·have e:fH ns k=0:=JZ h
  simp(disch:=omega) only[aF,fq,rn,reduceIte,h,e]
theorem C8 (n k:Int)(h0:0<=k)(h1:k < 1000):∃z:Nat,z < 2147483648/\dh [.int n,.int k]=ag (true,.int (z:Int)):=by
 by_cases hn:1000000000000<=n
 ·have b1:=UW k (show(61:Int)≠0 by decide)
  have b2:=Uq k (show(0:Int) < 61 by decide)
  obtain⟨Γ',g1,z,c2,g2⟩:=bn (g:=bY 2) (b:=jJ) (ds:=(List.range (k % 61).toNat).map λ(i:Nat)=>PyData.int (i:Int)) (Γ:=[tI (n / 1000000000000 - 1),fI k,none,none])
   (λi Γ=>∃(z:Int) (c2:Option (Bool×Z4)),Γ=[tI z,fI k,c2,none]) ⟨_,none,rfl⟩ (by
   rintro i d Γ hd ⟨z,c2,rfl⟩
   obtain⟨rfl,hi⟩:=bR hd
   refine⟨_,[tI (z / 2147483648),fI k,tN i,none],rfl,.inl ?_,_,_,rfl⟩
   simp(disch:=omega) only[jJ,rn,reduceIte])
  refine⟨(z % 2147483648).toNat,by omega,?_⟩
  have ez:((z % 2147483648).toNat:Int)=z % 2147483648:=by omega
  rw[ez]
  simp(disch:=omega) only[dh,jK,rn,reduceIte,yV,Int.reduceToNat,Int.reducePow,hn,g1,g2]
 ·have b1:=UW n (show(1000003:Int)≠0 by decide)
  have b2:=Uq n (show(0:Int) < 1000003 by decide)
  have b3:=UW ((n % 1000003+k*k*7919+k)*48271) (show(2147483629:Int)≠0 by decide)
  have b4:=Uq ((n % 1000003+k*k*7919+k)*48271) (show(0:Int) < 2147483629 by decide)
  generalize ha:(n % 1000003+k*k*7919+k)*48271 % 2147483629=a at b3 b4
  have b5:=UW (a*a) (show(2147483587:Int)≠0 by decide)
  have b6:=Uq (a*a) (show(0:Int) < 2147483587 by decide)
  generalize hb:a*a % 2147483587=b at b5 b6
  have b7:=UW (b*(b+2)) (show(2147483579:Int)≠0 by decide)
  have b8:=Uq (b*(b+2)) (show(0:Int) < 2147483579 by decide)
  generalize hc:b*(b+2) % 2147483579=c at b7 b8
  refine⟨(c / 7).toNat,by omega,?_⟩
  have ez:((c / 7).toNat:Int)=c / 7:=by omega
  rw[ez]
  simp(disch:=omega) only[dh,jK,rn,reduceIte,yV,Int.reduceToNat,Int.reducePow,hn,ha,hb,hc]
theorem AM (ns:List Int):∃a b c:Int,cK [.list (!5)]=ag (true,.list [.int a,.int b,.int c]):=by
 by_cases h:fH ns 7 % 2=1
 ·have hb:(fH ns 7 % 2==1)=true:=by rw[h];rfl
  refine⟨fH ns 5 % 10^60 / 10,(-1 - fH ns 6 % 10^59) / 10 - 1,7+fH ns 5 % 10^60 / 10,?_⟩
  simp(disch:=omega) only[cK,fX,rn,reduceIte,Int.reduceToNat,Int.reducePow,jY,hb]
 ·have hb:(fH ns 7 % 2==1)=false:=by simpa using h
  refine⟨fH ns 5 % 10^60 / 10,(fH ns 5 % 10^60+1+fH ns 6 % 5) / 10 - 1,7+fH ns 5 % 10^60 / 10,?_⟩
  simp(disch:=omega) only[cK,fX,rn,reduceIte,Int.reduceToNat,Int.reducePow,jY,hb]
theorem wG {fe:EF}{cap:bf}:∀(ds:List Z4),(∀d∈ds,∃z:Int,fe (fA d :: cap)=ag (.fr [],.int z))->∃zs:List Int,zs.length=ds.length/\c_ dN fe cap ds=some (zs.map λz=>(Kd.fr [],PyData.int z))
 | [],_=>⟨[],rfl,rfl⟩
 | d :: ds,h=>by
  obtain⟨z,hz⟩:=h d K8
  obtain⟨zs,hl,hc⟩:=wG ds λx hx=>h x (K9 _ hx)
  refine⟨z :: zs,by simp[hl],?_⟩
  simp only[c_,dN,ag] at hz⊢
  rw[hz,hc];rfl
def prs (ls:List (Int×Int)):List Z4:=ls.map λp=> .tuple [.int p.1,.int p.2]
theorem C9 (h:Nat)(h2:2<=h)(h4:h<=4):∃ls:List (Int×Int),jL [.int (h:Int)]=ag (true,.list (prs ls))/\2<=ls.length/\ls.length<=12:=by
 have hc:h=2∨h=3∨h=4:=by omega
 rcases hc with rfl | rfl | rfl
 ·exact⟨[(0,1),(1,0)],by rfl,by decide,by decide⟩
 ·exact⟨[(0,1),(0,2),(1,0),(1,2),(2,0),(2,1)],by rfl,by decide,by decide⟩
 ·exact⟨[(0,1),(0,2),(0,3),(1,0),(1,2),(1,3),(2,0),(2,1),(2,3),(3,0),(3,1),(3,2)],by rfl,by decide,by decide⟩
def AN (W:List Z4):Prop:=∀x∈W,∃i j:Int,x= .tuple [.int i,.int j]
theorem AN.n {W:List Z4}(h:AN W):aq W=true:=aU.mpr λx hx=>by
 obtain⟨i,j,rfl⟩:=h x hx;rfl
theorem AN.l {W:List Z4}(h:AN W)(n:Nat):lays (n+2) W=true:=gp.mpr λx hx=>by
 obtain⟨i,j,rfl⟩:=h x hx;rfl
theorem AN.snoc {W:List Z4}{x:Z4}(h:AN W)(hx:∃i j:Int,x= .tuple [.int i,.int j]):AN (W++[x]):=λy hy=>by
 rcases Kk.mp hy with hy | hy
 ·exact h y hy
 ·rw[K7.mp hy];exact hx
theorem Fo (ls:List (Int×Int)):AN (prs ls):=λx hx=>by
 obtain⟨p,_,rfl⟩:=Kw.mp hx;exact⟨_,_,rfl⟩
theorem yh (z:Int)(h:Nat)(h2:2<=h)(h4:h<=4):∃W:List Z4,AN W/\W.length<=12/\di [.int z,.int (h:Int)]=ag (true,.tuple W):=by
 obtain⟨ls,hp,l1,l2⟩:=C9 h h2 h4
 obtain⟨Γ',g1,W,y,o,c3,g2,g3,g4⟩:=bn (g:=bY 3) (b:=dD) (ds:=prs ls) (Γ:=[fI z,fN h,tL [],none])
  (λi Γ=>∃(W:List Z4) (y:Int) (o:Bool) (c3:Option (Bool×Z4)),Γ=[some (o,.int y),fN h,tL W,c3]/\AN W/\W.length<=i) ⟨[],z,false,none,rfl,(λx hx=>by cases hx),K1 _⟩ (by
  rintro i d Γ hd ⟨W,y,o,c3,rfl,hW,hl⟩
  have hi:i < ls.length:=by have:=(X2.mp hd).1;simpa [prs] using this
  obtain⟨a,b,rfl⟩:=Fo ls d (List.mem_of_getElem? hd)
  have hsz:W.length < sizeLine:=Xv (show _<=12 by omega) (by decide)
  have nT:aq [PyData.int a,.int b]=true:=rfl
  cases hb:(y % 3==0) with
  | true=>
   refine⟨_,[tI (y / 3),fN h,tL (W++[.tuple [.int a,.int b]]),tT [.int a,.int b]],by rw[au nT];rfl,.inl ?_,_,_,_,_,rfl,hW.snoc ⟨a,b,rfl⟩,by rw[K2,X5];omega⟩
   simp(disch:=omega) only[dD,rn,reduceIte,hb,au nT,hsz]
  | false=>
   refine⟨_,[tI (y / 3),fN h,tL W,tT [.int a,.int b]],by rw[au nT];rfl,.inl ?_,_,_,_,_,rfl,hW,by omega⟩
   simp(disch:=omega) only[dD,rn,reduceIte,hb,au nT,hsz])
 have gl:(prs ls).length=ls.length:=K4 _
 refine⟨W,g3,by omega,?_⟩
 simp(disch:=omega) only[di,im,rn,reduceIte,hp,g1,g2,ca g3.n,au g3.n]
abbrev Sl:=Option (Bool×Z4)
def AO (x:Z4):Prop:=∃W:List Z4,x= .tuple W/\AN W/\W.length<=12
theorem AO.bj {x:Z4}(h:AO x):bj x=true:=by
 obtain⟨W,rfl,p,_⟩:=h
 exact p.n
theorem AO.lay {x:Z4}(h:AO x)(n:Nat):lay (n+3) x=true:=by
 obtain⟨W,rfl,p,_⟩:=h
 rw[Y.lay];exact p.l n
theorem C_ {x:Z4}{ws:List Z4}(hx:lay 60 x=true)(hw:lays 60 ws=true):eY x (.list ws)=some (.bool (!cn ws x)):=vI hx hw
def r5:SF:=aE 5 (aJ dh [(aJ aF [(eV 0),(bp gL (eC (.int 2)) (eV 4))]),(bp gL (eC (.int 20)) (eV 4))])
def r6:SF:=aE 6 (aJ di [(eV 5),(eV 1)])
def rT:TF:=tE (bp uQ (bp gE (bp gq (eV 5) (eC (.int 600000))) (eC (.int 3))) (eC (.int 1)))
def rX:SF:=aE 6 (Ls (eV 6) none (some (eC (.int 1))))
def LD:TF:=rf (tE (bp eY (eV 6) (eV 3))) (tE (bp IP (iF hX [(eV 3)]) (eV 2)))
def MV:SF:=iW 3 (eV 6)
theorem Dc:cJ=aB r5 (aB r6 (aB (ja rT rX cB) (ja LD MV cB))):=rfl
theorem AQ (ns:List Int)(h:Nat)(h2:2<=h)(h4:h<=4)(m k:Nat)(hm:m<=3)(hm1:1<=m)(hk:k < 3)(ws:List Z4)(g:Good ws)(hw:∀x∈ws,AO x)(hl:ws.length<=m)(c5 c6:Sl) :
  ∃(ws':List Z4) (mR j4:Sl),Good ws'/\(∀x∈ws',AO x)/\ws'.length<=m/\1<=ws'.length/\cJ [fL (!5),fN h,fN m,tL ws,tN k,c5,c6]=ag (.nx [fL (!5),fN h,fN m,tL ws',tN k,mR,j4]):=by
 have c1:=jY ns (2+(k:Int)) (!1)
 obtain⟨z,_,m1⟩:=C8 (fH ns (2+(k:Int))) (20+(k:Int)) (!1) (!1)
 obtain⟨W,w1,w2,w3⟩:=yh (z:Int) h h2 h4
 have nW:=w1.n
 have s1:r5 [fL (!5),fN h,fN m,tL ws,tN k,c5,c6]=ag (.nx [fL (!5),fN h,fN m,tL ws,tN k,tN z,c6]):=by
  simp(disch:=omega) only[r5,rn,reduceIte,c1,m1]
 have s2:r6 [fL (!5),fN h,fN m,tL ws,tN k,tN z,c6]=ag (.nx [fL (!5),fN h,fN m,tL ws,tN k,tN z,tT W]):=by
  simp(disch:=omega) only[r6,rn,reduceIte,w3,au nW]
 have t1:rT [fL (!5),fN h,fN m,tL ws,tN k,tN z,tT W]=ag ((z:Int) / 600000 % 3==1):=by
  simp(disch:=omega) only[rT,rn,reduceIte]
 have s3:∃W':List Z4,AN W'/\W'.length<=12/\(ja rT rX cB) [fL (!5),fN h,fN m,tL ws,tN k,tN z,tT W]=ag (.nx [fL (!5),fN h,fN m,tL ws,tN k,tN z,tT W']):=by
  cases hb:((z:Int) / 600000 % 3==1) with
  | false=>
   rw[hb] at t1
   exact⟨W,w1,w2,(zp t1).trans rfl⟩
  | true=>
   rw[hb] at t1
   have gs:=Fe (lo:=none) (hi:=some 1) nW
   refine⟨cutD W none (some 1),λx hx=> ?_,?_,(C7 t1).trans ?_⟩
   ·unfold cutD at hx
    exact w1 x (U3 (U4 hx))
   ·unfold cutD
    rw[Xk,XJ];omega
   ·simp(disch:=omega) only[rX,rn,reduceIte,Ls,oE,oI,au nW,gs]
 obtain⟨W',v1,v2,s3⟩:=s3
 have iw:AO (.tuple W'):=⟨W',rfl,v1,v2⟩
 have nI:=C_ (x:=.tuple W') (ws:=ws) (iw.lay 57) (g.l 57)
 have NI:=v1.n
 have t2:LD [fL (!5),fN h,fN m,tL ws,tN k,tN z,tT W']=ag (!cn ws (.tuple W') && decide ((ws.length:Int) < (m:Int))):=by
  cases hb:cn ws (.tuple W') <;> rw[hb] at nI <;> simp(disch:=omega) only[LD,rn,reduceIte,au NI,nI,Bool.not_true,Bool.not_false,J5,YQ]
 have pre:∀o,(ja LD MV cB) [fL (!5),fN h,fN m,tL ws,tN k,tN z,tT W']=o->cJ [fL (!5),fN h,fN m,tL ws,tN k,c5,c6]=o:=λo q=>by
  rw[Dc,aC s1,aC s2,aC s3];exact q
 cases hb:(!cn ws (.tuple W') && decide ((ws.length:Int) < (m:Int))) with
 | true=>
  rw[hb] at t2
  rw[X9,Bool.not_eq_true',JU] at hb
  have hz:ws.length < sizeLine:=X4 (show ws.length < 100 by omega) (by decide)
  refine⟨ws++[.tuple W'],tN z,tT W',g.snoc iw.bj iw.lay hb.1,λx hx=> ?_,by rw[K2,X5];omega,by simp,pre _ ((C7 t2).trans ?_)⟩
  ·rcases Kk.mp hx with hx | hx
   ·exact hw x hx
   ·rw[K7.mp hx];exact iw
  ·simp(disch:=omega) only[MV,rn,reduceIte,au NI,hz]
 | false=>
  rw[hb] at t2
  refine⟨ws,tN z,tT W',g,hw,hl,?_,pre _ ((zp t2).trans rfl)⟩
  cases ws with
  | nil=>
   have:(!cn [] (PyData.tuple W') && decide ((([]:List Z4).length:Int) < (m:Int)))=true:=by
    rw[JV (show((([]:List Z4).length:Nat):Int) < (m:Int) by simp;omega)];rfl
   rw[hb] at this
   cases this
  | cons a b=>simp
theorem Fp (ns:List Int)(h:Nat)(h2:2<=h)(h4:h<=4)(m:Nat)(hm:m<=3)(hm1:1<=m):∃ws:List Z4,kj [.list (!5),.int (h:Int),.int (m:Int)]=ag (true,.list ws)/\Good ws/\(∀x∈ws,AO x)/\1<=ws.length/\ws.length<=m:=by
 have c1:=jY ns 1 (by decide)
 obtain⟨w0,g0,i0,l0,e0⟩:∃w0:List Z4,Good w0/\(∀x∈w0,AO x)/\w0.length<=1/\(ja (tE (bp uQ (bp gE (aJ aF [(eV 0),(eC (.int 1))]) (eC (.int 2))) (eC (.int 1)))) (iW 3 (iU [])) cB) [fL (!5),fN h,fN m,tL [],none,none,none]=ag (.nx [fL (!5),fN h,fN m,tL w0,none,none,none]):=by
  cases hb:(fH ns 1 % 2==1) with
  | false=>exact⟨[],qv,(λx hx=>by cases hx),by simp,by simp(disch:=omega) only[rn,reduceIte,c1,hb]⟩
  | true=>
   have e:cA (Kd.fr []) (.tuple [])= .fr []:=rfl
   have hz:0 < sizeLine:=by decide
   exact⟨[.tuple []],qv.snoc (x:=.tuple []) rfl (λ_=>rfl) rfl,λx hx=>by rw[K7.mp hx];exact⟨[],rfl,(λy hy=>by cases hy),by simp⟩,by simp,by simp(disch:=omega) only[rn,reduceIte,c1,hb,e,hz]⟩
 obtain⟨Γ',k1,ws,c4,c5,c6,rfl,k2,k3,k4,k5⟩:=bn (g:=bY 4) (b:=cJ) (ds:=(List.range m).map λ(i:Nat)=>PyData.int (i:Int)) (Γ:=[fL (!5),fN h,fN m,tL w0,none,none,none])
  (λi Γ=>∃(ws:List Z4) (c4 c5 c6:Sl),Γ=[fL (!5),fN h,fN m,tL ws,c4,c5,c6]/\Good ws/\(∀x∈ws,AO x)/\ws.length<=m/\(0 < i->1<=ws.length))
  ⟨w0,none,none,none,rfl,g0,i0,by omega,λz=>absurd z (U5 _)⟩ (by
  rintro i d Γ hd ⟨ws,c4,c5,c6,rfl,q1,q2,q3,q4⟩
  obtain⟨rfl,hi⟩:=bR hd
  obtain⟨ws',mR,j4,r1,r2,r3,r4,r5⟩:=AQ ns h h2 h4 m i hm hm1 (!1) ws q1 q2 q3 c5 c6
  exact⟨_,_,rfl,.inl r5,ws',_,mR,j4,rfl,r1,r2,r3,λ_=>r4⟩)
 rw[K4,X8] at k5
 refine⟨ws,?_,k2,k3,k5 (!1),k4⟩
 have hmt:(m:Int).toNat=m:=Ku m
 have s1:(aE 3 (cm [])) (cP 7 [.list (!5),.int (h:Int),.int (m:Int)])=ag (.nx [fL (!5),fN h,fN m,tL [],none,none,none]):=rfl
 have s3:(bx (eK (eV 2)) (bY 4) cJ) [fL (!5),fN h,fN m,tL w0,none,none,none]=ag (.nx [fL (!5),fN h,fN m,tL ws,c4,c5,c6]):=by
  simp(disch:=omega) only[rn,reduceIte,hmt,k1]
 refine gk ?_
 unfold ki
 rw[aC s1,aC e0,aC s3]
 rfl
theorem MW (a b c d:Z4):mP [a,b,c,d] 0=some a:=rfl
theorem MX (a b c d:Z4):mP [a,b,c,d] 1=some b:=rfl
theorem MY (a b c d:Z4):mP [a,b,c,d] 2=some c:=rfl
theorem MZ (a b c d:Z4):mP [a,b,c,d] 3=some d:=rfl
def Dd (h:Nat)(x:Z4):Prop:=∃vs:List Int,x= .tuple (vs.map PyData.int)/\vs.length=h
theorem Dd.bj {h:Nat}{x:Z4}(i:Dd h x):bj x=true:=by
 obtain⟨vs,rfl,_⟩:=i
 exact dC vs
theorem Dd.lay {h:Nat}{x:Z4}(i:Dd h x)(n:Nat):lay (n+3) x=true:=by
 obtain⟨vs,rfl,_⟩:=i
 rw[Y.lay];exact Au vs
theorem zq (a b c q:Int):∃z:Int,mP [PyData.int a,.int b,.int c] (q % 4 % 3)=some (.int z):=by
 have h1:=UW (q % 4) (show(3:Int)≠0 by decide)
 have h2:=Uq (q % 4) (show(0:Int) < 3 by decide)
 have hc:q % 4 % 3=0∨q % 4 % 3=1∨q % 4 % 3=2:=by omega
 rcases hc with e | e | e <;> rw[e]
 ·exact⟨a,rfl⟩
 ·exact⟨b,rfl⟩
 ·exact⟨c,rfl⟩
theorem De (a b c q:Int)(j:Nat)(hj:j < 4):∃z:Int,bo [fN j,fL [.int a,.int b,.int c],fI q]=ag (.fr [],.int z):=by
 have hc:j=0∨j=1∨j=2∨j=3:=by omega
 rcases hc with rfl | rfl | rfl | rfl
 ·obtain⟨z,e⟩:=zq a b c (q / 1)
  exact⟨z,by simp(disch:=omega) only[bo,rn,reduceIte,Int.cast_ofNat_Int,Int.natCast_zero,MW,e]⟩
 ·obtain⟨z,e⟩:=zq a b c (q / 4)
  exact⟨z,by simp(disch:=omega) only[bo,rn,reduceIte,Int.cast_ofNat_Int,Int.natCast_one,MX,e]⟩
 ·obtain⟨z,e⟩:=zq a b c (q / 16)
  exact⟨z,by simp(disch:=omega) only[bo,rn,reduceIte,Int.cast_ofNat_Int,MY,e]⟩
 ·obtain⟨z,e⟩:=zq a b c (q / 64)
  exact⟨z,by simp(disch:=omega) only[bo,rn,reduceIte,Int.cast_ofNat_Int,MZ,e]⟩
def M0:SF:=aE 6 (aJ dh [(aJ aF [(eV 0),(bp gL (eC (.int 8)) (eV 5))]),(bp gL (eC (.int 300)) (eV 5))])
def M1:SF:=aE 7 (iF eZ [(cp (eK (eV 1)) [3,6] dN bo)])
def LF:TF:=tE (bp eY (eV 7) (eV 4))
def M3:SF:=iW 4 (eV 7)
theorem yi:bT=aB M0 (aB M1 (ja LF M3 cB)):=rfl
theorem wH (ns:List Int)(h:Nat)(h4:h<=4)(m:Z4)(a b c:Int)(k:Nat)(hk:k < 6)(ss:List Z4)(g:Good ss)(hs:∀x∈ss,Dd h x)(hl:ss.length<=k)(c6 c7:Sl) :
  ∃(ss':List Z4) (j4 eU:Sl),Good ss'/\(∀x∈ss',Dd h x)/\ss'.length<=k+1/\1<=ss'.length/\bT [fL (!5),fN h,fA m,tL [.int a,.int b,.int c],tL ss,tN k,c6,c7]=ag (.nx [fL (!5),fN h,fA m,tL [.int a,.int b,.int c],tL ss',tN k,j4,eU]):=by
 have c1:=jY ns (8+(k:Int)) (!1)
 obtain⟨z,_,m1⟩:=C8 (fH ns (8+(k:Int))) (300+(k:Int)) (!1) (!1)
 have s1:M0 [fL (!5),fN h,fA m,tL [.int a,.int b,.int c],tL ss,tN k,c6,c7]=ag (.nx [fL (!5),fN h,fA m,tL [.int a,.int b,.int c],tL ss,tN k,tN z,c7]):=by
  simp(disch:=omega) only[M0,rn,reduceIte,c1,m1]
 obtain⟨zs,z1,z2⟩:=wG (fe:=bo) (cap:=[fL [.int a,.int b,.int c],fN z]) ((!2).map λ(i:Nat)=>PyData.int (i:Int)) (λd hd=>by
  obtain⟨j,hj,rfl⟩:=Kw.mp hd
  exact De a b c (z:Int) j (by have:=Xy.mp hj;omega))
 have Nm:zs.length=h:=by simpa using z1
 have k1:=fm zs PyData.int
 have m2:(zs.map λx=>(Kd.fr [],PyData.int x)).map Prod.snd=zs.map PyData.int:=by rw[KQ];rfl
 have OP:h<=100000:=by omega
 have tl:=ca (dC zs)
 have nz:=dC zs
 have s2:M1 [fL (!5),fN h,fA m,tL [.int a,.int b,.int c],tL ss,tN k,tN z,c7]=ag (.nx [fL (!5),fN h,fA m,tL [.int a,.int b,.int c],tL ss,tN k,tN z,tT (zs.map PyData.int)]):=by
  simp(disch:=omega) only[M1,rn,reduceIte,cp,Ku,z2,k1,m2,OP,tl]
 have iw:Dd h (.tuple (zs.map PyData.int)):=⟨zs,rfl,Nm⟩
 have nI:=C_ (x:=.tuple (zs.map PyData.int)) (ws:=ss) (iw.lay 57) (g.l 57)
 have t2:LF [fL (!5),fN h,fA m,tL [.int a,.int b,.int c],tL ss,tN k,tN z,tT (zs.map PyData.int)]=ag (!cn ss (.tuple (zs.map PyData.int))):=by
  simp(disch:=omega) only[LF,rn,reduceIte,au nz,nI]
 have pre:∀o,(ja LF M3 cB) [fL (!5),fN h,fA m,tL [.int a,.int b,.int c],tL ss,tN k,tN z,tT (zs.map PyData.int)]=o->bT [fL (!5),fN h,fA m,tL [.int a,.int b,.int c],tL ss,tN k,c6,c7]=o:=λo q=>by
  rw[yi,aC s1,aC s2];exact q
 cases hb:cn ss (.tuple (zs.map PyData.int)) with
 | false=>
  rw[hb] at t2
  have hz:ss.length < sizeLine:=X4 (show ss.length < 100 by omega) (by decide)
  refine⟨ss++[.tuple (zs.map PyData.int)],tN z,tT (zs.map PyData.int),g.snoc iw.bj iw.lay hb,λx hx=> ?_,by rw[K2,X5];omega,by simp,pre _ ((C7 t2).trans ?_)⟩
  ·rcases Kk.mp hx with hx | hx
   ·exact hs x hx
   ·rw[K7.mp hx];exact iw
  ·simp(disch:=omega) only[M3,rn,reduceIte,au nz,hz]
 | true=>
  rw[hb] at t2
  refine⟨ss,tN z,tT (zs.map PyData.int),g,hs,by omega,?_,pre _ ((zp t2).trans rfl)⟩
  cases ss with
  | nil=>cases hb
  | cons a b=>simp
theorem AR (ns:List Int)(h:Nat)(h4:h<=4)(m:Nat)(hm:m<=6)(hm1:1<=m):∃ss:List Z4,i7 [.list (!5),.int (h:Int),.int (m:Int)]=ag (true,.list ss)/\Good ss/\(∀x∈ss,Dd h x)/\1<=ss.length/\ss.length<=6:=by
 obtain⟨a,b,c,v1⟩:=AM ns
 obtain⟨Γ',k1,ss,c5,c6,c7,rfl,k2,k3,k4,k5⟩:=bn (g:=bY 5) (b:=bT) (ds:=(List.range m).map λ(i:Nat)=>PyData.int (i:Int)) (Γ:=[fL (!5),fN h,fN m,tL [.int a,.int b,.int c],tL [],none,none,none])
  (λi Γ=>∃(ss:List Z4) (c5 c6 c7:Sl),Γ=[fL (!5),fN h,fN m,tL [.int a,.int b,.int c],tL ss,c5,c6,c7]/\Good ss/\(∀x∈ss,Dd h x)/\ss.length<=i/\(0 < i->1<=ss.length))
  ⟨[],none,none,none,rfl,qv,(λx hx=>by cases hx),K1 _,λz=>absurd z (U5 _)⟩ (by
  rintro i d Γ hd ⟨ss,c5,c6,c7,rfl,q1,q2,q3,q4⟩
  obtain⟨rfl,hi⟩:=bR hd
  obtain⟨ss',j4,eU,r1,r2,r3,r4,r5⟩:=wH ns h h4 (.int (m:Int)) a b c i (!1) ss q1 q2 q3 c6 c7
  exact⟨_,_,rfl,.inl r5,ss',_,j4,eU,rfl,r1,r2,r3,λ_=>r4⟩)
 rw[K4,X8] at k4 k5
 refine⟨ss,?_,k2,k3,k5 (!1),by omega⟩
 have hmt:(m:Int).toNat=m:=Ku m
 have s1:(aE 3 (aJ cK [(eV 0)])) (cP 8 [.list (!5),.int (h:Int),.int (m:Int)])=ag (.nx [fL (!5),fN h,fN m,tL [.int a,.int b,.int c],none,none,none,none]):=by
  simp(disch:=omega) only[rn,reduceIte,v1]
 have s2:(aE 4 (cm [])) [fL (!5),fN h,fN m,tL [.int a,.int b,.int c],none,none,none,none]=ag (.nx [fL (!5),fN h,fN m,tL [.int a,.int b,.int c],tL [],none,none,none]):=rfl
 have s3:(bx (eK (eV 2)) (bY 5) bT) [fL (!5),fN h,fN m,tL [.int a,.int b,.int c],tL [],none,none,none]=ag (.nx [fL (!5),fN h,fN m,tL [.int a,.int b,.int c],tL ss,c5,c6,c7]):=by
  simp(disch:=omega) only[rn,reduceIte,hmt,k1]
 refine gk ?_
 unfold i6
 rw[aC s1,aC s2,aC s3]
 rfl
theorem Fq (ns:List Int):∃(h:Nat) (ws ss:List Z4) (k:Nat),2<=h/\h<=4/\Good ws/\(∀x∈ws,AO x)/\1<=ws.length/\ws.length<=3/\Good ss/\(∀x∈ss,Dd h x)/\1<=ss.length/\ss.length<=6/\k<=3/\dk [.list (!5)]=ag (false,.tuple [.int (h:Int),.list ws,.int (k:Int),.list ss]):=by
 have c0:=jY ns 0 (by decide)
 have c7:=jY ns 7 (by decide)
 generalize fH ns 0=z at c0
 generalize fH ns 7=y at c7
 have b1:=UW z (show(3:Int)≠0 by decide)
 have b2:=Uq z (show(0:Int) < 3 by decide)
 have b3:=UW (y / 2) (show(6:Int)≠0 by decide)
 have b4:=Uq (y / 2) (show(0:Int) < 6 by decide)
 obtain⟨sm,hsm⟩:=J0 (show(0:Int)<=1+y / 2 % 6 by omega)
 have hsm:1+y / 2 % 6=(sm:Int):=hsm
 obtain⟨h,m,q,hh,h2,h4,m1,m3,q1,q4,e1,e2⟩:∃(h m q:Nat),2+z % 3=(h:Int)/\2<=h/\h<=4/\1<=m/\m<=3/\1<=q/\q<=4/\mP [PyData.int 3,.int 3,.int 2] ((h:Int) - 2)=some (.int (m:Int))/\mP [PyData.int 4,.int 3,.int 3] ((h:Int) - 2)=some (.int (q:Int)):=by
  have hc:z % 3=0∨z % 3=1∨z % 3=2:=by omega
  rcases hc with e | e | e <;> rw[e]
  ·exact⟨2,3,4,rfl,by decide,by decide,by decide,by decide,by decide,by decide,rfl,rfl⟩
  ·exact⟨3,3,3,rfl,by decide,by decide,by decide,by decide,by decide,by decide,rfl,rfl⟩
  ·exact⟨4,2,3,rfl,by decide,by decide,by decide,by decide,by decide,by decide,rfl,rfl⟩
 have q0:(0:Int) < (q:Int):=by omega
 have d1:=UW (z / 3) (show(q:Int)≠0 by omega)
 have d2:=Uq (z / 3) q0
 obtain⟨k,hk⟩:=J0 d1
 have hk:z / 3 % (q:Int)=(k:Int):=hk
 obtain⟨ws,w1,w2,w3,w4,w5⟩:=Fp ns h h2 h4 m m3 m1
 obtain⟨ss,s1,s2,s3,s4,s5⟩:=AR ns h h4 sm (!1) (!1)
 refine⟨h,ws,ss,k,h2,h4,w2,w3,w4,by omega,s2,s3,s4,s5,by omega,?_⟩
 have nt:∀kk,cA kk (.tuple [.int (h:Int),.list ws,.int (k:Int),.list ss])=kk:=λkk=>rfl
 simp(disch:=omega) only[dk,kl,rn,jd,mU,bO,reduceIte,c0,c7,hh,hsm,e1,e2,hk,w1,s1,nt]
theorem wI (d0 d1 d2 d3 d4 d8 d9:Sl)(r:List Z4)(hr:aq r=true)(hrl:r.length<=10):∀(l acc:List Z4) (c7:Sl),aq l=true->acc.length+l.length<=10000->∃eU:Sl,aW (bY 7) fY l [d0,d1,d2,d3,d4,tL acc,tT r,c7,d8,d9]=
  ag (.nx [d0,d1,d2,d3,d4,tL (acc++l.map λw=> .tuple (r++[w])),tT r,eU,d8,d9])
 | [],acc,c7,_,_=>⟨c7,by simp[aW]⟩
 | w :: l,acc,c7,hn,hl=>by
  simp only[aq,X9] at hn
  rw[Kz] at hl
  obtain⟨eU,ih⟩:=wI d0 d1 d2 d3 d4 d8 d9 r hr hrl l (acc++[.tuple (r++[w])]) (tA w) hn.2 (by rw[K2,X5];omega)
  refine⟨eU,?_⟩
  have hs:bY 7 (cA .base w) w [d0,d1,d2,d3,d4,tL acc,tT r,c7,d8,d9]=some [d0,d1,d2,d3,d4,tL acc,tT r,tA w,d8,d9]:=by rw[cU hn.1];rfl
  have nw:aq [w]=true:=by simp only[aq,hn.1,XY]
  have ga:=C6 hr nw (KY (show r.length+[w].length<=100 by simp;omega) (by decide))
  have hz:acc.length < sizeLine:=X4 (show acc.length < 100000 by omega) (by decide)
  have hb:fY [d0,d1,d2,d3,d4,tL acc,tT r,tA w,d8,d9]=ag (.nx [d0,d1,d2,d3,d4,tL (acc++[.tuple (r++[w])]),tT r,tA w,d8,d9]):=by
   simp only[fY,rn,reduceIte,au hr,cU hn.1,au nw,ga,hz]
  rw[aW,hs,bt,ar,hb,ar]
  refine ih.trans ?_
  rw[KJ,X7];rfl
theorem wJ (ws:List Z4)(g:Good ws)(hw:ws.length<=8)(d1 d2 d3 d4 d8 d9:Sl):∀(l:List (List Z4)) (acc:List Z4) (c6 c7:Sl),(∀r∈l,aq r=true/\r.length<=10)->acc.length+l.length*ws.length<=9000->∃j4 eU:Sl,aW (bY 6) cL (tups l) [fL ws,d1,d2,d3,d4,tL acc,c6,c7,d8,d9]=
  ag (.nx [fL ws,d1,d2,d3,d4,tL (acc++tups (l.flatMap λr=>ws.map λw=>r++[w])),j4,eU,d8,d9])
 | [],acc,c6,c7,_,_=>⟨c6,c7,by simp[aW,tups]⟩
 | r :: l,acc,c6,c7,hl,hb=>by
  obtain⟨h1,h2⟩:=hl r K8
  have em:(r :: l).length*ws.length=l.length*ws.length+ws.length:=by rw[Kz,UQ]
  rw[em] at hb
  obtain⟨eU,e⟩:=wI (fL ws) d1 d2 d3 d4 d8 d9 r h1 h2 ws acc c7 g.n (!1)
  obtain⟨yj,yk,ih⟩:=wJ ws g hw d1 d2 d3 d4 d8 d9 l (acc++ws.map λw=> .tuple (r++[w])) (tT r) eU (λx hx=>hl x (K9 _ hx)) (by rw[K2,K4];omega)
  refine⟨yj,yk,?_⟩
  have hs:bY 6 (cA .base (.tuple r)) (.tuple r) [fL ws,d1,d2,d3,d4,tL acc,c6,c7,d8,d9]=some [fL ws,d1,d2,d3,d4,tL acc,tT r,c7,d8,d9]:=by rw[au h1];rfl
  have hb2:cL [fL ws,d1,d2,d3,d4,tL acc,tT r,c7,d8,d9]=ag (.nx [fL ws,d1,d2,d3,d4,tL (acc++ws.map λw=> .tuple (r++[w])),tT r,eU,d8,d9]):=by
   simp only[cL,rn,reduceIte,e]
  show aW (bY 6) cL (.tuple r :: tups l) _=_
  rw[aW,hs,bt,ar,hb2,ar]
  refine ih.trans ?_
  rw[List.flatMap_cons,wF,X7]
  congr 8
  simp[tups]
theorem wK (d0 d1 d2 d3 d4 d5 d7:Sl)(s:Z4)(hs:bj s=true):∀(l:List (List Z4)) (acc:List Z4) (c6:Sl),(∀r∈l,aq r=true)->acc.length+l.length<=9000->∃j4:Sl,aW (bY 6) cM (tups l) [d0,d1,d2,d3,d4,d5,c6,d7,tL acc,tA s]=
  ag (.nx [d0,d1,d2,d3,d4,d5,j4,d7,tL (acc++pairD s l),tA s])
 | [],acc,c6,_,_=>⟨c6,by simp[aW,tups,pairD]⟩
 | r :: l,acc,c6,hl,hb=>by
  have h1:=hl r K8
  rw[Kz] at hb
  obtain⟨j4,ih⟩:=wK d0 d1 d2 d3 d4 d5 d7 s hs l (acc++[.tuple [s,.tuple r]]) (tT r) (λx hx=>hl x (K9 _ hx)) (by rw[K2,X5];omega)
  refine⟨j4,?_⟩
  have hg:bY 6 (cA .base (.tuple r)) (.tuple r) [d0,d1,d2,d3,d4,d5,c6,d7,tL acc,tA s]=some [d0,d1,d2,d3,d4,d5,tT r,d7,tL acc,tA s]:=by rw[au h1];rfl
  have nt:aq [s,.tuple r]=true:=by simp only[aq,hs,cD,h1,XY]
  have hz:acc.length < sizeLine:=X4 (show acc.length < 100000 by omega) (by decide)
  have hb2:cM [d0,d1,d2,d3,d4,d5,tT r,d7,tL acc,tA s]=ag (.nx [d0,d1,d2,d3,d4,d5,tT r,d7,tL (acc++[.tuple [s,.tuple r]]),tA s]):=by
   simp only[cM,rn,reduceIte,au h1,cU hs,au nt,hz]
  show aW (bY 6) cM (.tuple r :: tups l) _=_
  rw[aW,hg,bt,ar,hb2,ar]
  refine ih.trans ?_
  rw[X7];rfl
theorem wL (d0 d1 d2 d4 d5 d7:Sl)(R:List (List Z4))(hR:∀r∈R,aq r=true)(hRl:R.length<=1000):∀(l acc:List Z4) (c6 c9:Sl) (b3:Bool),(∀s∈l,bj s=true)->acc.length+l.length*R.length<=8000->∃(j4 jX:Sl) (LG:Bool),aW (bY 9) dU l [d0,d1,d2,some (b3,.list (tups R)),d4,d5,c6,d7,tL acc,c9]=
  ag (.nx [d0,d1,d2,some (LG,.list (tups R)),d4,d5,j4,d7,tL (acc++l.flatMap λs=>pairD s R),jX])
 | [],acc,c6,c9,b3,_,_=>⟨c6,c9,b3,by simp[aW]⟩
 | s :: l,acc,c6,c9,b3,hl,hb=>by
  have h1:=hl s K8
  have em:(s :: l).length*R.length=l.length*R.length+R.length:=by rw[Kz,UQ]
  rw[em] at hb
  have pl:(pairD s R).length=R.length:=K4 _
  obtain⟨j4,e⟩:=wK d0 d1 d2 (fL (tups R)) d4 d5 d7 s h1 R acc c6 hR (!1)
  obtain⟨yj,Df,M4,ih⟩:=wL d0 d1 d2 d4 d5 d7 R hR hRl l (acc++pairD s R) j4 (tA s) false (λx hx=>hl x (K9 _ hx)) (by rw[K2,pl];omega)
  refine⟨yj,Df,M4,?_⟩
  have hg:bY 9 (cA .base s) s [d0,d1,d2,some (b3,.list (tups R)),d4,d5,c6,d7,tL acc,c9]=some [d0,d1,d2,some (b3,.list (tups R)),d4,d5,c6,d7,tL acc,tA s]:=by rw[cU h1];rfl
  have hb2:dU [d0,d1,d2,some (b3,.list (tups R)),d4,d5,c6,d7,tL acc,tA s]=ag (.nx [d0,d1,d2,fL (tups R),d4,d5,j4,d7,tL (acc++pairD s R),tA s]):=by
   have:∀b3:Bool,dU [d0,d1,d2,some (b3,.list (tups R)),d4,d5,c6,d7,tL acc,tA s]=aW (bY 6) cM (tups R) [d0,d1,d2,fL (tups R),d4,d5,c6,d7,tL acc,tA s]:=λb3=>by cases b3 <;> rfl
   rw[this];exact e
  rw[aW,hg,bt,ar,hb2,ar]
  refine ih.trans ?_
  rw[List.flatMap_cons,X7]
theorem AS {ws:List Z4}(g:Good ws){k:Nat}(hk:k<=5):∀r∈rws ws k,aq r=true/\r.length<=10:=λr hr=>⟨wD g hr,by have:=(uz hr).1;omega⟩
theorem ym (ws ss:List Z4)(k:Nat)(g:Good ws)(gs:Good ss)(hw1:1<=ws.length)(hw:ws.length<=3)(hk:k<=3)(hs:ss.length<=6):gz [.list ws,.int (k:Int),.list ss]=ag (true,.list (wC ws ss k)):=by
 have hp:∀i,i<=3->ws.length^i<=27:=λi hi=>KY (Nat.pow_le_pow_left hw i) (KY (Nat.pow_le_pow_right (by decide) hi) (by decide))
 have hlen:∀i,(rws ws i).length=ws.length^i:=Fl ws
 obtain⟨Γ',k1,c4,c5,c6,c7,rfl⟩:=bn (g:=bY 4) (b:=dS) (ds:=(List.range k).map λ(i:Nat)=>PyData.int (i:Int)) (Γ:=[fL ws,fN k,fL ss,tL (tups (rws ws 0)),none,none,none,none,none,none])
  (λi Γ=>∃c4 c5 c6 c7:Sl,Γ=[fL ws,fN k,fL ss,tL (tups (rws ws i)),c4,c5,c6,c7,none,none]) ⟨none,none,none,none,rfl⟩ (by
  rintro i d Γ hd ⟨c4,c5,c6,c7,rfl⟩
  obtain⟨rfl,hi⟩:=bR hd
  have hl1:=hlen i
  have hp1:=hp i (!1)
  have hm:(rws ws i).length*ws.length<=81:=by rw[hl1];exact KY (YZ hp1 hw) (by decide)
  obtain⟨j4,eU,e⟩:=wJ ws g (!1) (fN k) (fL ss) (fL (tups (rws ws i))) (tN i) none none (rws ws i) [] c6 c7 (AS g (!1)) (by rw[UJ];omega)
  have el:tups ((rws ws i).flatMap λr=>ws.map λw=>r++[w])=tups (rws ws (i+1)):=rfl
  rw[YU,el] at e
  have nn:bj (.list (tups (rws ws (i+1))))=false:=rfl
  have hs3:dS [fL ws,fN k,fL ss,tL (tups (rws ws i)),tN i,c5,c6,c7,none,none]=ag (.nx [fL ws,fN k,fL ss,tL (tups (rws ws (i+1))),tN i,none,j4,eU,none,none]):=by
   have e2:(bx (ny (eV 3)) (bY 6) cL) [fL ws,fN k,fL ss,tL (tups (rws ws i)),tN i,tL [],c6,c7,none,none]=ag (.nx [fL ws,fN k,fL ss,fL (tups (rws ws i)),tN i,tL (tups (rws ws (i+1))),j4,eU,none,none]):=e
   unfold dS
   rw[aC (show(aE 5 (cm [])) _=ag (.nx [fL ws,fN k,fL ss,tL (tups (rws ws i)),tN i,tL [],c6,c7,none,none]) from rfl),aC e2]
   rfl
  exact⟨_,_,rfl,.inl hs3,tN i,none,j4,eU,rfl⟩)
 rw[K4,X8] at k1
 have hl1:=hlen k
 have hp1:=hp k hk
 have hm:ss.length*(rws ws k).length<=162:=by rw[hl1];exact KY (YZ hs hp1) (by decide)
 obtain⟨j4,jX,LG,e⟩:=wL (fL ws) (fN k) (fL ss) c4 c5 c7 (rws ws k) (λr hr=>wD g hr) (!1) ss [] c6 none true (λs hs'=>gs.bj hs') (by rw[UJ];omega)
 have er:([]:List Z4)++(ss.flatMap λs=>pairD s (rws ws k))=wC ws ss k:=Fk ws ss k
 rw[er] at e
 have hkt:(k:Int).toNat=k:=Ku k
 have s1:(aE 3 (cm [(iU [])])) (cP 10 [.list ws,.int (k:Int),.list ss])=ag (.nx [fL ws,fN k,fL ss,tL (tups (rws ws 0)),none,none,none,none,none,none]):=rfl
 have s2:(bx (eK (eV 1)) (bY 4) dS) [fL ws,fN k,fL ss,tL (tups (rws ws 0)),none,none,none,none,none,none]=ag (.nx [fL ws,fN k,fL ss,tL (tups (rws ws k)),c4,c5,c6,c7,none,none]):=by
  simp(disch:=omega) only[rn,reduceIte,hkt,k1]
 have s3:(aE 8 (cm [])) [fL ws,fN k,fL ss,tL (tups (rws ws k)),c4,c5,c6,c7,none,none]=ag (.nx [fL ws,fN k,fL ss,tL (tups (rws ws k)),c4,c5,c6,c7,tL [],none]):=rfl
 have s4:(bx (ny (eV 2)) (bY 9) dU) [fL ws,fN k,fL ss,tL (tups (rws ws k)),c4,c5,c6,c7,tL [],none]=ag (.nx [fL ws,fN k,fL ss,some (LG,.list (tups (rws ws k))),c4,c5,j4,c7,tL (wC ws ss k),jX]):=e
 refine gk ?_
 unfold km
 rw[aC s1,aC s2,aC s3,aC s4]
 cases LG <;> rfl
abbrev Rn:=List Int×List (List Z4)
def iD (p:Rn):Z4:=jW p.1 p.2
theorem wM {ws:List Z4}(hw:∀x∈ws,AO x):∀(l:List Z4),(∀x∈l,x∈ws)->∃Ws:List (List Z4),l=Ws.map PyData.tuple/\∀W∈Ws,AN W/\W.length<=12
 | [],_=>⟨[],rfl,λW hW=>by cases hW⟩
 | x :: l,h=>by
  obtain⟨Ws,rfl,h2⟩:=wM hw l λy hy=>h y (K9 _ hy)
  obtain⟨W,rfl,p1,p2⟩:=hw x (h x K8)
  refine⟨W :: Ws,rfl,λV hV=> ?_⟩
  rcases K0.mp hV with rfl | hV
  ·exact⟨p1,p2⟩
  ·exact h2 V hV
theorem sC {ws ss:List Z4}{h k:Nat}(hw:∀x∈ws,AO x)(hs:∀x∈ss,Dd h x)(hw1:1<=ws.length)(hk:k<=5):∀(l:List Nat),(∀N∈l,N < ss.length*ws.length^k)->∃L:List Rn,l.map (uy ws ss k)=L.map iD/\L.length=l.length/\∀p∈L,qX h 12 p.1 p.2/\p.2.length=k
 | [],_=>⟨[],rfl,rfl,λp hp=>by cases hp⟩
 | N :: l,hN=>by
  obtain⟨L,e1,e2,e3⟩:=sC hw hs hw1 hk l λM hM=>hN M (K9 _ hM)
  have hq:N / ws.length^k < ss.length:=Nat.div_lt_of_lt_mul (by rw[YY];exact hN N K8)
  obtain⟨vs,ev,lv⟩:=hs _ (getD_mem hq)
  obtain⟨Ws,eW,pW⟩:=wM hw (k8 ws (N % ws.length^k) k) λx hx=>wA hw1 hx
  have NJ:Ws.length=k:=by
   have:=congrArg List.length eW
   rw[C3,K4] at this
   exact this.symm
  refine⟨(vs,Ws) :: L,?_,by rw[Kz,Kz,e2],λp hp=> ?_⟩
  ·rw[KJ,KJ,e1]
   congr 1
   show PyData.tuple [_,.tuple _]=PyData.tuple [_,.tuple _]
   rw[ev,eW]
  ·rcases K0.mp hp with rfl | hp
   ·exact⟨⟨lv,by rw[NJ];exact hk,λW hW=>pW W hW⟩,NJ⟩
   ·exact e3 p hp
abbrev Gp:=List (Z4×List Nat)
def aG (G:Gp):kZ:=G.map λp=>(p.1,.list (p.2.map nat))
noncomputable def ju:Gp->Z4->Nat->Gp
 | [],x,i=> [(x,[i])]
 | p :: r,x,i=>if PyData.eqv p.1 x=true then (p.1,p.2++[i]) :: r else p :: ju r x i
theorem zr:∀(G:Gp) (x:Z4) (i:Nat),(∀p∈G,p.2.length < sizeLine)->yH (aG G) x (.int (i:Int))=some (aG (ju G x i))
 | [],x,i,_=>rfl
 | p :: r,x,i,h=>by
  have h1:=h p K8
  show yH ((p.1,.list (p.2.map nat)) :: aG r) x _=_
  rw[yH,ju]
  by_cases e:PyData.eqv p.1 x=true
  ·rw[JW e,JW e]
   have hn:aq (p.2.map nat)=true:=aT _ (λ_=>rfl) _
   have hl:(p.2.map nat).length < sizeLine:=by rw[K4];exact h1
   simp only[hn,hl,and_self,if_true]
   simp[aG,nat]
  ·rw[JZ e,JZ e,zr r x i λq hq=>h q (K9 _ hq)]
   rfl
theorem wN {x:Z4}{i:Nat}:∀{G:Gp} {q:Z4×List Nat},q∈ju G x i->q∈G∨q=(x,[i])∨∃p∈G,q=(p.1,p.2++[i])
 | [],q,h=>by rw[ju] at h;exact .inr (.inl (K7.mp h))
 | p :: r,q,h=>by
  rw[ju] at h
  split at h
  ·rcases K0.mp h with h | h
   ·exact .inr (.inr ⟨p,K8,h⟩)
   ·exact .inl (K9 _ h)
  ·rcases K0.mp h with h | h
   ·exact .inl (h ▸ K8)
   ·rcases wN h with h | h | ⟨p',h1,h2⟩
    ·exact .inl (K9 _ h)
    ·exact .inr (.inl h)
    ·exact .inr (.inr ⟨p',K9 _ h1,h2⟩)
theorem wO {x:Z4}{i:Nat}:∀{G:Gp},(ju G x i).length<=G.length+1
 | []=>by simp[ju]
 | p :: r=>by
  rw[ju]
  split
  ·simp
  ·have:=wO (x:=x) (i:=i) (G:=r);simp only[Kz];omega
structure sD (G:Gp)(b:Nat):Prop where
 k:∀p∈G,da p.1=true/\p.2.length<=b
 l:G.length<=b
theorem sD.add {G:Gp}{b:Nat}(g:sD G b){x:Z4}(hx:da x=true)(i:Nat):sD (ju G x i) (b+1) where
 k:=λq hq=>by
  rcases wN hq with h | rfl | ⟨p,hp,rfl⟩
  ·have:=g.k q h;exact⟨this.1,by omega⟩
  ·exact⟨hx,by simp⟩
  ·have:=g.k p hp;exact⟨this.1,by rw[K2,X5];omega⟩
 l:=by have:=wO (x:=x) (i:=i) (G:=G);have:=g.l;omega
theorem sD.mono {G:Gp}{b c:Nat}(g:sD G b)(h:b<=c):sD G c:=⟨λp hp=>⟨(g.k p hp).1,KY (g.k p hp).2 h⟩,KY g.l h⟩
theorem sD.gF {G:Gp}{b:Nat}(g:sD G b):gF (aG G)=true:=Y3.mpr λp hp=>by
 obtain⟨q,hq,rfl⟩:=Kw.mp hp
 exact(g.k q hq).1
theorem Dg (G:Gp):(aG G).length=G.length:=K4 _
theorem qx {x:Z4}{i:Nat}(hx:pl x=true):∀{G:Gp},(∀p∈G,pl p.1=true)->(x∉G.map (·.1)/\ju G x i=G++[(x,[i])])∨∃A l B,G=A++(x,l) :: B/\ju G x i=A++(x,l++[i]) :: B
 | [],_=> .inl ⟨by simp,rfl⟩
 | p :: r,h=>by
  have hp:=h p K8
  rw[ju]
  by_cases e:PyData.eqv p.1 x=true
  ·have e':=(mG hp hx).mp e
   rw[JW e]
   exact .inr ⟨[],p.2,r,by rw[←e'];rfl,by rw[←e'];rfl⟩
  ·have e':p.1≠x:=λz=>e ((mG hp hx).mpr z)
   rw[JZ e]
   rcases qx hx (G:=r) λq hq=>h q (K9 _ hq) with⟨h1,h2⟩ | ⟨A,l,B,h1,h2⟩
   ·refine .inl ⟨?_,by rw[h2];rfl⟩
    rw[KJ,K0]
    rintro(z | z)
    ·exact e' z.symm
    ·exact h1 z
   ·exact .inr ⟨p :: A,l,B,by rw[h1];rfl,by rw[h2];rfl⟩
structure GI (E:List (Z4×Nat))(G:Gp):Prop where
 nd:(G.map (·.1)).Nodup
 p:∀p∈G,pl p.1=true
 ne:∀p∈G,p.2≠[]
 mem:∀p∈G,∀i,i∈p.2↔(p.1,i)∈E
 key:∀e∈E,∃l,(e.1,l)∈G
theorem GI.add {E:List (Z4×Nat)}{G:Gp}(g:GI E G){x:Z4}(hx:pl x=true)(i:Nat):GI (E++[(x,i)]) (ju G x i):=by
 rcases qx (i:=i) hx g.p with⟨h1,h2⟩ | ⟨A,l,B,rfl,h2⟩
 ·rw[h2]
  have hne:∀p∈G,p.1≠x:=λp hp z=>h1 (z ▸ Kw.mpr ⟨p,hp,rfl⟩)
  refine⟨?_,?_,?_,?_,?_⟩
  ·rw[X0]
   refine Xj.mpr ⟨g.nd,by simp,?_⟩
   intro a ha b hb
   rw[KJ,Jk,K7] at hb
   intro z;exact h1 (by rw[←show a=x from z.trans hb];exact ha)
  ·intro p hp
   rcases Kk.mp hp with h | h
   ·exact g.p p h
   ·rw[K7.mp h];exact hx
  ·intro p hp
   rcases Kk.mp hp with h | h
   ·exact g.ne p h
   ·rw[K7.mp h];simp
  ·intro p hp j
   rcases Kk.mp hp with h | h
   ·rw[g.mem p h j,Kk,K7]
    exact⟨.inl,λz=>z.elim id λz=>absurd (congrArg Prod.fst z) (hne p h)⟩
   ·rw[K7.mp h,Kk,K7,K7]
    constructor
    ·rintro rfl;exact .inr rfl
    ·rintro(z | z)
     ·obtain⟨l,hl⟩:=g.key _ z
      exact absurd rfl (hne _ hl)
     ·exact congrArg Prod.snd z
  ·intro e he
   rcases Kk.mp he with h | h
   ·obtain⟨l,hl⟩:=g.key e h
    exact⟨l,KZ _ hl⟩
   ·rw[K7.mp h];exact⟨[i],Kx _ (K7.mpr rfl)⟩
 ·rw[h2]
  have nd:=g.nd
  rw[X0,KJ] at nd
  have hA:∀p∈A,p.1≠x:=λp hp=>(Xj.mp nd).2.2 _ (Kw.mpr ⟨p,hp,rfl⟩) _ K8
  have hB:∀p∈B,p.1≠x:=λp hp z=>(KU.mp (Xj.mp nd).2.1).1 (Kw.mpr ⟨p,hp,z⟩)
  have old:∀p,p∈A∨p∈B->p∈A++(x,l) :: B/\p.1≠x:=λp hp=>hp.elim (λh=>⟨KZ _ h,hA p h⟩) λh=>⟨Kx _ (K9 _ h),hB p h⟩
  have cs:∀p,p∈A++(x,l++[i]) :: B->(p∈A∨p∈B)∨p=(x,l++[i]):=λp hp=>by
   rcases Kk.mp hp with h | h
   ·exact .inl (.inl h)
   ·rcases K0.mp h with h | h
    ·exact .inr h
    ·exact .inl (.inr h)
  have xl:(x,l)∈A++(x,l) :: B:=Kx _ K8
  refine⟨?_,?_,?_,?_,?_⟩
  ·rw[X0,KJ];exact nd
  ·intro p hp
   rcases cs p hp with h | rfl
   ·exact g.p p (old p h).1
   ·exact hx
  ·intro p hp
   rcases cs p hp with h | rfl
   ·exact g.ne p (old p h).1
   ·simp
  ·intro p hp j
   rcases cs p hp with h | rfl
   ·rw[g.mem p (old p h).1 j,Kk,K7]
    exact⟨.inl,λz=>z.elim id λz=>absurd (congrArg Prod.fst z) (old p h).2⟩
   ·rw[Kk,Kk,K7,K7,g.mem _ xl j]
    exact⟨λz=>z.elim .inl λz=> .inr (by rw[z]),λz=>z.elim .inl λz=> .inr (congrArg Prod.snd z)⟩
  ·intro e he
   rcases Kk.mp he with h | h
   ·obtain⟨l',hl⟩:=g.key e h
    rcases Kk.mp hl with h | h
    ·exact⟨l',KZ _ h⟩
    ·rcases K0.mp h with h | h
     ·rw[show e.1=x from congrArg Prod.fst h];exact⟨_,Kx _ K8⟩
     ·exact⟨l',Kx _ (K9 _ h)⟩
   ·rw[K7.mp h];exact⟨_,Kx _ K8⟩
def mL (h:Nat)(p:Rn):List Z4:=(!2).map (cz p.1 p.2)
def ni (i:Nat)(xs:List Z4)(G:Gp):Gp:=xs.foldl (λG x=>ju G x i) G
def oe (h:Nat):Nat->List Rn->Gp->Gp
 | _,[],G=>G
 | i,p :: L,G=>oe h (i+1) L (ni i (mL h p) G)
def Iu (h:Nat):Nat->List Rn->List (Z4×Nat)
 | _,[]=> []
 | i,p :: L=>(mL h p).map (λx=>(x,i))++Iu h (i+1) L
theorem GI.ni {i:Nat}:∀{xs:List Z4} {E:List (Z4×Nat)} {G:Gp},GI E G->(∀x∈xs,pl x=true)->GI (E++xs.map λx=>(x,i)) (ni i xs G)
 | [],E,G,g,_=>by simpa [K31.ni] using g
 | x :: xs,E,G,g,h=>by
  have:=GI.ni (i:=i) (g.add (h x K8) i) λy hy=>h y (K9 _ hy)
  rw[X7] at this
  exact this
theorem Iv {h:Nat}{p:Rn}:∀x∈mL h p,pl x=true:=λx hx=>by
 obtain⟨k,_,rfl⟩:=Kw.mp hx
 exact ut _ _ _
theorem GI.grp {h:Nat}:∀{L:List Rn} {i:Nat} {E:List (Z4×Nat)} {G:Gp},GI E G->GI (E++Iu h i L) (oe h i L G)
 | [],i,E,G,g=>by simpa [Iu,oe] using g
 | p :: L,i,E,G,g=>by
  have:=GI.grp (L:=L) (i:=i+1) (h:=h) (g.ni (i:=i) (Iv (h:=h) (p:=p)))
  rw[X7] at this
  exact this
theorem Iw:GI [] []:=⟨by simp,(λp hp=>by cases hp),(λp hp=>by cases hp),(λp hp=>by cases hp),(λp hp=>by cases hp)⟩
theorem zt {h:Nat}{x:Z4}{j:Nat}:∀{L:List Rn} {i:Nat},(x,j)∈Iu h i L↔∃m p,L[m]? =some p/\j=i+m/\∃k,k < h/\x=cz p.1 p.2 k
 | [],i=>by simp[Iu]
 | p :: L,i=>by
  rw[Iu,Kk,zt (L:=L) (i:=i+1)]
  constructor
  ·rintro(z | ⟨m,q,h1,h2,h3⟩)
   ·obtain⟨y,hy,e⟩:=Kw.mp z
    obtain⟨k,hk,rfl⟩:=Kw.mp hy
    exact⟨0,p,rfl,(congrArg Prod.snd e).symm,k,Xy.mp hk,(congrArg Prod.fst e).symm⟩
   ·exact⟨m+1,q,by simpa using h1,by omega,h3⟩
  ·rintro⟨m,q,h1,h2,k,hk,rfl⟩
   cases m with
   | zero=>
    have:p=q:=by simpa using h1
    subst this
    refine .inl (Kw.mpr ⟨_,Kw.mpr ⟨k,Xy.mpr hk,rfl⟩,?_⟩)
    rw[h2];rfl
   | succ m=>exact .inr ⟨m,q,by simpa using h1,by omega,k,hk,rfl⟩
theorem g_ {n:Nat}:∀{xs:List Z4},nests n xs=true↔∀x∈xs,nest n x=true
 | []=>by simp[nests]
 | x :: xs=>by rw[nests,X9,g_ (xs:=xs)];simp
theorem Dh (h:Nat)(W:List Z4)(H:List Nat)(k n:Nat):nest (n+1) (cg h W H k)=true:=by
 unfold cg
 split
 ·rw[nest];exact g_.mpr λx hx=>by obtain⟨o,_,rfl⟩:=Kw.mp hx;cases n <;> rfl
 ·rfl
theorem sE {h n:Nat}:∀{R:List (List Z4)} {H:List Nat},∀x∈rows h R H,nest (n+2) x=true
 | [],H,x,hx=>by cases hx
 | W :: R,H,x,hx=>by
  rw[rows] at hx
  rcases K0.mp hx with rfl | hx
  ·rw[nest];exact g_.mpr λy hy=>by obtain⟨o,_,rfl⟩:=Kw.mp hy;exact Dh _ _ _ _ _
  ·exact sE x hx
theorem kS (vs:List Int)(Ws:List (List Z4))(hand:Nat):da (cz vs Ws hand)=true:=by
 unfold cz
 rw[da]
 refine g_.mpr λx hx=> ?_
 rcases K0.mp hx with rfl | hx
 ·rfl
 rcases K0.mp hx with rfl | hx
 ·rw[nest];refine g_.mpr λy hy=> ?_
  obtain⟨o,_,rfl⟩:=Kw.mp hy
  unfold cj
  split <;> rfl
 ·rw[K7.mp hx,nest]
  exact g_.mpr λy hy=>sE y (Uw.mp hy)
theorem sF {vs vs':List Int}{Ws OQ:List (List Z4)}{k k':Nat}(e:cz vs Ws k=cz vs' OQ k'):k=k':=by
 unfold cz at e
 injection e with e
 injection e with e _
 injection e with e
 omega
theorem oG {i:Nat}:∀{xs:List Z4} {G:Gp} {b:Nat},sD G b->(∀x∈xs,da x=true)->sD (ni i xs G) (b+xs.length)
 | [],G,b,g,_=>g
 | x :: xs,G,b,g,h=>by
  have:=oG (i:=i) (g.add (h x K8) i) λy hy=>h y (K9 _ hy)
  rw[Kz,show b+(xs.length+1)=b+1+xs.length by omega]
  exact this
theorem mM {h:Nat}{p:Rn}:∀x∈mL h p,da x=true:=λx hx=>by
 obtain⟨k,_,rfl⟩:=Kw.mp hx
 exact kS _ _ _
theorem uA (h:Nat)(p:Rn):(mL h p).length=h:=by unfold mL;rw[K4,X8]
theorem zu {h:Nat}:∀{L:List Rn} {i:Nat} {G:Gp} {b:Nat},sD G b->sD (oe h i L G) (b+L.length*h)
 | [],i,G,b,g=>by simpa [oe] using g
 | p :: L,i,G,b,g=>by
  have:=zu (L:=L) (i:=i+1) (h:=h) (oG (i:=i) g (mM (h:=h) (p:=p)))
  rw[uA] at this
  rw[Kz,UQ,show b+(L.length*h+h)=b+h+L.length*h by omega]
  exact this
def vw (L:List Rn)(i k:Nat):Z4:=cz (L.getD i ([],[])).1 (L.getD i ([],[])).2 k
structure DC (n h:Nat)(vw:Nat->Nat->Z4)(G:Gp):Prop where
 g:∀p∈G,∃k,k < h/\∀i,i∈p.2↔i < n/\vw i k=p.1
 ne:∀p∈G,p.2≠[]
 get:∀i k,i < n->k < h->∃l,jA (aG G) (vw i k)=some (.list (l.map nat))/\(vw i k,l)∈G
 ok:sD G 1000
 hand:∀i j k k',vw i k=vw j k'->k=k'
theorem DC.mem_of {n h:Nat}{vw:Nat->Nat->Z4}{G:Gp}(g:DC n h vw G){a k:Nat}{l:List Nat}(hl:(vw a k,l)∈G)(b:Nat):b∈l↔b < n/\vw b k=vw a k:=by
 obtain⟨k',hk',hm⟩:=g.g _ hl
 obtain⟨i0,hi0⟩:=List.exists_mem_of_ne_nil _ (g.ne _ hl)
 have:k'=k:=g.hand _ _ _ _ ((hm i0).mp hi0).2
 subst this
 exact hm b
theorem wQ {x:Z4}(hx:pl x=true):∀{G:Gp},(∀p∈G,pl p.1=true)->(∃l,(x,l)∈G)->∃l,jA (aG G) x=some (.list (l.map nat))/\(x,l)∈G
 | [],_,⟨l,h⟩=>by cases h
 | p :: r,hp,⟨l,h⟩=>by
  have h1:=hp p K8
  by_cases e:PyData.eqv p.1 x=true
  ·have e':=(mG h1 hx).mp e
   refine⟨p.2,?_,by rw[←e'];exact K8⟩
   show(List.find? _ ((p.1,PyData.list (p.2.map nat)) :: aG r)).map _=_
   rw[U6,e];rfl
  ·have:(x,l)∈r:=by
    rcases K0.mp h with h | h
    ·exact absurd ((mG h1 hx).mpr (by rw[←h])) e
    ·exact h
   obtain⟨l',h3,h4⟩:=wQ hx (G:=r) (λq hq=>hp q (K9 _ hq)) ⟨l,this⟩
   refine⟨l',?_,K9 _ h4⟩
   show(List.find? _ ((p.1,PyData.list (p.2.map nat)) :: aG r)).map _=_
   rw[U6,Bool.eq_false_iff.mpr e];exact h3
theorem Di {h:Nat}(L:List Rn)(hb:L.length*h<=1000):DC L.length h (vw L) (oe h 0 L []):=by
 have gi:=GI.grp (L:=L) (i:=0) (h:=h) Iw
 rw[YU] at gi
 have ok:sD (oe h 0 L []) 1000:=(zu (L:=L) (i:=0) (h:=h) (G:=[]) (b:=0) ⟨(λp hp=>by cases hp),by simp⟩).mono (!1)
 have ev:∀{x:Z4} {j:Nat},(x,j)∈Iu h 0 L↔j < L.length/\∃k,k < h/\x=vw L j k:=by
  intro x j
  rw[zt]
  constructor
  ·rintro⟨m,p,h1,h2,k,hk,rfl⟩
   obtain rfl:j=m:=by omega
   obtain⟨hm,e⟩:=X2.mp h1
   refine⟨hm,k,hk,?_⟩
   unfold vw
   rw[X6,h1];rfl
  ·rintro⟨hj,k,hk,rfl⟩
   refine⟨j,L[j],K3 hj,by omega,k,hk,?_⟩
   unfold vw
   rw[X6,K3 hj];rfl
 refine⟨?_,gi.ne,?_,ok,λi j k k' e=>sF e⟩
 ·intro p hp
  obtain⟨i0,hi0⟩:=List.exists_mem_of_ne_nil _ (gi.ne p hp)
  obtain⟨h1,k,hk,e⟩:=ev.mp ((gi.mem p hp i0).mp hi0)
  refine⟨k,hk,λi=> ?_⟩
  rw[gi.mem p hp i,ev]
  constructor
  ·rintro⟨h2,k',hk',e'⟩
   have:k=k':=sF (e.symm.trans e')
   subst this
   exact⟨h2,e'.symm⟩
  ·rintro⟨h2,e'⟩;exact⟨h2,k,hk,e'.symm⟩
 ·intro i k hi hk
  exact wQ (ut _ _ _) gi.p (gi.key (vw L i k,i) (ev.mpr ⟨hi,k,hk,rfl⟩))
def IX (h:Nat)(L:List Rn):Prop:=∀p∈L,qX h 12 p.1 p.2
theorem Dj {h:Nat}{p:Rn}{L:List Rn}(r:IX h (p :: L)):IX h L:=λq hq=>r q (K9 _ hq)
theorem uB {h b:Nat}{p:Rn}(w:qX h b p.1 p.2):bj (iD p)=true:=kC w
theorem yn {h:Nat}{p:Rn}(hh:h<=4)(w:qX h 12 p.1 p.2):jO [.int (h:Int),iD p]=ag (true,.list (mL h p)):=by
 have hc:=jp (fe:=jN) (cap:=[fA (iD p)]) ((!2).map λ(i:Nat)=>PyData.int (i:Int))
  (λd=>match d with | .int k=>(.fr [],cz p.1 p.2 k.toNat) | _=>(.fr [],.none)) (λd hd=>by
   obtain⟨k,hk,rfl⟩:=Kw.mp hd
   have hk:=Xy.mp hk
   have e:=w.view hh hk
   simp(disch:=omega) only[jN,rn,reduceIte,iD,e,cU (kC w),cU (mH p.1 p.2 k),Ku])
 have e1:(((!2).map λ(i:Nat)=>PyData.int (i:Int)).map λd=>match d with | .int k=>(Kd.fr [],cz p.1 p.2 k.toNat) | _=>(Kd.fr [],PyData.none))=(!2).map λk=>(Kd.fr [],cz p.1 p.2 k):=by
  rw[KQ];refine Uj λk _=> ?_;simp only[Function.comp,Ku]
 rw[e1] at hc
 have k1:=fm (!2) λk=>cz p.1 p.2 k
 have e2:((!2).map λk=>(Kd.fr [],cz p.1 p.2 k)).map Prod.snd=mL h p:=by rw[KQ];rfl
 have hle:h<=100000:=by omega
 simp(disch:=omega) only[jO,lG,rn,reduceIte,cp,hc,k1,e2,hle,Ku]
theorem mN {α:Type}{fe:EF}{cap:bf}(f:α->Z4)(g:α->Kd×Z4):∀(l:List α),(∀a∈l,fe (fA (f a) :: cap)=ag (g a))->c_ dN fe cap (l.map f)=some (l.map g)
 | [],_=>rfl
 | a :: l,h=>by
  have h1:=h a K8
  rw[KJ,c_]
  simp only[dN,ag] at h1⊢
  rw[h1]
  simp only
  rw[mN f g l λb hb=>h b (K9 _ hb)]
  rfl
def dy (h:Nat)(L:List Rn):List Z4:=L.map λp=> .list (mL h p)
theorem wR {h:Nat}{L:List Rn}(hh:h<=4)(r:IX h L)(hl:L.length<=1000):fy [.int (h:Int),.list (L.map iD)]=ag (true,.list (dy h L)):=by
 have hc:=mN (fe:=fP) (cap:=[fN h]) iD (λp=>(Kd.fr [],PyData.list (mL h p))) L (λp hp=>by
  have w:=r p hp
  have e:=yn hh w
  simp(disch:=omega) only[fP,rn,reduceIte,e,cU (uB w)])
 have k1:=fm L λp=>PyData.list (mL h p)
 have e2:(L.map λp=>(Kd.fr [],PyData.list (mL h p))).map Prod.snd=dy h L:=by rw[KQ];rfl
 have hle:L.length<=100000:=by omega
 simp(disch:=omega) only[fy,iB,rn,reduceIte,cp,hc,k1,e2,hle]
theorem Dk {Γ:bf}{i j n b:Nat}{o:Bool}{fk:EF}{kd:Kd}{x:Z4}{G:Gp}(h1:Γ[i]? =some (tD (aG G)))(h2:Γ[j]? =some (some (o,.int (n:Int))))(h3:fk Γ=ag (kd,x))(hx:da x=true)(g:sD G b)(hb:b<=1000) :
  Ab i fk j Γ=ag (.nx (Γ.set i (tD (aG (ju G x n))))):=by
 have hs:(1000:Nat) < sizeLine:=by decide
 unfold Ab
 rw[h1]
 simp only[h3,ar,h2]
 rw[JW ⟨hx,g.gF,by rw[Dg];have:=g.l;omega⟩,zr G x n λp hp=>by have:=(g.k p hp).2;omega]
theorem zv (d0 d3:Sl)(i:Nat)(o:Bool):∀(xs:List Z4) (G:Gp) (b:Nat) (c4:Sl),(∀x∈xs,da x=true/\bj x=true)->sD G b->b+xs.length<=1000->∃mQ:Sl,aW (bY 4) fO xs [d0,tD (aG G),some (o,.int (i:Int)),d3,c4]=
  ag (.nx [d0,tD (aG (ni i xs G)),some (o,.int (i:Int)),d3,mQ])
 | [],G,b,c4,_,_,_=>⟨c4,rfl⟩
 | x :: xs,G,b,c4,hx,g,hb=>by
  obtain⟨k1,k2⟩:=hx x K8
  rw[Kz] at hb
  obtain⟨mQ,ih⟩:=zv d0 d3 i o xs (ju G x i) (b+1) (tA x) (λy hy=>hx y (K9 _ hy)) (g.add k1 i) (!1)
  refine⟨mQ,?_⟩
  have hs:bY 4 (cA .base x) x [d0,tD (aG G),some (o,.int (i:Int)),d3,c4]=some [d0,tD (aG G),some (o,.int (i:Int)),d3,tA x]:=by rw[cU k2];rfl
  have e4:eV 4 [d0,tD (aG G),some (o,.int (i:Int)),d3,tA x]=ag (.fr [],x):=by
   show ag (cA _ x,x)=_
   rw[cU k2]
  have hb2:fO [d0,tD (aG G),some (o,.int (i:Int)),d3,tA x]=ag (.nx [d0,tD (aG (ju G x i)),some (o,.int (i:Int)),d3,tA x]) :=
   Dk (i:=1) (j:=2) (Γ:=[d0,tD (aG G),some (o,.int (i:Int)),d3,tA x]) rfl rfl e4 k1 g (!1)
  rw[aW,hs,bt,ar,hb2,ar]
  exact ih
theorem Iy {h:Nat}{p:Rn}:∀x∈mL h p,da x=true/\bj x=true:=λx hx=>⟨mM x hx,by
 obtain⟨k,_,rfl⟩:=Kw.mp hx
 exact mH _ _ _⟩
theorem zw (d0:Sl)(h:Nat):∀(L:List Rn) (i:Nat) (G:Gp) (b:Nat) (c2 c3 c4:Sl),sD G b->b+L.length*h<=1000->∃c2' A4 mQ:Sl,aW (jy [2,3]) cu (dH i (dy h L)) [d0,tD (aG G),c2,c3,c4]=
  ag (.nx [d0,tD (aG (oe h i L G)),c2',A4,mQ])
 | [],i,G,b,c2,c3,c4,_,_=>⟨c2,c3,c4,rfl⟩
 | p :: L,i,G,b,c2,c3,c4,g,hb=>by
  rw[Kz,UQ] at hb
  have vl:=uA h p
  obtain⟨mQ,e⟩:=zv d0 (fL (mL h p)) i true (mL h p) G b c4 Iy g (!1)
  have g2:=oG (i:=i) g (mM (h:=h) (p:=p))
  obtain⟨Iz,Dl,Dm,ih⟩:=zw d0 h L (i+1) (ni i (mL h p) G) (b+(mL h p).length) (tN i) (fL (mL h p)) mQ g2 (!1)
  refine⟨Iz,Dl,Dm,?_⟩
  show aW (jy [2,3]) cu (.tuple [.int (i:Int),.list (mL h p)] :: dH (i+1) (dy h L)) _=_
  have hs:jy [2,3] (cA .base (.tuple [.int (i:Int),.list (mL h p)])) (.tuple [.int (i:Int),.list (mL h p)]) [d0,tD (aG G),c2,c3,c4]=some [d0,tD (aG G),tN i,fL (mL h p),c4]:=rfl
  have hb2:cu [d0,tD (aG G),tN i,fL (mL h p),c4]=ag (.nx [d0,tD (aG (ni i (mL h p) G)),tN i,fL (mL h p),mQ]):=e
  rw[aW,hs,bt,ar,hb2,ar]
  exact ih
theorem AT {h:Nat}{L:List Rn}(hb:L.length*h<=1000):fx [.list (dy h L)]=ag (true,.dict (aG (oe h 0 L []))):=by
 obtain⟨c2,c3,c4,e⟩:=zw (fL (dy h L)) h L 0 [] 0 none none none ⟨(λp hp=>by cases hp),by simp⟩ (!1)
 refine gk ?_
 unfold iy
 rw[aC (show(aE 1 lO) (cP 5 [.list (dy h L)])=ag (.nx [fL (dy h L),tD (aG []),none,none,none]) from rfl)]
 rw[aC (show(bx (jH (eV 0)) (jy [2,3]) cu) [fL (dy h L),tD (aG []),none,none,none]=_ from e)]
 rfl
theorem NL (d0 d1:Sl){h:Nat}{p:Rn}(hh:h<=4)(w:qX h 12 p.1 p.2)(i:Nat):∀(ks:List Nat) (G:Gp) (b:Nat) (c5:Sl),(∀k∈ks,k < h)->sD G b->b+ks.length<=1000->∃mR:Sl,aW (bY 5) eE (ks.map λ(k:Nat)=>PyData.int (k:Int)) [d0,d1,tD (aG G),tN i,tA (iD p),c5]=
  ag (.nx [d0,d1,tD (aG (ni i (ks.map (cz p.1 p.2)) G)),tN i,tA (iD p),mR])
 | [],G,b,c5,_,_,_=>⟨c5,rfl⟩
 | k :: ks,G,b,c5,hk,g,hb=>by
  rw[Kz] at hb
  have hk1:=hk k K8
  have e:=yf w hh hk1
  obtain⟨mR,ih⟩:=NL d0 d1 hh w i ks (ju G (cz p.1 p.2 k) i) (b+1) (tN k) (λy hy=>hk y (K9 _ hy)) (g.add (kS _ _ _) i) (!1)
  refine⟨mR,?_⟩
  have hf:aJ gC [(eV 4),(eV 5)] [d0,d1,tD (aG G),tN i,tA (iD p),tN k]=ag (.fr [],cz p.1 p.2 k):=by
   simp(disch:=omega) only[rn,reduceIte,iD,e,cU (kC w),cU (mH p.1 p.2 k)]
  have hb2:eE [d0,d1,tD (aG G),tN i,tA (iD p),tN k]=ag (.nx [d0,d1,tD (aG (ju G (cz p.1 p.2 k) i)),tN i,tA (iD p),tN k]) :=
   Dk (i:=2) (j:=3) (Γ:=[d0,d1,tD (aG G),tN i,tA (iD p),tN k]) rfl rfl hf (kS _ _ _) g (!1)
  show aW (bY 5) eE (.int (k:Int) :: ks.map λ(k:Nat)=>PyData.int (k:Int)) _=_
  rw[aW,show bY 5 (cA .base (.int (k:Int))) (.int (k:Int)) [d0,d1,tD (aG G),tN i,tA (iD p),c5]=some [d0,d1,tD (aG G),tN i,tA (iD p),tN k] from rfl,bt,ar,hb2,ar]
  exact ih
theorem NM (d1:Sl){h:Nat}(hh:h<=4):∀(L:List Rn) (i:Nat) (G:Gp) (b:Nat) (c3 c4 c5:Sl),IX h L->sD G b->b+L.length*h<=1000->∃A4 mQ mR:Sl,aW (jy [3,4]) bU (dH i (L.map iD)) [fN h,d1,tD (aG G),c3,c4,c5]=
  ag (.nx [fN h,d1,tD (aG (oe h i L G)),A4,mQ,mR])
 | [],i,G,b,c3,c4,c5,_,_,_=>⟨c3,c4,c5,rfl⟩
 | p :: L,i,G,b,c3,c4,c5,r,g,hb=>by
  rw[Kz,UQ] at hb
  have w:=r p K8
  have vl:=uA h p
  obtain⟨mR,e⟩:=NL (fN h) d1 hh w i (!2) G b c5 (λk hk=>Xy.mp hk) g (by rw[X8];omega)
  have g2:=oG (i:=i) g (mM (h:=h) (p:=p))
  obtain⟨Dl,Dm,IA,ih⟩:=NM d1 hh L (i+1) (ni i (mL h p) G) (b+(mL h p).length) (tN i) (tA (iD p)) mR (Dj r) g2 (!1)
  refine⟨Dl,Dm,IA,?_⟩
  show aW (jy [3,4]) bU (.tuple [.int (i:Int),iD p] :: dH (i+1) (L.map iD)) _=_
  have nt:bj (.tuple [.int (i:Int),iD p])=true:=by rw[cD,aq,aq,uB w];rfl
  have hs:jy [3,4] (cA .base (.tuple [.int (i:Int),iD p])) (.tuple [.int (i:Int),iD p]) [fN h,d1,tD (aG G),c3,c4,c5]=some [fN h,d1,tD (aG G),tN i,tA (iD p),c5]:=by
   rw[cU nt]
   show some (iV (iV _ 3 (cA (.fr []) (.int (i:Int))) (.int (i:Int))) 4 (cA (.fr []) (iD p)) (iD p))=_
   rw[oB,cU (uB w)];rfl
  have hb2:bU [fN h,d1,tD (aG G),tN i,tA (iD p),c5]=ag (.nx [fN h,d1,tD (aG (ni i (mL h p) G)),tN i,tA (iD p),mR]):=by
   unfold bU
   simp(disch:=omega) only[rn,reduceIte,Ku]
   exact e
  rw[aW,hs,bt,ar,hb2,ar]
  exact ih
theorem uC {h:Nat}{L:List Rn}(hh:h<=4)(r:IX h L)(hb:L.length*h<=1000):d_ [.int (h:Int),.list (L.map iD)]=ag (true,.dict (aG (oe h 0 L []))):=by
 obtain⟨c3,c4,c5,e⟩:=NM (fL (L.map iD)) hh L 0 [] 0 none none none r ⟨(λp hp=>by cases hp),by simp⟩ (!1)
 refine gk ?_
 unfold i9
 rw[aC (show(aE 2 lO) (cP 6 [.int (h:Int),.list (L.map iD)])=ag (.nx [fN h,fL (L.map iD),tD (aG []),none,none,none]) from rfl)]
 rw[aC (show(bx (jH (eV 1)) (jy [3,4]) bU) [fN h,fL (L.map iD),tD (aG []),none,none,none]=_ from e)]
 rfl
inductive Cn (n h:Nat)(vw:Nat->Nat->Z4):Nat->Nat->Prop
 | rel {a b k:Nat}:a < n->b < n->k < h->vw a k=vw b k->Cn n h vw a b
 | refl (a:Nat):Cn n h vw a a
 | symm {a b:Nat}:Cn n h vw a b->Cn n h vw b a
 | trans {a b c:Nat}:Cn n h vw a b->Cn n h vw b c->Cn n h vw a c
theorem Cn.closed {n h:Nat}{vw:Nat->Nat->Z4}(S:Nat->Prop)(hS:∀a b k,a < n->b < n->k < h->vw a k=vw b k->S a->S b){a b:Nat}(c:Cn n h vw a b):S a↔S b:=by
 induction c with
 | rel h1 h2 h3 h4=>exact⟨hS _ _ _ h1 h2 h3 h4,hS _ _ _ h2 h1 h3 h4.symm⟩
 | refl a=>exact Iff.rfl
 | symm _ ih=>exact ih.symm
 | trans _ _ i1 i2=>exact i1.trans i2
theorem Cn.const {n h:Nat}{vw:Nat->Nat->Z4}(f:Nat->Nat)(hf:∀a b k,a < n->b < n->k < h->vw a k=vw b k->f a=f b){a b:Nat}(c:Cn n h vw a b):f a=f b:=by
 induction c with
 | rel h1 h2 h3 h4=>exact hf _ _ _ h1 h2 h3 h4
 | refl a=>rfl
 | symm _ ih=>exact ih.symm
 | trans _ _ i1 i2=>exact i1.trans i2
def iS (n:Nat)(f:Nat->Nat):List Z4:=(List.range n).map λi=> .int ((f i:Nat):Int)
noncomputable def upd (f:Nat->Nat)(i m:Nat):Nat->Nat:=λj=>if j=i then m else f j
theorem Fs {n i:Nat}(f:Nat->Nat)(m:Nat):(iS n f).set i (.int (m:Int))=iS n (upd f i m):=by
 unfold iS upd
 refine J1 (by simp) λj h1 h2=> ?_
 rw[List.getElem_set]
 simp only[J3,List.getElem_range]
 by_cases e:i=j
 ·rw[JW e,JW e.symm]
 ·rw[JZ e,JZ (λz=>e z.symm)]
theorem uD {n i:Nat}(f:Nat->Nat)(h:i < n):mP (iS n f) (i:Int)=some (.int ((f i:Nat):Int)):=iI (by unfold iS;rw[KW,Y7 h];rfl)
theorem Ft (n:Nat)(f:Nat->Nat):(iS n f).length=n:=by unfold iS;rw[K4,X8]
theorem Fv (n:Nat)(f:Nat->Nat):aq (iS n f)=true:=aT _ (λ_=>rfl) _
def Q2 (n m:Nat)(l:List Nat)(f:Nat->Nat)(b:Bool)(f':Nat->Nat)(b':Bool):Prop :=
 (∀i,f' i=f i∨(f' i=m/\m < f i/\i∈l))/\(b'=true->b=true∨∃i,i < n/\f' i < f i)/\(b'=false->b=false/\f'=f/\∀i∈l,f i<=m)
theorem yo (d0 d1 d4 d5 d8 d9:Sl)(n m:Nat):∀(l:List Nat) (f:Nat->Nat) (b:Bool) (c7:Sl),(∀i∈l,i < n)->∃(f':Nat->Nat) (b':Bool) (eU:Sl),aW (bY 7) bw (l.map nat) [d0,d1,tL (iS n f),tB b,d4,d5,tN m,c7,d8,d9]=
  ag (.nx [d0,d1,tL (iS n f'),tB b',d4,d5,tN m,eU,d8,d9])/\Q2 n m l f b f' b'
 | [],f,b,c7,_=>⟨f,b,c7,rfl,λi=> .inl rfl,λh=> .inl h,λh=>⟨h,rfl,λi hi=>by cases hi⟩⟩
 | i :: l,f,b,c7,hl=>by
  have hi:=hl i K8
  have ea:=uD f hi
  have nn:=Fv n f
  have el:=Ft n f
  have ei:=oF hi
  have es:=Fs (n:=n) (i:=i) f m
  by_cases hc:m < f i
  ·obtain⟨f',b',eU,e,q1,q2,q3⟩:=yo d0 d1 d4 d5 d8 d9 n m l (upd f i m) true (tN i) λj hj=>hl j (K9 _ hj)
   have hb2:bw [d0,d1,tL (iS n f),tB b,d4,d5,tN m,tN i,d8,d9]=ag (.nx [d0,d1,tL (iS n (upd f i m)),tB true,d4,d5,tN m,tN i,d8,d9]):=by
    have hd:decide ((m:Int) < ((f i:Nat):Int))=true:=JV (!1)
    simp(disch:=omega) only[bw,rn,reduceIte,ea,hd,el,ei,nn,es,XY]
   have ui:upd f i m i=m:=JW rfl
   have uj:∀j,j≠i->upd f i m j=f j:=λj hj=>JZ hj
   have fi:f' i=m:=by rcases q1 i with z | z;exact z.trans ui;exact z.1
   refine⟨f',b',eU,?_,?_,?_,?_⟩
   ·show aW (bY 7) bw (.int (i:Int) :: l.map nat) _=_
    rw[aW,show bY 7 (cA .base (.int (i:Int))) (.int (i:Int)) [d0,d1,tL (iS n f),tB b,d4,d5,tN m,c7,d8,d9]=some [d0,d1,tL (iS n f),tB b,d4,d5,tN m,tN i,d8,d9] from rfl,bt,ar,hb2,ar]
    exact e
   ·intro j
    by_cases hj:j=i
    ·subst hj;exact .inr ⟨fi,hc,K8⟩
    ·rcases q1 j with z | z
     ·exact .inl (z.trans (uj j hj))
     ·exact .inr ⟨z.1,by have:=z.2.1;rw[uj j hj] at this;exact this,K9 _ z.2.2⟩
   ·intro _;exact .inr ⟨i,hi,by rw[fi];exact hc⟩
   ·intro z;cases(q3 z).1
  ·obtain⟨f',b',eU,e,q1,q2,q3⟩:=yo d0 d1 d4 d5 d8 d9 n m l f b (tN i) λj hj=>hl j (K9 _ hj)
   have hb2:bw [d0,d1,tL (iS n f),tB b,d4,d5,tN m,tN i,d8,d9]=ag (.nx [d0,d1,tL (iS n f),tB b,d4,d5,tN m,tN i,d8,d9]):=by
    have hd:decide ((m:Int) < ((f i:Nat):Int))=false:=JQ (!1)
    simp(disch:=omega) only[bw,rn,reduceIte,ea,hd]
   refine⟨f',b',eU,?_,?_,q2,?_⟩
   ·show aW (bY 7) bw (.int (i:Int) :: l.map nat) _=_
    rw[aW,show bY 7 (cA .base (.int (i:Int))) (.int (i:Int)) [d0,d1,tL (iS n f),tB b,d4,d5,tN m,c7,d8,d9]=some [d0,d1,tL (iS n f),tB b,d4,d5,tN m,tN i,d8,d9] from rfl,bt,ar,hb2,ar]
    exact e
   ·intro j
    rcases q1 j with z | z
    ·exact .inl z
    ·exact .inr ⟨z.1,z.2.1,K9 _ z.2.2⟩
   ·intro z
    obtain⟨z1,z2,z3⟩:=q3 z
    refine⟨z1,z2,λj hj=> ?_⟩
    rcases K0.mp hj with rfl | hj
    ·omega
    ·exact z3 j hj
theorem foldl_min:∀(l:List Nat) (a:Nat),∃m:Nat,(l.map λ(x:Nat)=>(x:Int)).foldl (λa b=>if b < a then b else a) (a:Int)=(m:Int)/\(m=a∨m∈l)/\m<=a/\∀x∈l,m<=x
 | [],a=>⟨a,rfl,.inl rfl,K1 _,λx hx=>by cases hx⟩
 | x :: l,a=>by
  rw[KJ,UZ]
  by_cases hc:x < a
  ·rw[JW (!1)]
   obtain⟨m,h1,h2,h3,h4⟩:=foldl_min l x
   refine⟨m,h1,?_,by omega,λy hy=> ?_⟩
   ·exact h2.elim (λz=> .inr (z ▸ K8)) λz=> .inr (K9 _ z)
   ·rcases K0.mp hy with rfl | hy
    ·exact h3
    ·exact h4 y hy
  ·rw[JZ (!1)]
   obtain⟨m,h1,h2,h3,h4⟩:=foldl_min l a
   refine⟨m,h1,?_,h3,λy hy=> ?_⟩
   ·exact h2.elim .inl λz=> .inr (K9 _ z)
   ·rcases K0.mp hy with rfl | hy
    ·omega
    ·exact h4 y hy
theorem wU:∀l:List Nat,(l.map nat).mapM intOf=some (l.map λ(x:Nat)=>(x:Int))
 | []=>rfl
 | x :: l=>by
  rw[KJ,List.mapM_cons,wU l];rfl
theorem AU (l:List Nat)(h:l≠[]):∃m:Nat,rP [.list (l.map nat)]=some (.int (m:Int))/\m∈l/\∀x∈l,m<=x:=by
 cases l with
 | nil=>exact absurd rfl h
 | cons a l=>
  obtain⟨m,h1,h2,h3,h4⟩:=foldl_min l a
  refine⟨m,?_,?_,λx hx=> ?_⟩
  ·rw[rP,wU]
   show some (PyData.int (tU ((a:Int) :: l.map λ(x:Nat)=>(x:Int))))=_
   rw[tU,h1]
  ·rcases h2 with rfl | z
   ·exact K8
   ·exact K9 _ z
  ·rcases K0.mp hx with rfl | hx
   ·exact h3
   ·exact h4 x hx
def PS (n h:Nat)(vw:Nat->Nat->Z4)(f:Nat->Nat):Prop:=∀i,i < n->f i<=i/\Cn n h vw i (f i)
theorem IB (d0 d1 d4 d8 d9:Sl){n h:Nat}{vw:Nat->Nat->Z4}(hn:n<=1000)(l:List Nat)(hne:l≠[])(hl:∀i∈l,i < n)(hcn:∀i∈l,∀j∈l,Cn n h vw i j)(hll:l.length<=1000)(f:Nat->Nat)(ps:PS n h vw f)(b:Bool)(c6 c7:Sl):∃(f':Nat->Nat) (b':Bool) (j4 eU:Sl),dm [d0,d1,tL (iS n f),tB b,d4,fL (l.map nat),c6,c7,d8,d9]=
  ag (.nx [d0,d1,tL (iS n f'),tB b',d4,fL (l.map nat),j4,eU,d8,d9])/\PS n h vw f'/\(∀i,f' i<=f i)/\(b'=true->b=true∨∃i,i < n/\f' i < f i)/\(b'=false->b=false/\f'=f/\∀i∈l,∀j∈l,f i=f j):=by
 have hc:=mN (fe:=fu) (cap:=[fL (iS n f)]) nat (λi=>(Kd.fr [],nat (f i))) l (λi hi=>by
  have ea:=uD f (hl i hi)
  simp(disch:=omega) only[fu,rn,reduceIte,nat,ea])
 have k1:=fm l λi=>nat (f i)
 have e2:(l.map λi=>(Kd.fr [],nat (f i))).map Prod.snd=(l.map f).map nat:=by rw[KQ,KQ];rfl
 obtain⟨m,hm1,hm2,OS⟩:=AU (l.map f) (by simpa using hne)
 have hle:l.length<=100000:=by omega
 have s1:(aE 6 (iF rP [(cp (ny (eV 5)) [2] dN fu)])) [d0,d1,tL (iS n f),tB b,d4,fL (l.map nat),c6,c7,d8,d9]=ag (.nx [d0,d1,tL (iS n f),tB b,d4,fL (l.map nat),tN m,c7,d8,d9]):=by
  simp(disch:=omega) only[rn,reduceIte,cp,hc,k1,e2,hle,hm1]
 obtain⟨f',b',eU,e,q1,q2,q3⟩:=yo d0 d1 d4 (fL (l.map nat)) d8 d9 n m l f b c7 hl
 obtain⟨j,hj,rfl⟩:=Kw.mp hm2
 refine⟨f',b',tI ((f j:Nat):Int),eU,?_,?_,?_,q2,?_⟩
 ·unfold dm
  rw[aC s1];exact e
 ·intro i hi
  obtain⟨p1,p2⟩:=ps i hi
  rcases q1 i with z | ⟨z1,z2,z3⟩
  ·rw[z];exact⟨p1,p2⟩
  ·rw[z1];exact⟨by omega,(hcn i z3 j hj).trans (ps j (hl j hj)).2⟩
 ·intro i
  rcases q1 i with z | z
  ·omega
  ·omega
 ·intro z
  obtain⟨z1,z2,z3⟩:=q3 z
  have ea:∀i∈l,f i=f j:=λi hi=>Jy (z3 i hi) (OS _ (Kw.mpr ⟨i,hi,rfl⟩))
  exact⟨z1,z2,λi hi i' hi'=>(ea i hi).trans (ea i' hi').symm⟩
def IC (G:Gp):List Z4:=(aG G).map λp=> .tuple [p.1,p.2]
theorem Dn (d0 d1 d8 d9:Sl){n h:Nat}{vw:Nat->Nat->Z4}(hn:n<=1000):∀(G:Gp),(∀p∈G,p.2≠[]/\(∀i∈p.2,i < n)/\(∀i∈p.2,∀j∈p.2,Cn n h vw i j)/\p.2.length<=1000)->∀(f:Nat->Nat) (b:Bool) (c4 c5 c6 c7:Sl),PS n h vw f->
  ∃(f':Nat->Nat) (b':Bool) (mQ mR j4 eU:Sl),aW (jy [4,5]) dm (IC G) [d0,d1,tL (iS n f),tB b,c4,c5,c6,c7,d8,d9]=
  ag (.nx [d0,d1,tL (iS n f'),tB b',mQ,mR,j4,eU,d8,d9])/\PS n h vw f'/\(∀i,f' i<=f i)/\(b'=true->b=true∨∃i,i < n/\f' i < f i)/\(b'=false->b=false/\f'=f/\∀p∈G,∀i∈p.2,∀j∈p.2,f i=f j)
 | [],_,f,b,c4,c5,c6,c7,ps=>⟨f,b,c4,c5,c6,c7,rfl,ps,λi=>K1 _,λz=> .inl z,λz=>⟨z,rfl,λp hp=>by cases hp⟩⟩
 | p :: G,hG,f,b,c4,c5,c6,c7,ps=>by
  obtain⟨a1,a2,a3,a4⟩:=hG p K8
  have hs:∃mQ:Sl,jy [4,5] (cA .base (.tuple [p.1,.list (p.2.map nat)])) (.tuple [p.1,.list (p.2.map nat)]) [d0,d1,tL (iS n f),tB b,c4,c5,c6,c7,d8,d9]=some [d0,d1,tL (iS n f),tB b,mQ,fL (p.2.map nat),c6,c7,d8,d9]:=by
   have nt:bj (.tuple [p.1,.list (p.2.map nat)])=false:=by
    rw[cD,aq,aq,mf,YQ,Bool.and_false]
   rw[vG nt]
   show∃mQ:Sl,some (iV (iV _ 4 (cA .base p.1) p.1) 5 .base (.list (p.2.map nat)))=_
   cases e:bj p.1 with
   | true=>rw[cU e];exact⟨_,rfl⟩
   | false=>rw[vG e];exact⟨_,rfl⟩
  obtain⟨mQ,hs⟩:=hs
  obtain⟨f1,b1,j4,eU,e1,p1,p2,p3,p4⟩:=IB d0 d1 mQ d8 d9 hn p.2 a1 a2 a3 a4 f ps b c6 c7
  obtain⟨f',b',Dm,IA,yj,yk,e,q1,q2,q3,q4⟩:=Dn d0 d1 d8 d9 hn G (λq hq=>hG q (K9 _ hq)) f1 b1 mQ (fL (p.2.map nat)) j4 eU p1
  refine⟨f',b',Dm,IA,yj,yk,?_,q1,λi=>KY (q2 i) (p2 i),?_,?_⟩
  ·show aW (jy [4,5]) dm (.tuple [p.1,.list (p.2.map nat)] :: IC G) _=_
   rw[aW,hs,bt,ar,e1,ar]
   exact e
  ·intro z
   rcases q3 z with z | ⟨i,z1,z2⟩
   ·rcases p3 z with z | ⟨i,z1,z2⟩
    ·exact .inl z
    ·exact .inr ⟨i,z1,Xv (q2 i) z2⟩
   ·exact .inr ⟨i,z1,X4 z2 (p2 i)⟩
  ·intro z
   obtain⟨z1,z2,z3⟩:=q4 z
   obtain⟨y1,y2,y3⟩:=p4 z1
   subst z2
   refine⟨y1,y2,λq hq=> ?_⟩
   rcases K0.mp hq with rfl | hq
   ·exact y3
   ·rw[←y2];exact z3 q hq
def wt (n:Nat)(f:Nat->Nat):Nat:=((List.range n).map f).sum
theorem mO (n:Nat)(f:Nat->Nat):wt (n+1) f=wt n f+f n:=by
 unfold wt;rw[Yy,X0,List.sum_append];simp
theorem Gh {f g:Nat->Nat}(h:∀i,f i<=g i):∀n,wt n f<=wt n g
 | 0=>K1 _
 | n+1=>by rw[mO,mO];have:=Gh h n;have:=h n;omega
theorem Gi {f g:Nat->Nat}(h:∀i,f i<=g i){i:Nat}(hi:f i < g i):∀{n},i < n->wt n f < wt n g
 | n+1,hn=>by
  rw[mO,mO]
  by_cases e:i=n
  ·subst e;have:=Gh h i;omega
  ·have:=Gi h hi (n:=n) (!1);have:=h n;omega
theorem wV {f:Nat->Nat}{b:Nat}:∀(n:Nat),(∀i,i < n->f i<=b)->wt n f<=n*b
 | 0,_=>by simp[wt]
 | n+1,h=>by
  rw[mO,UQ]
  have:=wV n λi hi=>h i (!1)
  have:=h n (!1)
  omega
theorem ID (d0 d8 d9:Sl){n h:Nat}{vw:Nat->Nat->Z4}(hn:n<=1000){G:Gp}(g:sD G 1000)(hG:∀p∈G,p.2≠[]/\(∀i∈p.2,i < n)/\(∀i∈p.2,∀j∈p.2,Cn n h vw i j)/\p.2.length<=1000):∀(w fuel:Nat) (f:Nat->Nat) (c4 c5 c6 c7:Sl),PS n h vw f->wt n f < w->w+1<=fuel->
  ∃(f':Nat->Nat) (mQ mR j4 eU:Sl),eM fuel ip dq [d0,fD (aG G),tL (iS n f),tB true,c4,c5,c6,c7,d8,d9]=
  ag (.nx [d0,fD (aG G),tL (iS n f'),tB false,mQ,mR,j4,eU,d8,d9])/\PS n h vw f'/\∀p∈G,∀i∈p.2,∀j∈p.2,f' i=f' j:=by
 intro w
 induction w with
 | zero=>
  intro fuel f c4 c5 c6 c7 ps hw hf
  omega
 | succ w ih=>
  intro fuel f c4 c5 c6 c7 ps hw hf
  obtain⟨fuel,rfl⟩:∃k,fuel=k+2:=⟨fuel - 2,by omega⟩
  obtain⟨f',b',mQ,mR,j4,eU,e,q1,q2,q3,q4⟩:=Dn d0 (fD (aG G)) d8 d9 hn G hG f false c4 c5 c6 c7 ps
  have hb:dq [d0,fD (aG G),tL (iS n f),tB true,c4,c5,c6,c7,d8,d9]=ag (.nx [d0,fD (aG G),tL (iS n f'),tB b',mQ,mR,j4,eU,d8,d9]):=by
   unfold dq
   rw[aC (show(aE 3 (eC (.bool false))) _=ag (.nx [d0,fD (aG G),tL (iS n f),tB false,c4,c5,c6,c7,d8,d9]) from rfl)]
   have hi:tS (eV 1) [d0,fD (aG G),tL (iS n f),tB false,c4,c5,c6,c7,d8,d9]=ag (.base,IC G):=by
    show Ac .base (.dict (aG G))=_
    rw[Ac,JW g.gF];rfl
   unfold bx
   rw[hi,ar];exact e
  cases b' with
  | true=>
   rcases q3 rfl with z | ⟨i,z1,z2⟩
   ·cases z
   ·have hlt:=Gi q2 z2 z1
    obtain⟨f'',d4,d5,d6,d7,e',r1,r2⟩:=ih (fuel+1) f' mQ mR j4 eU q1 (!1) (!1)
    exact⟨f'',d4,d5,d6,d7,by rw[mK rfl hb];exact e',r1,r2⟩
  | false=>
   obtain⟨_,rfl,z3⟩:=q4 rfl
   exact⟨f',mQ,mR,j4,eU,by rw[mK rfl hb,qw rfl],q1,z3⟩
theorem sG {α:Type}{ft:TF}{fe:EF}{cap:bf}(f:α->Z4)(p:α->Bool)(g:α->Kd×Z4):∀(l:List α),(∀a∈l,ft (fA (f a) :: cap)=ag (p a))->(∀a∈l,p a=true->fe (fA (f a) :: cap)=ag (g a))->c_ ft fe cap (l.map f)=some ((l.filter p).map g)
 | [],_,_=>rfl
 | a :: l,ht,h=>by
  have h0:=ht a K8
  have ih:=sG f p g l (λb hb=>ht b (K9 _ hb)) λb hb=>h b (K9 _ hb)
  rw[KJ,c_]
  cases hp:p a with
  | true=>
   have h1:=h a K8 hp
   rw[hp] at h0
   simp only[ag] at h0 h1⊢
   rw[h0,h1]
   simp only
   rw[ih,List.filter_cons_of_pos hp];rfl
  | false=>
   rw[hp] at h0
   simp only[ag] at h0⊢
   rw[h0]
   simp only
   rw[ih,List.filter_cons_of_neg (by rw[hp];exact K5)]
theorem oH (a b:Nat):((a:Int)==(b:Int))=decide (a=b):=by
 by_cases e:a=b
 ·subst e;simp
 ·rw[JQ e];exact beq_eq_false_iff_ne.mpr λz=>e (!1)
noncomputable def lot (n:Nat)(f:Nat->Nat)(a:Nat):List Nat:=(List.range n).filter λj=>decide (f j=a)
def lots (n:Nat)(f:Nat->Nat)(i:Nat):List Z4:=((List.range i).filter λa=>decide (f a=a)).map λa=> .list ((lot n f a).map nat)
theorem sH (n:Nat)(f:Nat->Nat)(i:Nat):lots n f (i+1)=lots n f i++(if f i=i then [.list ((lot n f i).map nat)] else []):=by
 unfold lots
 rw[Yy,List.filter_append,X0]
 by_cases e:f i=i
 ·rw[JW e,List.filter_cons_of_pos (by simpa using e)];rfl
 ·rw[JZ e,List.filter_cons_of_neg (by simpa using e)];rfl
theorem wW (n:Nat)(f:Nat->Nat)(i:Nat):(lots n f i).length<=i:=by
 unfold lots;rw[K4];exact KY (U9 _ _) (by rw[X8];exact K1 _)
theorem IE (d1 c3 c4 c5 c6 c7:Sl){n:Nat}(hn:n<=1000)(f:Nat->Nat)(hf:∀i,i < n->f i < n):∃jX:Sl,aW (bY 9) cr ((List.range n).map λ(i:Nat)=>PyData.int (i:Int)) [fN n,d1,tL (iS n f),c3,c4,c5,c6,c7,tL [],none]=
  ag (.nx [fN n,d1,tL (iS n f),c3,c4,c5,c6,c7,tL (lots n f n),jX]):=by
 obtain⟨Γ',k1,jX,rfl⟩:=bn (g:=bY 9) (b:=cr) (ds:=(List.range n).map λ(i:Nat)=>PyData.int (i:Int)) (Γ:=[fN n,d1,tL (iS n f),c3,c4,c5,c6,c7,tL [],none])
  (λi Γ=>∃c9:Sl,Γ=[fN n,d1,tL (iS n f),c3,c4,c5,c6,c7,tL (lots n f i),c9]) ⟨none,rfl⟩ (by
  rintro i d Γ hd ⟨c9,rfl⟩
  obtain⟨rfl,hi⟩:=bR hd
  have ea:=uD f hi
  have hz:(lots n f i).length < sizeLine:=Xv (KY (wW n f i) (show i<=1000 by omega)) (by decide)
  refine⟨_,[fN n,d1,tL (iS n f),c3,c4,c5,c6,c7,tL (lots n f (i+1)),tN i],rfl,.inl ?_,_,rfl⟩
  have hc:=sG (ft:=iq) (fe:=iu) (cap:=[fN i,fL (iS n f)]) (λ(j:Nat)=>PyData.int (j:Int)) (λj=>decide (f j=i)) (λj=>(Kd.fr [],nat j)) (List.range n) (λj hj=>by
   have eb:=uD f (Xy.mp hj)
   simp(disch:=omega) only[iq,rn,reduceIte,eb,oH]) (λj hj _=>by
   simp(disch:=omega) only[iu,rn,reduceIte,nat])
  have k1:=fm ((List.range n).filter λj=>decide (f j=i)) nat
  have e2:(((List.range n).filter λj=>decide (f j=i)).map λj=>(Kd.fr [],nat j)).map Prod.snd=(lot n f i).map nat:=by rw[KQ];rfl
  have hle:n<=100000:=by omega
  rw[sH]
  by_cases e:f i=i
  ·rw[JW e]
   have hd:decide (f i=i)=true:=JV e
   simp(disch:=omega) only[cr,rn,reduceIte,ea,oH,hd,cp,hc,k1,e2,hle,hz,Ku]
  ·rw[JZ e,Xu]
   have hd:decide (f i=i)=false:=JQ e
   simp(disch:=omega) only[cr,rn,reduceIte,ea,oH,hd])
 rw[K4,X8] at k1
 exact⟨jX,k1⟩
theorem Dp {n h:Nat}{vw:Nat->Nat->Z4}{G:Gp}(hn:n<=900)(gr:DC n h vw G):∃f:Nat->Nat,fw [.int (n:Int),.dict (aG G)]=ag (true,.list (lots n f n))/\(∀i,i < n->f i<=i/\f (f i)=f i)/\∀i j,i < n->j < n->(f i=f j↔Cn n h vw i j):=by
 have hG:∀p∈G,p.2≠[]/\(∀i∈p.2,i < n)/\(∀i∈p.2,∀j∈p.2,Cn n h vw i j)/\p.2.length<=1000:=λp hp=>by
  obtain⟨k,hk,hm⟩:=gr.g p hp
  exact⟨gr.ne p hp,λi hi=>((hm i).mp hi).1,λi hi j hj=> .rel ((hm i).mp hi).1 ((hm j).mp hj).1 hk (((hm i).mp hi).2.trans ((hm j).mp hj).2.symm),(gr.ok.k p hp).2⟩
 have hw:wt n id<=900*900:=KY (wV (b:=900) n λi hi=>by show i<=900;omega) (Nat.mul_le_mul_right _ hn)
 obtain⟨f,c4,c5,c6,c7,e,p1,p2⟩:=ID (fN n) none none (!1) gr.ok hG (900*900+1) uS id none none none none (λi hi=>⟨K1 _,.refl _⟩) (Nat.lt_succ_of_le hw) (by decide)
 have hc:∀a b k,a < n->b < n->k < h->vw a k=vw b k->f a=f b:=λa b k ha hb hk ev=>by
  obtain⟨l,_,hl⟩:=gr.get a k ha hk
  refine p2 _ hl a ?_ b ?_
  ·exact(gr.mem_of hl a).mpr ⟨ha,rfl⟩
  ·exact(gr.mem_of hl b).mpr ⟨hb,ev.symm⟩
 obtain⟨c9,e8⟩:=IE (fD (aG G)) (tB false) c4 c5 c6 c7 (!1) f λi hi=>Xv (p1 i hi).1 hi
 refine⟨f,?_,λi hi=>⟨(p1 i hi).1,((p1 i hi).2.const f hc).symm⟩,λi j hi hj=>⟨λz=> ?_,λz=>z.const f hc⟩⟩
 ·have hn2:(0:Int)<=(n:Int)/\(n:Int)<=100000:=by omega
  have s1:(aE 2 (Bn pD (eV 0))) (cP 10 [.int (n:Int),.dict (aG G)])=ag (.nx [fN n,fD (aG G),tL (iS n id),none,none,none,none,none,none,none]):=by
   simp(disch:=omega) only[rn,reduceIte,pD,hn2,and_self,Ku];rfl
  refine gk ?_
  unfold jM
  rw[aC s1]
  rw[aC (show(aE 3 (eC (.bool true))) _=ag (.nx [fN n,fD (aG G),tL (iS n id),tB true,none,none,none,none,none,none]) from rfl)]
  rw[aC (show(oS uS ip dq) _=_ from e)]
  rw[aC (show(aE 8 (cm [])) _=ag (.nx [fN n,fD (aG G),tL (iS n f),tB false,c4,c5,c6,c7,tL [],none]) from rfl)]
  have s8:(bx (eK (eV 0)) (bY 9) cr) [fN n,fD (aG G),tL (iS n f),tB false,c4,c5,c6,c7,tL [],none]=ag (.nx [fN n,fD (aG G),tL (iS n f),tB false,c4,c5,c6,c7,tL (lots n f n),c9]):=by
   simp(disch:=omega) only[rn,reduceIte,Ku,e8]
  rw[aC s8]
  rfl
 ·have h1:=(p1 i hi).2
  have h2:=(p1 j hj).2
  rw[←z] at h2
  exact h1.trans h2.symm
def encV (V:List Z4):kZ:=V.map λx=>(x,.bool true)
def qy (S:List (Nat×Nat)):List Z4:=S.map λp=> .tuple [.int ((p.1:Nat):Int),.int ((p.2:Nat):Int)]
theorem Fw (S:List (Nat×Nat)):aq (qy S)=true:=aT _ (λ_=>rfl) _
theorem zx (S:List (Nat×Nat)):(qy S).length=S.length:=K4 _
def IG (V:List Z4):Prop:=∀x∈V,pl x=true/\da x=true
theorem nj {x:Z4}(hx:pl x=true):∀{V:List Z4},IG V->(lj (encV V) x=true↔x∈V)
 | [],_=>by simp[lj,encV]
 | y :: V,h=>by
  have ih:=nj hx (V:=V) λz hz=>h z (K9 _ hz)
  show((PyData.eqv y x || lj (encV V) x)=true)↔_
  rw[Bool.or_eq_true,ih,mG (h y K8).1 hx,K0]
  exact⟨λz=>z.elim (λz=> .inl z.symm) .inr,λz=>z.elim (λz=> .inl z.symm) .inr⟩
theorem AV {V:List Z4}(h:IG V):gF (encV V)=true:=Y3.mpr λp hp=>by
 obtain⟨q,hq,rfl⟩:=Kw.mp hp
 exact(h q hq).2
theorem AW (V:List Z4):dP (encV V)=true:=aU.mpr λx hx=>by
 obtain⟨p,hp,rfl⟩:=Kw.mp hx
 obtain⟨y,_,rfl⟩:=Kw.mp hp
 rfl
theorem IH {V:List Z4}(h:IG V){x:Z4}(hx:da x=true):dO (encV V) x=true:=by unfold dO;rw[hx,AV h];rfl
structure SI (n h:Nat)(vw:Nat->Nat->Z4)(a:Nat)(V:List Z4)(j:Nat)(V':List Z4)(S:List (Nat×Nat)):Prop where
 v:IG V'
 l:V'.length<=V.length+j
 sl:S.length<=j*1000
 up:∀x∈V,x∈V'
 dn:∀k,k < j->vw a k∈V'
 no:∀x∈V',x∈V∨∃k,k < j/\x=vw a k
 s:∀s∈S,s.1 < h/\s.2 < n/\vw s.2 s.1=vw a s.1
 c:∀k,k < j->vw a k∈V∨∀i,i < n->vw i k=vw a k->∃k',(k',i)∈S
theorem II {n h:Nat}{vw:Nat->Nat->Z4}{G:Gp}(gr:DC n h vw G)(hh:h<=4)(hp:∀i k,pl (vw i k)=true/\da (vw i k)=true/\bj (vw i k)=true)(a:Nat)(ha:a < n)(V:List Z4)(hV:IG V)(hl:V.length<=10000)(d0:Sl) :
  ∃(V':List Z4) (S:List (Nat×Nat)) (c4 c5:Sl),aW (jy [4,5]) a8 (dH 0 ((!2).map (vw a))) [d0,fD (aG G),tD (encV V),tL (qy []),none,none]=
  ag (.nx [d0,fD (aG G),tD (encV V'),tL (qy S),c4,c5])/\SI n h vw a V h V' S:=by
 obtain⟨Γ',k1,V',S,c4,c5,rfl,si⟩:=bn (g:=jy [4,5]) (b:=a8) (ds:=dH 0 ((!2).map (vw a))) (Γ:=[d0,fD (aG G),tD (encV V),tL (qy []),none,none])
  (λj Γ=>∃(V':List Z4) (S:List (Nat×Nat)) (c4 c5:Sl),Γ=[d0,fD (aG G),tD (encV V'),tL (qy S),c4,c5]/\SI n h vw a V j V' S)
  ⟨V,[],none,none,rfl,hV,by omega,by simp,λx hx=>hx,(λk hk=>by omega),(λx hx=> .inl hx),(λs hs=>by cases hs),(λk hk=>by omega)⟩ (by
  rintro j d Γ hd ⟨V',S,c4,c5,rfl,si⟩
  rw[L2.jn,KW] at hd
  have hj:j < h:=by
   apply Classical.byContradiction;intro z
   rw[Xz (by rw[X8];omega)] at hd;cases hd
  rw[Y7 hj,Nat.zero_add] at hd
  have hd:PyData.tuple [.int (j:Int),vw a j]=d:=by simpa using hd
  subst hd
  obtain⟨p1,p2,p3⟩:=hp a j
  have nt:bj (.tuple [.int (j:Int),vw a j])=true:=by rw[cD,aq,aq,p3];rfl
  have hs:jy [4,5] (cA .base (.tuple [.int (j:Int),vw a j])) (.tuple [.int (j:Int),vw a j]) [d0,fD (aG G),tD (encV V'),tL (qy S),c4,c5]=some [d0,fD (aG G),tD (encV V'),tL (qy S),tN j,tA (vw a j)]:=by
   rw[cU nt]
   show some (iV (iV _ 4 (cA (.fr []) (.int (j:Int))) (.int (j:Int))) 5 (cA (.fr []) (vw a j)) (vw a j))=_
   rw[oB,cU p3];rfl
  have hK:=IH si.v p2
  by_cases hin:vw a j∈V'
  ·have hk:=(nj p1 si.v).mpr hin
   refine⟨_,_,hs,.inl ?_,V',S,tN j,tA (vw a j),rfl,?_⟩
   ·simp(disch:=omega) only[a8,rn,reduceIte,cU p3,e7,hK,hk]
   ·refine⟨si.v,by have:=si.l;omega,by have:=si.sl;omega,si.up,λk hk=> ?_,λx hx=> ?_,si.s,λk hk=> ?_⟩
    ·by_cases e:k=j
     ·subst e;exact hin
     ·exact si.dn k (!1)
    ·rcases si.no x hx with z | ⟨k,z1,z2⟩
     ·exact .inl z
     ·exact .inr ⟨k,by omega,z2⟩
    ·by_cases e:k=j
     ·subst e
      rcases si.no _ hin with z | ⟨k',z1,z2⟩
      ·exact .inl z
      ·have:=gr.hand _ _ _ _ z2;omega
     ·exact si.c k (!1)
  ·have hk:lj (encV V') (vw a j)=false:=Bool.eq_false_iff.mpr λz=>hin ((nj p1 si.v).mp z)
   obtain⟨l,g1,g2⟩:=gr.get a j ha hj
   have hll:l.length<=1000:=(gr.ok.k _ g2).2
   have OT:dO (aG G) (vw a j)=true:=by unfold dO;rw[p2,gr.ok.gF];rfl
   have hc:=mN (fe:=cE) (cap:=[fN j]) nat (λi=>(Kd.fr [],.tuple [.int (j:Int),nat i])) l (λi hi=>by
    have nn:aq [PyData.int (j:Int),.int (i:Int)]=true:=rfl
    simp(disch:=omega) only[cE,rn,reduceIte,nat,au nn])
   have k1:=fm l λi=>PyData.tuple [.int (j:Int),nat i]
   have e2:(l.map λi=>(Kd.fr [],PyData.tuple [.int (j:Int),nat i])).map Prod.snd=qy (l.map λi=>(j,i)):=by unfold qy;rw[KQ,KQ];rfl
   have hle:l.length<=100000:=by omega
   have nn:=Fw (l.map λi=>(j,i))
   have hsz:(qy S).length+(qy (l.map λi=>(j,i))).length<=sizeLine:=KY (show _<=10000 by rw[zx,zx,K4];have:=si.sl;omega) (by decide)
   have hvl:(encV V').length < sizeLine:=Xv (show _<=20000 by unfold encV;rw[K4];have:=si.l;omega) (by decide)
   have nv:=AW V'
   have ep:putK (encV V') (vw a j) (.bool true)=encV (V'++[vw a j]):=by
    unfold putK;rw[hk,JZ K5];unfold encV;rw[X0];rfl
   have ea:qy S++qy (l.map λi=>(j,i))=qy (S++l.map λi=>(j,i)):=by unfold qy;rw[X0]
   refine⟨_,_,hs,.inl ?_,V'++[vw a j],S++l.map (λi=>(j,i)),tN j,tA (vw a j),rfl,?_⟩
   ·simp(disch:=omega) only[a8,rn,reduceIte,cU p3,e7,hK,hk,oT,nv,hvl,and_self,ep,D7,OT,g1,cp,hc,k1,e2,hle,xr,FZ,nn,hsz,ea]
   ·refine⟨λx hx=> ?_,by rw[K2,X5];have:=si.l;omega,by rw[K2,K4];have:=si.sl;omega,λx hx=>KZ _ (si.up x hx),λk hk=> ?_,λx hx=> ?_,λs hs=> ?_,λk hk=> ?_⟩
    ·rcases Kk.mp hx with z | z
     ·exact si.v x z
     ·rw[K7.mp z];exact⟨p1,p2⟩
    ·by_cases e:k=j
     ·subst e;exact Kx _ (K7.mpr rfl)
     ·exact KZ _ (si.dn k (!1))
    ·rcases Kk.mp hx with z | z
     ·rcases si.no x z with z | ⟨k,z1,z2⟩
      ·exact .inl z
      ·exact .inr ⟨k,by omega,z2⟩
     ·exact .inr ⟨j,by omega,K7.mp z⟩
    ·rcases Kk.mp hs with z | z
     ·exact si.s s z
     ·obtain⟨i,hi,rfl⟩:=Kw.mp z
      have:=(gr.mem_of g2 i).mp hi
      exact⟨hj,this.1,this.2⟩
    ·by_cases e:k=j
     ·subst e
      exact .inr λi hi ev=>⟨k,Kx _ (Kw.mpr ⟨i,(gr.mem_of g2 i).mpr ⟨hi,ev⟩,rfl⟩)⟩
     ·rcases si.c k (!1) with z | z
      ·exact .inl z
      ·exact .inr λi hi ev=>by
        obtain⟨k',hk'⟩:=z i hi ev
        exact⟨k',KZ _ hk'⟩)
 rw[L2.cH,K4,X8] at si
 exact⟨V',S,c4,c5,k1,si⟩
theorem Dq {n h:Nat}{vw:Nat->Nat->Z4}{G:Gp}(gr:DC n h vw G)(hh:h<=4)(hp:∀i k,pl (vw i k)=true/\da (vw i k)=true/\bj (vw i k)=true)(a:Nat)(ha:a < n)(V:List Z4)(hV:IG V)(hl:V.length<=10000) :
  ∃(V':List Z4) (S:List (Nat×Nat)),cc [.list ((!2).map (vw a)),.dict (aG G)] (.dict (encV V))=ag (.list (qy S),.dict (encV V'))/\SI n h vw a V h V' S:=by
 obtain⟨V',S,c4,c5,e,si⟩:=II gr hh hp a ha V hV hl (fL ((!2).map (vw a)))
 refine⟨V',S,?_,si⟩
 have e0:cb (kg 6 [.list ((!2).map (vw a)),.dict (aG G)] (.dict (encV V)))=ag (.nx [fL ((!2).map (vw a)),fD (aG G),tD (encV V'),tL (qy S),c4,c5]):=by
  unfold cb
  rw[aC (show(aE 3 (cm [])) (kg 6 [.list ((!2).map (vw a)),.dict (aG G)] (.dict (encV V)))=ag (.nx [fL ((!2).map (vw a)),fD (aG G),tD (encV V),tL (qy []),none,none]) from rfl)]
  rw[aC (show(bx (jH (eV 0)) (jy [4,5]) a8) [fL ((!2).map (vw a)),fD (aG G),tD (encV V),tL (qy []),none,none]=_ from e)]
  rfl
 unfold cc runIO
 rw[e0];rfl
abbrev Wy:=List (Nat×Option (Nat×Nat))
def Fy:Option (Nat×Nat)->Z4
 | none=> .none
 | some p=> .tuple [.int ((p.1:Nat):Int),.int ((p.2:Nat):Int)]
def bg (W:Wy):kZ:=W.map λp=>(.int ((p.1:Nat):Int),Fy p.2)
def kW (W:Wy):List Nat:=W.map (·.1)
theorem Fz (a b:Nat):PyData.eqv (.int (a:Int)) (.int (b:Int))=decide (a=b):=oH a b
theorem kT (x:Nat):∀W:Wy,lj (bg W) (.int (x:Int))=decide (x∈kW W)
 | []=>rfl
 | p :: W=>by
  show(PyData.eqv (.int ((p.1:Nat):Int)) (.int (x:Int)) || lj (bg W) (.int (x:Int)))=_
  rw[kT x W,Fz]
  unfold kW
  rw[KJ,Yj]
  simp only[Bool.or_eq_true,JU,K0]
  exact⟨λz=>z.elim (λz=> .inl z.symm) .inr,λz=>z.elim (λz=> .inl z.symm) .inr⟩
theorem kU (W:Wy):allI (bg W)=true:=Y3.mpr λp hp=>by
 obtain⟨q,hq,rfl⟩:=Kw.mp hp;rfl
theorem Dr (W:Wy)(x:Nat):dO (bg W) (.int (x:Int))=true:=by unfold dO;rw[kU];rfl
theorem nk (W:Wy):dP (bg W)=true:=aU.mpr λx hx=>by
 obtain⟨p,hp,rfl⟩:=Kw.mp hx
 obtain⟨y,_,rfl⟩:=Kw.mp hp
 show bj (Fy y.2)=true
 cases y.2 <;> rfl
inductive A5 (n h:Nat)(vw:Nat->Nat->Z4)(first:Nat):Wy->Prop
 | one:first < n->A5 n h vw first [(first,none)]
 | snoc {W:Wy} {i k a:Nat}:A5 n h vw first W->a∈kW W->i∉kW W->i < n->k < h->vw i k=vw a k->A5 n h vw first (W++[(i,some (k,a))])
theorem uE (W:Wy)(e:Nat×Option (Nat×Nat)):kW (W++[e])=kW W++[e.1]:=by unfold kW;rw[X0];rfl
theorem A5.nd {n h:Nat}{vw:Nat->Nat->Z4}{first:Nat}{W:Wy}(o:A5 n h vw first W):(kW W).Nodup/\(∀i∈kW W,i < n/\Cn n h vw first i)/\first∈kW W:=by
 induction o with
 | one h1=>exact⟨by simp[kW],λi hi=>by rw[show i=first from K7.mp hi];exact⟨h1,.refl _⟩,K7.mpr rfl⟩
 | snoc _ h1 h2 h3 h4 h5 ih=>
  obtain⟨i1,i2,i3⟩:=ih
  rw[uE]
  refine⟨Xj.mpr ⟨i1,by simp,λx hx y hy z=> ?_⟩,λx hx=> ?_,KZ _ i3⟩
  ·have zz:=z.trans (K7.mp hy)
   dsimp only at zz
   subst zz;exact h2 hx
  ·rcases Kk.mp hx with z | z
   ·exact i2 x z
   ·rw[K7.mp z]
    exact⟨h3,(i2 _ h1).2.trans (.rel (i2 _ h1).1 h3 h4 h5.symm)⟩
theorem qz:∀(n:Nat) (l:List Nat),l.Nodup->(∀i∈l,i < n)->l.length<=n
 | 0,l,_,h=>by
  cases l with
  | nil=>simp
  | cons a l=>exact absurd (h a K8) (!1)
 | n+1,l,nd,h=>by
  have ih:=qz n (l.erase n) (nd.erase n) λi hi=>by
   have h1:=(List.Nodup.mem_erase_iff nd).mp hi
   have:=h i h1.2
   have:=h1.1
   omega
  by_cases hm:n∈l
  ·rw[List.length_erase_of_mem hm] at ih;omega
  ·rw[List.erase_of_not_mem hm] at ih;omega
theorem A5.len {n h:Nat}{vw:Nat->Nat->Z4}{first:Nat}{W:Wy}(o:A5 n h vw first W):W.length<=n:=by
 have:=qz n (kW W) o.nd.1 λi hi=>(o.nd.2.1 i hi).1
 unfold kW at this;rw[K4] at this;exact this
theorem Ds (d0 d1 d2 d4 d5:Sl){n h:Nat}{vw:Nat->Nat->Z4}{first a:Nat}(hn:n<=1000)(o7:Bool):∀(S:List (Nat×Nat)) (W:Wy) (Fu:List Nat) (c8 c9:Sl),(∀s∈S,s.1 < h/\s.2 < n/\vw s.2 s.1=vw a s.1)->A5 n h vw first W->a∈kW W->Fu.length<=W.length->
  ∃(W':Wy) (N:List Nat) (wX jX:Sl),aW (jy [8,9]) bH (qy S) [d0,d1,d2,tD (bg W),d4,d5,tL (Fu.map nat),some (o7,.int (a:Int)),c8,c9]=
  ag (.nx [d0,d1,d2,tD (bg W'),d4,d5,tL ((Fu++N).map nat),some (o7,.int (a:Int)),wX,jX])/\A5 n h vw first W'/\kW W'=kW W++N/\∀s∈S,s.2∈kW W'
 | [],W,Fu,c8,c9,_,o,_,_=>⟨W,[],c8,c9,by rw[Xu];rfl,o,by rw[Xu],λs hs=>by cases hs⟩
 | s :: S,W,Fu,c8,c9,hS,o,ha,hF=>by
  obtain⟨s1,s2,s3⟩:=hS s K8
  have hK:=Dr W s.2
  have hk:=kT s.2 W
  have OU:=o.len
  have hs:jy [8,9] (cA .base (.tuple [.int ((s.1:Nat):Int),.int ((s.2:Nat):Int)])) (.tuple [.int ((s.1:Nat):Int),.int ((s.2:Nat):Int)]) [d0,d1,d2,tD (bg W),d4,d5,tL (Fu.map nat),some (o7,.int (a:Int)),c8,c9]=some [d0,d1,d2,tD (bg W),d4,d5,tL (Fu.map nat),some (o7,.int (a:Int)),tN s.1,tN s.2]:=rfl
  show∃(W':Wy) (N:List Nat) (wX jX:Sl),aW (jy [8,9]) bH (.tuple [.int ((s.1:Nat):Int),.int ((s.2:Nat):Int)] :: qy S) _=_/\_
  by_cases hin:s.2∈kW W
  ·obtain⟨W',N,wX,jX,e,r1,r2,r3⟩:=Ds d0 d1 d2 d4 d5 hn o7 S W Fu (tN s.1) (tN s.2) (λt ht=>hS t (K9 _ ht)) o ha hF
   refine⟨W',N,wX,jX,?_,r1,r2,λt ht=> ?_⟩
   ·rw[JV hin] at hk
    have hb:bH [d0,d1,d2,tD (bg W),d4,d5,tL (Fu.map nat),some (o7,.int (a:Int)),tN s.1,tN s.2]=ag (.nx [d0,d1,d2,tD (bg W),d4,d5,tL (Fu.map nat),some (o7,.int (a:Int)),tN s.1,tN s.2]):=by
     simp(disch:=omega) only[bH,rn,reduceIte,e7,hK,hk]
    rw[aW,hs,bt,ar,hb,ar];exact e
   ·rcases K0.mp ht with rfl | ht
    ·rw[r2];exact KZ _ hin
    ·exact r3 t ht
  ·have o2:A5 n h vw first (W++[(s.2,some (s.1,a))]):=.snoc o ha hin s2 s1 s3
   have k2:kW (W++[(s.2,some (s.1,a))])=kW W++[s.2]:=uE _ _
   obtain⟨W',N,wX,jX,e,r1,r2,r3⟩:=Ds d0 d1 d2 d4 d5 hn o7 S (W++[(s.2,some (s.1,a))]) (Fu++[s.2]) (tN s.1) (tN s.2) (λt ht=>hS t (K9 _ ht)) o2 (by rw[k2];exact KZ _ ha) (by simp only[K2,X5];omega)
   rw[k2] at r2
   refine⟨W',s.2 :: N,wX,jX,?_,r1,by rw[r2,X7];rfl,λt ht=> ?_⟩
   ·rw[JQ hin] at hk
    have hwl:(bg W).length < sizeLine:=Xv (show _<=1000 by unfold bg;rw[K4];omega) (by decide)
    have hfl:Fu.length < sizeLine:=Xv (show _<=1000 by omega) (by decide)
    have nv:=nk W
    have nt:aq [PyData.int ((s.1:Nat):Int),.int (a:Int)]=true:=rfl
    have ep:putK (bg W) (.int ((s.2:Nat):Int)) (.tuple [.int ((s.1:Nat):Int),.int (a:Int)])=bg (W++[(s.2,some (s.1,a))]):=by
     unfold putK;rw[hk,JZ K5];unfold bg;rw[X0];rfl
    have ef:Fu.map nat++[.int ((s.2:Nat):Int)]=(Fu++[s.2]).map nat:=by rw[X0];rfl
    have hb:bH [d0,d1,d2,tD (bg W),d4,d5,tL (Fu.map nat),some (o7,.int (a:Int)),tN s.1,tN s.2]=ag (.nx [d0,d1,d2,tD (bg (W++[(s.2,some (s.1,a))])),d4,d5,tL ((Fu++[s.2]).map nat),some (o7,.int (a:Int)),tN s.1,tN s.2]):=by
     simp(disch:=omega) only[bH,rn,reduceIte,e7,hK,hk,rh,oT,au nt,nt,nv,hwl,hfl,and_self,ep,ef]
    rw[aW,hs,bt,ar,hb,ar]
    rw[show Fu++s.2 :: N=Fu++[s.2]++N by rw[X7];rfl]
    exact e
   ·rcases K0.mp ht with rfl | ht
    ·rw[r2];exact KZ _ (Kx _ (K7.mpr rfl))
    ·exact r3 t ht
structure BI (n h:Nat)(vw:Nat->Nat->Z4)(first:Nat)(W:Wy)(V:List Z4)(R Fu:List Nat):Prop where
 o:A5 n h vw first W
 v:IG V
 l:V.length+h*(R.length+Fu.length)<=h*W.length
 f:Fu.length<=W.length
 a:∀x∈V,∀i k,i < n->k < h->vw i k=x->i∈kW W
 b:∀i∈kW W,i∈R∨i∈Fu∨∀k,k < h->vw i k∈V
 c:∀i,i∈R∨i∈Fu->i∈kW W
theorem Gj {n h:Nat}{vw:Nat->Nat->Z4}{first:Nat}{G:Gp}(gr:DC n h vw G)(hh:h<=4)(hp:∀i k,pl (vw i k)=true/\da (vw i k)=true/\bj (vw i k)=true)(hn:n<=1000)(d2 d5:Sl):∀(R:List Nat) (W:Wy) (V:List Z4) (Fu:List Nat) (c7 c8 c9:Sl),BI n h vw first W V R Fu->
  ∃(W':Wy) (V':List Z4) (FA:List Nat) (eU wX jX:Sl),aW (bY 7) cN (R.map nat) [fL ((List.range n).map λi=> .list ((!2).map (vw i))),fD (aG G),d2,tD (bg W),tD (encV V),d5,tL (Fu.map nat),c7,c8,c9]=
  ag (.nx [fL ((List.range n).map λi=> .list ((!2).map (vw i))),fD (aG G),d2,tD (bg W'),tD (encV V'),d5,tL (FA.map nat),eU,wX,jX])/\BI n h vw first W' V' [] FA/\W'.length+Fu.length=W.length+FA.length
 | [],W,V,Fu,c7,c8,c9,bi=>⟨W,V,Fu,c7,c8,c9,rfl,bi,rfl⟩
 | a :: R,W,V,Fu,c7,c8,c9,bi=>by
  have LH:=bi.c a (.inl K8)
  have han:=(bi.o.nd.2.1 a LH).1
  have OU:=bi.o.len
  have hVl:V.length<=10000:=by
   have h1:=bi.l
   have h2:h*W.length<=4*1000:=YZ hh (!1)
   omega
  obtain⟨V',S,e1,si⟩:=Dq gr hh hp a han V bi.v hVl
  obtain⟨W',N,wX,jX,e2,r1,r2,r3⟩:=Ds (fL ((List.range n).map λi=> .list ((!2).map (vw i)))) (fD (aG G)) d2 (tD (encV V')) d5 hn true S W Fu c8 c9 si.s bi.o LH bi.f
  have wl:W'.length=W.length+N.length:=by
   have:=congrArg List.length r2
   unfold kW at this
   rw[K2,K4,K4] at this;exact this
  have OV:BI n h vw first W' V' R (Fu++N):=by
   refine⟨r1,si.v,?_,by rw[K2,wl];have:=bi.f;omega,λx hx i k hi hk ev=> ?_,λi hi=> ?_,λi hi=> ?_⟩
   ·have h1:=bi.l
    have h2:=si.l
    rw[Kz] at h1
    rw[K2,wl]
    have e1:h*(R.length+1+Fu.length)=h*R.length+h+h*Fu.length:=by rw[Nat.mul_add,Nat.mul_add,Nat.mul_one]
    have e2:h*(R.length+(Fu.length+N.length))=h*R.length+(h*Fu.length+h*N.length):=by rw[Nat.mul_add,Nat.mul_add]
    have e3:h*(W.length+N.length)=h*W.length+h*N.length:=Nat.mul_add ..
    rw[e1] at h1
    rw[e2,e3]
    omega
   ·have old:∀i,i∈kW W->i∈kW W':=λi hi=>by rw[r2];exact KZ _ hi
    rcases si.no x hx with z | ⟨k',z1,z2⟩
    ·exact old i (bi.a x z i k hi hk ev)
    ·have:k=k':=gr.hand _ _ _ _ (ev.trans z2)
     subst this
     rcases si.c k z1 with z | z
     ·exact old i (bi.a _ z i k hi hk (ev.trans z2))
     ·obtain⟨k',hk'⟩:=z i hi (ev.trans z2)
      exact r3 _ hk'
   ·rw[r2] at hi
    rcases Kk.mp hi with z | z
    ·rcases bi.b i z with z | z | z
     ·rcases K0.mp z with rfl | z
      ·exact .inr (.inr si.dn)
      ·exact .inl z
     ·exact .inr (.inl (KZ _ z))
     ·exact .inr (.inr λk hk=>si.up _ (z k hk))
    ·exact .inr (.inl (Kx _ z))
   ·rw[r2]
    rcases hi with z | z
    ·exact KZ _ (bi.c i (.inl (K9 _ z)))
    ·rcases Kk.mp z with z | z
     ·exact KZ _ (bi.c i (.inr z))
     ·exact Kx _ z
  obtain⟨M5,M6,M7,yk,IJ,Df,e,q1,q2⟩:=Gj gr hh hp hn d2 d5 R W' V' (Fu++N) (tN a) wX jX OV
  refine⟨M5,M6,M7,yk,IJ,Df,?_,q1,by rw[K2] at q2;omega⟩
  have ea:mP ((List.range n).map λi=>PyData.list ((!2).map (vw i))) (a:Int)=some (.list ((!2).map (vw a))):=iI (by rw[KW,Y7 han];rfl)
  have hx:kF j0 (eV 0) (eV 7) [fL ((List.range n).map λi=> .list ((!2).map (vw i))),fD (aG G),d2,tD (bg W),tD (encV V),d5,tL (Fu.map nat),tN a,c8,c9]=ag (.base,.list ((!2).map (vw a))):=by
   simp(disch:=omega) only[rn,reduceIte,ea]
  have hb:cN [fL ((List.range n).map λi=> .list ((!2).map (vw i))),fD (aG G),d2,tD (bg W),tD (encV V),d5,tL (Fu.map nat),tN a,c8,c9]=
    aW (jy [8,9]) bH (qy S) [fL ((List.range n).map λi=> .list ((!2).map (vw i))),fD (aG G),d2,tD (bg W),tD (encV V'),d5,tL (Fu.map nat),tN a,c8,c9]:=by
   unfold cN y6
   show(ap _ λx=>ap (ag (Kd.base,PyData.dict (aG G))) λy=>_)=_
   rw[hx]
   simp only[ar,e1,lB,and_self,if_true]
   rfl
  show aW (bY 7) cN (.int (a:Int) :: R.map nat) _=_
  rw[aW,show bY 7 (cA .base (.int (a:Int))) (.int (a:Int)) [fL ((List.range n).map λi=> .list ((!2).map (vw i))),fD (aG G),d2,tD (bg W),tD (encV V),d5,tL (Fu.map nat),c7,c8,c9]=some [fL ((List.range n).map λi=> .list ((!2).map (vw i))),fD (aG G),d2,tD (bg W),tD (encV V),d5,tL (Fu.map nat),tN a,c8,c9] from rfl,bt,ar,hb,e2,ar]
  exact e
def eQ (n h:Nat)(vw:Nat->Nat->Z4):List Z4:=(List.range n).map λi=> .list ((!2).map (vw i))
theorem Ld {n h:Nat}{vw:Nat->Nat->Z4}{first:Nat}{G:Gp}(gr:DC n h vw G)(hh:h<=4)(hp:∀i k,pl (vw i k)=true/\da (vw i k)=true/\bj (vw i k)=true)(hn:n<=1000)(d2:Sl):∀(m fuel:Nat) (W:Wy) (V:List Z4) (R:List Nat) (c6 c7 c8 c9:Sl),BI n h vw first W V R []->n < W.length+m->m+1<=fuel->
  ∃(W':Wy) (V':List Z4) (j4 eU wX jX:Sl),eM fuel fZ dX [fL (eQ n h vw),fD (aG G),d2,tD (bg W),tD (encV V),tL (R.map nat),c6,c7,c8,c9]=
  ag (.nx [fL (eQ n h vw),fD (aG G),d2,tD (bg W'),tD (encV V'),tL [],j4,eU,wX,jX])/\BI n h vw first W' V' [] []:=by
 intro m
 induction m with
 | zero=>
  intro fuel W V R c6 c7 c8 c9 bi hm hf
  have:=bi.o.len
  omega
 | succ m ih=>
  intro fuel W V R c6 c7 c8 c9 bi hm hf
  obtain⟨fuel,rfl⟩:∃k,fuel=k+2:=⟨fuel - 2,by omega⟩
  cases R with
  | nil=>exact⟨W,V,c6,c7,c8,c9,by rw[qw rfl];rfl,bi⟩
  | cons a R=>
   obtain⟨W',V',FA,eU,wX,jX,e,q1,q2⟩:=Gj gr hh hp hn d2 (fL ((a :: R).map nat)) (a :: R) W V [] c7 c8 c9 bi
   have hb:dX [fL (eQ n h vw),fD (aG G),d2,tD (bg W),tD (encV V),tL ((a :: R).map nat),c6,c7,c8,c9]=ag (.nx [fL (eQ n h vw),fD (aG G),d2,tD (bg W'),tD (encV V'),tL (FA.map nat),none,eU,wX,jX]):=by
    unfold dX
    rw[aC (show(aE 6 (cm [])) _=ag (.nx [fL (eQ n h vw),fD (aG G),d2,tD (bg W),tD (encV V),tL ((a :: R).map nat),tL ([].map nat),c7,c8,c9]) from rfl)]
    rw[aC (show(bx (ny (eV 5)) (bY 7) cN) [fL (eQ n h vw),fD (aG G),d2,tD (bg W),tD (encV V),tL ((a :: R).map nat),tL ([].map nat),c7,c8,c9]=_ from e)]
    rfl
   have hc:fZ [fL (eQ n h vw),fD (aG G),d2,tD (bg W),tD (encV V),tL ((a :: R).map nat),c6,c7,c8,c9]=ag true:=by
    have hd:decide ((0:Int) < (((a :: R).map nat).length:Nat))=true:=JV (by rw[K4,Kz];omega)
    show ag (decide ((0:Int) < (((a :: R).map nat).length:Nat)))=_
    rw[hd]
   rw[UJ] at q2
   have NN:BI n h vw first W' V' FA []:=⟨q1.o,q1.v,by have:=q1.l;rw[UJ] at this⊢;rw[Nat.add_zero];rw[Nat.zero_add] at this;exact this,by simp,q1.a,λi hi=>(q1.b i hi).elim (λz=>by cases z) λz=>z.elim .inl λz=> .inr (.inr z),λi hi=>hi.elim (λz=>q1.c i (.inr z)) λz=>by cases z⟩
   cases FA with
   | nil=>exact⟨W',V',none,eU,wX,jX,by rw[mK hc hb,qw rfl];rfl,NN⟩
   | cons b FA=>
    rw[Kz] at q2
    obtain⟨M5,M6,yj,yk,IJ,Df,e',r⟩:=ih (fuel+1) W' V' (b :: FA) none eU wX jX NN (!1) (!1)
    exact⟨M5,M6,yj,yk,IJ,Df,by rw[mK hc hb];exact e',r⟩
theorem FC {n h:Nat}{vw:Nat->Nat->Z4}{first:Nat}{G:Gp}(gr:DC n h vw G)(hh:h<=4)(hp:∀i k,pl (vw i k)=true/\da (vw i k)=true/\bj (vw i k)=true)(hn:n<=1000)(hf:first < n) :
  ∃W:Wy,ko [.list (eQ n h vw),.dict (aG G),.int (first:Int)]=ag (true,.dict (bg W))/\A5 n h vw first W/\∀i,i < n->(i∈kW W↔Cn n h vw first i):=by
 have OW:BI n h vw first [(first,none)] [] [first] []:=⟨.one hf,(λx hx=>by cases hx),by simp,by simp,(λx hx=>by cases hx),λi hi=> .inl hi,λi hi=>hi.elim id λz=>by cases z⟩
 obtain⟨W,V,c6,c7,c8,c9,e,bi⟩:=Ld gr hh hp hn (fN first) 1000 uS [(first,none)] [] [first] none none none none OW (by rw[X5];omega) (by decide)
 refine⟨W,?_,bi.o,λi hi=>⟨λz=>(bi.o.nd.2.1 i z).2,λz=> ?_⟩⟩
 ·refine gk ?_
  unfold kn
  rw[aC (show(aE 3 (uW (eV 2) (eC .none))) (cP 10 [.list (eQ n h vw),.dict (aG G),.int (first:Int)])=ag (.nx [fL (eQ n h vw),fD (aG G),fN first,tD (bg [(first,none)]),none,none,none,none,none,none]) from rfl)]
  rw[aC (show(aE 4 lO) _=ag (.nx [fL (eQ n h vw),fD (aG G),fN first,tD (bg [(first,none)]),tD (encV []),none,none,none,none,none]) from rfl)]
  rw[aC (show(aE 5 (cm [(eV 2)])) _=ag (.nx [fL (eQ n h vw),fD (aG G),fN first,tD (bg [(first,none)]),tD (encV []),tL ([first].map nat),none,none,none,none]) from rfl)]
  rw[aC (show(oS uS fZ dX) [fL (eQ n h vw),fD (aG G),fN first,tD (bg [(first,none)]),tD (encV []),tL ([first].map nat),none,none,none,none]=_ from e)]
  rfl
 ·have hcl:∀a b k,a < n->b < n->k < h->vw a k=vw b k->a∈kW W->b∈kW W:=λa b k ha hb hk ev LH=>by
   rcases bi.b a LH with z | z | z
   ·cases z
   ·cases z
   ·exact bi.a _ (z k hk) b k hb hk ev.symm
  exact(z.closed (λa=>a∈kW W) hcl).mp bi.o.nd.2.2
theorem FD (h:Nat)(L:List Rn):dy h L=eQ L.length h (vw L):=by
 unfold dy eQ
 refine J1 (by simp) λi h1 h2=> ?_
 have hi:i < L.length:=by rw[K4] at h1;exact h1
 simp only[J3,List.getElem_range]
 unfold mL vw
 rw[X6,K3 hi];rfl
theorem M8 (L:List Rn)(i k:Nat):pl (vw L i k)=true/\da (vw L i k)=true/\bj (vw L i k)=true:=⟨ut _ _ _,kS _ _ _,mH _ _ _⟩
theorem qA:∀(W P:Wy),(kW W).Nodup->(∀i∈kW W,i∉kW P)->k9 (bg P) (bg W)=bg (P++W)
 | [],P,_,_=>by rw[Xu];rfl
 | e :: W,P,nd,hd=>by
  obtain⟨n1,n2⟩:=KU.mp (show(e.1 :: kW W).Nodup from nd)
  have hk:=kT e.1 P
  rw[JQ (hd e.1 K8)] at hk
  have ep:putK (bg P) (.int ((e.1:Nat):Int)) (Fy e.2)=bg (P++[e]):=by
   unfold putK;rw[hk,JZ K5];unfold bg;rw[X0];rfl
  show k9 (putK (bg P) (.int ((e.1:Nat):Int)) (Fy e.2)) (bg W)=_
  rw[ep,qA W (P++[e]) n2 λi hi=> ?_,X7]
  ·rfl
  ·rw[uE,Kk,K7]
   rintro(z | z)
   ·exact hd i (K9 _ hi) z
   ·exact n1 (z ▸ hi)
theorem AX (W:Wy):((bg W).map λp=>E7 p.1)=(kW W).map λ(i:Nat)=>(i:Int):=by
 unfold bg kW;rw[KQ,KQ];rfl
theorem FE {n:Nat}{f:Nat->Nat}{a:Nat}{W:Wy}(nd:(kW W).Nodup)(hm:∀i,i∈kW W↔i < n/\f i=a):pV [.dict (bg W)]=some (.list ((lot n f a).map nat)):=by
 rw[pV,JW (kU W),AX]
 have nl:(lot n f a).Nodup:=List.nodup_range.filter _
 have p1:(kW W).Perm (lot n f a):=(List.perm_ext_iff_of_nodup nd nl).mpr λi=>by
  rw[hm i];unfold lot;rw[UY,Xy,JU]
 have asc:((lot n f a).map λ(i:Nat)=>(i:Int)).Pairwise (· <= ·):=by
  refine List.pairwise_map.mpr ?_
  have:(List.range n).Pairwise (λ(x y:Nat)=>(x:Int)<=(y:Int)):=List.pairwise_lt_range.imp λh=>by omega
  exact this.sublist List.filter_sublist
 have e:=PySem.W.ksm_same ((Ts.jr ((kW W).map λ(i:Nat)=>(i:Int))).trans (p1.map _)) (Ts.pU _) asc
 rw[e,KQ];rfl
section
variable {h:Nat}{L:List Rn}(hh:h<=4)(hl:L.length<=200){f:Nat->Nat}(hf:∀i,i < L.length->f i<=i/\f (f i)=f i)(hc:∀i j,i < L.length->j < L.length->(f i=f j↔Cn L.length h (vw L) i j))
include hh hl hf hc
theorem FG (G:Gp)(gr:DC L.length h (vw L) G)(i:Nat)(hi:i < L.length)(P:Wy)(nd:(kW P).Nodup)(hP:∀j,j∈kW P↔j < L.length/\f j < i)(c5:Sl) :
  ∃(P':Wy) (mR:Sl),bK [fL (dy h L),tD (aG G),tD (bg P),tL (lots L.length f i),tN i,c5]=ag (.nx [fL (dy h L),tD (aG G),tD (bg P'),tL (lots L.length f (i+1)),tN i,mR])/\(kW P').Nodup/\∀j,j∈kW P'↔j < L.length/\f j < i+1:=by
 have hfi:=hf i hi
 have hK:=Dr P i
 have hk:=kT i P
 rw[sH]
 by_cases e:f i=i
 ·have hn:i∉kW P:=λz=>by have:=((hP i).mp z).2;omega
  rw[JQ hn] at hk
  obtain⟨W,ew,o,hW⟩:=FC (first:=i) gr hh (M8 L) (!1) hi
  rw[←FD] at ew
  have nW:=o.nd
  have hm:∀j,j∈kW W↔j < L.length/\f j=i:=λj=>by
   constructor
   ·intro z
    have hj:=(nW.2.1 j z).1
    exact⟨hj,((hc i j hi hj).mpr ((hW j hj).mp z)).symm.trans e⟩
   ·rintro⟨hj,ej⟩
    exact(hW j hj).mpr ((hc i j hi hj).mp (by rw[e,ej]))
  have es:=FE nW.1 hm
  have lP:P.length<=L.length:=by
   have:=qz L.length (kW P) nd λj hj=>((hP j).mp hj).1
   unfold kW at this;rw[K4] at this;exact this
  have lW:=o.len
  have eu:uX 2 (.fr [5]) (bg P) (.dict (bg W))=some (bg (P++W)):=by
   have hsz:(bg P).length+(bg W).length<=sizeLine:=KY (show _<=1000 by unfold bg;rw[K4,K4];omega) (by decide)
   rw[uX,JW ⟨rfl,.inr ⟨kU P,kU W⟩,nk P,nk W,hsz⟩,qA W P nW.1 λj hj z=> ?_]
   have:=((hP j).mp z).2
   have:=((hm j).mp hj).2
   omega
  have hz:(lots L.length f i).length < sizeLine:=Xv (KY (wW _ _ _) (show i<=1000 by omega)) (by decide)
  refine⟨P++W,tD (bg W),?_,?_,λj=> ?_⟩
  ·rw[JW e]
   simp(disch:=omega) only[bK,rn,reduceIte,e7,hK,hk,ew,rg,eu,es,hz]
  ·unfold kW;rw[X0]
   exact Xj.mpr ⟨nd,nW.1,λa ha b hb z=>by
    subst z
    have:=((hP a).mp ha).2
    have:=((hm a).mp hb).2
    omega⟩
  ·unfold kW;rw[X0,Kk]
   rw[show j∈P.map (·.1)↔_ from hP j,show j∈W.map (·.1)↔_ from hm j]
   constructor
   ·rintro(z | z)
    ·exact⟨z.1,by omega⟩
    ·exact⟨z.1,by omega⟩
   ·rintro⟨z1,z2⟩
    by_cases hj:f j=i
    ·exact .inr ⟨z1,hj⟩
    ·exact .inl ⟨z1,by omega⟩
 ·have hn:i∈kW P:=(hP i).mpr ⟨hi,by omega⟩
  rw[JV hn] at hk
  refine⟨P,c5,?_,nd,λj=> ?_⟩
  ·rw[JZ e,Xu]
   simp(disch:=omega) only[bK,rn,reduceIte,e7,hK,hk]
  ·rw[hP j]
   constructor
   ·rintro⟨z1,z2⟩;exact⟨z1,by omega⟩
   ·rintro⟨z1,z2⟩
    refine⟨z1,?_⟩
    by_cases hj:f j=i
    ·have:=(hf j z1).2
     rw[hj] at this;exact absurd this e
    ·omega
theorem AY:iA [.list (dy h L)]=ag (true,.list (lots L.length f L.length)):=by
 have hb:L.length*h<=1000:=KY (YZ hl hh) (by decide)
 have gr:=Di (h:=h) L hb
 have eg:=AT (h:=h) (L:=L) hb
 have sl:(dy h L).length=L.length:=K4 _
 generalize oe h 0 L []=G at gr eg
 obtain⟨Γ',k1,P,c4,c5,rfl,_,_⟩:=bn (g:=bY 4) (b:=bK) (ds:=(List.range L.length).map λ(i:Nat)=>PyData.int (i:Int)) (Γ:=[fL (dy h L),tD (aG G),tD (bg []),tL [],none,none])
  (λi Γ=>∃(P:Wy) (c4 c5:Sl),Γ=[fL (dy h L),tD (aG G),tD (bg P),tL (lots L.length f i),c4,c5]/\(kW P).Nodup/\∀j,j∈kW P↔j < L.length/\f j < i) ⟨[],none,none,rfl,by simp[kW],λj=>by simp[kW]⟩ (by
  rintro i d Γ hd ⟨P,c4,c5,rfl,nd,hP⟩
  obtain⟨rfl,hi⟩:=bR hd
  obtain⟨P',mR,e,q1,q2⟩:=FG hh hl hf hc G gr i hi P nd hP c5
  exact⟨_,_,rfl,.inl e,P',_,mR,rfl,q1,q2⟩)
 rw[K4,X8] at k1
 have s1:(aE 1 (aJ fx [(eV 0)])) (cP 6 [.list (dy h L)])=ag (.nx [fL (dy h L),tD (aG G),none,none,none,none]):=by
  simp(disch:=omega) only[rn,reduceIte,eg]
 have s4:(bx (eK (iF hX [(eV 0)])) (bY 4) bK) [fL (dy h L),tD (aG G),tD (bg []),tL [],none,none]=ag (.nx [fL (dy h L),tD (aG G),tD (bg P),tL (lots L.length f L.length),c4,c5]):=by
  simp(disch:=omega) only[rn,reduceIte,sl,Ku,k1]
 refine gk ?_
 unfold iz
 rw[aC s1]
 rw[aC (show(aE 2 lO) _=ag (.nx [fL (dy h L),tD (aG G),tD (bg []),none,none,none]) from rfl)]
 rw[aC (show(aE 3 (cm [])) _=ag (.nx [fL (dy h L),tD (aG G),tD (bg []),tL [],none,none]) from rfl)]
 rw[aC s4]
 rfl
end
theorem Dt (d0 d1 d2:Sl):∀(l:List Nat) (c3:Sl),∃A4:Sl,aW (bY 3) dv (l.map nat) [d0,d1,d2,c3]=ag (.nx [d0,d1,d2,A4])
 | [],c3=>⟨c3,rfl⟩
 | i :: l,c3=>by
  obtain⟨A4,ih⟩:=Dt d0 d1 d2 l (tN i)
  refine⟨A4,?_⟩
  have hb:dv [d0,d1,d2,tN i]=ag (.nx [d0,d1,d2,tN i]):=by
   simp(disch:=omega) only[dv,rn,reduceIte,AK]
  show aW (bY 3) dv (.int (i:Int) :: l.map nat) _=_
  rw[aW,show bY 3 (cA .base (.int (i:Int))) (.int (i:Int)) [d0,d1,d2,c3]=some [d0,d1,d2,tN i] from rfl,bt,ar,hb,ar]
  exact ih
theorem Du (d0 d1:Sl):∀(ls:List (List Nat)) (c2 c3:Sl),∃c2' A4:Sl,aW (bY 2) cw (ls.map λl=> .list (l.map nat)) [d0,d1,c2,c3]=ag (.nx [d0,d1,c2',A4])
 | [],c2,c3=>⟨c2,c3,rfl⟩
 | l :: ls,c2,c3=>by
  obtain⟨A4,e⟩:=Dt d0 d1 (fL (l.map nat)) l c3
  obtain⟨Iz,Dl,ih⟩:=Du d0 d1 ls (fL (l.map nat)) A4
  refine⟨Iz,Dl,?_⟩
  have hb:cw [d0,d1,fL (l.map nat),c3]=ag (.nx [d0,d1,fL (l.map nat),A4]):=by
   unfold cw
   rw[aC (show(ja (lN (tE (uR "list" (eV 2)))) (bZ (eC (.bool false))) cB) [d0,d1,fL (l.map nat),c3]=ag (.nx [d0,d1,fL (l.map nat),c3]) from rfl)]
   exact e
  show aW (bY 2) cw (.list (l.map nat) :: ls.map λl=> .list (l.map nat)) _=_
  rw[aW,show bY 2 (cA .base (.list (l.map nat))) (.list (l.map nat)) [d0,d1,c2,c3]=some [d0,d1,fL (l.map nat),c3] from rfl,bt,ar,hb,ar]
  exact ih
theorem AZ (n:Nat)(f:Nat->Nat):∃ls:List (List Nat),lots n f n=ls.map λl=> .list (l.map nat):=⟨((List.range n).filter λa=>decide (f a=a)).map (lot n f),by unfold lots;rw[KQ];rfl⟩
theorem qB (n:Nat)(f:Nat->Nat):lay 60 (.list (lots n f n))=true:=by
 rw[lay];unfold lots
 exact j7 _ (λa=>by rw[lay];exact j7 _ (λ_=>rfl) _) _
theorem zy (n:Nat)(f:Nat->Nat):uQ (.list (lots n f n)) (.list (lots n f n))=some (.bool true):=by
 rw[KD (qB n f) (qB n f),mJ 60 _ (qB n f)]
theorem Dv (n:Nat)(f:Nat->Nat):gT [.list (lots n f n),.list (lots n f n)]=ag (true,.bool true):=by
 obtain⟨ls,el⟩:=AZ n f
 obtain⟨c2,c3,e⟩:=Du (fL (lots n f n)) (fL (lots n f n)) ls none none
 rw[←el] at e
 have s1:(ja (zL (lN (tE (uR "list" (eV 0)))) (tE (bp zM (iF hX [(eV 0)]) (iF hX [(eV 1)])))) (bZ (eC (.bool false))) cB) (cP 4 [.list (lots n f n),.list (lots n f n)])=ag (.nx [fL (lots n f n),fL (lots n f n),none,none]):=by
  simp(disch:=omega) only[rn,jd,mU,bO,reduceCtorEq,reduceIte,String.reduceBEq]
 have s2:(bx (ny (eV 0)) (bY 2) cw) [fL (lots n f n),fL (lots n f n),none,none]=ag (.nx [fL (lots n f n),fL (lots n f n),c2,c3]):=e
 have ge:=zy n f
 refine gk ?_
 unfold jR
 rw[aC s1,aC s2]
 simp(disch:=omega) only[rn,reduceIte,ge]
theorem Dw {n:Nat}{f:Nat->Nat}(hn:0 < n)(hf:∀i,i < n->f i<=i/\f (f i)=f i):∃ys,o8 (lots n f n) (.int 0)=some (0,ys):=by
 have h0:f 0=0:=Nat.le_zero.mp (hf 0 hn).1
 have hm:0∈(List.range n).filter λa=>decide (f a=a):=UY.mpr ⟨Xy.mpr hn,JV h0⟩
 unfold lots
 cases e:(List.range n).filter λa=>decide (f a=a) with
 | nil=>rw[e] at hm;cases hm
 | cons a l=>
  refine⟨(lot n f a).map nat,?_⟩
  rw[KJ]
  have hz:Y.nu ((l.map λa=>PyData.list ((lot n f a).map nat)).length+1) 0=some 0:=oF (i:=0) (!1)
  unfold o8
  dsimp only
  rw[Kz,hz]
  show(if aq ((lot n f a).map nat)=true then some (0,(lot n f a).map nat) else none)=_
  rw[aT _ (λ_=>rfl) _];rfl
theorem hd0 (ws ss:List Z4):mP [PyData.list ws,.list ss] 0=some (.list ws):=rfl
theorem hd1 (ws ss:List Z4):mP [PyData.list ws,.list ss] 1=some (.list ss):=rfl
def lT:TF:=zL (lN (tE (aJ gT [(eV 8),(eV 6)]))) (tE (bp zM (eV 7) (cm [(eV 2),(eV 4)])))
def lP:EF:=aJ kQ [(eV 1),(kF j0 (eV 7) (eC (.int 0))),(eV 3),(kF j0 (eV 7) (eC (.int 1)))]
theorem IL:CF=aB (zQ (jy [1,2,3,4]) (aJ dk [(eV 0)])) (aB (aE 5 (aJ gz [(eV 2),(eV 3),(eV 4)])) (aB (aE 6 (aJ fw [(iF hX [(eV 5)]),(aJ d_ [(eV 1),(eV 5)])]))
 (aB (aE 7 (cm [(iF j8 [(eV 2)]),(iF j8 [(eV 4)])])) (aB (aE 8 lP) (aB (ja lT (bZ (eC (.bool false))) cB) (aB (m7 8 (eC (.int 0))) (bZ (bp uQ lP (eV 6))))))))):=rfl
theorem main (ns:List Int)(hns:ns.length<=63):∃o,p7 [.list (!5)]=some (.ok (o,.bool true)):=by
 obtain⟨h,ws,ss,k,h2,h4,gw,iw,hw1,hw,gs,is,hs1,hs,hk,ec⟩:=Fq ns
 have hp:ws.length^k<=27:=KY (Nat.pow_le_pow_left hw k) (KY (Nat.pow_le_pow_right (by decide) hk) (by decide))
 have hp1:1<=ws.length^k:=Nat.pow_pos hw1
 have hN:ss.length*ws.length^k<=162:=KY (YZ hs hp) (by decide)
 have O7:0 < ss.length*ws.length^k:=Nat.mul_pos hs1 hp1
 obtain⟨L,eL,lL,rL⟩:=sC iw is hw1 (!1) (List.range (ss.length*ws.length^k)) (λN hN=>Xy.mp hN)
 rw[X8] at lL
 have eL:wC ws ss k=L.map iD:=eL
 have rr:IX h L:=λp hp=>(rL p hp).1
 have hl:L.length<=200:=by omega
 have hb:L.length*h<=1000:=KY (YZ hl h4) (by decide)
 have er:=ym ws ss k gw gs hw1 hw hk hs
 rw[eL] at er
 have eg:=uC h4 rr hb
 obtain⟨f,ep,hf,hcn⟩:=Dp (show L.length<=900 by omega) (Di (h:=h) L hb)
 have ej:=AY h4 hl hf hcn
 have ea:=Ir ws ss k gw gs hw1 (!1) (!1) (!1) (!1)
 rw[eL] at ea
 have ev:=wR h4 rr (!1)
 have eP:kQ [.int (h:Int),.list ws,.int (k:Int),.list ss]=ag (true,.list (lots L.length f L.length)):=by
  simp(disch:=omega) only[kQ,t7,rn,reduceIte,ea,ev,ej]
 have eA:=Dv L.length f
 have ge:=zy L.length f
 obtain⟨ys,eb⟩:=Dw (n:=L.length) (f:=f) (!1) hf
 obtain⟨s0,hs0⟩:∃s0,s0=PyData.list (!5):=⟨_,rfl⟩
 have hn0:cA (.base) s0= .base:=by rw[hs0];rfl
 rw[←hs0] at ec⊢
 have nT:bj (.tuple [.int (h:Int),.list ws,.int (k:Int),.list ss])=false:=by rw[cD];simp only[aq,mf,YQ,Bool.and_false]
 have OX:aJ dk [(eV 0)] (cP 9 [s0])=ag (.any,.tuple [.int (h:Int),.list ws,.int (k:Int),.list ss]):=by
  simp(disch:=omega) only[rn,reduceIte,hn0,ec,vG nT]
 have s1:(zQ (jy [1,2,3,4]) (aJ dk [(eV 0)])) (cP 9 [s0])=ag (.nx [fA s0,fN h,fL ws,fN k,fL ss,none,none,none,none]):=by
  unfold zQ;rw[OX];rfl
 have s2:(aE 5 (aJ gz [(eV 2),(eV 3),(eV 4)])) [fA s0,fN h,fL ws,fN k,fL ss,none,none,none,none]=ag (.nx [fA s0,fN h,fL ws,fN k,fL ss,tL (L.map iD),none,none,none]):=by
  simp(disch:=omega) only[rn,reduceIte,er]
 have s3:(aE 6 (aJ fw [(iF hX [(eV 5)]),(aJ d_ [(eV 1),(eV 5)])])) [fA s0,fN h,fL ws,fN k,fL ss,tL (L.map iD),none,none,none]=ag (.nx [fA s0,fN h,fL ws,fN k,fL ss,tL (L.map iD),tL (lots L.length f L.length),none,none]):=by
  simp(disch:=omega) only[rn,reduceIte,eg,ep]
 have s5:(aE 7 (cm [(iF j8 [(eV 2)]),(iF j8 [(eV 4)])])) [fA s0,fN h,fL ws,fN k,fL ss,tL (L.map iD),tL (lots L.length f L.length),none,none]=ag (.nx [fA s0,fN h,fL ws,fN k,fL ss,tL (L.map iD),tL (lots L.length f L.length),tL [.list ws,.list ss],none]):=by
  simp(disch:=omega) only[rn,reduceIte,lD gw.n,lD gs.n]
 have eF:∀c8:Sl,lP [fA s0,fN h,fL ws,fN k,fL ss,tL (L.map iD),tL (lots L.length f L.length),tL [.list ws,.list ss],c8]=ag (.fr [],.list (lots L.length f L.length)):=λc8=>by
  simp(disch:=omega) only[lP,rn,reduceIte,hd0,hd1,eP]
 have s6:(aE 8 lP) [fA s0,fN h,fL ws,fN k,fL ss,tL (L.map iD),tL (lots L.length f L.length),tL [.list ws,.list ss],none]=ag (.nx [fA s0,fN h,fL ws,fN k,fL ss,tL (L.map iD),tL (lots L.length f L.length),tL [.list ws,.list ss],tL (lots L.length f L.length)]):=by
  unfold aE;rw[eF];rfl
 have ly:lay 60 (.list [.list ws,.list ss])=true:=by
  rw[lay,lays,lays,lays,lay,lay,gw.l 55,gs.l 55];rfl
 have gn:zM (.list [.list ws,.list ss]) (.list [.list ws,.list ss])=some (.bool false):=by rw[KE ly ly,mJ 60 _ ly];rfl
 have s7:lT [fA s0,fN h,fL ws,fN k,fL ss,tL (L.map iD),tL (lots L.length f L.length),tL [.list ws,.list ss],tL (lots L.length f L.length)]=ag false:=by
  simp(disch:=omega) only[lT,rn,reduceIte,eA,gn]
 have s8:(m7 8 (eC (.int 0))) [fA s0,fN h,fL ws,fN k,fL ss,tL (L.map iD),tL (lots L.length f L.length),tL [.list ws,.list ss],tL (lots L.length f L.length)]=ag (.nx [fA s0,fN h,fL ws,fN k,fL ss,tL (L.map iD),tL (lots L.length f L.length),tL [.list ws,.list ss],tL ((lots L.length f L.length).set 0 (.list []))]):=by
  simp(disch:=omega) only[rn,reduceIte,m7,eb]
 refine⟨true,?_⟩
 show p7 _=ag (true,.bool true)
 refine gk ?_
 rw[IL,aC s1,aC s2,aC s3,aC s5,aC s6,aC ((zp s7).trans (Fm _)),aC s8]
 have e9:=eF (tL ((lots L.length f L.length).set 0 (.list [])))
 unfold bZ bp
 rw[e9]
 simp(disch:=omega) only[rn,reduceIte,ge]
end K31
namespace PySem.W.Fast
theorem tw6597419332996679278:1=1:=rfl
theorem tw15507681739816542999:1=1:=rfl
theorem tw9601386510449837331:1=1:=rfl
theorem tw14640259003563279083:1=1:=rfl
theorem tw4395463444363730452:1=1:=rfl
theorem tw18130195926390699205:1=1:=rfl
theorem tw11946800974302399986:1=1:=rfl
theorem tw8455251719539148371:1=1:=rfl
theorem tw16615817481388548698:1=1:=rfl
theorem tw6313708695202183637:1=1:=rfl
theorem tw17937509361129180788:1=1:=rfl
theorem tw1519787939025971688:1=1:=rfl
theorem tw11204331841989701124:1=1:=rfl
theorem tw8833772987197356350:1=1:=rfl
theorem tw11988398727387835440:1=1:=rfl
theorem tw17904829536010564099:1=1:=rfl
theorem tw14709179522967306221:1=1:=rfl
theorem tw13358567457412524273:1=1:=rfl
theorem tw15140659143358722597:1=1:=rfl
theorem tw10190285608903256964:1=1:=rfl
theorem tw1467513115290986339:1=1:=rfl
theorem tw5418698382148811802:1=1:=rfl
theorem tw6519000260165037533:1=1:=rfl
theorem tw5796780193356753025:1=1:=rfl
theorem tw18161773760976072451:1=1:=rfl
theorem tw12741988528247369016:1=1:=rfl
theorem tw13740405140062543434:1=1:=rfl
theorem tw12459099542311428817:1=1:=rfl
theorem tw3334373300057338161:1=1:=rfl
theorem tw13754766016095129291:1=1:=rfl
theorem tw2966681711372042229:1=1:=rfl
theorem tw1688238340148380933:1=1:=rfl
theorem tw3616078074517359729:1=1:=rfl
theorem tw15361592486648904659:1=1:=rfl
theorem tw6891401884867917520:1=1:=rfl
theorem tw17968917774977143831:1=1:=rfl
theorem tw9431693455919024354:1=1:=rfl
theorem tw17887072313173397437:1=1:=rfl
theorem tw2879480207433392799:1=1:=rfl
theorem tw9253440996293508880:1=1:=rfl
theorem tw4319391481260024451:1=1:=rfl
theorem tw1201629512751476034:1=1:=rfl
theorem tw9037143480047018834:1=1:=rfl
theorem tw11066732502395431308:1=1:=rfl
theorem tw9138424299989535395:1=1:=rfl
theorem tw6058657624047125406:1=1:=rfl
theorem tw7687580031873916246:1=1:=rfl
theorem tw3215859052638205557:1=1:=rfl
theorem tw10446345266953062243:1=1:=rfl
theorem tw7954992881880754389:1=1:=rfl
theorem tw2302085810034024315:1=1:=rfl
theorem tw12838665734518933073:1=1:=rfl
theorem tw12710263536322519728:1=1:=rfl
theorem tw11519483765075441022:1=1:=rfl
theorem tw14151323795114749598:1=1:=rfl
theorem tw2580368634420963350:1=1:=rfl
theorem tw2444749106212014423:1=1:=rfl
theorem tw5700637835326333592:1=1:=rfl
theorem tw12085508505896023292:1=1:=rfl
theorem tw6256870464992648732:1=1:=rfl
theorem tw5703157180512621901:1=1:=rfl
theorem tw2452497802687445963:1=1:=rfl
theorem tw9772388893844974214:1=1:=rfl
theorem tw15296761080555165770:1=1:=rfl
theorem tw7294951283965575137:1=1:=rfl
theorem tw12970241270130887833:1=1:=rfl
theorem tw14670101765810880718:1=1:=rfl
theorem tw14314780551023848024:1=1:=rfl
theorem tw13514122458238721631:1=1:=rfl
theorem tw14584717785873238179:1=1:=rfl
theorem tw9741973393656220582:1=1:=rfl
theorem tw10645482978046909104:1=1:=rfl
theorem tw14632503972809662558:1=1:=rfl
theorem tw1906025098778490304:1=1:=rfl
theorem tw5374246476207173705:1=1:=rfl
theorem tw10691408438053913278:1=1:=rfl
theorem tw14701753925006147838:1=1:=rfl
theorem tw3789392876730927882:1=1:=rfl
theorem tw12254232798793471835:1=1:=rfl
theorem tw5691226560139907249:1=1:=rfl
theorem tw5834393985386835962:1=1:=rfl
theorem tw11915984769775059611:1=1:=rfl
theorem tw11760136134657150088:1=1:=rfl
theorem tw2045338650977238710:1=1:=rfl
theorem tw9834045236371036739:1=1:=rfl
theorem tw3212206105086214866:1=1:=rfl
theorem tw10469058333271691987:1=1:=rfl
theorem tw9953774023269826911:1=1:=rfl
theorem tw5107402786052705215:1=1:=rfl
theorem tw6886502418495624799:1=1:=rfl
theorem tw13350967938897894597:1=1:=rfl
theorem tw2794888092717568922:1=1:=rfl
theorem tw15975199855151815909:1=1:=rfl
theorem tw14558939254067449380:1=1:=rfl
theorem tw10098763447715833195:1=1:=rfl
theorem tw11265401441143834291:1=1:=rfl
theorem tw12035295237187619189:1=1:=rfl
theorem tw3553265289398011042:1=1:=rfl
theorem tw3288846286071242578:1=1:=rfl
theorem tw15397099602622671472:1=1:=rfl
theorem tw7288633241426848785:1=1:=rfl
theorem tw5969874848169234212:1=1:=rfl
theorem tw9665395036432398151:1=1:=rfl
theorem tw3500809747409501486:1=1:=rfl
theorem tw17424916316239512024:1=1:=rfl
theorem tw8725906357872608471:1=1:=rfl
theorem tw6922296677618924412:1=1:=rfl
theorem tw6605112316347073753:1=1:=rfl
theorem tw16002527134023930241:1=1:=rfl
theorem tw1516549136862407267:1=1:=rfl
theorem tw13898561021637712161:1=1:=rfl
theorem tw1307245464435240910:1=1:=rfl
theorem tw4115657861298605318:1=1:=rfl
theorem tw17847918965316121737:1=1:=rfl
theorem tw11949019341046850091:1=1:=rfl
theorem tw5498069504185426956:1=1:=rfl
theorem tw18065059565517299579:1=1:=rfl
theorem tw16054090584520771326:1=1:=rfl
theorem tw12424523021700733368:1=1:=rfl
theorem tw10281876085593127087:1=1:=rfl
theorem tw7164922998933261621:1=1:=rfl
theorem tw30760913730414359:1=1:=rfl
theorem tw9946824339212081176:1=1:=rfl
theorem tw6320597520269322392:1=1:=rfl
theorem tw1505747504940798752:1=1:=rfl
theorem tw9835198915608840467:1=1:=rfl
theorem tw9634785822040142548:1=1:=rfl
theorem tw9541437356472118204:1=1:=rfl
theorem tw9025574877567449154:1=1:=rfl
theorem tw8507720747450113137:1=1:=rfl
theorem tw7278715950437489103:1=1:=rfl
theorem tw6524039596553128370:1=1:=rfl
theorem tw5682043454639141045:1=1:=rfl
theorem tw5039630192995823397:1=1:=rfl
theorem tw4281697621823472758:1=1:=rfl
theorem tw3907681389884317293:1=1:=rfl
theorem tw3724857791923658370:1=1:=rfl
theorem tw3157089471207646678:1=1:=rfl
theorem tw2215664806116790224:1=1:=rfl
theorem tw16758274982435864751:1=1:=rfl
theorem tw15561967177465092726:1=1:=rfl
theorem tw15443188749061284075:1=1:=rfl
theorem tw15304411224909581473:1=1:=rfl
theorem tw14658982917277157858:1=1:=rfl
theorem tw14177054979118355017:1=1:=rfl
theorem tw13477766271452702460:1=1:=rfl
theorem tw12156752335739054097:1=1:=rfl
theorem tw11277636217114674516:1=1:=rfl
theorem tw11206550064801891887:1=1:=rfl
theorem tw11065853920864764858:1=1:=rfl
theorem tw707428575938042651:1=1:=rfl
theorem tw671487727853892056:1=1:=rfl
theorem tw3310852407845645412:1=1:=rfl
theorem tw5761110118866250478:1=1:=rfl
theorem tw18315606802157968376:1=1:=rfl
theorem tw10963671427952727150:1=1:=rfl
theorem tw14282423253276147526:1=1:=rfl
theorem tw12159068944334961270:1=1:=rfl
theorem tw6598435871794450356:1=1:=rfl
theorem tw1334686167703029804:1=1:=rfl
theorem tw1713652305140396684:1=1:=rfl
theorem tw12370295762289289288:1=1:=rfl
theorem tw16624282834782640186:1=1:=rfl
theorem tw11739847722654665408:1=1:=rfl
theorem tw2570212308113041877:1=1:=rfl
theorem tw9088014122148957063:1=1:=rfl
theorem tw9058010028321617871:1=1:=rfl
theorem tw8912750731812946869:1=1:=rfl
theorem tw8863725949148136413:1=1:=rfl
theorem tw8566739863114219508:1=1:=rfl
theorem tw7708083899149418403:1=1:=rfl
theorem tw7650040285646044525:1=1:=rfl
theorem tw7580161610095612000:1=1:=rfl
theorem tw7491179967270707785:1=1:=rfl
theorem tw747421277701901813:1=1:=rfl
theorem tw6999240244334766922:1=1:=rfl
theorem tw6758346261557843130:1=1:=rfl
theorem tw6551614821017951217:1=1:=rfl
theorem tw5855590902601172085:1=1:=rfl
theorem tw5130709224863593780:1=1:=rfl
theorem tw4734744530663866675:1=1:=rfl
theorem tw4250108932812145148:1=1:=rfl
theorem tw4039194483437380060:1=1:=rfl
theorem tw25192244048774932:1=1:=rfl
theorem tw2186668019426596274:1=1:=rfl
theorem tw2088461317141404154:1=1:=rfl
theorem tw2065172019706387065:1=1:=rfl
theorem tw1985727277389678626:1=1:=rfl
theorem tw1923639598745438750:1=1:=rfl
theorem tw18271182184966485417:1=1:=rfl
theorem tw18043730617683781874:1=1:=rfl
theorem tw17416097041463648829:1=1:=rfl
theorem tw17271538609819580398:1=1:=rfl
theorem tw1695233226190757234:1=1:=rfl
theorem tw16692855765663334371:1=1:=rfl
theorem tw16616314703742139869:1=1:=rfl
theorem tw1640953889069265142:1=1:=rfl
theorem tw16206807876478354608:1=1:=rfl
theorem tw15876577430886247678:1=1:=rfl
theorem tw15679142064861751483:1=1:=rfl
theorem tw15387060416652227947:1=1:=rfl
theorem tw14725682868601385612:1=1:=rfl
theorem tw14428636979036371874:1=1:=rfl
theorem tw14034950101611769039:1=1:=rfl
theorem tw13855322322602709136:1=1:=rfl
theorem tw13769785730128646767:1=1:=rfl
theorem tw1345401515779397899:1=1:=rfl
theorem tw13342810497630186587:1=1:=rfl
theorem tw13225914966238205455:1=1:=rfl
theorem tw13019634313744825818:1=1:=rfl
theorem tw12572933756713890096:1=1:=rfl
theorem tw12523037232566880341:1=1:=rfl
theorem tw12349085575760023171:1=1:=rfl
theorem tw12126043051733198441:1=1:=rfl
theorem tw11945123956613497061:1=1:=rfl
theorem tw11917089691018891524:1=1:=rfl
theorem tw11814904584638527657:1=1:=rfl
theorem tw11594188910622357755:1=1:=rfl
theorem tw11387623611154105682:1=1:=rfl
theorem tw1101205490809802245:1=1:=rfl
theorem tw10548481065625940522:1=1:=rfl
theorem tw10155744043907901423:1=1:=rfl
end PySem.W.Fast
open PySem PySem.W PyProof.Rows
set_option maxRecDepth 100000 in
set_option maxHeartbeats 0 in
theorem PySem.Challenge.cw_losspact_k31_parts_holds : PySem.Challenge.rw_losspact_k31_parts.Holds := by
  w_on; o_law; k_head; (case hw => w_witness2)
  k_fill
  refine K31.walk K31.main (l:=PySem.Challenge.rw_losspact_k31_parts) rfl rfl (fun w h Y => PySem.W.kIn_of Y) ?F
  case F =>
    intro w mg fa h KX G hmg
    refine' K31.all_mk KX G hmg (.mk ..) (.mk ..) (.mk ..) (.mk ..) (.mk ..) (.mk ..) (.mk ..) (.mk ..) (.mk ..) (.mk ..) (.mk ..) (.mk ..) (.mk ..) (.mk ..) (.mk ..) (.mk ..) (.mk ..) (.mk ..) (.mk ..) (.mk ..) (.mk ..) (.mk ..) (.mk ..) (.mk ..) (.mk ..) (.mk ..) (.mk ..) (.mk ..) (.mk ..) (.mk ..) (.mk ..) (.mk ..) ..
    any_goals k_is

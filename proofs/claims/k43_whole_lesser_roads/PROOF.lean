import PyProof.Rows.All
import Wide.All
import OpenK.AllK
import Wide.FinOn
import Lean
import PyProof.EqAt
import PyProof.EqKinds
import PyProof.TupleCall
import PySem.Sem
import PyProof.P3Statements
import PyProof.SliceList
import PyProof.Dict
import PyProof.TupleKey
import PyProof.P3In
import PyProof.NeData
import KE.KRevIter
import PyProof.CollectIter
import PyProof.TupleOfGen
import PyProof.DictRoadsH
import PyProof.P3Eq
import PyProof.FactsAll.NoneType_1
import PyProof.FString2
import KE.KDictOf
import PyProof.DictDisplay
import PyProof.ListRange
import PyProof.MinMaxWalk
import PyProof.WalkInts
import PyProof.DictItems
import PyProof.Draws
import PyProof.EnumMake
import PyProof.Rows.TupIter
import KE.KPairComp
import PyProof.Rows.SetFrom
import PyProof.Rows.SortWalk
import KE.KSortedM
import PyProof.IsRules
import PyProof.ListMulRoad
import PyProof.AutoSeq1
import PyProof.FactsAll.tuple_2
import KE.KTryMore
import OpenK.KOwn
import PyProof.NsDelKeeps
import PyProof.ExcAttrAll.ValueError
import PyProof.Rows.SortRuns
import PyProof.Rows.SortShell
import KE.KDictSum
import PyProof.ConsumeWalk
import KE.LcSums
import PySem.Challenge.RW_losspact_k43_whole_lesser_roads
set_option hygiene false
local macro_rules|`(!0)=>`(⟨rfl,rfl,rfl,by decide+kernel,rfl,by decide+kernel,by decide+kernel⟩)
local macro_rules|`(!1)=>`((by omega))
local macro_rules|`(!2)=>`((List.range h))
local macro_rules|`(!3)=>`((Or.inl rfl))
local macro_rules|`(!4)=>`((model prog w))
local macro_rules|`(!5)=>`((by decide+kernel))
local macro_rules|`(!6)=>`((ns.map PyData.int))
local macro_rules|`(!7)=>`((model X.prog X.w))
local macro_rules|`(!8)=>`((by decide))
local macro_rules|`(!9)=>`((Str.ofString "table"))
set_option hygiene false
local macro_rules|`(tactic|simp![$a,*])=>`(tactic|simp(disch:=omega) only[rn,reduceIte,$a,*])
local macro_rules|`(tactic|simp! only[$a,*])=>`(tactic|simp(disch:=omega) only[$a,*])
def K9:=@List.mem_cons_self
def K8:=@List.mem_cons_of_mem
def K7:=@List.mem_singleton
def K6:=@List.length_map
def K5:=@List.getElem?_eq_getElem
def K4:=@PySem.Heap.get?_push_of_some
def K3:=@Bool.false_ne_true
def K2:=@List.length_append
def K1:=@List.mem_append
def K0:=@Nat.le_refl
def Kk:=@List.mem_append_right
def Kx:=@List.mem_cons
def Ku:=@List.mem_map
def Ky:=@Int.toNat_natCast
def Kj:=@List.length_cons
def Kz:=@List.size_toArray
def Kw:=@Nat.le_trans
def Kv:=@PySem.Heap.get?_push_size
def Kq:=@List.map_cons
def KU:=@Array.length_toList
def KY:=@List.mem_append_left
def KJ:=@PySem.Heap.lt_size
def KZ:=@List.getElem?_map
def KW:=@List.getD_eq_getElem?_getD
def KQ:=@List.nodup_cons
def X9:=@List.length_range
def X8:=@List.length_singleton
def X7:=@Bool.and_eq_true
def X6:=@List.map_map
def X5:=@List.append_assoc
def X4:=@List.map_append
def X3:=@Nat.lt_of_lt_of_le
def X2:=@List.nodup_nil
def X1:=@List.mem_range
def X0:=@List.length_take
def Xk:=@Nat.ne_of_lt
def Xx:=@List.getElem?_append_left
def Xu:=@List.getElem?_append_right
def Xy:=@List.length_reverse
def Xj:=@List.append_nil
def Xz:=@List.getElem?_eq_some_iff
def Xw:=@List.length_filter_le
def Xv:=@PySem.Heap.get?_update_self
def Xq:=@Nat.zero_le
def XX:=@Nat.lt_of_le_of_lt
def XU:=@List.length_drop
def XY:=@List.getElem?_eq_none
def XJ:=@List.take_of_length_le
def XZ:=@List.nodup_append
def XW:=@Bool.false_eq_true
def XQ:=@Bool.and_self
def U9:=@List.mem_of_mem_drop
def U8:=@List.getElem?_set_self
def U7:=@List.getElem?_set_ne
def U6:=@List.filterMap_cons
def U5:=@List.find?_cons
def U4:=@List.mem_flatMap
def U3:=@List.drop_eq_getElem_cons
def U2:=@Nat.lt_irrefl
def U1:=@List.getElem_mem
def U0:=@List.mem_of_mem_take
def Uk:=@PySem.Heap.size_push
def Ux:=@List.mem_filter
def Uu:=@List.length_set
def Uy:=@List.mem_reverse
def Uj:=@List.cons_append
def Uz:=@List.all_eq_true
def Uw:=@List.replicate_succ
def Uv:=@List.take_append_drop
def Uq:=@List.length_replicate
def UK:=@Option.map_some
def UX:=@Int.emod_lt_of_pos
def UU:=@List.map_congr_left
def UY:=@List.foldl_cons
def UJ:=@Array.getElem?_toList
def UZ:=@Nat.lt_succ_of_lt
def UW:=@Int.emod_nonneg
def UQ:=@Array.toList_append
def Y9:=@Nat.lt_succ_self
def Y8:=@List.any_eq_true
def Y7:=@List.drop_zero
def Y6:=@List.length_nil
def Y5:=@Nat.ne_of_gt
def Y4:=@List.pairwise_append
def Y3:=@List.mem_of_getElem?
def Y2:=@List.flatten_cons
def Y1:=@List.getElem?_range
def Y0:=@List.filter_cons
def Yk:=@List.eq_nil_of_length_eq_zero
def Yx:=@Bool.eq_iff_iff
def Yu:=@List.take_add_one
def Yy:=@Nat.le_succ
def Yj:=@Nat.succ_mul
def Yz:=@Nat.mul_comm
def Yw:=@List.lookup_cons
def Yv:=@Int.le_of_lt
def Yq:=@List.pairwise_iff_getElem
def YK:=@Array.getElem?_eq_getElem
def YX:=@List.mem_map_of_mem
def YU:=@List.nil_append
def YY:=@List.length_eq_zero_iff
def YJ:=@List.getElem?_replicate
def YZ:=@Int.eq_ofNat_of_zero_le
def YW:=@List.reverse_cons
def YV:=@List.getElem_take
def YQ:=@List.drop_sublist
def J9:=@Int.le_trans
def J8:=@PySem.Heap.get?_update_other
def J7:=@Array.toList_push
def J6:=@List.take_length
def J5:=@List.any_cons
def J4:=@Nat.min_eq_left
def J3:=@List.range_succ
def J2:=@Nat.pow_succ
def J1:=@Nat.le_of_lt
def J0:=@List.map_nil
def Jk:=@Nat.mul_le_mul
def Jx:=@List.take_zero
def Ju:=@List.drop_drop
def Jy:=@List.take_sublist
def Jj:=@List.getElem_drop
def Jz:=@Bool.true_and
def Jw:=@Nat.le_of_not_lt
def Jv:=@List.getElem?_cons_succ
def Jq:=@List.ext_getElem
def JK:=@Nat.zero_add
def JX:=@List.drop_eq_nil_of_le
def JU:=@List.forIn_cons
def JY:=@List.filter_nil
def JJ:=@List.perm_append_comm
def JZ:=@List.getElem?_reverse
set_option linter.all false
section
open PySem PySem.Spec PyProof PyProof.Rows
def JW:=@wpS_bind
def JV:=@wpS_pure
def JQ:=@wpS_get
def Z9:=@beq_iff_eq
def Z8:=@decide_eq_true_eq
def Z7:=@wpAny_bind
def Z6:=@wpAny_pure
def Z5:=@if_neg
def Z4:=@if_pos
def Z3:=@decide_eq_true
def Z2:=@decide_eq_false
def Z1:=@wpAny_holding
def Z0:=@wpAny_call_entry
def Zk:=@wpAny_newObj_type
def Zx:=@wpAny_specialOf
abbrev Zu:=Value->Shared->Prop
abbrev Zy:=PyData
end
set_option maxHeartbeats 0
open PySem.W (nsIn codeIn keepIn fnOf mg_of Frag OpenLaw)
set_option Elab.async false
set_option linter.all false
set_option maxRecDepth 100000
noncomputable section
namespace L2
open PySem PySem.Spec PyProof.Rows
abbrev Key:=Sum Int Str
noncomputable def G_:Key->Value->Bool
 | .inl k,v=>Value.isInt k v
 | .inr x,v=>Value.isStrOf x v
noncomputable def Nf (w:World):Key->Int
 | .inl k=>hashInt k
 | .inr x=>hashStr w x
theorem cj:∀{k:Key} {v:Value},G_ k v=true->(∃i t,k=Sum.inl i/\v=Value.int i t)∨(∃x t,k=Sum.inr x/\v=Value.str x t)
 | .inl i,v,h=>by
  obtain⟨t,e⟩:=Value.isInt_shape (k:=i) (v:=v) h
  exact .inl ⟨i,t,rfl,e⟩
 | .inr x,v,h=>by
  obtain⟨t,e⟩:=Value.isStrOf_shape (x:=x) (v:=v) h
  exact .inr ⟨x,t,rfl,e⟩
theorem HJ (a b:Int):decide ((Sum.inl a:Key)=Sum.inl b)=(a==b):=by
 by_cases e:a=b
 ·subst e;simp
 ·have h:¬ (Sum.inl a:Key)=Sum.inl b:=λq=>e (Sum.inl.inj q)
  rw[Z2 h]
  exact(beq_eq_false_iff_ne.mpr e).symm
theorem HK (a b:Str):decide ((Sum.inr a:Key)=Sum.inr b)=decide (a=b):=by
 by_cases e:a=b
 ·subst e;simp
 ·have h:¬ (Sum.inr a:Key)=Sum.inr b:=λq=>e (Sum.inr.inj q)
  rw[Z2 h,Z2 e]
theorem HL (a:Int)(b:Str):decide ((Sum.inl a:Key)=Sum.inr b)=false:=Z2 (λq=>nomatch q)
theorem HM (a:Str)(b:Int):decide ((Sum.inr a:Key)=Sum.inl b)=false:=Z2 (λq=>nomatch q)
noncomputable def zy (prog:Program)(w:World):PySem.KeyKind prog w Key where
 is:=G_
 hash:=Nf w
 inj:=λv a b ha hb=>by
  rcases cj ha with⟨i,t,rfl,rfl⟩ | ⟨x,t,rfl,rfl⟩
  ·rcases cj hb with⟨j,u,rfl,e⟩ | ⟨y,u,rfl,e⟩
   ·injection e with e1 _;rw[e1]
   ·exact nomatch e
  ·rcases cj hb with⟨j,u,rfl,e⟩ | ⟨y,u,rfl,e⟩
   ·exact nomatch e
   ·injection e with e1 _;rw[e1]
 byValue:=λk v h=>by
  rcases cj h with⟨i,t,rfl,rfl⟩ | ⟨x,t,rfl,rfl⟩ <;> rfl
 pyHash:=λhv h=>by
  rcases cj hv with⟨i,t,rfl,rfl⟩ | ⟨x,t,rfl,rfl⟩
  ·exact wpAny_pyHash_int h
  ·exact wpAny_pyHash_str h
 eqBool:=λhu hv h=>by
  rcases cj hu with⟨i,t,rfl,rfl⟩ | ⟨x,t,rfl,rfl⟩
  ·rcases cj hv with⟨j,u,rfl,rfl⟩ | ⟨y,u,rfl,rfl⟩
   ·rw[HJ] at h;exact wpAny_eqBool_int h
   ·rw[HL] at h;exact SeqAt.EqAt.int_str i t y u _ _ _ _ h
  ·rcases cj hv with⟨j,u,rfl,rfl⟩ | ⟨y,u,rfl,rfl⟩
   ·rw[HM] at h;exact SeqAt.EqAt.str_int x t j u _ _ _ _ h
   ·rw[HK] at h;exact wpAny_eqBool_str h
 «strs»:=λk x t v h=>by
  rcases cj h with⟨i,u,rfl,e⟩ | ⟨y,u,rfl,e⟩
  ·exact nomatch e
  ·injection e with e1 _
   subst e1
   cases v <;> rfl
inductive V where
 | non | bl (b:Bool) | int (i:Int) | str (x:Str) | Ng (b:Array UInt8) | flt (b:UInt64) | ref (a:Addr) | ty (n:String)
 deriving DecidableEq
def RelV:V->Value->Prop
 | .non,u=>u=Value.none
 | .bl b,u=>u=Value.bool b
 | .int i,u=>∃t,u=Value.int i t
 | .str x,u=>∃t,u=Value.str x t
 | .Ng b,u=>∃t,u=Value.bytes b t
 | .flt b,u=>∃t,u=Value.float b t
 | .ref a,u=>u=Value.ref a
 | .ty n,u=>u=Value.type n
abbrev Vals:List V->List Value->Prop:=Paired RelV
theorem Vals.length (r:Vals xs us):xs.length=us.length:=Paired.length r
theorem Vals.get:∀{xs:List V} {us:List Value} {i:Nat} {x:V},Vals xs us->xs[i]? =some x->∃u,us[i]? =some u/\RelV x u
 | _,_,_,_,.nil,e=>by simp at e
 | _,_,0,_,.cons r _,e=>by simp at e;subst e;exact⟨_,rfl,r⟩
 | _,_,i+1,x,.cons _ t,e=>by
  obtain⟨u,h1,h2⟩:=Vals.get (i:=i) (x:=x) t (by simpa using e)
  exact⟨u,by simpa using h1,h2⟩
theorem Vals.set (r:RelV x u):∀{xs:List V} {us:List Value} (i:Nat),Vals xs us->Vals (xs.set i x) (us.set i u)
 | _,_,_,.nil=> .nil
 | _,_,0,.cons _ t=> .cons r t
 | _,_,i+1,.cons q t=> .cons q (Vals.set r i t)
theorem Vals.append:∀{xs ys:List V} {us ws:List Value},Vals xs us->Vals ys ws->Vals (xs++ys) (us++ws)
 | _,_,_,_,.nil,s=>s
 | _,_,_,_,.cons r t,s=> .cons r (Vals.append t s)
theorem Vals.take:∀{xs:List V} {us:List Value} (n:Nat),Vals xs us->Vals (xs.take n) (us.take n)
 | _,_,0,_=> .nil
 | _,_,_+1,.nil=> .nil
 | _,_,n+1,.cons r t=> .cons r (Vals.take n t)
theorem Vals.drop:∀{xs:List V} {us:List Value} (n:Nat),Vals xs us->Vals (xs.drop n) (us.drop n)
 | _,_,0,r=>r
 | _,_,_+1,.nil=> .nil
 | _,_,n+1,.cons _ t=>Vals.drop n t
theorem Vals.none_of:∀{xs:List V} {us:List Value} {i:Nat},Vals xs us->xs[i]? =none->us[i]? =none:=λ{xs us i} r e=>by
 have h1:=r.length
 have h2:xs.length<=i:=List.getElem?_eq_none_iff.mp e
 exact List.getElem?_eq_none_iff.mpr (!1)
def E3:Option V->Option Value->Prop
 | some v,some u=>RelV v u
 | none,none=>True
 | _,_=>False
def KV {κ:Type}:List (κ×V)->List (κ×Value)->Prop:=Paired λ(p:κ×V) (q:κ×Value)=>p.1=q.1/\RelV p.2 q.2
noncomputable def kV:Key->V
 | .inl i=> .int i
 | .inr x=> .str x
inductive HO where
  | lst (xs:List V)
  | tup (xs:List V)
  | dK (kvs:List (Key×V)) | dT (kvs:List (List Key×V))
  | set (S:Int->Bool) (n:Nat)
  | ins (C dx:Addr) (fs:List (Str×V))
  | own (x:Addr)
  | xd (fs:List (Str×V))
  | met (f x:Addr)
  | rng (lo hi:Int)
  | EU (o:Obj) (u:HO)
  | HN (ps:Array Value)
  | ext (φ:Heap->Prop)
abbrev Hp:=Addr->Option HO
noncomputable def upd (H:Hp)(a:Addr)(o:HO):Hp:=λb=>if b=a then some o else H b
theorem ay :upd H a o a=some o:=by unfold upd;rw[Z4 rfl]
theorem aY (h:b≠a):upd H a o b=H b:=by unfold upd;rw[Z5 h]
theorem Ha {H:Hp}{a b:Addr}{o u:HO}(h:H a=some o)(h':H b=some u)(d:o≠u):a≠b:=by
 intro e;subst e;rw[h] at h';exact d (Option.some.inj h')
theorem dy {H:Hp}{a b:Addr}{o:HO}(h:H a=some o)(h':H b=none):a≠b:=by
 intro e;subst e;rw[h] at h';cases h'
section
variable (P:Program)(w:World)
def fu (H:Hp)(h:Heap)(a:Addr):HO->Prop
 | .lst xs=>xs.length<=sizeLine/\∃(its:List Value) (n:Nat),Vals xs its/\h.get? a=some {cls:=.type "list",data:=.seq its.toArray n}
 | .tup xs=>xs.length<=sizeLine/\∃its:List Value,Vals xs its/\IsTup h a its.toArray
 | .dK kvs=>kvs.length<=sizeLine/\(a==sysModules)=false/\∃vs,KV kvs vs/\h.DictOf (zy P w) a vs
 | .dT kvs=>kvs.length<=sizeLine/\(a==sysModules)=false/\∃xs:List (List Key×Addr×Value),
   Paired (λ(p:List Key×V) (q:List Key×Addr×Value)=>p.1=q.1/\H q.2.1=some (.tup (p.1.map kV))/\RelV p.2 q.2.2) kvs xs/\
   ∃o es ep,h.get? a=some o/\o.ExactDict/\o.data= .dict es ep/\es.toList=xs.map (entryOfKey (tupleKind (zy P w)))/\(xs.map (·.1)).Nodup
 | .set S n=>h.SetOf (intKind P w) a S n
 | .ins C dx fs=>H dx=some (.own a)/\fs.length<=1000/\dx≠a/\h.get? a=some (PySem.W.instObj C dx)/\
   ∃mA,h.Ns1 dx mA/\(∀f,E3 (fs.lookup f) (mA f))/\PySem.Within mA (fs.map (·.1))
 | .own _=>∃o,h.get? a=some o
 | .xd fs=>∃mA,h.Ns1 a mA/\∀f,E3 (fs.lookup f) (mA f)
 | .rng lo hi=>∃t u v,h.get? a=some {cls:=.type "range",data:=.fields #[.int lo t,.int hi u,.int 1 v]}
 | .EU o u=>h.get? a=some o/\fu H h a u
 | .HN ps=>h.get? a=some {cls:=.none,data:=.fields ps}
 | .met f x=>h.get? a=some (PySem.W.methodObj (.ref f) (.ref x))
 | .ext φ=>φ h/\(∃o,h.get? a=some o)/\∀h1 h2:Heap,φ h1->(∀o,h1.get? a=some o->h2.get? a=some o)->φ h2
def pN (H:Hp)(h:Heap):Prop:=∀a o,H a=some o->fu P w H h a o
end
section
variable {P:Program}{w:World}{H H':Hp}{h h':Heap}{a:Addr}{o:HO}
theorem fu.lt (x:fu P w H h a o):a < h.objs.size:=by
 cases o with
 | lst xs=>obtain⟨_,_,_,_,e⟩:=x;exact KJ e
 | tup xs=>obtain⟨_,_,_,p⟩:=x;exact p.lt
 | dK kvs=>obtain⟨_,_,_,_,o,_,_,e,_⟩:=x;exact KJ e
 | dT kvs=>obtain⟨_,_,_,_,o,_,_,e,_⟩:=x;exact KJ e
 | set S n=>obtain⟨o,_,_,_,e,_⟩:=x;exact KJ e
 | ins C dx fs=>obtain⟨_,_,_,e,_⟩:=x;exact KJ e
 | own y=>obtain⟨_,e⟩:=x;exact KJ e
 | xd fs=>obtain⟨_,⟨_,_,_,e,_⟩,_⟩:=x;exact KJ e
 | rng lo hi=>obtain⟨_,_,_,e⟩:=x;exact KJ e
 | EU ob u=>obtain⟨e,_⟩:=x;exact KJ e
 | HN ps=>exact KJ (show h.get? a=some _ from x)
 | met f y=>exact KJ (show h.get? a=some _ from x)
 | ext φ=>obtain⟨_,⟨_,e⟩,_⟩:=x;exact KJ e
theorem Paired.Lg {α β:Type}{F G:α->β->Prop}:∀{l₁:List α} {l₂:List β},Paired F l₁ l₂->(∀a b,F a b->G a b)->Paired G l₁ l₂
 | _,_,.nil,_=> .nil
 | _,_,.cons r t,f=> .cons (f _ _ r) (Paired.Lg t f)
theorem fu.stay (x:fu P w H h a o)(k:∀b u,(b=a∨H b=some (.own a))->h.get? b=some u->h'.get? b=some u)
  (ho:∀b,H b=some (.own a)->H' b=some (.own a)) (ht:∀b xs,H b=some (.tup xs)->H' b=some (.tup xs)):fu P w H' h' a o:=by
 induction o with
 | lst xs=>obtain⟨z,its,n,r,e⟩:=x;exact⟨z,its,n,r,k _ _ (.inl rfl) e⟩
 | tup xs=>obtain⟨z,its,r,ob,e,c⟩:=x;exact⟨z,its,r,ob,k _ _ (.inl rfl) e,c⟩
 | dK kvs=>obtain⟨z,y,vs,r,ob,es,ep,e,c⟩:=x;exact⟨z,y,vs,r,ob,es,ep,k _ _ (.inl rfl) e,c⟩
 | dT kvs=>
  obtain⟨z,y,xs,r,ob,es,ep,e,c⟩:=x
  exact⟨z,y,xs,Paired.Lg r λp q z=>⟨z.1,ht _ _ z.2.1,z.2.2⟩,ob,es,ep,k _ _ (.inl rfl) e,c⟩
 | set S n=>obtain⟨ob,es,ep,t,e,c⟩:=x;exact⟨ob,es,ep,t,k _ _ (.inl rfl) e,c⟩
 | ins C dx fs=>
  obtain⟨d,z,ne,e,mA,⟨od,es,ep,e2,c⟩,r⟩:=x
  exact⟨ho _ d,z,ne,k _ _ (.inl rfl) e,mA,⟨od,es,ep,k _ _ (.inr d) e2,c⟩,r⟩
 | own y=>obtain⟨ob,e⟩:=x;exact⟨ob,k _ _ (.inl rfl) e⟩
 | xd fs=>obtain⟨mA,⟨od,es,ep,e,c⟩,r⟩:=x;exact⟨mA,⟨od,es,ep,k _ _ (.inl rfl) e,c⟩,r⟩
 | rng lo hi=>obtain⟨t,u,v,e⟩:=x;exact⟨t,u,v,k _ _ (.inl rfl) e⟩
 | EU ob u ih=>obtain⟨e,q⟩:=x;exact⟨k _ _ (.inl rfl) e,ih q⟩
 | HN ps=>
  have e:h.get? a=some {cls:=.none,data:=.fields ps}:=x
  show h'.get? a=some {cls:=.none,data:=.fields ps}
  exact k a _ (.inl rfl) e
 | met f y=>
  have e:h.get? a=some (PySem.W.methodObj (.ref f) (.ref y)):=x
  show h'.get? a=some (PySem.W.methodObj (.ref f) (.ref y))
  exact k a _ (.inl rfl) e
 | ext φ=>obtain⟨p,⟨o,e⟩,st⟩:=x;exact⟨st _ _ p λo q=>k _ _ (.inl rfl) q,⟨o,k _ _ (.inl rfl) e⟩,st⟩
theorem pN.lt (x:pN P w H h)(e:H a=some o):a < h.objs.size:=(x a o e).lt
theorem pN.fresh (x:pN P w H h)(e:h.objs.size<=a):H a=none:=by
 cases q:H a with
 | none=>rfl
 | some u=>exact absurd (X3 (x.lt q) e) (U2 _)
theorem pN.kept (x:pN P w H h)(k:∀b u,h.get? b=some u->h'.get? b=some u):pN P w H h':=λa o e=>
 (x a o e).stay (λb u _ q=>k b u q) (λ_ q=>q) λ_ _ q=>q
theorem pN.laid (x:pN P w H h)(k:∀b u,h.get? b=some u->h'.get? b=some u)(hp:h.objs.size<=a)(new:fu P w (upd H a o) h' a o):pN P w (upd H a o) h':=λb u e=>by
 have hn:=x.fresh hp
 by_cases hb:b=a
 ·subst hb;rw[ay] at e;cases e;exact new
 ·rw[aY hb] at e
  exact(x b u e).stay (λc v _ q=>k c v q) (λc q=>by rw[aY (dy q hn)];exact q) λc xs q=>by rw[aY (dy q hn)];exact q
end
def Rd (H:Hp)(a:Addr)(u:HO):Prop:=H a=some u∨∃o,H a=some (.EU o u)
theorem Rd.ok (r:Rd H a u)(x:pN P w H h):fu P w H h a u:=by
 rcases r with r | ⟨o,r⟩
 ·exact x a u r
 ·obtain⟨_,q⟩:=x a _ r
  exact q
def MP:Option HO->Prop
 | some (.lst _)=>True
 | some (.dK _)=>True
 | some (.dT _)=>True
 | some (.set _ _)=>True
 | some (.ins _ _ _)=>True
 | some (.ext _)=>True
 | _=>False
section
variable {P:Program}{w:World}{H:Hp}{h h':Heap}{x e:Addr}{o':HO}
theorem pN.write (ok:pN P w H h)(mu:MP (H x))(he:e=x∨H e=some (.own x))(k:∀b u,b≠e->h.get? b=some u->h'.get? b=some u)(heo:∃u,h'.get? e=some u)
  (new:fu P w (upd H x o') h' x o'):pN P w (upd H x o') h':=λb u q=>by
 have Li:∀c y,H c=some (.own y)->c≠x:=λc y r z=>by subst z;rw[r] at mu;exact mu
 have Nh:∀c xs,H c=some (.tup xs)->c≠x:=λc xs r z=>by subst z;rw[r] at mu;exact mu
 by_cases hb:b=x
 ·subst hb;rw[ay] at q;cases q;exact new
 ·rw[aY hb] at q
  by_cases hbe:b=e
  ·have q':H b=some (.own x):=by
    rcases he with z | z
    ·exact absurd (hbe.trans z) hb
    ·rw[hbe];exact z
   rw[q] at q';cases q'
   obtain⟨v,hv⟩:=heo
   exact⟨v,by rw[hbe];exact hv⟩
  ·refine(ok b u q).stay (λc v hc r=>k c v ?_ r) (λc r=>by rw[aY (Li c b r)];exact r) λc xs r=>by rw[aY (Nh c xs r)];exact r
   rcases hc with rfl | hc
   ·exact hbe
   ·rintro rfl
    rcases he with z | z
    ·exact Li c b hc z
    ·rw[hc] at z;cases z;exact hb rfl
end
structure Un (fs ex:List Addr)(H H':Hp)(h h':Heap):Prop where
 keep:∀b o,h.get? b=some o->H b=none->b∉fs->b∉ex->h'.get? b=some o
 slot:∀b o,h.get? b=some o->H b=none->b∈fs->b∉ex->∃sl,h'.get? b=some {o with slots:=sl}
 free:∀b o,h.get? b=some o->H b=none->b∉ex->H' b=none
 there:∀b o,h.get? b=some o->b∉ex->∃o',h'.get? b=some o'
 tups:∀b xs,H b=some (.tup xs)->H' b=some (.tup xs)
 uh:∀b o u,H b=some (.EU o u)->H' b=some (.EU o u)
 vO:∀b ps,H b=some (.HN ps)->∃more,H' b=some (.HN (ps++more))
section
variable {fs fs' ex ex':List Addr}{H H1 H2:Hp}{h h1 h2 h':Heap}{a x e:Addr}{o:HO}
theorem Un.any (u:Un fs ex H H1 h h1)(q:h.get? b=some ob)(n:H b=none)(hx:b∉ex):∃sl,h1.get? b=some {ob with slots:=sl}:=by
 by_cases hb:b∈fs
 ·exact u.slot b ob q n hb hx
 ·exact⟨ob.slots,u.keep b ob q n hb hx⟩
theorem Un.kept (k:∀b u,h.get? b=some u->h'.get? b=some u):Un fs ex H H h h' :=
 ⟨λb ob q _ _ _=>k b ob q,λb ob q _ _ _=>⟨ob.slots,k b ob q⟩,λ_ _ _ n _=>n,λb ob q _=>⟨ob,k b ob q⟩,λ_ _ q=>q,λ_ _ _ q=>q,λ_ ps q=>⟨#[],by rw[q];simp⟩⟩
theorem Un.refl:Un fs ex H H h h:=Un.kept λ_ _ q=>q
theorem Un.laid (k:∀b u,h.get? b=some u->h'.get? b=some u)(hp:h.objs.size<=a)(hn:H a=none):Un fs ex H (upd H a o) h h' where
 keep:=λb u q _ _ _=>k b u q
 slot:=λb u q _ _ _=>⟨u.slots,k b u q⟩
 free:=λb u q n _=>by rw[aY (Xk (X3 (KJ q) hp))];exact n
 there:=λb u q _=>⟨u,k b u q⟩
 tups:=λb xs q=>by rw[aY (dy q hn)];exact q
 uh:=λb u xs q=>by rw[aY (dy q hn)];exact q
 vO:=λb ps q=>⟨#[],by rw[aY (dy q hn),q];simp⟩
theorem Un.write (mu:MP (H x))(he:e=x∨H e=some (.own x))(k:∀b u,b≠e->h.get? b=some u->h'.get? b=some u)(heo:∃u,h'.get? e=some u):Un fs ex H (upd H x o) h h':=by
 have hx:∀b,H b=none->b≠x:=λb n z=>by subst z;rw[n] at mu;exact mu
 have hb:∀b,H b=none->b≠e:=λb n z=>by
  subst z
  rcases he with r | r
  ·exact hx b n r
  ·rw[n] at r;cases r
 have hm:∀b u,H b=some u->¬ MP (some u)->b≠x:=λb u q nm z=>by subst z;rw[q] at mu;exact nm mu
 refine⟨λb u q n _ _=>k b u (hb b n) q,λb u q n _ _=>⟨u.slots,k b u (hb b n) q⟩,λb u q n _=>by rw[aY (hx b n)];exact n,λb u q _=> ?_,
  λb xs q=>by rw[aY (hm b _ q λz=>z)];exact q,λb u xs q=>by rw[aY (hm b _ q λz=>z)];exact q,λb ps q=>⟨#[],by rw[aY (hm b _ q λz=>z),q];simp⟩⟩
 by_cases hbe:b=e
 ·subst hbe;exact heo
 ·exact⟨u,k b u hbe q⟩
end
noncomputable def MQ (h:Heap)(H:Hp):List Addr:=(List.range h.objs.size).filter λa=>(H a).isSome
noncomputable def ui (h:Heap)(H:Hp):Heap:=PySem.W.hideAll h (MQ h H)
theorem AY (h:Heap)(H:Hp):(ui h H).objs.size=h.objs.size:=PySem.W.hideAll_size _ _
theorem Ce (e:h.get? b=some o)(n:H b=none):(ui h H).get? b=some o :=
 PySem.W.hideAll_get _ e λhm=>by
  have q:(H b).isSome=true:=(Ux.mp hm).2
  rw[n] at q;simp at q
theorem E4 (e:(ui h H).get? b=some o):h.get? b=some o/\H b=none:=by
 have e':h.get? b=some o:=PySem.W.of_hideAll (MQ h H) e
 refine⟨e',?_⟩
 cases q:H b with
 | none=>rfl
 | some x=>
  have hm:b∈MQ h H:=Ux.mpr ⟨X1.mpr (KJ e'),by simp[q]⟩
  have z:(ui h H).get? b=none:=PySem.W.hideAll_none (MQ h H) hm
  rw[z] at e;cases e
structure Mod (K:Frag)(mg:Str->Option Value)(base:Heap):Prop where
 MR:K.In base
 glob:base.Ns mainGlobals mg
 blt:∃mb,base.Ns builtinsNs mb/\∀x:Str,x≠ "__name__" ->mb x=bootBuiltins x
 nolimit:base.NoLimit
structure Cx where
 prog:Program
 w:World
 K:Frag
 mg:Str->Option Value
 base:Heap
 A:Around
 N:List Str
 s₀:Shared
 H₀:Hp
 env:Env
 outer:List Env
 stack:List Env
 ex:List Addr
 fn:Str->Bool
 calm:Bool
 pn:List (Addr×Obj)
 xe:Value->Shared->Prop
noncomputable def frs (l:List Env):List Addr:=l.filterMap (·.frame)
noncomputable abbrev Cx.fs (X:Cx):List Addr:=frs X.outer
def MS (sc:Scope)(x:Str):Prop:=sc.names.lookup x=some .local∨sc.names.lookup x=some .cell∨sc.names.lookup x=some .free
def Loc (sc:Scope)(x:Str):Prop:=sc.names.lookup x=some .local∨sc.names.lookup x=some .cell
def Look (env:Env)(h:Heap)(m:Str->Option Value)(x:Str)(u:Value):Prop :=
 (env.kindOf x=some .local/\m x=some u)∨((env.kindOf x=some .cell∨env.kindOf x=some .free)/\∃c,env.cells.lookup x=some c/\h.IsCell c (some u))
structure Cx.Ok (X:Cx):Prop where
 mod:Mod X.K X.mg X.base
 kind:X.env.scope.kind= .function
 glob:X.env.globals=mainGlobals
 blt:X.env.builtins=builtinsNs
 above:X.s₀.heap.objs.size<=X.env.locals
 inj:∀x y c,X.env.cells.lookup x=some c->X.env.cells.lookup y=some c->x=y
 has:∀x,(X.env.kindOf x=some .cell∨X.env.kindOf x=some .free)->∃c,X.env.cells.lookup x=some c
 cab:∀x c,X.fn x=true->X.env.cells.lookup x=some c->X.s₀.heap.objs.size<=c
 hd:X.calm=true->X.A.handled=none
 frames:X.A.frames=some X.stack
 stk:X.stack=X.outer∨(X.stack=X.env :: X.outer/\X.env.frame=some X.env.locals)
 Lj:∀b∈X.ex,b≠X.env.locals/\∀x c,X.env.cells.lookup x=some c->c≠b
 bs:∀b o,X.base.get? b=some o->X.s₀.heap.get? b=some o/\X.H₀ b=none
 EV:X.base.objs.size<=X.s₀.heap.objs.size
 AZ:∀b o,X.base.get? b=some o->b∉X.ex
 A0:∀b∈X.ex,b∉X.fs
 oW:X.s₀.heap.FunFrames X.base X.outer
 HP:∀b∈X.fs,X.H₀ b=none
structure Inv (X:Cx)(pins:List (Addr×Obj))(σ:List (Option V))(H:Hp)(s:Shared):Prop where
 ok:X.Ok
 os:s.os=X.s₀.os
 bare:AllBare s.gens
 base:Un X.fs X.ex X.H₀ H X.s₀.heap s.heap
 loc:∃m,s.heap.Ns X.env.locals m/\∀(i:Nat) (x:Str) (v:V),X.N[i]? =some x->σ[i]? =some (some v)->MS X.env.scope x->∃u,RelV v u/\Look X.env s.heap m x u
 cell:∀x c,X.env.cells.lookup x=some c->∃v,s.heap.IsCell c v
 free:H X.env.locals=none
 kL:∀x c,X.env.cells.lookup x=some c->H c=none
 pin:∀p∈X.pn++pins,s.heap.get? p.1=some p.2/\H p.1=none/\p.1≠X.env.locals/\p.1∉X.fs/\∀v,p.2.data≠ .cell v
 hok:pN X.prog X.w H s.heap
 len:σ.length=X.N.length
section
variable {X:Cx}{pins:List (Addr×Obj)}{σ:List (Option V)}{H H':Hp}{s:Shared}{h':Heap}
theorem Cx.Ok.Ni (ok:X.Ok)(e:X.base.get? b=some o):b∉X.fs:=λhb=>by
 have:=(ok.oW.mem hb).1
 rw[e] at this;cases this
theorem Inv.bs (I:Inv X pins σ H s):∀b o,X.base.get? b=some o->s.heap.get? b=some o/\H b=none:=λb o e=>
 ⟨I.base.keep b o (I.ok.bs b o e).1 (I.ok.bs b o e).2 (I.ok.Ni e) (I.ok.AZ b o e),I.base.free b o (I.ok.bs b o e).1 (I.ok.bs b o e).2 (I.ok.AZ b o e)⟩
theorem Inv.bk (I:Inv X pins σ H s):∀b o,X.base.get? b=some o->s.heap.get? b=some o:=λb o e=>(I.bs b o e).1
theorem Inv.mod (I:Inv X pins σ H s):Mod X.K X.mg X.base:=I.ok.mod
theorem Inv.KR (I:Inv X pins σ H s):X.K.In s.heap:=I.ok.mod.MR.keeps I.bk
theorem Inv.fr (I:Inv X pins σ H s):∃m,Fr X.base X.env.locals s.heap m :=
 let ⟨m,hn,_⟩:=I.loc
 ⟨m,hn,I.bk,Kw I.ok.EV I.ok.above⟩
theorem Inv.lt (I:Inv X pins σ H s):X.env.locals < s.heap.objs.size:=let ⟨_,hn,_⟩:=I.loc;hn.lt
theorem Inv.sz (I:Inv X pins σ H s):X.s₀.heap.objs.size<=s.heap.objs.size:=Kw I.ok.above (J1 I.lt)
theorem Inv.Nj (I:Inv X pins σ H s){a:Addr}(h:s.heap.objs.size<=a):a∉X.fs:=λhb=>by
 obtain⟨_,o,ho,_⟩:=I.ok.oW.mem hb
 exact absurd (X3 (KJ ho) (Kw I.sz h)) (U2 _)
theorem Inv.HQ (I:Inv X pins σ H s):∀x c,X.env.cells.lookup x=some c->c≠X.env.locals:=λx c e z=>by
 obtain⟨v,o,ho,hd⟩:=I.cell x c e
 obtain⟨m,⟨o',es,ep,ho',hd',_⟩,_⟩:=I.loc
 rw[z,ho'] at ho;cases ho;rw[hd'] at hd;cases hd
theorem Inv.oW (I:Inv X pins σ H s):s.heap.FunFrames X.base X.outer:=by
 have all:∀(l:List Env),(∀b∈frs l,b∈X.fs)->X.s₀.heap.FunFrames X.base l->s.heap.FunFrames X.base l:=by
  intro l
  induction l with
  | nil=>intro _ _;trivial
  | cons env r ih=>
   intro hs hl
   obtain⟨hk,⟨L,o,hf,hn,ho,hd⟩,hr⟩:=hl
   have hL:L∈X.fs:=hs L (by unfold frs;rw[U6,hf];exact K9)
   obtain⟨sl,e⟩:=I.base.slot L o ho (I.ok.HP L hL) hL λz=>I.ok.A0 L z hL
   exact⟨hk,⟨L,_,hf,hn,e,hd⟩,ih (λb hb=>hs b (by unfold frs;rw[U6,hf];exact K8 _ hb)) hr⟩
 exact all X.outer (λ_ hb=>hb) I.ok.oW
theorem Inv.stack (I:Inv X pins σ H s):s.heap.FunFrames X.base X.stack:=by
 rcases I.ok.stk with e | ⟨e,hf⟩
 ·rw[e];exact I.oW
 ·rw[e]
  obtain⟨m,hn,_⟩:=I.loc
  refine .cons (by rw[I.ok.kind];decide) hf hn ?_ I.oW
  exact Heap.get?_none_of_le (Kw I.ok.EV I.ok.above)
theorem Inv.yn (I:Inv X pins σ H s):∀b∈frs X.stack,b∈X.env.locals :: X.fs:=λb hb=>by
 rcases I.ok.stk with e | ⟨e,hf⟩
 ·rw[e] at hb;exact K8 _ hb
 ·rw[e] at hb
  unfold frs at hb
  rw[U6,hf] at hb
  exact hb
theorem Inv.zA (I:Inv X pins σ H s):∀b∈frs X.stack,H b=none:=λb hb=>by
 rcases Kx.mp (I.yn b hb) with e | hb
 ·rw[e];exact I.free
 ·obtain⟨_,o,ho,_⟩:=I.ok.oW.mem hb
  exact I.base.free b o ho (I.ok.HP b hb) λz=>I.ok.A0 b z hb
theorem Inv.step {g':Array GenState}{t':Nat}{d':Drawn}{ch:List Addr}(I:Inv X pins σ H s)
  (hch:∀b∈ch,(b∈X.ex∨X.s₀.heap.objs.size<=b)/\b≠X.env.locals/\(∀x c,X.env.cells.lookup x=some c->c≠b)/\∀p∈X.pn++pins,p.1≠b)
  (keep:∀b o,b≠X.env.locals->b∉X.fs->b∉ch->s.heap.get? b=some o->H b=none->h'.get? b=some o)
  (slot:∀b o,b≠X.env.locals->b∈X.fs->b∉ch->s.heap.get? b=some o->H b=none->∃sl,h'.get? b=some {o with slots:=sl}) (free:∀b o,b∉ch->s.heap.get? b=some o->H b=none->H' b=none)
  (there:∀b o,b∉ch->s.heap.get? b=some o->∃o',h'.get? b=some o')
  (tups:∀b xs,H b=some (.tup xs)->H' b=some (.tup xs)) (uh:∀b o u,H b=some (.EU o u)->H' b=some (.EU o u)) (vO:∀b ps,H b=some (.HN ps)->∃more,H' b=some (.HN (ps++more)))
  (ns:∀m,s.heap.Ns X.env.locals m->h'.Ns X.env.locals m) (hok:pN X.prog X.w H' h') (hg:AllBare g') :
  Inv X pins σ H' {s with heap:=h',gens:=g',drawn:=d',toks:=t'}:=by
 have OO:∀b o,X.s₀.heap.get? b=some o->b≠X.env.locals:=λb o e=>Xk (X3 (KJ e) I.ok.above)
 have MT:∀b o,X.s₀.heap.get? b=some o->b∉X.ex->b∉ch:=λb o e hx hb=>by
  rcases(hch b hb).1 with z | z
  ·exact hx z
  ·exact absurd (X3 (KJ e) z) (U2 _)
 have cellK:∀x c,X.env.cells.lookup x=some c->∀v,s.heap.IsCell c v->h'.IsCell c v:=λx c e v ⟨o,ho,hd⟩=>by
  have Ll:c∉ch:=λz=>(hch c z).2.2.1 x c e rfl
  by_cases hc:c∈X.fs
  ·obtain⟨sl,q⟩:=slot c o (I.HQ x c e) hc Ll ho (I.kL x c e)
   exact⟨_,q,hd⟩
  ·exact⟨o,keep c o (I.HQ x c e) hc Ll ho (I.kL x c e),hd⟩
 refine⟨I.ok,I.os,hg,⟨λb o e n hb hx=> ?_,λb o e n hb hx=> ?_,λb o e n hx=> ?_,λb o e hx=> ?_,λb xs e=>tups b xs (I.base.tups b xs e),λb o xs e=>uh b o xs (I.base.uh b o xs e),λb ps e=> ?_⟩,?_,λx c e=> ?_,?_,λx c e=> ?_,λp hp=> ?_,hok,I.len⟩
 ·exact keep b o (OO b o e) hb (MT b o e hx) (I.base.keep b o e n hb hx) (I.base.free b o e n hx)
 ·obtain⟨sl,e1⟩:=I.base.slot b o e n hb hx
  obtain⟨sl',e2⟩:=slot b _ (OO b o e) hb (MT b o e hx) e1 (I.base.free b o e n hx)
  exact⟨sl',e2⟩
 ·obtain⟨o',e1⟩:=I.base.there b o e hx
  exact free b o' (MT b o e hx) e1 (I.base.free b o e n hx)
 ·obtain⟨o',e1⟩:=I.base.there b o e hx
  exact there b o' (MT b o e hx) e1
 ·obtain⟨m1,e1⟩:=I.base.vO b ps e
  obtain⟨m2,e2⟩:=vO b _ e1
  exact⟨m1++m2,by rw[e2,Array.append_assoc]⟩
 ·obtain⟨m,hn,hl⟩:=I.loc
  refine⟨m,ns m hn,λi x v e1 e2 e3=> ?_⟩
  obtain⟨u,r,l⟩:=hl i x v e1 e2 e3
  refine⟨u,r,?_⟩
  rcases l with l | ⟨k,c,e,z⟩
  ·exact .inl l
  ·exact .inr ⟨k,c,e,cellK x c e _ z⟩
 ·obtain⟨v,z⟩:=I.cell x c e
  exact⟨v,cellK x c e v z⟩
 ·obtain⟨m,⟨o,_,_,ho,_⟩,_⟩:=I.loc
  exact free _ o (λz=>(hch _ z).2.1 rfl) ho I.free
 ·obtain⟨v,o,ho,hd⟩:=I.cell x c e
  exact free c o (λz=>(hch c z).2.2.1 x c e rfl) ho (I.kL x c e)
 ·obtain⟨e,n,ne,nf,d⟩:=I.pin p hp
  have Ll:p.1∉ch:=λz=>(hch p.1 z).2.2.2 p hp rfl
  exact⟨keep p.1 p.2 ne nf Ll e n,free p.1 p.2 Ll e n,ne,nf,d⟩
theorem Inv.un (I:Inv X pins σ H s)(u:Un X.fs [] H H' s.heap h')(hok:pN X.prog X.w H' h'):Inv X pins σ H' {s with heap:=h',toks:=t'}:=by
 obtain⟨m,⟨o,es,ep,ho,r⟩,_⟩:=id I.loc
 obtain⟨sl,hL⟩:=u.any ho I.free (by simp)
 exact I.step (g':=s.gens) (d':=s.drawn) (ch:=[]) (λ_ z=>nomatch z) (λb o _ hb _ e n=>u.keep b o e n hb (by simp)) (λb o _ hb _ e n=>u.slot b o e n hb (by simp)) (λb o _ e n=>u.free b o e n (by simp)) (λb o _ e=>u.there b o e (by simp)) u.tups u.uh u.vO (λm' hm=>by
  obtain⟨o',es',ep',ho',r'⟩:=hm
  rw[ho] at ho';cases ho'
  exact⟨_,es',ep',hL,r'⟩) hok I.bare
theorem Inv.call (I:Inv X pins σ H s)(u:Un (frs X.stack) ch H H' s.heap h')(hok:pN X.prog X.w H' h')(hg:AllBare g')
  (hch:∀b∈ch,(b∈X.ex∨X.s₀.heap.objs.size<=b)/\b≠X.env.locals/\(∀x c,X.env.cells.lookup x=some c->c≠b)/\∀p∈X.pn++pins,p.1≠b) :
  Inv X pins σ H' {s with heap:=h',gens:=g',drawn:=d',toks:=t'}:=by
 obtain⟨m,⟨o,es,ep,ho,r⟩,_⟩:=id I.loc
 obtain⟨sl,hL⟩:=u.any ho I.free λz=>(hch _ z).2.1 rfl
 exact I.step (ch:=ch) hch (λb o hL hb hc e n=>u.keep b o e n (λz=>(Kx.mp (I.yn b z)).elim hL hb) hc) (λb o _ _ hc e n=>u.any e n hc) (λb o hc e n=>u.free b o e n hc) (λb o hc e=>u.there b o e hc) u.tups u.uh u.vO (λm' hm=>by
  obtain⟨o',es',ep',ho',r'⟩:=hm
  rw[ho] at ho';cases ho'
  exact⟨_,es',ep',hL,r'⟩) hok hg
theorem Inv.turned (I:Inv X pins σ H s)(k:∀b o,b≠it->s.heap.get? b=some o->h'.get? b=some o)(hn:H it=none)(hL:it≠X.env.locals)
  (h1:it∈X.ex∨X.s₀.heap.objs.size<=it) (h2:∀x c,X.env.cells.lookup x=some c->c≠it) (h3:∀p∈X.pn++pins,p.1≠it):Inv X pins σ H {s with heap:=h',toks:=t'}:=by
 have OP:∀b u,H b=some u->b≠it:=λb u e z=>by rw[z,hn] at e;cases e
 refine I.step (g':=s.gens) (d':=s.drawn) (ch:=[it]) (λb hb=> ?_) (λb o _ _ hc e _=>k b o (λz=>hc (by simp[z])) e) (λb o _ _ hc e _=>⟨o.slots,k b o (λz=>hc (by simp[z])) e⟩) (λ_ _ _ _ n=>n)
  (λb o hc e=>⟨o,k b o (λz=>hc (by simp[z])) e⟩) (λ_ _ e=>e) (λ_ _ _ e=>e) (λb ps e=>⟨#[],by rw[e];simp⟩) (λm hm=> ?_) (λb u e=> ?_) I.bare
 ·have e:b=it:=by simpa using hb
  subst e
  exact⟨h1,hL,h2,h3⟩
 ·obtain⟨o,es,ep,ho,r⟩:=hm
  exact⟨o,es,ep,k _ o (Ne.symm hL) ho,r⟩
 ·refine(I.hok b u e).stay (λc v hc q=>k c v ?_ q) (λ_ q=>q) λ_ _ q=>q
  rcases hc with z | z
  ·rw[z];exact OP b u e
  ·exact OP c _ z
theorem Inv.tok (I:Inv X pins σ H s)(t:Nat):Inv X pins σ H {s with toks:=t}:=I.un (h':=s.heap) (t':=t) Un.refl I.hok
theorem Inv.kept (I:Inv X pins σ H s)(k:∀b u,s.heap.get? b=some u->h'.get? b=some u):Inv X pins σ H {s with heap:=h',toks:=t'}:=I.un (Un.kept k) (I.hok.kept k)
theorem Inv.laid {a:Addr}{o:HO}{t':Nat}(I:Inv X pins σ H s)(k:∀b u,s.heap.get? b=some u->h'.get? b=some u)(hp:s.heap.objs.size<=a)(new:fu X.prog X.w (upd H a o) h' a o) :
  Inv X pins σ (upd H a o) {s with heap:=h',toks:=t'}:=I.un (Un.laid k hp (I.hok.fresh hp)) (I.hok.laid k hp new)
theorem Inv.write (I:Inv X pins σ H s)(mu:MP (H x))(he:e=x∨H e=some (.own x))(k:∀b u,b≠e->s.heap.get? b=some u->h'.get? b=some u)(heo:∃u,h'.get? e=some u)
  (new:fu X.prog X.w (upd H x o) h' x o):Inv X pins σ (upd H x o) {s with heap:=h',toks:=t'}:=I.un (Un.write mu he k heo) (I.hok.write mu he k heo new)
theorem Inv.weak (I:Inv X pins σ H s)(hl:σ'.length=σ.length)(w:∀(i:Nat) v,σ'[i]? =some (some v)->σ[i]? =some (some v)):Inv X pins σ' H s :=
 ⟨I.ok,I.os,I.bare,I.base,let ⟨m,hn,hl'⟩:=I.loc;⟨m,hn,λi x v e1 e2 e3=>hl' i x v e1 (w i v e2) e3⟩,I.cell,I.free,I.kL,I.pin,I.hok,hl.trans I.len⟩
theorem Inv.zB (I:Inv X pins σ H s)(h:∀p∈Lm,s.heap.get? p.1=some p.2/\H p.1=none/\p.1≠X.env.locals/\p.1∉X.fs/\∀v,p.2.data≠ .cell v):Inv X Lm σ H s :=
 ⟨I.ok,I.os,I.bare,I.base,I.loc,I.cell,I.free,I.kL,λp hp=>(K1.mp hp).elim (λz=>I.pin p (KY _ z)) (h p),I.hok,I.len⟩
theorem vP {N:List Str}(hN:N.Nodup){i j:Nat}{x:Str}(a:N[i]? =some x)(b:N[j]? =some x):i=j:=by
 obtain⟨h1,e1⟩:=Xz.mp a
 obtain⟨h2,e2⟩:=Xz.mp b
 exact(List.getElem_inj hN).mp (e1.trans e2.symm)
theorem sI (I:Inv X pins σ H s)(hN:X.N.Nodup)(hi:X.N[i]? =some x)(hx:Loc X.env.scope x)(r:RelV v u)
  (h:∀s',Inv X pins (σ.set i (some v)) H s'->(∃a,Heap.SameBut a s.heap s'.heap/\(a=X.env.locals∨X.env.cells.lookup x=some a))->Q () s') (hf:X.fn x=true∨X.env.scope.names.lookup x=some .local:=by first | exact .inl rfl | exact .inr rfl | assumption):wpAny M A (storeName X.env x u) Q E s:=by
 obtain⟨m,hn,hl⟩:=id I.loc
 have hcls:(X.env.scope.kind== .class || (X.env.scope.kind== .module && X.env.locals !=X.env.globals))=false:=by rw[I.ok.kind];rfl
 have hiσ:i < σ.length:=by rw[I.len];exact(Xz.mp hi).1
 have HQ:=I.HQ
 have tracked:∀{a:Addr} {h':Heap},(∃o,s.heap.get? a=some o/\H a=none)->Heap.SameBut a s.heap h'->pN X.prog X.w H h':=λ{a h'} ha hs b ob e=>by
  obtain⟨_,_,hfree⟩:=ha
  refine(I.hok b ob e).stay (λc w' hc q=>(hs.2 c ?_).trans q) (λ_ q=>q) λ_ _ q=>q
  rintro rfl
  rcases hc with rfl | hc
  ·rw[hfree] at e;cases e
  ·rw[hfree] at hc;cases hc
 rcases hx with hk | hk
 ·refine wpAny_storeName_local hk hn (λh' hn' hs=> ?_) hcls
  obtain⟨oL,_,_,hoL,_⟩:=id hn
  refine h _ ⟨I.ok,I.os,I.bare,⟨λb o e n hb hx=> ?_,λb o e n hb hx=> ?_,I.base.free,λb o e hx=> ?_,I.base.tups,I.base.uh,I.base.vO⟩,⟨_,hn',λj y v' e1 e2 e3=> ?_⟩,λy c e=> ?_,I.free,I.kL,λp hp=> ?_,tracked ⟨oL,hoL,I.free⟩ hs,by simpa using I.len⟩ ⟨_,hs,.inl rfl⟩
  ·exact(hs.2 b (Xk (X3 (KJ e) I.ok.above))).trans (I.base.keep b o e n hb hx)
  ·obtain⟨sl,e1⟩:=I.base.slot b o e n hb hx
   exact⟨sl,(hs.2 b (Xk (X3 (KJ e) I.ok.above))).trans e1⟩
  ·obtain⟨o',e1⟩:=I.base.there b o e hx
   exact⟨o',(hs.2 b (Xk (X3 (KJ e) I.ok.above))).trans e1⟩
  ·by_cases hj:j=i
   ·subst hj
    rw[hi] at e1;cases e1
    rw[U8 hiσ] at e2
    cases e2
    exact⟨u,r,.inl ⟨hk,by simp⟩⟩
   ·rw[U7 (Ne.symm hj)] at e2
    obtain⟨u',r',q⟩:=hl j y v' e1 e2 e3
    refine⟨u',r',?_⟩
    rcases q with⟨k,e⟩ | ⟨k,c,e,z⟩
    ·refine .inl ⟨k,?_⟩
     have:y≠x:=λe=>hj (vP hN e1 (e ▸ hi))
     simp[this,e]
    ·exact .inr ⟨k,c,e,z.sameBut hs (HQ y c e)⟩
  ·obtain⟨w',z⟩:=I.cell y c e
   exact⟨w',z.sameBut hs (HQ y c e)⟩
  ·obtain⟨e,n,ne,nf,d⟩:=I.pin p hp
   exact⟨(hs.2 p.1 ne).trans e,n,ne,nf,d⟩
 ·have hfn:X.fn x=true:=by
   rcases hf with z | z
   ·exact z
   ·rw[z] at hk;cases hk
  obtain⟨c,hc⟩:=I.ok.has x (.inl hk)
  obtain⟨w',z⟩:=I.cell x c hc
  refine wpAny_storeName_cell I.ok.kind hk hc z (λh' hc' hs=> ?_)
  obtain⟨oc,hoc,Nk⟩:=id z
  refine h {s with heap:=h'} ⟨I.ok,I.os,I.bare,⟨λb o e n hb hx=> ?_,λb o e n hb hx=> ?_,I.base.free,λb o e hx=> ?_,I.base.tups,I.base.uh,I.base.vO⟩,⟨m,hn.sameBut hs (Ne.symm (HQ x c hc)),λj y v' e1 e2 e3=> ?_⟩,λy c' e=> ?_,I.free,I.kL,λp hp=> ?_,tracked ⟨oc,hoc,I.kL x c hc⟩ hs,by simpa using I.len⟩ ⟨c,hs,.inr hc⟩
  ·exact(hs.2 b (Xk (X3 (KJ e) (I.ok.cab x c hfn hc)))).trans (I.base.keep b o e n hb hx)
  ·obtain⟨sl,e1⟩:=I.base.slot b o e n hb hx
   exact⟨sl,(hs.2 b (Xk (X3 (KJ e) (I.ok.cab x c hfn hc)))).trans e1⟩
  ·obtain⟨o',e1⟩:=I.base.there b o e hx
   exact⟨o',(hs.2 b (Xk (X3 (KJ e) (I.ok.cab x c hfn hc)))).trans e1⟩
  ·by_cases hj:j=i
   ·subst hj
    rw[hi] at e1;cases e1
    rw[U8 hiσ] at e2
    cases e2
    exact⟨u,r,.inr ⟨.inl hk,c,hc,hc'⟩⟩
   ·rw[U7 (Ne.symm hj)] at e2
    obtain⟨u',r',q⟩:=hl j y v' e1 e2 e3
    refine⟨u',r',?_⟩
    rcases q with q | ⟨k,c',e,z'⟩
    ·exact .inl q
    ·refine .inr ⟨k,c',e,z'.sameBut hs ?_⟩
     rintro rfl
     exact hj (vP hN e1 (I.ok.inj _ _ _ e hc ▸ hi))
  ·by_cases hcc:c'=c
   ·subst hcc;exact⟨_,hc'⟩
   ·obtain⟨w2,z2⟩:=I.cell y c' e
    exact⟨w2,z2.sameBut hs hcc⟩
  ·obtain⟨e,n,ne,nf,d⟩:=I.pin p hp
   refine⟨(hs.2 p.1 ?_).trans e,n,ne,nf,d⟩
   intro q
   rw[q,hoc] at e
   have q':oc=p.2:=Option.some.inj e
   exact d w' (by rw[←q'];exact Nk)
theorem vQ (I:Inv X pins σ H s)(hN:X.N.Nodup)(hi:X.N[i]? =some x)(hx:Loc X.env.scope x)(r:RelV v u)
  (h:∀s',Inv X pins (σ.set i (some v)) H s'->Q () s') (hf:X.fn x=true∨X.env.scope.names.lookup x=some .local:=by first | exact .inl rfl | exact .inr rfl | assumption):wpAny M A (storeName X.env x u) Q E s :=
 sI I hN hi hx r (λs' I' _=>h s' I') hf
theorem Inv.call' (I:Inv X pins σ H s)(ho:s'.os=s.os)(u:Un (frs X.stack) ch H H' s.heap s'.heap)(hok:pN X.prog X.w H' s'.heap)(hg:AllBare s'.gens)
  (hch:∀b∈ch,(b∈X.ex∨X.s₀.heap.objs.size<=b)/\b≠X.env.locals/\(∀x c,X.env.cells.lookup x=some c->c≠b)/\∀p∈X.pn++pins,p.1≠b):Inv X pins σ H' s':=by
 obtain⟨h',g',d',t',o'⟩:=s'
 have e:o'=s.os:=ho
 subst e
 exact I.call (g':=g') (t':=t') (d':=d') u hok hg hch
end
abbrev XK:=Value->Option Addr->Hp->Prop
abbrev St:=List (Option V)
abbrev VK:=V->Hp->Prop
abbrev TE:=St->Hp->VK->Prop
abbrev TT:=St->Hp->(Bool->Hp->Prop)->Prop
abbrev TA:=St->Hp->(List V->Hp->Prop)->Prop
structure Ends where
 nx:St->Hp->Prop
 rt:VK
 bk:St->Hp->Prop:=λ_ _=>False
 ct:St->Hp->Prop:=λ_ _=>False
abbrev TS:=Ends->St->Hp->Prop
def EP (X:Cx)(pins:List (Addr×Obj))(σ:St)(Q:VK)(u:Value)(s':Shared):Prop:=∃v H',Inv X pins σ H' s'/\RelV v u/\Q v H'
def TP (X:Cx)(pins:List (Addr×Obj))(σ:St)(Q:Bool->Hp->Prop)(b:Bool)(s':Shared):Prop:=∃H',Inv X pins σ H' s'/\Q b H'
def AP (X:Cx)(pins:List (Addr×Obj))(σ:St)(Q:List V->Hp->Prop)(us:List Value)(s':Shared):Prop:=∃vs H',Inv X pins σ H' s'/\Vals vs us/\Q vs H'
def SP (X:Cx)(pins:List (Addr×Obj))(D:Ends)(f:Flow)(s':Shared):Prop :=
 match f with
 | .next=>∃σ' H',Inv X pins σ' H' s'/\D.nx σ' H'
 | .brk=>∃σ' H',Inv X pins σ' H' s'/\D.bk σ' H'
 | .cont=>∃σ' H',Inv X pins σ' H' s'/\D.ct σ' H'
 | .ret u=>∃v σ' H',Inv X pins σ' H' s'/\RelV v u/\D.rt v H'
def PE (X:Cx)(e:Expr)(t:TE):Prop :=
 ∀(pins:List (Addr×Obj)) (s:Shared) (σ:St) (H:Hp) (Q:VK),Inv X pins σ H s->t σ H Q->wpAny (!7) X.A (eval e X.env) (EP X pins σ Q) X.xe s
def PT (X:Cx)(e:Expr)(t:TT):Prop :=
 ∀(pins:List (Addr×Obj)) (s:Shared) (σ:St) (H:Hp) (Q:Bool->Hp->Prop),Inv X pins σ H s->t σ H Q->wpAny (!7) X.A (isTrue e X.env (eval e X.env)) (TP X pins σ Q) X.xe s
def PW (X:Cx)(e:Expr)(t:TT):Prop :=
 ∀(whole:Sem Value) (pins:List (Addr×Obj)) (s:Shared) (σ:St) (H:Hp) (Q:Bool->Hp->Prop),Inv X pins σ H s->t σ H Q->wpAny (!7) X.A (isTrue e X.env whole) (TP X pins σ Q) X.xe s
theorem PW.pt (h:PW X e t):PT X e t:=h _
def PA (X:Cx)(es:List Expr)(t:TA):Prop :=
 ∀(pos:Pos) (pins:List (Addr×Obj)) (s:Shared) (σ:St) (H:Hp) (Q:List V->Hp->Prop),Inv X pins σ H s->t σ H Q->wpAny (!7) X.A (spliced (backTo pos (starEach es X.env))) (AP X pins σ Q) X.xe s
def PS (X:Cx)(st:Stmt)(t:TS):Prop :=
 ∀(pins:List (Addr×Obj)) (s:Shared) (σ:St) (H:Hp) (D:Ends),Inv X pins σ H s->t D σ H->wpAny (!7) X.A (exec st X.env) (SP X pins D) X.xe s
def rR (X:Cx)(st:List Stmt)(t:TS):Prop :=
 ∀(pins:List (Addr×Obj)) (s:Shared) (σ:St) (H:Hp) (D:Ends),Inv X pins σ H s->t D σ H->wpAny (!7) X.A (execs st X.env) (SP X pins D) X.xe s
theorem di {α:Type}{t:Sem α}{Q Q':α->Shared->Prop}{M:Model}{A:Around}{E:Zu}{s:Shared}(h:wpAny M A t Q E s)(hQ:∀a s,Q a s->Q' a s):wpAny M A t Q' E s:=wpAny_mono h hQ λ_ _ x=>x
section
variable {X:Cx}
def mh (i:Nat):TE:=λσ H Q=>∃v,σ[i]? =some (some v)/\Q v H
def tC (v:V):TE:=λ_ H Q=>Q v H
theorem Cf {i:Nat}{x:Str}{pos:Pos}(hN:X.N[i]? =some x)(hv:MS X.env.scope x)(hd:(x==("__debug__":Str))=false:=by decide)(hcd:(x==("__classdict__":Str))=false:=by decide):PE X (.Name x pos) (mh i):=by
 intro pins s σ H Q I h
 obtain⟨v,e,h⟩:=h
 obtain⟨m,hn,hl⟩:=I.loc
 obtain⟨u,r,l⟩:=hl i x v hN e hv
 have fin:EP X pins σ Q u s:=⟨v,H,I,r,h⟩
 rcases l with⟨hk,hm⟩ | ⟨hk,c,hc,hcell⟩
 ·exact wpAny_Name (wpAny_loadName_local I.ok.kind hk hn hm fin) hd
 ·rcases hk with hk | hk
  ·exact wpAny_Name (wpAny_loadName_cell I.ok.kind hk hc hcell fin) hd
  ·exact wpAny_Name (wpAny_loadName_free I.ok.kind hk hc hcell fin hcd) hd
theorem HR {i j pos}:PE X (.Constant (.int i) j pos) (tC (.int i)):=λ_ _ _ H _ I h=>wpAny_Constant_int ⟨.int i,H,I.tok _,⟨_,rfl⟩,h⟩
theorem Ln {b j pos}:PE X (.Constant (.bool b) j pos) (tC (.bl b)):=λ_ _ _ H _ I h=>Constant_bool ⟨.bl b,H,I,rfl,h⟩
theorem HS {j pos}:PE X (.Constant .none j pos) (tC .non):=λ_ _ _ H _ I h=>Constant_none ⟨.non,H,I,rfl,h⟩
theorem HU {x j pos}:PE X (.Constant (.str x) j pos) (tC (.str x)):=λ_ _ _ H _ I h=>Calls.Constant_str ⟨.str x,H,I.tok _,⟨_,rfl⟩,h⟩
def Gl (X:Cx)(x:Str):Prop:=X.env.kindOf x=some .globalImplicit
theorem zC {E:Zu}{pins:List (Addr×Obj)}{s:Shared}{σ:St}{H:Hp}{x:Str}{u:Value}{pos:Pos}{Q:Zu}(I:Inv X pins σ H s)(hg:Gl X x)(hm:X.mg x=some u)(h:Q u s)
  (hd:(x==("__debug__":Str))=false:=by decide):wpAny (!7) X.A (eval (.Name x pos) X.env) Q E s :=
 Calls.Name_function_global I.ok.kind hg (Calls.loadGlobal_global (by rw[I.ok.glob];exact I.mod.glob.keeps I.bk) hm h) hd
theorem gO {E:Zu}{pins:List (Addr×Obj)}{s:Shared}{σ:St}{H:Hp}{x:Str}{u:Value}{pos:Pos}{Q:Zu}(I:Inv X pins σ H s)(hg:Gl X x)(hm:X.mg x=none)(hv:bootBuiltins x=some u)(h:Q u s)
  (hn:x≠ "__name__":=by decide) (hd:(x==("__debug__":Str))=false:=by decide):wpAny (!7) X.A (eval (.Name x pos) X.env) Q E s:=by
 obtain⟨mb,h1,h2⟩:=I.mod.blt
 exact Calls.Name_function_global I.ok.kind hg (Calls.loadGlobal_builtin (by rw[I.ok.glob];exact I.mod.glob.keeps I.bk) hm (by rw[I.ok.blt];exact h1.keeps I.bk) ((h2 x hn).trans hv) h) hd
theorem E5 (hg:Gl X x)(hm:X.mg x=some u)(r:RelV v u)(hd:(x==("__debug__":Str))=false:=by decide):PE X (.Name x pos) (tC v) :=
 λ_ _ _ H _ I h=>zC I hg hm ⟨v,H,I,r,h⟩ hd
variable {a b:Expr}{ta tb:TE}{pos:Pos}
def tB (t:TE):TT:=λσ H Q=>t σ H λx H1=>∃c,x= .bl c/\Q c H1
theorem HV (h:PE X e t)(he:∀whole,isTrue e X.env whole=(do let v←whole;standAt e.pos;holding [v] (truthy v)):=by intro _;rfl):PT X e (tB t):=by
 intro pins s σ H Q I hw
 refine isTrue_plain (di (h pins s σ H _ I hw) λv s1 ⟨x,H1,I1,r1,q1⟩=> ?_) (he _)
 obtain⟨d,rfl,q⟩:=q1
 cases r1
 exact wpAny_truthy_bool ⟨H1,I1,q⟩
variable {tA MU:TT}{rest:List Expr}
def Nl (t u:TT):TT:=λσ H Q=>t σ H λc H1=>if c=true then u σ H1 Q else Q false H1
def Pq (t u:TT):TT:=λσ H Q=>t σ H λc H1=>if c=true then Q true H1 else u σ H1 Q
def Nm (t:TT):TT:=λσ H Q=>t σ H λc H1=>Q (!c) H1
theorem E6 (ha:PT X a tA):PW X (.BoolOp .And [a] pos) tA:=by
 intro wh pins s σ H Q I h
 refine isTrue_and (di (ha pins s σ H Q I h) λc s1 e=> ?_)
 cases c with
 | true=>exact isTrue_and_nil e
 | false=>exact e
theorem HW (ha:PT X a tA):PW X (.BoolOp .Or [a] pos) tA:=by
 intro wh pins s σ H Q I h
 refine isTrue_or (di (ha pins s σ H Q I h) λc s1 e=> ?_)
 cases c with
 | false=>exact isTrue_or_nil e
 | true=>exact e
theorem HX (ha:PT X a tA)(hb:PW X (.BoolOp .And (b :: rest) pos) MU):PW X (.BoolOp .And (a :: b :: rest) pos) (Nl tA MU):=by
 intro wh pins s σ H Q I h
 refine isTrue_and (di (ha pins s σ H _ I h) λc s1 ⟨H1,I1,q1⟩=> ?_)
 cases c with
 | true=>exact hb wh pins s1 σ H1 Q I1 q1
 | false=>exact⟨H1,I1,q1⟩
theorem Lo (ha:PT X a tA)(hb:PW X (.BoolOp .Or (b :: rest) pos) MU):PW X (.BoolOp .Or (a :: b :: rest) pos) (Pq tA MU):=by
 intro wh pins s σ H Q I h
 refine isTrue_or (di (ha pins s σ H _ I h) λc s1 ⟨H1,I1,q1⟩=> ?_)
 cases c with
 | true=>exact⟨H1,I1,q1⟩
 | false=>exact hb wh pins s1 σ H1 Q I1 q1
theorem HY (ha:PT X a tA):PT X (.UnaryOp .Not a pos) (Nm tA):=by
 intro pins s σ H Q I h
 exact isTrue_not (ha pins s σ H (λc H1=>Q (!c) H1) I h)
def Lp (ta tb:TE):TE:=λσ H Q=>ta σ H λx H1=>∃c,x= .bl c/\if c=true then tb σ H1 Q else Q (.bl false) H1
def Nn (ta tb:TE):TE:=λσ H Q=>ta σ H λx H1=>∃c,x= .bl c/\if c=true then Q (.bl true) H1 else tb σ H1 Q
theorem HZ {op}(h:PE X a t):PE X (.BoolOp op [a] pos) t:=λpins s σ H Q I hw=>BoolOp_one (h pins s σ H Q I hw)
theorem H_ (ha:PE X a ta)(hb:PE X (.BoolOp .And (b :: rest) pos) tb):PE X (.BoolOp .And (a :: b :: rest) pos) (Lp ta tb):=by
 intro pins s σ H Q I h
 refine BoolOp_and (di (ha pins s σ H _ I h) λv s1 ⟨x,H1,I1,r1,q1⟩=> ?_)
 obtain⟨c,rfl,q1⟩:=q1
 cases r1
 refine wpAny_truthy_bool ?_
 cases c with
 | true=>exact hb pins s1 σ H1 Q I1 q1
 | false=>exact⟨.bl false,H1,I1,rfl,q1⟩
theorem Lq (ha:PE X a ta)(hb:PE X (.BoolOp .Or (b :: rest) pos) tb):PE X (.BoolOp .Or (a :: b :: rest) pos) (Nn ta tb):=by
 intro pins s σ H Q I h
 refine BoolOp_or (di (ha pins s σ H _ I h) λv s1 ⟨x,H1,I1,r1,q1⟩=> ?_)
 obtain⟨c,rfl,q1⟩:=q1
 cases r1
 refine wpAny_truthy_bool ?_
 cases c with
 | false=>exact hb pins s1 σ H1 Q I1 q1
 | true=>exact⟨.bl true,H1,I1,rfl,q1⟩
def Pr (t:TT)(ta tb:TE):TE:=λσ H Q=>t σ H λc H1=>if c=true then ta σ H1 Q else tb σ H1 Q
theorem Cg (hc:PT X c tA)(ha:PE X a ta)(hb:PE X b tb):PE X (.IfExp c a b pos) (Pr tA ta tb):=by
 intro pins s σ H Q I h
 refine wpAny_IfExp (di (hc pins s σ H _ I h) λd s1 ⟨H1,I1,q1⟩=> ?_)
 cases d with
 | true=>exact ha pins s1 σ H1 Q I1 q1
 | false=>exact hb pins s1 σ H1 Q I1 q1
end
def fU (K:Frag)(H:Hp)(a:Addr)(xs:List V):Prop :=
 Rd H a (.lst xs)∨
  ∃(o:Obj) (its:Array Value) (n:Nat),K.lookup a=some o/\o.cls= .type "list" /\o.dict=none/\o.data= .seq its n/\its.size<=sizeLine/\Vals xs its.toList
def eK (K:Frag)(H:Hp)(a:Addr)(xs:List V):Prop :=
 Rd H a (.tup xs)∨
  ∃(o:Obj) (its:Array Value) (n:Nat),K.lookup a=some o/\o.cls= .type "tuple" /\o.data= .seq its n/\its.size<=sizeLine/\Vals xs its.toList
noncomputable def Np:Value->Option V
 | .none=>some .non
 | .bool b=>some (.bl b)
 | .int i _=>some (.int i)
 | .str x _=>some (.str x)
 | .bytes b _=>some (.Ng b)
 | .float b _=>some (.flt b)
 | .ref a=>some (.ref a)
 | .type n=>some (.ty n)
 | _=>none
theorem RelV.abs (r:RelV x u):Np u=some x:=by
 cases x with
 | non=>cases r;rfl
 | bl _=>cases r;rfl
 | int _=>obtain⟨t,rfl⟩:=r;rfl
 | str _=>obtain⟨t,rfl⟩:=r;rfl
 | Ng _=>obtain⟨t,rfl⟩:=r;rfl
 | flt _=>obtain⟨t,rfl⟩:=r;rfl
 | ref _=>cases r;rfl
 | ty _=>cases r;rfl
theorem RelV.inj (r:RelV x u)(q:RelV y u):x=y:=Option.some.inj (r.abs.symm.trans q.abs)
theorem Vals.inj:∀{xs ys:List V} {us:List Value},Vals xs us->Vals ys us->xs=ys
 | _,_,_,.nil,.nil=>rfl
 | _,_,_,.cons r t,.cons r' t'=>by rw[r.inj r',Vals.inj t t']
section
variable {X:Cx}{pins:List (Addr×Obj)}{σ:St}{H:Hp}{s:Shared}{a:Addr}{xs ys:List V}
theorem fU.of {K:Frag}(h:H a=some (.lst xs)):fU K H a xs:=.inl (.inl h)
theorem eK.of {K:Frag}(h:H a=some (.tup xs)):eK K H a xs:=.inl (.inl h)
theorem Inv.list (I:Inv X pins σ H s)(h:fU X.K H a xs):∃its:List Value,Vals xs its/\PlainL s.heap a its.toArray/\xs.length<=sizeLine:=by
 rcases h with h | ⟨o,its,n,hk,hc,hd,hs,hz,r⟩
 ·obtain⟨z,its,n,r,e⟩:=h.ok I.hok
  exact⟨its,r,⟨_,n,e,rfl,rfl,rfl⟩,z⟩
 ·refine⟨its.toList,r,⟨o,n,I.KR a o hk,hc,hd,by simpa using hs⟩,?_⟩
  have e:=r.length
  simp only[KU] at e
  omega
theorem Inv.tuple (I:Inv X pins σ H s)(h:eK X.K H a xs):∃its:List Value,Vals xs its/\IsTup s.heap a its.toArray/\xs.length<=sizeLine:=by
 rcases h with h | ⟨o,its,n,hk,hc,hs,hz,r⟩
 ·obtain⟨z,its,r,p⟩:=h.ok I.hok
  exact⟨its,r,p,z⟩
 ·refine⟨its.toList,r,⟨o,I.KR a o hk,hc,n,by simpa using hs⟩,?_⟩
  have e:=r.length
  simp only[KU] at e
  omega
theorem Inv.vR (I:Inv X pins σ H s)(h:fU X.K H a xs)(h':fU X.K H a ys):xs=ys:=by
 obtain⟨its,r,⟨o,n,e,_,_,d⟩,_⟩:=I.list h
 obtain⟨its',r',⟨o',n',e',_,_,d'⟩,_⟩:=I.list h'
 rw[e] at e';cases e'
 rw[d] at d'
 injection d' with d1 _
 have:its=its':=by simpa using congrArg Array.toList d1
 subst this
 exact r.inj r'
theorem Inv.nL (I:Inv X pins σ H s)(h:eK X.K H a xs)(h':eK X.K H a ys):xs=ys:=by
 obtain⟨its,r,⟨o,e,_,n,d⟩,_⟩:=I.tuple h
 obtain⟨its',r',⟨o',e',_,n',d'⟩,_⟩:=I.tuple h'
 rw[e] at e';cases e'
 rw[d] at d'
 injection d' with d1 _
 have:its=its':=by simpa using congrArg Array.toList d1
 subst this
 exact r.inj r'
end
noncomputable abbrev Cx.wish (X:Cx)(E:Zu):Cx:={X with xe:=E}
abbrev Cx.Hb (X:Cx):Cx:=X.wish λ_ _=>False
theorem Cx.Ok.wish {X:Cx}(ok:X.Ok)(E:Zu):(X.wish E).Ok :=
 ⟨ok.mod,ok.kind,ok.glob,ok.blt,ok.above,ok.inj,ok.has,ok.cab,ok.hd,ok.frames,ok.stk,ok.Lj,ok.bs,ok.EV,ok.AZ,ok.A0,ok.oW,ok.HP⟩
theorem Cx.Ok.kM {X:Cx}{E:Zu}(ok:(X.wish E).Ok):X.Ok :=
 ⟨ok.mod,ok.kind,ok.glob,ok.blt,ok.above,ok.inj,ok.has,ok.cab,ok.hd,ok.frames,ok.stk,ok.Lj,ok.bs,ok.EV,ok.AZ,ok.A0,ok.oW,ok.HP⟩
section
variable {X:Cx}{pins:List (Addr×Obj)}{σ:St}{H:Hp}{s:Shared}{E:Zu}
theorem Inv.wish (I:Inv X pins σ H s)(E:Zu):Inv (X.wish E) pins σ H s:=⟨I.ok.wish E,I.os,I.bare,I.base,I.loc,I.cell,I.free,I.kL,I.pin,I.hok,I.len⟩
theorem Inv.kM (I:Inv (X.wish E) pins σ H s):Inv X pins σ H s:=⟨I.ok.kM,I.os,I.bare,I.base,I.loc,I.cell,I.free,I.kL,I.pin,I.hok,I.len⟩
theorem SP.kM (h:SP (X.wish E) pins D f s'):SP X pins D f s':=by
 cases f with
 | next=>obtain⟨σ',H',I,q⟩:=h;exact⟨σ',H',I.kM,q⟩
 | brk=>obtain⟨σ',H',I,q⟩:=h;exact⟨σ',H',I.kM,q⟩
 | cont=>obtain⟨σ',H',I,q⟩:=h;exact⟨σ',H',I.kM,q⟩
 | ret u=>obtain⟨v,σ',H',I,r,q⟩:=h;exact⟨v,σ',H',I.kM,r,q⟩
theorem rR.Hb {st:List Stmt}{t:TS}(h:rR X.Hb st t):rR X st t:=λpins s σ H D I hw=>
 wpAny_mono (h pins s σ H D (I.wish _) hw) (λ_ _ q=>q.kM) λ_ _ z=>False.elim z
end
section
variable {X:Cx}{st:Stmt}{rest:List Stmt}{t u:TS}{e:Expr}{te:TE}{pos:Pos}
def Lr:TS:=λD σ H=>D.nx σ H
def Nq (t u:TS):TS:=λD σ H=>t {D with nx:=u D} σ H
theorem zD:rR X [] Lr:=λ_ _ σ H _ I h=>wpAny_execs_nil ⟨σ,H,I,h⟩
theorem pO (h1:PS X st t)(h2:rR X rest u):rR X (st :: rest) (Nq t u):=by
 intro pins s σ H D I h
 refine wpAny_execs_cons (di (h1 pins s σ H {D with nx:=u D} I h) λf s1 q=> ?_)
 cases f with
 | next=>
  obtain⟨σ',H',I',q⟩:=q
  exact h2 pins s1 σ' H' D I' q
 | ret v=>exact q
 | brk=>exact q
 | cont=>exact q
theorem uj (h1:PS X st t):rR X [st] t:=by
 intro pins s σ H D I h
 refine wpAny_execs_cons (di (h1 pins s σ H D I h) λf s1 q=> ?_)
 cases f with
 | next=>exact wpAny_execs_nil q
 | ret v=>exact q
 | brk=>exact q
 | cont=>exact q
theorem Inv.quiet {pins:List (Addr×Obj)}{σ:St}{H:Hp}{s:Shared}(I:Inv X pins σ H s):interactive X.env=false:=by simp[interactive,I.ok.kind]
def Ls (te:TE):TS:=λD σ H=>te σ H λ_ H1=>D.nx σ H1
theorem mE (he:PE X e te)(hs:swapsWith e none pos.line X.env=pure false:=by rfl):PS X (.Expr e pos) (Ls te):=by
 intro pins s σ H D I h
 exact wpAny_Expr_any (di (he pins s σ H _ I h) λv s1 ⟨x,H1,I1,r1,q1⟩=>⟨σ,H1,I1,q1⟩) I.quiet hs
def Nr (te:TE):TS:=λD σ H=>te σ H D.rt
theorem Ci (he:PE X e te):PS X (.Return (some e) pos) (Nr te):=by
 intro pins s σ H D I h
 exact wpAny_Return_some (di (he pins s σ H _ I h) λv s1 ⟨x,H1,I1,r1,q1⟩=>⟨x,σ,H1,I1,r1,q1⟩)
def Nt (c:TT)(t u:TS):TS:=λD σ H=>c σ H λb H1=>if b=true then t D σ H1 else u D σ H1
theorem Hd (hc:PT X c tc)(ha:rR X a t)(hb:rR X b u):PS X (.If c a b pos) (Nt tc t u):=by
 intro pins s σ H D I h
 refine wpAny_If (di (hc pins s σ H _ I h) λd s1 ⟨H1,I1,q1⟩=> ?_)
 cases d with
 | true=>exact ha pins s1 σ H1 D I1 q1
 | false=>exact hb pins s1 σ H1 D I1 q1
def Ia:TS:=λ_ _ _=>False
theorem Cj:PS X st Ia:=λ_ _ _ _ _ _ h=>h.elim
end
abbrev TG:=V->St->Hp->(St->Hp->Prop)->Prop
abbrev Ib:=List V->St->Hp->(St->Hp->Prop)->Prop
def PG (X:Cx)(target:Expr)(t:TG):Prop :=
 ∀(pins:List (Addr×Obj)) (s:Shared) (σ:St) (H:Hp) (v:V) (u:Value) (Q:St->Hp->Prop),Inv X pins σ H s->RelV v u->t v σ H Q->
  wpAny (!7) X.A (assign target X.env u) (λ_ s'=>∃σ' H',Inv X pins σ' H' s'/\Q σ' H') X.xe s
def KS (X:Cx)(ts:List Expr)(t:Ib):Prop :=
 ∀(pins:List (Addr×Obj)) (s:Shared) (σ:St) (H:Hp) (vs:List V) (us:List Value) (Q:St->Hp->Prop),Inv X pins σ H s->Vals vs us->t vs σ H Q->
  wpAny (!7) X.A (assignInOrder ((assignEach ts X.env).map (·.2)) us) (λ_ s'=>∃σ' H',Inv X pins σ' H' s'/\Q σ' H') X.xe s
abbrev Lu:=V->V->V->Hp->(Hp->Prop)->Prop
def Ic (X:Cx)(t:Lu):Prop :=
 ∀(pins:List (Addr×Obj)) (s:Shared) (σ:St) (H:Hp) (o i v:V) (ov iv u:Value) (Q:Hp->Prop),Inv X pins σ H s->RelV o ov->RelV i iv->RelV v u->t o i v H Q->
  wpAny (!7) X.A (setItem ov iv u) (λ_ s'=>∃H',Inv X pins σ H' s'/\Q H') X.xe s
section
variable {X:Cx}{pos:Pos}
def pP (i:Nat):TG:=λv σ H Q=>Q (σ.set i (some v)) H
theorem bE (hN:X.N.Nodup)(hi:X.N[i]? =some x)(hx:Loc X.env.scope x)(hf:X.fn x=true∨X.env.scope.names.lookup x=some .local:=by first | exact .inl rfl | exact .inr rfl | assumption):PG X (.Name x pos) (pP i):=by
 intro pins s σ H v u Q I r h
 exact wpAny_assign_Name (vQ I hN hi hx r (λs' I'=>⟨_,H,I',h⟩) hf)
def Lw:Ib:=λvs σ H Q=>vs=[]/\Q σ H
def He (t:TG)(u:Ib):Ib:=λvs σ H Q=>∃v r,vs=v :: r/\t v σ H λσ' H'=>u r σ' H' Q
theorem g9:KS X [] Lw:=by
 intro pins s σ H vs us Q I r h
 obtain⟨e,h⟩:=h
 subst e
 cases r
 exact assignInOrder_nil ⟨σ,H,I,h⟩
theorem bu (h1:PG X e t)(h2:KS X es u)
  (hs:(assignEach (e :: es) X.env).map (·.2)=assign e X.env :: (assignEach es X.env).map (·.2):=by rfl):KS X (e :: es) (He t u):=by
 intro pins s σ H vs us Q I r h
 obtain⟨v,vr,e1,h⟩:=h
 subst e1
 cases r with
 | cons r rr=>
  rw[hs]
  refine assignInOrder_cons (di (h1 pins s σ H _ _ _ I r h) λ_ s1 ⟨σ1,H1,I1,q1⟩=> ?_)
  exact h2 pins s1 σ1 H1 _ _ Q I1 rr q1
def Nu (K:Frag)(n:Nat)(t:Ib):TG:=λv σ H Q=>∃a xs,v= .ref a/\eK K H a xs/\xs.length=n/\t xs σ H Q
theorem Ck {es:List Expr}{k:Nat}{t:Ib}{n:Nat}(hc:X.calm=true)(h:KS X es t)
  (hn:(assignEach es X.env).length=n:=by rfl) (hst:(assignEach es X.env).findIdx? (·.1)=none:=by rfl):PG X (.Tuple es k pos) (Nu X.K n t):=by
 intro pins s σ H v u Q I r hw
 obtain⟨a,xs,e1,hq,hl,hw⟩:=hw
 subst e1
 cases r
 obtain⟨its,rv,ht,hz⟩:=I.tuple hq
 refine assign_Tuple_tuple (I.ok.hd hc) ht (by simp[hn,←hl,rv.length]) hst λh' hx=> ?_
 have I1:Inv X pins σ H {s with heap:=h'}:=I.kept (t':=s.toks) λb o e=>hx b o (Xk (KJ e)) e
 exact h pins _ σ H xs _ Q I1 (by simpa using rv) hw
def rW (to ti:TE)(t:Lu):TG:=λv σ H Q=>to σ H λo H1=>ti σ H1 λi H2=>t o i v H2 λH3=>Q σ H3
theorem yo (ho:PE X o to)(hi:PE X i ti)(hs:Ic X t)
  (ha:∀v,assign (.Subscript o i pos) X.env v=(do
   let ov←holding [v] (eval o X.env)
   let iv←holding [v,ov] (eval i X.env)
   standAt pos
   holding [v,ov,iv] (setItem ov iv v)
   release [v,ov,iv] []):=by intro _;rfl):PG X (.Subscript o i pos) (rW to ti t):=by
 intro pins s σ H v u Q I r h
 rw[ha]
 refine Z7 (Z1 (di (ho pins s σ H _ I h) λov s1 ⟨x,H1,I1,r1,q1⟩=> ?_))
 refine Z7 (Z1 (di (hi pins s1 σ H1 _ I1 q1) λiv s2 ⟨y,H2,I2,r2,q2⟩=> ?_))
 refine Z7 (wpAny_standAt (Z7 (Z1 (di (hs pins s2 σ H2 x y v ov iv u _ I2 r1 r2 r q2) λ_ s3 ⟨H3,I3,q3⟩=> ?_))))
 exact wpAny_release ⟨σ,H3,I3,q3⟩
def Ie (te:TE)(g:TG):TS:=λD σ H=>te σ H λx H1=>g x σ H1 D.nx
theorem uk (he:PE X e te)(hg:PG X tg g)(hs:swapsWithSole [tg] e pos.line X.env=pure false:=by rfl)(hw:swappedStores [tg] e X.env=pure none:=by rfl)
  (h1:(assignEach [tg] X.env).map (·.2)=[assign tg X.env]:=by rfl):PS X (.Assign [tg] e pos) (Ie te g):=by
 intro pins s σ H D I h
 refine wpAny_Assign_stores (di (he pins s σ H _ I h) λv s1 ⟨x,H1,I1,r1,q1⟩=> ?_) hs hw
 rw[h1]
 exact di (hg pins s1 σ H1 x v _ I1 r1 q1) λ_ s2 q=>q
theorem yp (hN:X.N.Nodup)(hi:X.N[i]? =some x)(hx:Loc X.env.scope x)(he:PE X e te)(hs:swapsWith e (some (.Name x pos')) pos.line X.env=pure false:=by rfl)(hf:X.fn x=true∨X.env.scope.names.lookup x=some .local:=by first | exact .inl rfl | exact .inr rfl | assumption) :
  PS X (.Assign [.Name x pos'] e pos) (Ie te (pP i)):=by
 intro pins s σ H D I h
 refine wpAny_Assign_Name (di (he pins s σ H _ I h) λv s1 ⟨y,H1,I1,r1,q1⟩=> ?_) hs
 exact vQ I1 hN hi hx r1 (λs2 I2=>⟨_,H1,I2,q1⟩) hf
end
section
variable {X:Cx}{pos:Pos}
def Ig (c:TT)(tb:TS):TS:=λD σ H=>∃W:Nat->St->Hp->Prop,(∃m,W m σ H)/\∀m σ H,W m σ H->
 c σ H λb H1=>if b=true then∃N:St->Hp->Prop,(∀σ' H',N σ' H'->∃m',m' < m/\W m' σ' H')/\tb {D with nx:=N,ct:=N,bk:=D.nx} σ H1 else D.nx σ H1
theorem Cm (hp:PassesOwn (!7) X.A X.env X.xe)(hc:PT X c tc)(hb:rR X body tb):PS X (.While c body [] pos) (Ig tc tb):=by
 intro pins s σ H D I h
 obtain⟨W,⟨m0,w0⟩,turn⟩:=h
 refine wpAny_While (codeAny_whileLoop (λn s'=>∃σ' H',Inv X pins σ' H' s'/\W n σ' H') ?_ m0 ⟨σ,H,I,w0⟩)
 rintro n s1 ⟨σ1,H1,I1,w1⟩
 refine wpAny_passesOwn hp (di (hc pins s1 σ1 H1 _ I1 (turn n σ1 H1 w1)) λb s2 ⟨H2,I2,q2⟩=> ?_)
 cases b with
 | true=>
  obtain⟨N,hN,q2⟩:=q2
  rw[Z4 rfl]
  refine wpAny_passesOwn hp (di (hb pins s2 σ1 H2 _ I2 q2) λf s3 q3=> ?_)
  cases f with
  | next=>
   obtain⟨σ3,H3,I3,n3⟩:=q3
   obtain⟨m',hm,w3⟩:=hN σ3 H3 n3
   exact⟨m',hm,σ3,H3,I3,w3⟩
  | cont=>
   obtain⟨σ3,H3,I3,n3⟩:=q3
   obtain⟨m',hm,w3⟩:=hN σ3 H3 n3
   exact⟨m',hm,σ3,H3,I3,w3⟩
  | brk=>exact q3
  | ret v=>exact q3
 | false=>
  rw[Z5 K3]
  exact wpAny_execs_nil ⟨σ1,H2,I2,q2⟩
end
structure It where
 go:Nat->Hp->Prop
 Lx:Nat->Hp->V->Hp->Prop
 stop:Nat->Hp->Prop
def pQ (X:Cx)(pins:List (Addr×Obj))(H:Hp)(b:Addr):Prop :=
 H b=none/\b≠X.env.locals/\b∉X.fs/\(b∈X.ex∨X.s₀.heap.objs.size<=b)/\(∀x c,X.env.cells.lookup x=some c->c≠b)/\∀p∈X.pn++pins,p.1≠b
theorem Inv.pR {X:Cx}{pins:List (Addr×Obj)}{σ:St}{H H':Hp}{s:Shared}{b:Addr}(I:Inv X pins σ H s)(hb:s.heap.objs.size<=b)(hn:H' b=none):pQ X pins H' b:=by
 refine⟨hn,Y5 (X3 I.lt hb),I.Nj hb,.inr (Kw I.sz hb),λx c e z=> ?_,λp hp z=> ?_⟩
 ·obtain⟨v,q⟩:=I.cell x c e
  exact absurd (X3 q.lt (by rw[z];exact hb)) (U2 _)
 ·exact absurd (X3 (KJ (I.pin p hp).1) (by rw[z];exact hb)) (U2 _)
structure Turn (P:Program)(w:World)(K:Frag)(tg:Expr)(J:It)(fp:List Addr)(it:Addr)(tn:Nat->Heap->Prop):Prop where
 mem:it∈fp
 obj:∀i h,tn i h->∀b∈fp,∃o,h.get? b=some o/\∀v,o.data≠ .cell v
 keep:∀i h h',tn i h->(∀b∈fp,∀o,h.get? b=some o->h'.get? b=some o)->tn i h'
 item:∀(X:Cx),X.prog=P->X.w=w->X.K=K->X.calm=true->∀(i:Nat) (pins:List (Addr×Obj)) (s:Shared) (σ:St) (H:Hp) (E:Zu),Inv X pins σ H s->(∀b∈fp,pQ X pins H b)->tn i s.heap->J.go i H->
  wpAny (model P w) X.A (pyNext (.ref it)) (λr s1=>∃u,r=some u/\
   wpAny (model P w) X.A (letOwnedTupleGo tg (.ref it) u) (λ_ s2=>∃x H',Inv X pins σ H' s2/\RelV x u/\J.Lx i H x H'/\tn (i+1) s2.heap/\∀b∈fp,H' b=none) E s1) E s
 done:∀(X:Cx),X.prog=P->X.w=w->X.K=K->X.calm=true->∀(i:Nat) (pins:List (Addr×Obj)) (s:Shared) (σ:St) (H:Hp) (E:Zu),Inv X pins σ H s->(∀b∈fp,pQ X pins H b)->tn i s.heap->J.stop i H->
  wpAny (model P w) X.A (pyNext (.ref it)) (λr s1=>r=none/\Inv X pins σ H s1) E s
 self:∀(A:Around) (i:Nat) (s:Shared) (Q:Zu) (E:Zu),tn i s.heap->Q (.ref it) s->wpAny (model P w) A (pyIter (.ref it)) Q E s
abbrev TI:=St->Hp->(It->Hp->Prop)->Prop
def PIE (X:Cx)(pins:List (Addr×Obj))(σ:St)(tg:Expr)(R:It->Hp->Prop)(itv:Value)(s2:Shared):Prop :=
 ∃(it:Addr) (fp:List Addr) (tn:Nat->Heap->Prop) (J:It) (H':Hp),itv= .ref it/\Inv X pins σ H' s2/\Turn X.prog X.w X.K tg J fp it tn/\tn 0 s2.heap/\(∀b∈fp,pQ X pins H' b)/\R J H'
def PI (X:Cx)(tg iter:Expr)(wi:TI):Prop :=
 ∀(pins:List (Addr×Obj)) (s:Shared) (σ:St) (H:Hp) (R:It->Hp->Prop),Inv X pins σ H s->wi σ H R->
  wpAny (!7) X.A (eval iter X.env) (λv s1=>wpAny (!7) X.A (pyIter v) (PIE X pins σ tg R) X.xe s1) X.xe s
theorem zE (ho:s.heap.get? it=some o)(hc:o.cls= .type n)(hd:o.data= .fields vs)
  (hn:["enumerate","zip","dict_itemiterator","dict_reverseitemiterator","odict_iterator","itertools.zip_longest","itertools.pairwise"].contains n=false) (hQ:Q () s):wpAny M A (letOwnedTupleGo tg (.ref it) u) Q E s:=by
 unfold letOwnedTupleGo
 cases tg <;> first
  | exact Z6 hQ
  | (cases u <;> first
    | exact Z6 hQ
    | (
      refine Z7 (wpAny_load ho ?_)
      rw[hc,hd]
      show wpAny M A (if (["enumerate","zip","dict_itemiterator","dict_reverseitemiterator","odict_iterator","itertools.zip_longest","itertools.pairwise"].contains n && vs[0]? ==some (rawInt _))=true then _ else _) Q E s
      rw[Z5 (by intro h;rw[hn,Bool.false_and] at h;cases h)]
      exact Z6 hQ))
noncomputable def Nv (K:Frag)(a:Addr):It :=
 ⟨λi H=>∃xs x,fU K H a xs/\xs[i]? =some x,λi H x H'=>H'=H/\∀xs,fU K H a xs->xs[i]? =some x,λi H=>∃xs,fU K H a xs/\xs.length<=i⟩
def Nw (K:Frag)(a:Addr):It :=
 ⟨λi H=>∃xs x,eK K H a xs/\xs[i]? =some x,λi H x H'=>H'=H/\∀xs,eK K H a xs->xs[i]? =some x,λi H=>∃xs,eK K H a xs/\xs.length<=i⟩
noncomputable def MV (lo:Int)(n:Nat):It:=⟨λi _=>i < n,λi H x H'=>H'=H/\x= .int (lo+i),λi _=>n<=i⟩
theorem A1 {P:Program}{w:World}{K:Frag}{tg:Expr}(a it:Addr):Turn P w K tg (Nv K a) [it] it (λi h=>h.IsListIter it a i) where
 mem:=by simp
 obj:=λi h st b hb=>by
  have e:b=it:=by simpa using hb
  subst e
  obtain⟨o,e,c,d⟩:=st
  exact⟨o,e,λv z=>by rw[d] at z;cases z⟩
 keep:=λi h h' st k=>st.at λo e=>k it (by simp) o e
 item:=by
  intro X hP hw hK hc i pins s σ H E I hf st hg
  subst hP hw hK
  obtain⟨xs,x,hq,hx⟩:=hg
  obtain⟨its,rv,p,hz⟩:=I.list hq
  obtain⟨u,hu,ru⟩:=rv.get hx
  obtain⟨f0,f1,f2,f3,f4,f5⟩:=hf it (by simp)
  refine wpAny_pyNext_list_item st p.isList (x:=u) (by simpa using hu) λh' st' sb=> ?_
  have I1:Inv X pins σ H {s with heap:=h'}:=I.turned (t':=s.toks) (λb o hb e=>(sb.2 b hb).trans e) f0 f1 f3 f4 f5
  obtain⟨o,e,c,d⟩:=id st'
  exact⟨u,rfl,zE (s:={s with heap:=h'}) e c d (!8) ⟨x,H,I1,ru,⟨rfl,λys hy=>by rw[I.vR hy hq];exact hx⟩,st',λb hb=>(hf b hb).1⟩⟩
 done:=by
  intro X hP hw hK hc i pins s σ H E I hf st hg
  subst hP hw hK
  obtain⟨xs,hq,hx⟩:=hg
  obtain⟨its,rv,p,hz⟩:=I.list hq
  obtain⟨f0,f1,f2,f3,f4,f5⟩:=hf it (by simp)
  have hl:=rv.length
  exact wpAny_pyNext_list_end (I.ok.hd hc) st p.isList (by simp;omega) λh' eb=>⟨rfl,I.turned (t':=s.toks) (λb o hb e=>eb b o hb e) f0 f1 f3 f4 f5⟩
 self:=λ_ _ _ _ _ st h=>wpAny_pyIter_listiter st h
theorem yq {P:Program}{w:World}{K:Frag}{tg:Expr}(a it:Addr):Turn P w K tg (Nw K a) [it] it (λi h=>h.IsTupleIter it a i) where
 mem:=by simp
 obj:=λi h st b hb=>by
  have e:b=it:=by simpa using hb
  subst e
  obtain⟨o,e,c,d⟩:=st
  exact⟨o,e,λv z=>by rw[d] at z;cases z⟩
 keep:=λi h h' st k=>st.at λo e=>k it (by simp) o e
 item:=by
  intro X hP hw hK hc i pins s σ H E I hf st hg
  subst hP hw hK
  obtain⟨xs,x,hq,hx⟩:=hg
  obtain⟨its,rv,p,hz⟩:=I.tuple hq
  obtain⟨u,hu,ru⟩:=rv.get hx
  obtain⟨f0,f1,f2,f3,f4,f5⟩:=hf it (by simp)
  refine wpAny_pyNext_tuple_item st (show s.heap.IsTuple a its.toArray from p) (x:=u) (by simpa using hu) λh' st' sb=> ?_
  have I1:Inv X pins σ H {s with heap:=h'}:=I.turned (t':=s.toks) (λb o hb e=>(sb.2 b hb).trans e) f0 f1 f3 f4 f5
  obtain⟨o,e,c,d⟩:=id st'
  exact⟨u,rfl,zE (s:={s with heap:=h'}) e c d (!8) ⟨x,H,I1,ru,⟨rfl,λys hy=>by rw[I.nL hy hq];exact hx⟩,st',λb hb=>(hf b hb).1⟩⟩
 done:=by
  intro X hP hw hK hc i pins s σ H E I hf st hg
  subst hP hw hK
  obtain⟨xs,hq,hx⟩:=hg
  obtain⟨its,rv,p,hz⟩:=I.tuple hq
  obtain⟨f0,f1,f2,f3,f4,f5⟩:=hf it (by simp)
  have hl:=rv.length
  exact wpAny_pyNext_tuple_end (I.ok.hd hc) st (show s.heap.IsTuple a its.toArray from p) (by simp;omega) λh' eb=>⟨rfl,I.turned (t':=s.toks) (λb o hb e=>eb b o hb e) f0 f1 f3 f4 f5⟩
 self:=λ_ _ _ _ _ st h=>wpAny_pyIter_tupleiter st h
theorem yr {P:Program}{w:World}{K:Frag}{tg:Expr}(it:Addr)(lo:Int)(n:Nat):Turn P w K tg (MV lo n) [it] it (λi h=>IsRangeIter h it (lo+(i:Nat)*1) ((n:Int) - (i:Nat)) 1) where
 mem:=by simp
 obj:=λi h st b hb=>by
  have e:b=it:=by simpa using hb
  subst e
  exact⟨_,st,λv z=>by
   have z':Data.fields _=Data.cell v:=z
   cases z'⟩
 keep:=λi h h' st k=>k it (by simp) _ st
 item:=by
  intro X hP hw hK hc i pins s σ H E I hf st hg
  subst hP hw hK
  obtain⟨f0,f1,f2,f3,f4,f5⟩:=hf it (by simp)
  have W:=Walks.range (prog:=X.prog) (w:=X.w) (I.ok.hd hc) it lo 1 n
  refine W.item i s _ _ hg st λv h' tk hv st' kk=> ?_
  obtain⟨t,rfl⟩:=hv
  have I1:Inv X pins σ H {s with heap:=h',toks:=tk}:=I.turned (λb o hb e=>kk b o (by simpa using hb) e) f0 f1 f3 f4 f5
  refine⟨_,rfl,zE (s:={s with heap:=h',toks:=tk}) (n:="range_iterator") st' rfl rfl (!8) ⟨.int (lo+i),H,I1,⟨t,?_⟩,⟨rfl,rfl⟩,st',λb hb=>(hf b hb).1⟩⟩
  rw[Int.mul_one]
 done:=by
  intro X hP hw hK hc i pins s σ H E I hf st hg
  subst hP hw hK
  obtain⟨f0,f1,f2,f3,f4,f5⟩:=hf it (by simp)
  exact wpAny_pyNext_range_end (I.ok.hd hc) st (by have:n<=i:=hg;omega) λh' eb=>⟨rfl,I.turned (t':=s.toks) (λb o hb e=>eb b o hb e) f0 f1 f3 f4 f5⟩
 self:=λ_ _ _ _ _ st h=>wpAny_pyIter_rangeiter st h
section
variable {X:Cx}{tg:Expr}
def Ly (K:Frag)(tl:TE):TI:=λσ H R=>tl σ H λx H1=>∃a,x= .ref a/\(∃xs,fU K H1 a xs)/\R (Nv K a) H1
def Nx (K:Frag)(tl:TE):TI:=λσ H R=>tl σ H λx H1=>∃a,x= .ref a/\(∃xs,eK K H1 a xs)/\R (Nw K a) H1
theorem zF (hl:PE X l tl):PI X tg l (Ly X.K tl):=by
 intro pins s σ H R I h
 refine di (hl pins s σ H _ I h) λv s1 ⟨x,H1,I1,r1,q1⟩=> ?_
 obtain⟨a,e,⟨xs,hq⟩,q⟩:=q1
 subst e
 cases r1
 obtain⟨its,rv,p,hz⟩:=I1.list hq
 refine wpAny_pyIter_list p.isList ?_
 refine⟨s1.heap.objs.size,[s1.heap.objs.size],_,_,H1,rfl,I1.kept (t':=s1.toks) λb o e=>K4 _ e,A1 a _,⟨_,Kv _ rfl,rfl,rfl⟩,λb hb=> ?_,q⟩
 have e:b=s1.heap.objs.size:=by simpa using hb
 subst e
 exact I1.pR (K0 _) (I1.hok.fresh (K0 _))
theorem Ih (hl:PE X l tl):PI X tg l (Nx X.K tl):=by
 intro pins s σ H R I h
 refine di (hl pins s σ H _ I h) λv s1 ⟨x,H1,I1,r1,q1⟩=> ?_
 obtain⟨a,e,⟨xs,hq⟩,q⟩:=q1
 subst e
 cases r1
 obtain⟨its,rv,p,hz⟩:=I1.tuple hq
 refine wpAny_pyIter_tuple (show s1.heap.IsTuple a its.toArray from p) ?_
 refine⟨s1.heap.objs.size,[s1.heap.objs.size],_,_,H1,rfl,I1.kept (t':=s1.toks) λb o e=>K4 _ e,yq a _,⟨_,Kv _ rfl,rfl,rfl⟩,λb hb=> ?_,q⟩
 have e:b=s1.heap.objs.size:=by simpa using hb
 subst e
 exact I1.pR (K0 _) (I1.hok.fresh (K0 _))
theorem Co {pins:List (Addr×Obj)}{σ:St}{H:Hp}{s:Shared}{R:It->Hp->Prop}{E:Zu}{lo hi:Int}{t u v:Tok}{tk:Nat}(I:Inv X pins σ H s)(h1:-(2^62)<=lo)(h2:lo < 2^62)(h3:-(2^62)<=hi)(h4:hi < 2^62)
  (q:R (MV lo (hi - lo).toNat) H):wpAny (!7) X.A (pyIter (.ref s.heap.objs.size)) (PIE X pins σ tg R) E {s with heap:=s.heap.push {cls:=.type "range",data:=.fields #[.int lo t,.int hi u,.int 1 v]},toks:=tk}:=by
 refine wpAny_pyIter_range (IsRange.new ..) (small_one h1 h2 h3 h4) ?_
 have I1:Inv X pins σ H {s with heap:=s.heap.push {cls:=.type "range",data:=.fields #[.int lo t,.int hi u,.int 1 v]},toks:=tk}:=I.kept λb o e=>K4 _ e
 refine⟨(s.heap.push {cls:=.type "range",data:=.fields #[.int lo t,.int hi u,.int 1 v]}).objs.size,[(s.heap.push {cls:=.type "range",data:=.fields #[.int lo t,.int hi u,.int 1 v]}).objs.size],_,_,H,rfl,
  I1.kept (t':=tk) λb o e=>K4 _ e,yr _ lo (hi - lo).toNat,?_,λb hb=> ?_,q⟩
 ·have e1:lo+((0:Nat):Int)*1=lo:=by simp
  have e2:(((hi - lo).toNat:Nat):Int) - ((0:Nat):Int)=Builtin.Range.rangeSize lo hi 1:=by rw[rangeSize_one];split <;> omega
  show IsRangeIter _ _ (lo+((0:Nat):Int)*1) ((((hi - lo).toNat:Nat):Int) - ((0:Nat):Int)) 1
  rw[e1,e2]
  exact Kv _ rfl
 ·have e:b=(s.heap.push {cls:=.type "range",data:=.fields #[.int lo t,.int hi u,.int 1 v]}).objs.size:=by simpa using hb
  subst e
  exact I1.pR (K0 _) (I1.hok.fresh (K0 _))
def Lz (ta:TA):TI:=λσ H R=>ta σ H λvs H1=>∃j:Int,vs=[.int j]/\ -(2^62)<=j/\j < 2^62/\R (MV 0 j.toNat) H1
theorem A2 (hg:Gl X "range")(hm:X.mg "range" =none)(ha:PA X [a] ta)(hs:starEach [a] X.env=[(false,eval a X.env)]:=by rfl):PI X tg (.Call (.Name "range" p) [a] [] pos) (Lz ta):=by
 intro pins s σ H R I h
 refine Call_ (gO I hg hm boot_range (PyProof.Rows.callWith_type1 (di (ha pos pins s σ H _ I h) λus s1 ⟨vs,H1,I1,r1,q1⟩=> ?_) hs rfl))
 obtain⟨j,e,q1,q2,q⟩:=q1
 subst e
 cases r1 with
 | cons r rr=>
  cases rr
  obtain⟨t,rfl⟩:=r
  exact call_range_1 (Co I1 (!1) (!1) q1 q2 (by simpa using q))
def Ny (wi:TI)(g:TG)(tb:TS):TS:=λD σ H=>wi σ H λJ H1=>∃W:Nat->Nat->St->Hp->Prop,(∃m,W 0 m σ H1)/\∀i m σ H,W i m σ H->
 (J.stop i H/\D.nx σ H)∨(J.go i H/\∃N:St->Hp->Prop,(∀σ' H',N σ' H'->∃m',m' < m/\W (i+1) m' σ' H')/\∀x H',J.Lx i H x H'->g x σ H' λσ2 H2=>tb {D with nx:=N,ct:=N,bk:=D.nx} σ2 H2)
noncomputable def pS (fp:List Addr)(h:Heap):List (Addr×Obj):=fp.filterMap λb=>(h.get? b).map λo=>(b,o)
theorem jW (hb:b∈fp)(e:h.get? b=some o):(b,o)∈pS fp h:=List.mem_filterMap.mpr ⟨b,hb,by rw[e];rfl⟩
theorem A3 (hp:p∈pS fp h):p.1∈fp/\h.get? p.1=some p.2:=by
 obtain⟨b,hb,e⟩:=List.mem_filterMap.mp hp
 cases q:h.get? b with
 | none=>rw[q] at e;cases e
 | some o=>
  rw[q] at e
  have e':(b,o)=p:=Option.some.inj e
  subst e'
  exact⟨hb,q⟩
theorem Inv.pinned {pins:List (Addr×Obj)}{σ:St}{H:Hp}{s:Shared}{fp:List Addr}(I:Inv X pins σ H s)(hf:∀b∈fp,pQ X pins H b)(ho:∀b∈fp,∃o,s.heap.get? b=some o/\∀v,o.data≠ .cell v):Inv X (pins++pS fp s.heap) σ H s :=
 I.zB λp hp=>(K1.mp hp).elim (λz=>I.pin p (Kk _ z)) λz=>by
  obtain⟨hb,e⟩:=A3 z
  obtain⟨f0,f1,f2,_⟩:=hf p.1 hb
  obtain⟨o,e',d⟩:=ho p.1 hb
  rw[e] at e';cases e'
  exact⟨e,f0,f1,f2,d⟩
theorem Inv.mF {pins pl:List (Addr×Obj)}{σ:St}{H:Hp}{s:Shared}(I:Inv X (pins++pl) σ H s):Inv X pins σ H s:=I.zB λp hp=>I.pin p (Kk _ (KY _ hp))
theorem yt (hp:PassesOwn (!7) X.A X.env X.xe)(hc:X.calm=true)(hi:PI X tg iter wi)(hg:PG X tg g)(hb:rR X body tb)
  (hs:∀x,foldedSetIterable iter X.env x=pure x:=by intro _;rfl):PS X (.For tg iter body [] pos) (Ny wi g tb):=by
 intro pins s σ H D I h
 refine wpAny_For (di (hi pins s σ H _ I h) λv s1 h1=>di h1 λitv s2 h2=> ?_) hs
 obtain⟨it,fp,tn,J,H2,e,I2,T,st2,f2,W,⟨m0,w0⟩,turn⟩:=h2
 subst e
 have stat:∀{H':Hp},(∀b∈fp,H' b=none)->∀b∈fp,pQ X pins H' b:=λhn b hb=>⟨hn b hb,(f2 b hb).2⟩
 refine codeAny_forLoop_any (λn s'=>∃i σ' H',Inv X pins σ' H' s'/\tn i s'.heap/\(∀b∈fp,H' b=none)/\W i n σ' H') ?_ m0 ⟨0,σ,H2,I2,st2,λb hb=>(f2 b hb).1,w0⟩
 rintro n s3 ⟨i,σ3,H3,I3,st3,LA,w3⟩
 rcases turn i n σ3 H3 w3 with⟨stop,qn⟩ | ⟨go,N,hN,step⟩
 ·refine wpAny_passesOwn hp (di (T.done X rfl rfl rfl hc i pins s3 σ3 H3 X.xe I3 (stat LA) st3 stop) λr s4 ⟨hr,I4⟩=> ?_)
  subst hr
  exact wpAny_execs_nil ⟨σ3,H3,I4,qn⟩
 ·refine wpAny_passesOwn hp (di (T.item X rfl rfl rfl hc i pins s3 σ3 H3 X.xe I3 (stat LA) st3 go) λr s4 ⟨u,hr,h4⟩=> ?_)
  subst hr
  refine wpAny_passesOwn hp (di h4 λ_ s5 ⟨x,H5,I5,r5,y5,Ii,Nz⟩=> ?_)
  have NA:=I5.pinned (stat Nz) (T.obj _ _ Ii)
  refine wpAny_passesOwn hp (di (hg _ s5 σ3 H5 x u _ NA r5 (step x H5 y5)) λ_ s6 ⟨σ6,H6,I6,q6⟩=> ?_)
  refine wpAny_passesOwn hp (di (hb _ s6 σ6 H6 _ I6 q6) λf s7 q7=> ?_)
  have again:∀{σ7:St} {H7:Hp},Inv X (pins++pS fp s5.heap) σ7 H7 s7->N σ7 H7->∃m,m < n/\∃i σ' H',Inv X pins σ' H' s7/\tn i s7.heap/\(∀b∈fp,H' b=none)/\W i m σ' H':=λ{σ7 H7} I7 n7=>by
   obtain⟨m',hm,w7⟩:=hN σ7 H7 n7
   refine⟨m',hm,i+1,σ7,H7,I7.mF,T.keep _ _ _ Ii λb hb o e=>(I7.pin (b,o) (Kk _ (Kk _ (jW hb e)))).1,λb hb=> ?_,w7⟩
   obtain⟨o,e,d⟩:=T.obj _ _ Ii b hb
   exact(I7.pin (b,o) (Kk _ (Kk _ (jW hb e)))).2.1
  cases f with
  | next=>obtain⟨σ7,H7,I7,n7⟩:=q7;exact again I7 n7
  | cont=>obtain⟨σ7,H7,I7,n7⟩:=q7;exact again I7 n7
  | brk=>obtain⟨σ7,H7,I7,q7⟩:=q7;exact⟨σ7,H7,I7.mF,q7⟩
  | ret v=>obtain⟨x7,σ7,H7,I7,r7,q7⟩:=q7;exact⟨x7,σ7,H7,I7.mF,r7,q7⟩
end
abbrev R2:=V->V->Hp->VK->Prop
def sJ (X:Cx)(f:Value->Value->Sem Value)(r:R2):Prop :=
 ∀(pins:List (Addr×Obj)) (s:Shared) (σ:St) (H:Hp) (x y:V) (v u:Value) (Q:VK),Inv X pins σ H s->RelV x v->RelV y u->r x y H Q->
  wpAny (!7) X.A (f v u) (EP X pins σ Q) X.xe s
def MW (X:Cx)(f:Value->Sem Value)(r:V->Hp->VK->Prop):Prop :=
 ∀(pins:List (Addr×Obj)) (s:Shared) (σ:St) (H:Hp) (x:V) (v:Value) (Q:VK),Inv X pins σ H s->RelV x v->r x H Q->
  wpAny (!7) X.A (f v) (EP X pins σ Q) X.xe s
def iY (X:Cx)(f:Value)(r:List V->Hp->VK->Prop):Prop :=
 ∀(pins:List (Addr×Obj)) (s:Shared) (σ:St) (H:Hp) (xs:List V) (us:List Value) (Q:VK),Inv X pins σ H s->Vals xs us->r xs H Q->
  wpAny (!7) X.A (call f us) (EP X pins σ Q) X.xe s
def MX (r:R2)(ta tb:TE):TE:=λσ H Q=>ta σ H λx H1=>tb σ H1 λy H2=>r x y H2 Q
def Ps (r:V->Hp->VK->Prop)(ta:TE):TE:=λσ H Q=>ta σ H λx H1=>r x H1 Q
def rI (C:Int->Int->Prop)(g:Int->Int->V):R2:=λx y H Q=>∃i j,x= .int i/\y= .int j/\C i j/\Q (g i j) H
def Hf (g:Int->Int->V):R2:=λx y H Q=>∃i j,x= .int i/\y= .int j/\Q (g i j) H
def rU (g:Int->V):V->Hp->VK->Prop:=λx H Q=>∃i,x= .int i/\Q (g i) H
section
variable {X:Cx}{a b c:Expr}{ta tb tc:TE}{pos:Pos}
theorem Ij (ha:PE X a ta)(hb:PE X b tb){σ:St}{R:V->V->Hp->Prop}(I:Inv X pins σ H s)
  (h:ta σ H λx H1=>tb σ H1 λy H2=>R x y H2) {Q:Zu} {f:Value->Value->Sem Value}
  (hf:∀v u s2 x y H2,Inv X pins σ H2 s2->RelV x v->RelV y u->R x y H2->wpAny (!7) X.A (f v u) Q X.xe s2) :
  wpAny (!7) X.A (eval a X.env) (λv s₁=>wpAny (!7) X.A (eval b X.env) (λu s₂=>wpAny (!7) X.A (f v u) Q X.xe s₂) X.xe s₁) X.xe s:=by
 refine di (ha pins s σ H _ I h) λv s1 ⟨x,H1,I1,r1,q1⟩=> ?_
 refine di (hb pins s1 σ H1 _ I1 q1) λu s2 ⟨y,H2,I2,r2,q2⟩=> ?_
 exact hf v u s2 x y H2 I2 r1 r2 q2
theorem Hg (ho:sJ X (binaryOp op) r)(ha:PE X a ta)(hb:PE X b tb):PE X (.BinOp a op b pos) (MX r ta tb):=by
 intro pins s σ H Q I h
 exact wpAny_BinOp (Ij ha hb I h λv u s2 x y H2 I2 rx ry q=>ho pins s2 σ H2 x y v u Q I2 rx ry q)
theorem LB (ho:MW X (unaryOp op) r)(ha:PE X a ta):PE X (.UnaryOp op a pos) (Ps r ta):=by
 intro pins s σ H Q I h
 exact UnaryOp_ (di (ha pins s σ H _ I h) λv s1 ⟨x,H1,I1,r1,q1⟩=>ho pins s1 σ H1 x v Q I1 r1 q1)
theorem NB {f:Value->Value->Sem Value}{C:Int->Int->Prop}{g:Int->Int->Int}
  (rule:∀(i j:Int) (t u:Tok) (s:Shared) (Q:Zu) (E:Zu),C i j->Q (.int (g i j) s.toks) {s with toks:=s.toks+1}->wpAny (!7) X.A (f (.int i t) (.int j u)) Q E s) :
  sJ X f (rI C λi j=> .int (g i j)):=by
 intro pins s σ H x y v u Q I rx ry h
 obtain⟨i,j,rfl,rfl,hc,q⟩:=h
 obtain⟨t,rfl⟩:=rx
 obtain⟨t',rfl⟩:=ry
 exact rule i j t t' s _ _ hc ⟨.int (g i j),H,I.tok _,⟨_,rfl⟩,q⟩
theorem LC {f:Value->Value->Sem Value}{g:Int->Int->Int}
  (rule:∀(i j:Int) (t u:Tok) (s:Shared) (Q:Zu) (E:Zu),Q (.int (g i j) s.toks) {s with toks:=s.toks+1}->wpAny (!7) X.A (f (.int i t) (.int j u)) Q E s) :
  sJ X f (Hf λi j=> .int (g i j)):=by
 intro pins s σ H x y v u Q I rx ry h
 obtain⟨i,j,rfl,rfl,q⟩:=h
 obtain⟨t,rfl⟩:=rx
 obtain⟨t',rfl⟩:=ry
 exact rule i j t t' s _ _ ⟨.int (g i j),H,I.tok _,⟨_,rfl⟩,q⟩
theorem Ik {f:Value->Value->Sem Value}{g:Int->Int->Bool}
  (rule:∀(i j:Int) (t u:Tok) (s:Shared) (Q:Zu) (E:Zu),Q (.bool (g i j)) s->wpAny (!7) X.A (f (.int i t) (.int j u)) Q E s) :
  sJ X f (Hf λi j=> .bl (g i j)):=by
 intro pins s σ H x y v u Q I rx ry h
 obtain⟨i,j,rfl,rfl,q⟩:=h
 obtain⟨t,rfl⟩:=rx
 obtain⟨t',rfl⟩:=ry
 exact rule i j t t' s _ _ ⟨.bl (g i j),H,I,rfl,q⟩
def NC (i j:Int):Prop:=0<=j/\j<=1000000/\i.natAbs < 2^64
def Il (i j:Int):Prop:=(-(2^64) < i/\i < 2^64)∨(-(2^64) < j/\j < 2^64)
theorem Il.ok (h:Il i j):IntMulOk i j:=by
 rcases h with⟨h1,h2⟩ | ⟨h1,h2⟩
 ·exact .of_left (intBits_le_64 h1 h2)
 ·exact .of_right (intBits_le_64 h1 h2)
theorem Im:sJ X (binaryOp .Add) (Hf λi j=> .int (i+j)):=LC λ_ _ _ _ _ _ _ q=>add_int q
theorem Io:sJ X (binaryOp .Sub) (Hf λi j=> .int (i - j)):=LC λ_ _ _ _ _ _ _ q=>sub_int q
theorem Ip:sJ X (binaryOp .Mult) (rI Il λi j=> .int (i*j)):=NB λ_ _ _ _ _ _ _ hc q=>mul_int q hc.ok
theorem Iq:sJ X (binaryOp .Mod) (rI (λ_ j=>0 < j) λi j=> .int (i % j)):=NB λi j _ _ _ _ _ hc q=>by
 have h1:(0:Int) < j:=hc
 exact mod_int' (!1) (by rw[Int.fmod_eq_emod_of_nonneg i (!1)];exact q)
theorem Ir:sJ X (binaryOp .Pow) (rI NC λi j=> .int (i^j.toNat)):=NB λ_ _ _ _ _ _ _ hc q=>pow_int_small hc.1 hc.2.1 hc.2.2 q
theorem Pt {f:Value->Sem Value}{g:Int->Int}
  (rule:∀(i:Int) (t:Tok) (s:Shared) (Q:Zu) (E:Zu),Q (.int (g i) s.toks) {s with toks:=s.toks+1}->wpAny (!7) X.A (f (.int i t)) Q E s) :
  MW X f (rU λi=> .int (g i)):=by
 intro pins s σ H x v Q I rx h
 obtain⟨i,rfl,q⟩:=h
 obtain⟨t,rfl⟩:=rx
 exact rule i t s _ _ ⟨.int (g i),H,I.tok _,⟨_,rfl⟩,q⟩
theorem Iu:MW X (unaryOp .USub) (rU λi=> .int (-i)):=Pt λ_ _ _ _ _ q=>neg_int q
end
section
variable {X:Cx}{a b c:Expr}{ta tb tc:TE}{pos:Pos}
theorem Iv {pins:List (Addr×Obj)}{σ:St}{H:Hp}{s:Shared}{Q:VK}{k k':Bool}(I:Inv X pins σ H s)(q:Q (.bl k) H)(e:k=k'):EP X pins σ Q (.bool k') s:=by
 subst e
 exact⟨.bl k,H,I,rfl,q⟩
theorem LD:sJ X (compareOp .Lt) (Hf λi j=> .bl (decide (i < j))):=Ik λ_ _ _ _ _ _ _ q=>lt_int q
theorem LF:sJ X (compareOp .Gt) (Hf λi j=> .bl (decide (j < i))):=Ik λ_ _ _ _ _ _ _ q=>gt_int q
theorem LG:sJ X (compareOp .GtE) (Hf λi j=> .bl (decide (j<=i))):=Ik λ_ _ _ _ _ _ _ q=>ge_int q
theorem E7:sJ X (compareOp .IsNot) (λx y H Q=>y= .non/\Q (.bl (!decide (x= .non))) H):=by
 intro pins s σ H x y v u Q I rx ry h
 obtain⟨rfl,q⟩:=h
 cases ry
 refine isnot_none_gen (Iv I q ?_)
 cases x <;> first
  | (cases rx;rfl)
  | (obtain⟨t,rfl⟩:=rx;rfl)
theorem bJ (b:Expr)(h:op≠ .In:=by decide)(h2:op≠ .NotIn:=by decide):behindInMarks op b=false:=by
 have e1:(op==CmpOp.In)=false:=by cases op <;> first | rfl | exact absurd rfl h
 have e2:(op==CmpOp.NotIn)=false:=by cases op <;> first | rfl | exact absurd rfl h2
 cases b <;> simp[behindInMarks,e1,e2]
theorem E8 (ho:sJ X (compareOp op) r)(ha:PE X a ta)(hb:PE X b tb)(hm:behindInMarks op b=false):PE X (.Compare a [op] [b] pos) (MX r ta tb):=by
 intro pins s σ H Q I h
 exact wpAny_Compare1 (Ij ha hb I h λv u s2 x y H2 I2 rx ry q=>ho pins s2 σ H2 x y v u Q I2 rx ry q) hm
def LH (t:TE):TT:=λσ H Q=>t σ H λx H'=>∃k,x= .bl k/\Q k H'
theorem E9 (ho:sJ X (compareOp op) r)(ha:PE X a ta)(hb:PE X b tb)(hm:behindInMarks op b=false):PT X (.Compare a [op] [b] pos) (LH (MX r ta tb)):=by
 intro pins s σ H Q I h
 refine wpAny_isTrue_Compare1 (di (ha pins s σ H _ I h) λv s1 ⟨x,H1,I1,r1,q1⟩=>di (hb pins s1 σ H1 _ I1 q1) λu s2 ⟨y,H2,I2,r2,q2⟩=>
  di (ho pins s2 σ H2 x y v u _ I2 r1 r2 q2) λc s3 ⟨z,H3,I3,r3,k,e,q3⟩=> ?_) hm
 subst e
 cases r3
 exact wpAny_truthy_bool ⟨H3,I3,q3⟩
theorem kN:(sizeLine:Nat) < 2^63:=by rw[sizeLine_eq];decide
theorem vals1 (r:Vals [x] us):∃u,us=[u]/\RelV x u:=by
 cases r with
 | cons r1 r2=>cases r2;exact⟨_,rfl,r1⟩
end
theorem E3.none_of (r:E3 none o):o=none:=by
 cases o with
 | none=>rfl
 | some u=>exact(show False from r).elim
section
variable {X:Cx}{pins:List (Addr×Obj)}{σ:St}{H:Hp}{s:Shared}{a C dx:Addr}{fs:List (Str×V)}{f:Str}{v:V}{A:Around}{E:Zu}
end
structure g_ (k:Nat)(A:Around):Prop where
 hd:A.handled=none
 dp:A.depth+3*k+5 < recursionLimit
 un:A.units+16*k+200 < cLine
theorem g_.mono (r:g_ k A)(h:j<=k):g_ j A:=⟨r.hd,by have:=r.dp;omega,by have:=r.un;omega⟩
theorem g_.deeper (r:g_ (k+1) A)(env:Env):g_ k (A.deeper env) :=
 ⟨r.hd,by have:=r.dp;show A.depth+1+3*k+5 < _;omega,by have:=r.un;show A.units+3+16*k+200 < _;omega⟩
theorem g_.depth (r:g_ k A):A.depth < recursionLimit:=by have:=r.dp;omega
def ND:TA:=λ_ H Q=>Q [] H
def LI (ta:TE)(tr:TA):TA:=λσ H Q=>ta σ H λx H1=>tr σ H1 λxs H2=>Q (x :: xs) H2
section
variable {X:Cx}{e:Expr}{es:List Expr}{te:TE}{t:TA}{pos:Pos}
theorem dS:PA X [] ND:=λ_ _ _ _ H Q I h=>Calls.spliced_nil ⟨[],H,I,.nil,h⟩
theorem b_ (ha:PE X e te)(hr:PA X es t)(hs:starEach (e :: es) X.env=(false,eval e X.env) :: starEach es X.env:=by rfl):PA X (e :: es) (LI te t):=by
 intro pos pins s σ H Q I h
 rw[hs]
 show wpAny _ _ (spliced ((false,eval e X.env) :: backTo pos (starEach es X.env))) _ _ s
 refine Calls.spliced_cons (di (ha pins s σ H _ I h) λu s1 ⟨x,H1,I1,r1,q1⟩=> ?_)
 exact di (hr pos pins s1 σ H1 _ I1 q1) λus s2 ⟨xs,H2,I2,r2,q2⟩=>⟨x :: xs,H2,I2,.cons r1 r2,q2⟩
def NF (t:TA):TE:=λσ H Q=>t σ H λxs H1=>xs.length<=sizeLine/\∀p,H1 p=none->Q (.ref p) (upd H1 p (.tup xs))
def NG (t:TA):TE:=λσ H Q=>t σ H λxs H1=>xs.length<=sizeLine/\∀p,H1 p=none->Q (.ref p) (upd H1 p (.lst xs))
theorem Iw {x1}(h:PA X es t):PE X (.Tuple es x1 pos) (NF t):=by
 intro pins s σ H Q I hq
 refine wpAny_Tuple_spliced (di (h pos pins s σ H _ I hq) λus s1 ⟨xs,H1,I1,r,z,q⟩=>⟨by rw[←r.length];exact z,?_⟩)
 have hf:H1 s1.heap.objs.size=none:=I1.hok.fresh (K0 _)
 refine⟨.ref s1.heap.objs.size,upd H1 s1.heap.objs.size (.tup xs),I1.laid (t':=s1.toks) (λb u e=>K4 _ e) (K0 _) ?_,rfl,q _ hf⟩
 exact⟨z,us,r,⟨_,Kv _ rfl,rfl,_,rfl⟩⟩
theorem Cp (h:PA X es t):PE X (.List es pos) (NG t):=by
 intro pins s σ H Q I hq
 refine wpAny_List_spliced (di (h pos pins s σ H _ I hq) λus s1 ⟨xs,H1,I1,r,z,q⟩=>⟨by rw[←r.length];exact z,?_⟩)
 have hf:H1 s1.heap.objs.size=none:=I1.hok.fresh (K0 _)
 refine⟨.ref s1.heap.objs.size,upd H1 s1.heap.objs.size (.lst xs),I1.laid (t':=s1.toks) (λb u e=>K4 _ e) (K0 _) ?_,rfl,q _ hf⟩
 exact⟨z,us,0,r,Kv _ rfl⟩
end
abbrev Sp:=List V->Hp->VK->XK->Prop
abbrev Cq:=List Env->Hp->Shared->XK->Value->Shared->Prop
structure E_ (P:Program)(w:World)(K:Frag)(mg:Str->Option Value)(base:Heap)(A:Around)(outer:List Env)(s:Shared)(H:Hp):Prop where
 frames:A.frames=some outer
 mod:Mod K mg base
 bs:∀b o,base.get? b=some o->s.heap.get? b=some o/\H b=none
 EV:base.objs.size<=s.heap.objs.size
 oW:s.heap.FunFrames base outer
 HP:∀b∈frs outer,H b=none
 hok:pN P w H s.heap
 bare:AllBare s.gens
def CE (outer:List Env)(P:Program)(w:World)(H:Hp)(s:Shared)(Q:VK)(u:Value)(s':Shared):Prop :=
 ∃v H',s'.os=s.os/\AllBare s'.gens/\Un (frs outer) [] H H' s.heap s'.heap/\pN P w H' s'.heap/\RelV v u/\Q v H'
def CR (CX:Cq)(outer:List Env)(P:Program)(w:World)(H:Hp)(s:Shared)(Q:VK)(E:XK)(r:Result)(s':Shared):Prop :=
 match r with
 | .ok (.ret u)=>CE outer P w H s Q u s'
 | .ok _=>False
 | .error e=>CX outer H s E e s'
structure mG (P:Program)(w:World)(K:Frag)(mg:Str->Option Value)(base:Heap)(CX:Cq)(k:Nat)(f:Addr)(fd:FuncData)(ps:List Str)(sp:Sp):Prop where
 len:∀vs H Q E,sp vs H Q E->vs.length=ps.length
 run:∀(A:Around) (outer:List Env) (s:Shared) (H:Hp) (args:Args) (us:List Value) (vs:List V) (Q:VK) (E:XK),g_ k A->E_ P w K mg base A outer s H->BindsTo s fd args (ps.zip us)->Vals vs us->sp vs H Q E->
  codeAny (model P w) A (.call (.ref f) args) (CR CX outer P w H s Q E) s
section
variable {X:Cx}{pins:List (Addr×Obj)}{σ:St}{H:Hp}{s s':Shared}
theorem Inv.env0 (I:Inv X pins σ H s):E_ X.prog X.w X.K X.mg X.base X.A X.stack s H :=
 ⟨I.ok.frames,I.ok.mod,I.bs,Kw I.ok.EV I.sz,I.stack,I.zA,I.hok,I.bare⟩
theorem Inv.after (I:Inv X pins σ H s)(h:CE X.stack X.prog X.w H s Q u s'):EP X pins σ Q u s':=by
 obtain⟨v,H',os,bare,un,hok,r,q⟩:=h
 obtain⟨hh,g,d,t,os'⟩:=s'
 obtain rfl:os'=s.os:=os
 exact⟨v,H',I.call (h':=hh) (g':=g) (d':=d) (t':=t) (ch:=[]) un hok bare (λb z=>absurd z (by simp)),r,q⟩
end
def LJ (sp:Sp)(Hh:List V)(E:XK)(t:TA):TE:=λσ H Q=>t σ H λvs H1=>sp (vs++Hh) H1 Q E
def Binds (K:Frag)(fd:FuncData)(ps:List Str)(ds:List Value):Prop :=
 ∀(s:Shared) (us:List Value),K.In s.heap->(us++ds).length=ps.length->BindsTo s fd ⟨us,[]⟩ (ps.zip (us++ds))
theorem Binds.all {K:Frag}{fd:FuncData}{ps:List Str}(h:∀us:List Value,us.length=ps.length->bindArgs fd ⟨us,[]⟩=pure (ps.zip us)):Binds K fd ps []:=λs us _ hl=>by
 rw[Xj] at hl⊢
 exact .of_eq (h us hl)
def Passes (CX:Cq)(X:Cx)(E:XK):Prop:=∀(pins:List (Addr×Obj)) (σ:St) (H:Hp) (s:Shared) (e:Value) (s':Shared),Inv X pins σ H s->CX X.stack H s E e s'->X.xe e s'
section
variable {X:Cx}{CX:Cq}{k:Nat}{f C:Addr}{fd:FuncData}{ps:List Str}{sp:Sp}{Hh:List V}{ds:List Value}{E:XK}{x m:Str}{p pos apos:Pos}{e o:Expr}{es:List Expr}{ta:TE}{t:TA}
theorem Iy {pins:List (Addr×Obj)}{σ:St}{H:Hp}{s:Shared}{Q:VK}{us:List Value}{vs:List V}(F:mG X.prog X.w X.K X.mg X.base CX k f fd ps sp)(hr:g_ k X.A)(hb:Binds X.K fd ps ds)(hd:Vals Hh ds)(hx:Passes CX X E)
  (I:Inv X pins σ H s) (r:Vals vs us) (h:sp (vs++Hh) H Q E):wpAny (!7) X.A (call (.ref f) us) (EP X pins σ Q) X.xe s:=by
 have r2:Vals (vs++Hh) (us++ds):=r.append hd
 have hl:(us++ds).length=ps.length:=by rw[←r2.length];exact F.len _ _ _ _ h
 refine wpAny_call (codeAny_mono (F.run X.A X.stack s H ⟨us,[]⟩ (us++ds) (vs++Hh) Q E hr I.env0 (hb s us I.KR hl) r2 h) λr s' hq=> ?_)
 cases r with
 | error e=>exact hx pins σ H s e s' I hq
 | ok fl=>
  cases fl with
  | ret u=>exact I.after hq
  | next=>exact False.elim hq
  | brk=>exact False.elim hq
  | cont=>exact False.elim hq
theorem zG (F:mG X.prog X.w X.K X.mg X.base CX k f fd ps sp)(hr:g_ k X.A)(hg:Gl X x)(hm:X.mg x=some (.ref f))(hk:keepIn X.K (.ref f)=true)(hb:Binds X.K fd ps ds)(hd:Vals Hh ds)(hx:Passes CX X E)
  (ha:PA X (e :: es) t) (hdb:(x==("__debug__":Str))=false:=by decide) (he:starEach (e :: es) X.env=(false,eval e X.env) :: starEach es X.env:=by rfl) (hpl:(backTo pos (starEach es X.env)).any (·.1)=false:=by rfl) :
  PE X (.Call (.Name x p) (e :: es) [] pos) (LJ sp Hh E t):=by
 intro pins s σ H Q I h
 refine wpAny_Call_Name_kw (zC I hg hm ?_ hdb)
 refine PySem.W.callWith_K (h₀:=X.base) I.ok.mod.MR hk (di (ha pos pins s σ H _ I h) λus s1 ⟨vs,H1,I1,r,q⟩=>⟨I1.KR,?_⟩) he hpl
 exact Iy F hr hb hd hx I1 r q
end
structure iZ (N P:List Str)(sc:Scope):Prop where
 kind:sc.kind= .function
 co:sc.isCoroutine=false
 gen:sc.isGenerator=false
 nd:N.Nodup
 pre:N.take P.length=P
 par:∀x∈P,sc.names.lookup x=some .local∨sc.names.lookup x=some .cell
 Iz:∀y∈sc.names,y.2≠ .free
theorem sK {kindOf:Str->Option NameKind} :∀{binds:List (Str×Value)} {m:Str->Option Value},(∀v,(x,v)∉binds)->bindL kindOf binds m x=m x
 | [],_,_=>rfl
 | (n,v) :: r,m,h=>by
  unfold bindL
  rw[sK λw hw=>h w (K8 _ hw)]
  split
  ·have:x≠n:=by rintro rfl;exact h v K9
   simp[this]
  ·rfl
theorem sL {kindOf:Str->Option NameKind} :∀{binds:List (Str×Value)} {m:Str->Option Value},(∀v,(x,v)∉binds)->bindC kindOf binds m x=m x
 | [],_,_=>rfl
 | (n,v) :: r,m,h=>by
  unfold bindC
  rw[sL λw hw=>h w (K8 _ hw)]
  split
  ·rfl
  ·have:x≠n:=by rintro rfl;exact h v K9
   simp[this]
theorem sM {kindOf:Str->Option NameKind} :∀{P:List Str} {vs:List Value} {i:Nat} {m:Str->Option Value},P.Nodup->P[i]? =some x->vs[i]? =some v->kindOf x=some .local->
  bindL kindOf (P.zip vs) m x=some v
 | [],_,_,_,_,h,_,_=>by simp at h
 | _ :: _,[],_,_,_,_,h,_=>by simp at h
 | p :: P,w :: vs,0,m,nd,h1,h2,hk=>by
  simp at h1 h2;subst h1;subst h2
  show bindL kindOf ((p,w) :: P.zip vs) m p=_
  unfold bindL
  rw[sK λv hv=>(KQ.mp nd).1 (List.of_mem_zip hv).1,Z4 hk]
  simp
 | p :: P,w :: vs,i+1,m,nd,h1,h2,hk=>by
  show bindL kindOf ((p,w) :: P.zip vs) m x=_
  unfold bindL
  exact sM (i:=i) (KQ.mp nd).2 (by simpa using h1) (by simpa using h2) hk
theorem sN {kindOf:Str->Option NameKind} :∀{P:List Str} {vs:List Value} {i:Nat} {m:Str->Option Value},P.Nodup->P[i]? =some x->vs[i]? =some v->kindOf x≠some .local->
  bindC kindOf (P.zip vs) m x=some v
 | [],_,_,_,_,h,_,_=>by simp at h
 | _ :: _,[],_,_,_,_,h,_=>by simp at h
 | p :: P,w :: vs,0,m,nd,h1,h2,hk=>by
  simp at h1 h2;subst h1;subst h2
  show bindC kindOf ((p,w) :: P.zip vs) m p=_
  unfold bindC
  rw[sL λv hv=>(KQ.mp nd).1 (List.of_mem_zip hv).1,Z5 hk]
  simp
 | p :: P,w :: vs,i+1,m,nd,h1,h2,hk=>by
  show bindC kindOf ((p,w) :: P.zip vs) m x=_
  unfold bindC
  exact sN (i:=i) (KQ.mp nd).2 (by simpa using h1) (by simpa using h2) hk
noncomputable def start (N:List Str)(vs:List V):St:=vs.map some++List.replicate (N.length - vs.length) none
noncomputable def rY (CX:Cq)(P:Program)(w:World)(K:Frag)(mg:Str->Option Value)(base:Heap)(N:List Str)(qual:Str)(scope:Scope)(f:Addr)(cd:Value)(A:Around)(outer:List Env)(s:Shared)(H:Hp)(E:XK):Cx where
 prog:=P
 w:=w
 K:=K
 mg:=mg
 base:=base
 A:=A.deeper (envOfC qual scope s.heap.objs.size f cd)
 N:=N
 s₀:=s
 H₀:=H
 env:=envOfC qual scope s.heap.objs.size f cd
 outer:=outer
 stack:=envOfC qual scope s.heap.objs.size f cd :: outer
 ex:=[]
 calm:=true
 fn:=λ_=>true
 pn:=[]
 xe:=λe s'=>wpAny (model P w) (A.deeper (envOfC qual scope s.heap.objs.size f cd)) (leaving (envOfC qual scope s.heap.objs.size f cd) e) (λ_ s''=>CX outer H s E e s'') (λe' s''=>CX outer H s E e' s'') s'
theorem vS {sc:Scope}{n:Nat}{x:Str}(h:sc.names.lookup x=some .cell):∃c,(cellsFrom n sc.names []).lookup x=some c:=by
 have q:=PySem.W.cellsFrom_some sc.names n [] (.inl h)
 exact Option.isSome_iff_exists.mp q
theorem A4 {CX:Cq}{P:Program}{w:World}{K:Frag}{mg:Str->Option Value}{base:Heap}{N ps:List Str}{qual:Str}{scope:Scope}{f:Addr}{cd:Value}{A:Around}{outer:List Env}{s s1:Shared}{H:Hp}{E:XK}{us:List Value}{vs:List V}
  (S:iZ N ps scope) (hd:A.handled=none) (e0:E_ P w K mg base A outer s H) (hl:vs.length=ps.length) (r:Vals vs us)
  (x:InCallC s s.heap.objs.size (bindL (envOfC qual scope s.heap.objs.size f cd).kindOf (ps.zip us) λ_=>none) (cellsFrom (s.heap.objs.size+1) scope.names []) (bindC (envOfC qual scope s.heap.objs.size f cd).kindOf (ps.zip us) λ_=>none) s1) :
  Inv (rY CX P w K mg base N qual scope f cd A outer s H E) [] (start N vs) H s1:=by
 have hpl:ps.length<=N.length:=by have:=congrArg List.length S.pre;rw[X0] at this;omega
 obtain⟨h1,tk,rfl,hk⟩:=x.done
 have LK:∀b:Addr,b∉(rY CX P w K mg base N qual scope f cd A outer s H E).ex:=λb z=>absurd (show b∈([]:List Addr) from z) (by simp)
 refine⟨⟨e0.mod,S.kind,rfl,rfl,K0 _,λy z c h1 h2=> ?_,λy hy=> ?_,λy c _ h=> ?_,λ_=>hd,Around.frames_deeper e0.frames,.inr ⟨rfl,rfl⟩,λb z=>absurd z (LK b),e0.bs,e0.EV,λb _ _=>LK b,λb z=>absurd z (LK b),e0.oW,e0.HP⟩,
  rfl,e0.bare,Un.kept hk,⟨_,x.toInCall.ns,λi y v h1 h2 h3=> ?_⟩,λy c h=>⟨_,x.cell y c h⟩,e0.hok.fresh (K0 _),λy c h=> ?_,λp hp=>absurd (show p∈([]:List (Addr×Obj)) from hp) (by simp),e0.hok.kept hk,?_⟩
 ·exact name_of_addr x.apart (PySem.mem_of_lookup h1) (PySem.mem_of_lookup h2)
 ·have hy:scope.names.lookup y=some .cell∨scope.names.lookup y=some .free:=hy
  rcases hy with hy | hy
  ·exact vS hy
  ·exact absurd rfl (S.Iz _ (PySem.mem_of_lookup hy))
 ·exact J1 (x.above y c (PySem.mem_of_lookup h))
 ·have hi:i < vs.length:=by
   unfold start at h2
   by_cases hi:i < vs.length
   ·exact hi
   ·rw[Xu (by simpa using hi)] at h2
    rw[YJ] at h2
    split at h2 <;> cases h2
  have ha:vs[i]? =some v:=by
   unfold start at h2
   rw[Xx (by simpa using hi),KZ] at h2
   cases e:vs[i]? with
   | none=>rw[e] at h2;cases h2
   | some a=>rw[e] at h2;cases h2;rfl
  obtain⟨u,hu,rv⟩:=r.get ha
  have hp:ps[i]? =some y:=by
   rw[←S.pre,List.getElem?_take_of_lt (!1)];exact h1
  have OQ:ps.Nodup:=by rw[←S.pre];exact S.nd.sublist (Jy _ _)
  refine⟨u,rv,?_⟩
  rcases S.par y (Y3 hp) with k | k
  ·exact .inl ⟨k,sM OQ hp hu k⟩
  ·obtain⟨c,e⟩:=vS (n:=s.heap.objs.size+1) k
   refine .inr ⟨.inl k,c,e,?_⟩
   have q:=x.cell y c e
   rw[sN OQ hp hu (by show scope.names.lookup y≠_;rw[k];decide)] at q
   exact q
 ·exact e0.hok.fresh (J1 (x.above y c (PySem.mem_of_lookup h)))
 ·unfold start
  show _=N.length
  rw[K2,K6,Uq]
  omega
theorem LL {CX:Cq}{P:Program}{w:World}{K:Frag}{mg:Str->Option Value}{base:Heap}{k:Nat}{f:Addr}{name qual:Str}{params:Arguments}{body:List Stmt}{scope:Scope}{dV kV doc pm cdv ct oc:Value}{an od:Option Addr}
  {osl:Array (Option Value)} {N ps:List Str} {sp:Sp} (lk:K.lookup f=some ⟨oc,od,.func (fnOf name qual params body scope dV kV doc pm an cdv ct),osl⟩) (hcd:codeIn K cdv qual=true) (S:iZ N ps scope)
  (len:∀vs H Q E,sp vs H Q E->vs.length=ps.length)
  (hbody:∀(A:Around) (outer:List Env) (s:Shared) (H:Hp) (vs:List V) (Q:VK) (E:XK),g_ k (A.deeper (envOfC qual scope s.heap.objs.size f cdv))->sp vs H Q E->
   ∃t,rR (rY CX P w K mg base N qual scope f cdv A outer s H E) body t/\t {nx:=λ_ H'=>Q .non H',rt:=Q} (start N vs) H) :
  mG P w K mg base CX (k+1) f (fnOf name qual params body scope dV kV doc pm an cdv ct) ps sp:=by
 refine⟨len,λA outer s H args us vs Q E hr e0 hb r hsp=> ?_⟩
 have hl:=len _ _ _ _ hsp
 have KX:K.In s.heap:=e0.mod.MR.keeps λb o e=>(e0.bs b o e).1
 have lim:s.heap.NoLimit:=e0.mod.nolimit.keeps λb o e=>(e0.bs b o e).1
 have hkind:∀y∈ps.zip us,scope.names.lookup y.1=some .local∨(scope.names.lookup y.1=some .cell/\((cellsFrom (s.heap.objs.size+1) scope.names []).lookup y.1).isSome=true):=λ⟨n,v⟩ hy=>by
  rcases S.par n (List.of_mem_zip hy).1 with q | q
  ·exact .inl q
  ·exact .inr ⟨q,PySem.W.cellsFrom_some _ _ _ (.inl q)⟩
 refine codeAny_call_function hr.depth (KX _ _ lk) rfl S.co S.gen rfl (PySem.W.codeRec_of KX hcd) (hb _ _ _ _ ?_)
 refine wpAny_newFunctionEnv_cells S.kind hkind λenv he s1 x=> ?_
 subst he
 refine⟨lim.keeps x.toInCall.keep,codeAny_func ?_⟩
 obtain⟨t,ht,hq⟩:=hbody A outer s H vs Q E (hr.deeper _) hsp
 have I:Inv (rY CX P w K mg base N qual scope f cdv A outer s H E) [] (start N vs) H s1:=A4 S hr.hd e0 hl r x
 refine wpAny_mono (ht [] s1 (start N vs) H _ I hq) (λfl s' hs=> ?_) λe s' hs=>hs
 have fin:∀{σ':St} {H':Hp} {v:V} {u:Value},Inv (rY CX P w K mg base N qual scope f cdv A outer s H E) [] σ' H' s'->RelV v u->Q v H'->CE outer P w H s Q u s' :=
  λ{σ' H' v u} J rv q=>⟨v,H',J.os,J.bare,J.base,J.hok,rv,q⟩
 cases fl with
 | ret u=>
  obtain⟨v,σ',H',J,rv,q⟩:=hs
  exact fin J rv q
 | next=>
  obtain⟨σ',H',J,q⟩:=hs
  exact fin (v:=V.non) (u:=Value.none) J rfl q
 | brk=>
  obtain⟨_,_,_,q⟩:=hs
  exact False.elim q
 | cont=>
  obtain⟨_,_,_,q⟩:=hs
  exact False.elim q
section
variable {X:Cx}{x:Str}{p pos:Pos}{e:Expr}{es:List Expr}{t:TA}{id T:String}{r:List V->Hp->VK->Prop}
def NH (r:List V->Hp->VK->Prop)(t:TA):TE:=λσ H Q=>t σ H λvs H1=>r vs H1 Q
theorem Cr (hc:iY X (.builtin id) r)(hg:Gl X x)(hm:X.mg x=none)(hv:bootBuiltins x=some (.builtin id))(ha:PA X (e :: es) t)(hn:x≠ "__name__":=by decide)(hdb:(x==("__debug__":Str))=false:=by decide)
  (he:starEach (e :: es) X.env=(false,eval e X.env) :: starEach es X.env:=by rfl) (hpl:(backTo pos (starEach es X.env)).any (·.1)=false:=by rfl):PE X (.Call (.Name x p) (e :: es) [] pos) (NH r t):=by
 intro pins s σ H Q I h
 refine wpAny_Call_Name_kw (gO I hg hm hv ?_ hn hdb)
 exact PyProof.Rows.callWith_builtin1 (di (ha pos pins s σ H _ I h) λus s1 ⟨vs,H1,I1,r1,q1⟩=>hc pins s1 σ H1 vs us Q I1 r1 q1) he hpl
theorem A5 (hc:iY X (.type T) r)(hg:Gl X x)(hm:X.mg x=none)(hv:bootBuiltins x=some (.type T))(ha:PA X (e :: es) t)(hn:x≠ "__name__":=by decide)(hdb:(x==("__debug__":Str))=false:=by decide)
  (he:starEach (e :: es) X.env=(false,eval e X.env) :: starEach es X.env:=by rfl) (hpl:(backTo pos (starEach es X.env)).any (·.1)=false:=by rfl):PE X (.Call (.Name x p) (e :: es) [] pos) (NH r t):=by
 intro pins s σ H Q I h
 refine wpAny_Call_Name_kw (gO I hg hm hv ?_ hn hdb)
 exact PyProof.Rows.callWith_type1 (di (ha pos pins s σ H _ I h) λus s1 ⟨vs,H1,I1,r1,q1⟩=>hc pins s1 σ H1 vs us Q I1 r1 q1) he hpl
end
end L2
namespace HT
open PySem PyProof.Rows
section
variable {prog:Program}{w:World}{A:Around}{E:Zu}{s:Shared}
theorem Fa (ht:IsTup s.heap t vs.toArray)(hb:IsTup s.heap b ws.toArray)(hv:vs≠[])
  (h1:ws=[]->Q (.ref t) s) (h2:ws≠[]->Q (.ref s.heap.objs.size) {s with heap:=s.heap.push {cls:=.type "tuple",data:=.seq (vs++ws).toArray}})
  (hsz:vs.length+ws.length<=sizeLine):wpAny (!4) A (binaryOp .Add (.ref t) (.ref b)) Q E s:=by
 obtain⟨⟨cls,dd,data,sl⟩,ho,hc,n,hd⟩:=id ht
 obtain⟨⟨cls2,dd2,data2,sl2⟩,ho2,hc2,n2,hd2⟩:=id hb
 simp only at hc hd hc2 hd2
 subst hc hd hc2 hd2
 have e:vs.toArray++ws.toArray=(vs++ws).toArray:=by simp
 by_cases hw:ws=[]
 ·exact concat_meets ⟨_,ho,rfl⟩ ⟨_,ho2,rfl⟩ noFill_tuple_add seq_tuple_add PySem.F.slot_tuple_add PySem.F.entry_tuple_add (PySem.F.args_tuple_add_2 _ _)
   (tuple_addW1 t b vs.toArray ws.toArray n n2 dd dd2 sl sl2 (by simpa using hv) (by simp[hw])) ⟨ho,ho2,h1 hw⟩
 ·refine concat_meets ⟨_,ho,rfl⟩ ⟨_,ho2,rfl⟩ noFill_tuple_add seq_tuple_add PySem.F.slot_tuple_add PySem.F.entry_tuple_add (PySem.F.args_tuple_add_2 _ _)
   (tuple_addW2 t b vs.toArray ws.toArray n n2 dd dd2 sl sl2 (by simpa using hv) (by simpa using hw) (by rw[Kz,Kz];exact hsz)) ⟨ho,ho2,?_⟩
  rw[e]
  exact h2 hw
noncomputable def dU (n d:Nat):Option Int->Nat
 | none=>d
 | some v=>if v < 0 then (v+(n:Int)).toNat else min v.toNat n
theorem IA (n d:Nat)(hd:d<=n)(o:Option Int):dU n d o<=n:=by
 cases o with
 | none=>exact hd
 | some v=>
  show(if v < 0 then (v+(n:Int)).toNat else min v.toNat n)<=n
  by_cases hv:v < 0
  ·rw[Z4 hv];omega
  ·rw[Z5 hv];exact Nat.min_le_right _ _
theorem zH (v:Int)(n d:Nat):(if v < 0 then max (v+(n:Int)) 0 else min v (n:Int))=((dU n d (some v):Nat):Int):=by
 show(if v < 0 then max (v+(n:Int)) 0 else min v (n:Int))=(((if v < 0 then (v+(n:Int)).toNat else min v.toNat n):Nat):Int)
 by_cases hv:v < 0
 ·simp only[Z4 hv];omega
 ·simp only[Z5 hv];omega
theorem yu (lo hi:Option Int)(n:Nat):Builtin.Slice.sliceAdjust lo hi 1 (n:Int)=(((dU n 0 lo:Nat):Int),((dU n n hi:Nat):Int)):=by
 have h1:¬ ((1:Int) < 0):=by omega
 unfold Builtin.Slice.sliceAdjust
 simp only[h1,if_false]
 refine Prod.ext ?_ ?_
 ·cases lo with
  | none=>rfl
  | some v=>exact zH v n 0
 ·cases hi with
  | none=>rfl
  | some v=>exact zH v n n
theorem yv (i j:Nat):Builtin.Slice.slicePlaces (i:Int) (j:Int) 1=j - i:=by
 unfold Builtin.Slice.slicePlaces
 have h1:(1:Int) > 0:=by omega
 simp only[h1,if_true,Int.ediv_one]
 split <;> omega
theorem pT (p:IsPart v o)(h:Q o s):wpAny (!4) A (Builtin.Slice.slicePartIndex v) Q E s:=by
 cases p with
 | none=>exact slicePart_none h
 | int i t=>exact slicePart_int h
theorem jz {sl:Addr}{vl vu:Value}{lo hi:Option Int}{n:Nat}{Q:Int×Int×Nat->Shared->Prop}(hs:s.heap.IsSliceOf sl vl vu .none)(pl:IsPart vl lo)(pu:IsPart vu hi)
  (h:Q (((dU n 0 lo:Nat):Int),1,dU n n hi - dU n 0 lo) s):wpAny (!4) A (Builtin.Slice.sliceApplied (.ref sl) (pure (n:Int))) Q E s:=by
 obtain⟨os,hos,hcs,hds⟩:=id hs
 unfold Builtin.Slice.sliceApplied Builtin.Slice.sliceFields
 refine Z7 (Z7 (wpAny_field hos hds (x:=vl) rfl (Z7 (wpAny_field hos hds (x:=vu) rfl (Z7 (wpAny_field hos hds (x:=.none) rfl (Z6 ?_)))))))
 refine Z7 (slicePart_none ?_)
 show wpAny _ _ (if ((1:Int)==0)=true then _ else _) _ _ s
 rw[Z5 (!8)]
 refine Z7 (pT pl (Z7 (pT pu (Z7 (Z6 ?_)))))
 show wpAny _ _ (match Builtin.Slice.sliceAdjust lo hi 1 (n:Int) with | (lo,hi)=>pure (lo,(1:Int),Builtin.Slice.slicePlaces lo hi 1)) _ _ s
 rw[yu lo hi n]
 show wpAny _ _ (pure (((dU n 0 lo:Nat):Int),(1:Int),Builtin.Slice.slicePlaces ((dU n 0 lo:Nat):Int) ((dU n n hi:Nat):Int) 1)) _ _ s
 rw[yv]
 exact Z6 h
theorem Ct (xs:Array Value)(i k:Nat):((List.range k).filterMap λ(m:Nat)=>xs[((i:Int)+(m:Int)*1).toNat]?).toArray=((xs.toList.drop i).take k).toArray:=by
 have e:(λ(m:Nat)=>xs[((i:Int)+(m:Int)*1).toNat]?)=λm=>xs[i+m]?:=by
  funext m
  have:((i:Int)+(m:Int)*1).toNat=i+m:=by omega
  rw[this]
 rw[e]
 have:=pick_run xs i k
 rw[List.filterMap_map] at this
 have e2:((λx=>xs[x]?) ∘ λx=>i+x)=λm=>xs[i+m]?:=rfl
 rw[e2] at this
 rw[this]
theorem mH {t sl:Addr}{items:Array Value}{vl vu:Value}{lo hi:Option Int}{Q:Zu}(ht:IsTup s.heap t items)(hs:s.heap.IsSliceOf sl vl vu .none)(pl:IsPart vl lo)(pu:IsPart vu hi)
  (hw:¬ (dU items.size 0 lo=0/\dU items.size items.size hi=items.size))
  (h:Q (.ref s.heap.objs.size) {s with heap:=s.heap.push {cls:=.type "tuple",data:=.seq ((items.toList.drop (dU items.size 0 lo)).take (dU items.size items.size hi - dU items.size 0 lo)).toArray}})
  (hsz:items.size<=sizeLine):wpAny (!4) A (getItem (.ref t) (.ref sl)) Q E s:=by
 have zI:sizeOk (.seq ((items.toList.drop (dU items.size 0 lo)).take (dU items.size items.size hi - dU items.size 0 lo)).toArray):=by
  show((items.toList.drop (dU items.size 0 lo)).take (dU items.size items.size hi - dU items.size 0 lo)).toArray.size<=sizeLine
  rw[Kz,X0,XU,KU]
  omega
 have hj:dU items.size items.size hi<=items.size:=IA _ _ (K0 _) hi
 obtain⟨os,hos,hcs,hds⟩:=id hs
 have hTs:s.TypeIs (.ref sl) "slice":=⟨os,hos,hcs⟩
 unfold getItem
 try with_reducible refine Z1 ?_
 first | refine Z7 (Z6 ?_) | skip
 refine Z7 (wpAny_sequenceKey ht.typeIs (!8) ?_)
 refine Z7 (wpAny_callSpecial?_slot (name:=Str.ofString "__getitem__") ht.typeIs PyProof.Rows.slot_tuple_getitem
  (Z0 PyProof.Rows.slot_tuple_getitem ht.typeIs entry_tuple_getitem ?_ (args_tuple_getitem _ _)))
 show wpAny _ _ (Builtin.Tuple.tupleItemsOf (.ref t) >>=_) _ _ s
 refine Z7 (tupleItemsOf_ ht ?_)
 refine Z7 (wpAny_typeOf hTs ?_)
 rw[Z4 (!8)]
 refine Z7 (jz hs pl pu ?_)
 have hno:¬ ((((dU items.size 0 lo:Nat):Int)==0 && (1:Int)==1 && (dU items.size items.size hi - dU items.size 0 lo)==items.size)=true):=by
  intro q
  rw[X7,X7] at q
  have q1:((dU items.size 0 lo:Nat):Int)=0:=eq_of_beq q.1.1
  have q2:dU items.size items.size hi - dU items.size 0 lo=items.size:=eq_of_beq q.2
  exact hw ⟨by omega,by omega⟩
 show wpAny _ _ (if (((dU items.size 0 lo:Nat):Int)==0 && (1:Int)==1 && (dU items.size items.size hi - dU items.size 0 lo)==items.size)=true then _ else _) _ _ s
 rw[Z5 hno,Ct]
 first
  | exact Z7 (m:=Builtin.Tuple.tupleExact _) (Zk (Z6 ⟨_,rfl,Z6 h⟩) zI)
  | exact Z7 (m:=Builtin.Tuple.tupleExact _) (Zk (Z7 (Z6 (Z6 ⟨_,rfl,Z6 h⟩))) zI)
  | exact Z7 (Z7 (m:=Builtin.Tuple.tupleExact _) (Zk (Z6 (Z6 ⟨_,rfl,Z6 h⟩)) zI))
  | exact Z7 (Z7 (m:=Builtin.Tuple.tupleExact _) (Zk (Z6 ⟨_,rfl,Z6 h⟩) zI))
end
end HT
namespace L2
open PySem PySem.Spec PyProof.Rows
abbrev TO:=St->Hp->(Option Int->Hp->Prop)->Prop
def PO (X:Cx)(e:Option Expr)(t:TO):Prop :=
 ∀(pins:List (Addr×Obj)) (s:Shared) (σ:St) (H:Hp) (Q:Option Int->Hp->Prop),Inv X pins σ H s->t σ H Q->
  wpAny (!7) X.A (evalPart e X.env) (λu s'=>∃o H',Inv X pins σ H' s'/\IsPart u o/\Q o H') X.xe s
def Fb:TO:=λ_ H Q=>Q none H
def LM (t:TE):TO:=λσ H Q=>t σ H λx H1=>∃i,x= .int i/\Q (some i) H1
section
variable {X:Cx}{e:Expr}{te:TE}{lo hi:Option Expr}{tl th:TO}{pos p2:Pos}
theorem Fc:PO X none Fb:=by
 intro pins s σ H Q I h
 rw[evalPart_none]
 exact Z6 ⟨none,H,I,.none,h⟩
theorem Fd (h:PE X e te):PO X (some e) (LM te):=by
 intro pins s σ H Q I hw
 rw[evalPart_some]
 refine di (h pins s σ H _ I hw) λu s1 ⟨x,H1,I1,r1,q1⟩=> ?_
 obtain⟨i,rfl,q⟩:=q1
 obtain⟨t,rfl⟩:=r1
 exact⟨some i,H1,I1,.int i t,q⟩
def MY (X:Cx)(r:V->Option Int->Option Int->Hp->VK->Prop):Prop :=
 ∀(pins:List (Addr×Obj)) (s:Shared) (σ:St) (H:Hp) (x:V) (v vl vu:Value) (lo hi:Option Int) (sl:Addr) (Q:VK),Inv X pins σ H s->RelV x v->s.heap.IsSliceOf sl vl vu .none->IsPart vl lo->IsPart vu hi->r x lo hi H Q->
  ∃T id,typeLookup (.type T) "__getitem__" =pure (some (.builtin id))/\s.TypeIs v T/\wpAny (!7) X.A (getItem v (.ref sl)) (EP X pins σ Q) X.xe s
def Pu (r:V->Option Int->Option Int->Hp->VK->Prop)(te:TE)(tl th:TO):TE:=λσ H Q=>te σ H λx H1=>tl σ H1 λl H2=>th σ H2 λu H3=>r x l u H3 Q
theorem Cu (hr:MY X r)(he:PE X e te)(hl:PO X lo tl)(hu:PO X hi th):PE X (.Subscript e (.Slice lo hi none p2) pos) (Pu r te tl th):=by
 intro pins s σ H Q I h
 refine Subscript_ (di (he pins s σ H _ I h) λv s1 ⟨x,H1,I1,r1,q1⟩=> ?_)
 refine wpAny_Slice (di (hl pins s1 σ H1 _ I1 q1) λvl s2 ⟨l,H2,I2,pl,q2⟩=>di (hu pins s2 σ H2 _ I2 q2) λvu s3 ⟨u,H3,I3,pu,q3⟩=> ?_)
 rw[evalPart_none]
 refine Z6 ?_
 have I4:Inv X pins σ H3 {s3 with heap:=s3.heap.push {cls:=.type "slice",data:=.fields #[vl,vu,.none]}}:=I3.kept (t':=s3.toks) λb ob q=>K4 _ q
 obtain⟨T,id,hT,ht,hg⟩:=hr pins {s3 with heap:=s3.heap.push {cls:=.type "slice",data:=.fields #[vl,vu,.none]}} σ H3 x v vl vu l u s3.heap.objs.size Q I4 r1 (Heap.IsSliceOf.new ..) pl pu q3
 show wpAny (!7) X.A (subscriptTail e (.Slice lo hi none p2) v (.ref s3.heap.objs.size)) (EP X pins σ Q) X.xe {s3 with heap:=s3.heap.push {cls:=.type "slice",data:=.fields #[vl,vu,.none]}}
 exact tail_any (ops:=[.ref s3.heap.objs.size,v]) ht hT hg (by with_unfolding_all rfl)
noncomputable def vT (xs:List V)(lo hi:Option Int):List V:=(xs.drop (HT.dU xs.length 0 lo)).take (HT.dU xs.length xs.length hi - HT.dU xs.length 0 lo)
theorem oy (xs:List V)(lo hi:Option Int):(vT xs lo hi).length<=xs.length:=by
 unfold vT
 rw[X0,XU]
 omega
def NI (K:Frag):V->Option Int->Option Int->Hp->VK->Prop:=λx lo hi H Q=>∃a xs,x= .ref a/\eK K H a xs/\
 ¬ (HT.dU xs.length 0 lo=0/\HT.dU xs.length xs.length hi=xs.length)/\∀p,H p=none->Q (.ref p) (upd H p (.tup (vT xs lo hi)))
theorem IB:MY X (NI X.K):=by
 intro pins s σ H x v vl vu lo hi sl Q I rx hs pl pu h
 obtain⟨a,xs,rfl,hx,hw,q⟩:=h
 cases rx
 obtain⟨its,r,ht,hz⟩:=I.tuple hx
 have hlen:its.toArray.size=xs.length:=by rw[Kz];exact r.length.symm
 refine⟨"tuple",_,PyProof.Rows.slot_tuple_getitem.lookup,ht.typeIs,?_⟩
 refine HT.mH ht hs pl pu (by rw[hlen];exact hw) ?_ (by rw[hlen];exact hz)
 rw[hlen]
 refine⟨.ref s.heap.objs.size,_,I.laid (t':=s.toks) (o:=.tup (vT xs lo hi)) (λb ob q=>K4 _ q) (K0 _) ?_,rfl,q _ (I.hok.fresh (K0 _))⟩
 exact⟨Kw (oy xs lo hi) hz,_,(r.drop (HT.dU xs.length 0 lo)).take (HT.dU xs.length xs.length hi - HT.dU xs.length 0 lo),IsTup.new _ _⟩
def LN (K:Frag):R2:=λx y H Q=>∃a b xs ys,x= .ref a/\y= .ref b/\eK K H a xs/\eK K H b ys/\xs≠[]/\xs.length+ys.length<=sizeLine/\
 (ys=[]->Q (.ref a) H)/\(ys≠[]->∀p,H p=none->Q (.ref p) (upd H p (.tup (xs++ys))))
theorem Vals.pB (r:Vals xs us):us=[]↔xs=[]:=by
 cases r with
 | nil=>simp
 | cons _ _=>simp
theorem Fe:sJ X (binaryOp .Add) (LN X.K):=by
 intro pins s σ H x y v u Q I rx ry h
 obtain⟨a,b,xs,ys,rfl,rfl,ha,hb,hx,hz,q1,q2⟩:=h
 cases rx
 cases ry
 obtain⟨its,r1,p1,_⟩:=I.tuple ha
 obtain⟨its2,r2,p2,_⟩:=I.tuple hb
 refine HT.Fa p1 p2 (λz=>hx (r1.pB.mp z)) (λz=>⟨.ref a,H,I,rfl,q1 (r2.pB.mp z)⟩) (λz=> ?_) (by rw[←r1.length,←r2.length];exact hz)
 refine⟨.ref s.heap.objs.size,_,I.laid (t':=s.toks) (o:=.tup (xs++ys)) (λb ob q=>K4 _ q) (K0 _) ?_,rfl,q2 (λw=>z (r2.pB.mpr w)) _ (I.hok.fresh (K0 _))⟩
 exact⟨by rw[K2];exact hz,_,r1.append r2,IsTup.new _ _⟩
end
def sO (n:Nat)(i:Int):Option Nat:=if 0<=i then (if i < n then some i.toNat else none) else if -(n:Int)<=i then some (i+n).toNat else none
noncomputable def IC {α:Type}(xs:List α)(i:Int):Option α:=(sO xs.length i).bind λj=>xs[j]?
theorem zJ (h:sO n i=some j):seqIndex? i n=some j/\j < n/\ -(n:Int)<=i/\i < n:=by
 unfold sO at h
 by_cases h0:0<=i
 ·rw[Z4 h0] at h
  by_cases h1:i < n
  ·rw[Z4 h1] at h
   have e:i.toNat=j:=Option.some.inj h
   exact⟨by rw[seqIndex_of h0 h1,e],by omega,by omega,h1⟩
  ·rw[Z5 h1] at h;cases h
 ·rw[Z5 h0] at h
  by_cases h1:-(n:Int)<=i
  ·rw[Z4 h1] at h
   have e:(i+n).toNat=j:=Option.some.inj h
   exact⟨by rw[seqIndex_neg (!1) h1,e],by omega,h1,by omega⟩
  ·rw[Z5 h1] at h;cases h
theorem ul {α:Type}{xs:List α}{i:Int}{v:α}(h:IC xs i=some v):∃j,seqIndex? i xs.length=some j/\xs[j]? =some v/\j < xs.length/\ -(xs.length:Int)<=i/\i < xs.length:=by
 unfold IC at h
 cases e:sO xs.length i with
 | none=>rw[e] at h;cases h
 | some j=>
  rw[e] at h
  obtain⟨h1,h2,h3,h4⟩:=zJ e
  exact⟨j,h1,h,h2,h3,h4⟩
def zK (b:Expr):Prop:=∀o i,subscripted b false o i=operate [o,i] (getItem o i)
def Cv (X:Cx)(r:R2):Prop :=
 ∀(value slice:Expr) (pins:List (Addr×Obj)) (s:Shared) (σ:St) (H:Hp) (x y:V) (v u:Value) (Q:VK),Inv X pins σ H s->RelV x v->RelV y u->r x y H Q->
  subscripted slice false v u=operate [v,u] (getItem v u)->wpAny (!7) X.A (subscriptTail value slice v u) (EP X pins σ Q) X.xe s
def NJ (X:Cx)(id:String)(r:V->List V->Hp->VK->Prop):Prop :=
 ∀(pins:List (Addr×Obj)) (s:Shared) (σ:St) (H:Hp) (x:V) (xs:List V) (v:Value) (us:List Value) (Q:VK),Inv X pins σ H s->RelV x v->Vals xs us->r x xs H Q->
  wpAny (!7) X.A (call (.builtin id) (v :: us)) (EP X pins σ Q) X.xe s
section
variable {X:Cx}{a b:Expr}{ta tb:TE}{pos:Pos}
theorem Cv.or (h:Cv X r)(h':Cv X r'):Cv X (λx y H Q=>r x y H Q∨r' x y H Q):=by
 intro value slice pins s σ H x y v u Q I rx ry q hs
 rcases q with q | q
 ·exact h value slice pins s σ H x y v u Q I rx ry q hs
 ·exact h' value slice pins s σ H x y v u Q I rx ry q hs
theorem LO (hr:Cv X r)(ha:PE X a ta)(hb:PE X b tb)(hs:zK b):PE X (.Subscript a b pos) (MX r ta tb):=by
 intro pins s σ H Q I h
 exact Subscript_ (Ij ha hb I h λv u s2 x y H2 I2 rx ry q=>hr a b pins s2 σ H2 x y v u Q I2 rx ry q (hs _ _))
def LP (K:Frag):R2:=λx y H Q=>∃p xs i v,x= .ref p/\y= .int i/\fU K H p xs/\IC xs i=some v/\Q v H
def LQ (K:Frag):R2:=λx y H Q=>∃p xs i v,x= .ref p/\y= .int i/\eK K H p xs/\IC xs i=some v/\Q v H
def LR:R2:=λx y H Q=>∃z i c,x= .str z/\y= .int i/\z.length<=sizeLine/\IC z.cps.toList i=some c/\Q (.str ⟨#[c]⟩) H
theorem Ff:Cv X (LP X.K):=by
 intro value slice pins s σ H x y v u Q I rx ry h hs
 obtain⟨p,xs,i,z,rfl,rfl,hq,he,q⟩:=h
 cases rx
 obtain⟨t,rfl⟩:=ry
 obtain⟨its,r,pl,hz⟩:=I.list hq
 obtain⟨j,h1,h2,h3,h4,h5⟩:=ul he
 obtain⟨w,ew,Cw⟩:=r.get h2
 have hl:=r.length
 have hn:=kN
 have fin:EP X pins σ Q w s:=⟨z,H,I,Cw,q⟩
 by_cases h0:0<=i
 ·have hj:i.toNat=j:=by
   rw[seqIndex_of h0 h5] at h1
   exact Option.some.inj h1
  exact item_listR pl.isList h0 (!1) (by rw[hj];simpa using ew) fin hs
 ·have hj:(i+(its.toArray.size:Int)).toNat=j:=by
   rw[seqIndex_neg (!1) h4] at h1
   rw[Kz,←hl]
   exact Option.some.inj h1
  exact subscriptTail_builtinR (x:=w) pl.isList.typeIs slot_list_getitem.lookup
   (wpAny_getItem_list_neg (Q:=λr s'=>r=w/\EP X pins σ Q r s') pl.isList (!1) (by rw[Kz] <;> omega) (!1) (by rw[hj];simpa using ew) ⟨rfl,fin⟩) hs
theorem ID:Cv X (LQ X.K):=by
 intro value slice pins s σ H x y v u Q I rx ry h hs
 obtain⟨p,xs,i,z,rfl,rfl,hq,he,q⟩:=h
 cases rx
 obtain⟨t,rfl⟩:=ry
 obtain⟨its,r,pl,hz⟩:=I.tuple hq
 obtain⟨j,h1,h2,h3,h4,h5⟩:=ul he
 obtain⟨w,ew,Cw⟩:=r.get h2
 have hl:=r.length
 have hn:=kN
 have fin:EP X pins σ Q w s:=⟨z,H,I,Cw,q⟩
 exact subscriptTail_builtinR (x:=w) pl.typeIs slot_tuple_getitem.lookup
  (getItem_tuple (j:=j) (Q:=λr s'=>r=w/\EP X pins σ Q r s') pl (!1) (!1) (by rw[Kz,←hl];exact h1) (by simpa using ew) ⟨rfl,fin⟩) hs
theorem IE:Cv X LR:=by
 intro value slice pins s σ H x y v u Q I rx ry h hs
 obtain⟨z,i,c,rfl,rfl,hz,he,q⟩:=h
 obtain⟨t,rfl⟩:=rx
 obtain⟨t',rfl⟩:=ry
 obtain⟨j,h1,h2,h3,h4,h5⟩:=ul he
 have hl:z.cps.toList.length=z.length:=by simp[Str.length]
 rw[hl] at h1 h4 h5
 have hn:=kN
 exact tail_any (typeIs_str s z t) slot_str_getitem.lookup (getItem_str (c:=c) (by
  have e1:decide (i < -(2^63:Int))=false:=Z2 (!1)
  have e2:decide (i≥2^63)=false:=Z2 (!1)
  rw[e1,e2,Bool.or_false]) (by rw[h1];simpa using h2) ⟨.str ⟨#[c]⟩,H,I.tok _,⟨_,rfl⟩,q⟩) hs
def Pw (K:Frag):R2:=λx y H Q=>LP K x y H Q∨LQ K x y H Q∨LR x y H Q
theorem IG:Cv X (Pw X.K):=Ff.or (ID.or IE)
theorem yw (its:List Value)(n j:Nat)(u:Value):Obj.mapSeq (·.setIfInBounds j u) {cls:=.type "list",data:=.seq its.toArray n}={cls:=.type "list",data:=.seq (its.set j u).toArray n}:=by
 simp[Obj.mapSeq]
theorem Inv.lst {pins:List (Addr×Obj)}{σ:St}{H:Hp}{s:Shared}{p:Addr}{xs:List V}(I:Inv X pins σ H s)(h:H p=some (.lst xs)) :
  ∃(its:List Value) (n:Nat),Vals xs its/\s.heap.get? p=some {cls:=.type "list",data:=.seq its.toArray n}/\xs.length<=sizeLine:=by
 obtain⟨z,its,n,r,e⟩:=I.hok p _ h
 exact⟨its,n,r,e,z⟩
theorem Inv.IH {pins:List (Addr×Obj)}{σ:St}{H:Hp}{s:Shared}{p:Addr}{xs ys:List V}{its its':List Value}{n n':Nat}{f:Obj->Obj}(I:Inv X pins σ H s)(h:H p=some (.lst xs))
  (ho:s.heap.get? p=some {cls:=.type "list",data:=.seq its.toArray n}) (hf:f {cls:=.type "list",data:=.seq its.toArray n}={cls:=.type "list",data:=.seq its'.toArray n'}) (r:Vals ys its') (hz:ys.length<=sizeLine) (t:Nat) :
  Inv X pins σ (upd H p (.lst ys)) {s with heap:=s.heap.update p f,toks:=t}:=by
 have e:(s.heap.update p f).get? p=some {cls:=.type "list",data:=.seq its'.toArray n'}:=by
  rw[Xv f ho (by rw[hf] <;> rfl),hf]
 refine I.write (x:=p) (e:=p) (by rw[h];trivial) (.inl rfl) (λb u hb q=>(J8 _ _ (Ne.symm hb)).trans q) ⟨_,e⟩ ?_
 exact⟨hz,its',n',r,e⟩
def LS:V->V->V->Hp->(Hp->Prop)->Prop:=λo i v H Q=>∃p xs k j,o= .ref p/\i= .int k/\H p=some (.lst xs)/\sO xs.length k=some j/\Q (upd H p (.lst (xs.set j v)))
theorem set_list:Ic X LS:=by
 intro pins s σ H o i v ov iv u Q I ro ri rv h
 obtain⟨p,xs,k,j,rfl,rfl,hp,hj,q⟩:=h
 cases ro
 obtain⟨t,rfl⟩:=ri
 obtain⟨its,n,r,ho,hz⟩:=I.lst hp
 obtain⟨h1,h2,h3,h4⟩:=zJ hj
 have hl:=r.length
 have hn:=kN
 have I':Inv X pins σ (upd H p (.lst (xs.set j v))) {s with heap:=s.heap.update p (Obj.mapSeq (·.setIfInBounds j u))} :=
  I.IH hp ho (yw its n j u) (r.set rv j) (by rw[Uu];exact hz) s.toks
 by_cases h0:0<=k
 ·have hk:k.toNat=j:=by
   rw[seqIndex_of h0 h4] at h1
   exact Option.some.inj h1
  exact PySem.W.ki_setAt ho h0 (!1) (by rw[Kz,←hl];exact h4) (by rw[hk];exact⟨_,I',q⟩)
 ·have hk:(k+(its.toArray.size:Int)).toNat=j:=by
   rw[seqIndex_neg (!1) h3] at h1
   rw[Kz,←hl]
   exact Option.some.inj h1
  exact PySem.W.ki_setBack ho (!1) (by rw[Kz,←hl];exact h3) (!1) (by rw[hk];exact⟨_,I',q⟩)
theorem um (lo hi:Option Int)(n:Nat):(sliceBounds lo hi none n).1=((HT.dU n 0 lo:Nat):Int)/\(sliceBounds lo hi none n).2.1=((HT.dU n n hi:Nat):Int)/\(sliceBounds lo hi none n).2.2=1:=by
 refine⟨?_,?_,rfl⟩
 ·cases lo with
  | none=>simp[sliceBounds,HT.dU]
  | some i=>
   simp only[sliceBounds,HT.dU,Option.getD_none,show(1:Int) > 0 by decide,if_true]
   by_cases h:i < 0
   ·simp only[h,if_true] <;> omega
   ·simp only[h,if_false] <;> omega
 ·cases hi with
  | none=>simp[sliceBounds,HT.dU]
  | some i=>
   simp only[sliceBounds,HT.dU,Option.getD_none,show(1:Int) > 0 by decide,if_true]
   by_cases h:i < 0
   ·simp only[h,if_true] <;> omega
   ·simp only[h,if_false] <;> omega
theorem rZ (its:List Value)(lo hi:Option Int):slicePick its.toArray lo hi none=((its.drop (HT.dU its.length 0 lo)).take (HT.dU its.length its.length hi - HT.dU its.length 0 lo)).toArray:=by
 obtain⟨h1,h2,h3⟩:=um lo hi its.toArray.size
 unfold slicePick
 rw[h1,h2,h3]
 simp only[sliceRange_one,pick_run,Kz] <;> rfl
def NL (K:Frag):V->Option Int->Option Int->Hp->VK->Prop:=λx lo hi H Q=>∃a xs,x= .ref a/\fU K H a xs/\∀p,H p=none->Q (.ref p) (upd H p (.lst (vT xs lo hi)))
theorem Fg:MY X (NL X.K):=by
 intro pins s σ H x v vl vu lo hi sl Q I rx hs pl pu h
 obtain⟨a,xs,rfl,hx,q⟩:=h
 cases rx
 obtain⟨its,r,ht,hz⟩:=I.list hx
 have hlen:=r.length
 refine⟨"list",_,slot_list_getitem.lookup,ht.isList.typeIs,?_⟩
 refine wpAny_getItem_list_slice ht.isList hs pl pu .none (by simp) ?_ (by rw[Kz] <;> omega)
 rw[rZ,←hlen]
 refine⟨.ref s.heap.objs.size,_,I.laid (t':=s.toks) (o:=.lst (vT xs lo hi)) (λb ob q=>K4 _ q) (K0 _) ?_,rfl,q _ (I.hok.fresh (K0 _))⟩
 exact⟨Kw (oy xs lo hi) hz,_,0,(r.drop (HT.dU xs.length 0 lo)).take (HT.dU xs.length xs.length hi - HT.dU xs.length 0 lo),Kv _ rfl⟩
theorem uo:iY X (.builtin "len") (λxs H Q=>∃p ys,xs=[.ref p]/\(fU X.K H p ys∨eK X.K H p ys)/\Q (.int ys.length) H):=by
 intro pins s σ H xs us Q I r h
 obtain⟨p,ys,rfl,hq,q⟩:=h
 obtain⟨u,rfl,rx⟩:=vals1 r
 cases rx
 have hn:=kN
 rcases hq with hq | hq
 ·obtain⟨its,r',pl,hz⟩:=I.list hq
  have hlen:=r'.length
  exact Calls.call_len_list pl.isList (by simp only[Kz] <;> omega) ⟨.int ys.length,H,I.tok _,⟨s.toks+1,by rw[Kz,hlen]⟩,q⟩
 ·obtain⟨its,r',pl,hz⟩:=I.tuple hq
  have hlen:=r'.length
  exact len_tuple pl (by simp only[Kz] <;> omega) ⟨.int ys.length,H,I.tok _,⟨s.toks+1,by rw[Kz,hlen]⟩,q⟩
theorem uq:iY X (.builtin "len") (λxs H Q=>∃z,xs=[.str z]/\z.length<=sizeLine/\Q (.int z.length) H):=by
 intro pins s σ H xs us Q I r h
 obtain⟨z,rfl,hz,q⟩:=h
 obtain⟨u,rfl,t,rfl⟩:=vals1 r
 have hn:=kN
 exact len_str (!1) ⟨.int z.length,H,I.tok _,⟨_,rfl⟩,q⟩
theorem iY.or (h:iY X f r)(h':iY X f r'):iY X f (λxs H Q=>r xs H Q∨r' xs H Q):=by
 intro pins s σ H xs us Q I rs q
 rcases q with q | q
 ·exact h pins s σ H xs us Q I rs q
 ·exact h' pins s σ H xs us Q I rs q
theorem ur:iY X (.type "list") (λxs H Q=>∃p ys,xs=[.ref p]/\(fU X.K H p ys∨eK X.K H p ys)/\∀l,H l=none->Q (.ref l) (upd H l (.lst ys))):=by
 intro pins s σ H xs us Q I r h
 obtain⟨p,ys,rfl,hq,q⟩:=h
 obtain⟨u,rfl,rx⟩:=vals1 r
 cases rx
 have fin:∀(its:List Value),Vals ys its->ys.length<=sizeLine->∀(h':Heap) (c':Nat),(∀b o',s.heap.get? b=some o'->h'.get? b=some o')->
   h'.get? s.heap.objs.size=some {cls:=.type "list",dict:=none,data:=.seq its.toArray c',slots:=#[]}->EP X pins σ Q (.ref s.heap.objs.size) {s with heap:=h'}:=λits r' hz h' c' kp e=>
  ⟨.ref s.heap.objs.size,_,I.laid (t':=s.toks) kp (K0 _) (show fu X.prog X.w _ h' _ (.lst ys) from⟨hz,its,c',r',e⟩),rfl,q _ (I.hok.fresh (K0 _))⟩
 rcases hq with hq | hq
 ·obtain⟨its,r',pl,hz⟩:=I.list hq
  have hlen:=r'.length
  obtain⟨o,ho,hc,n,hd⟩:=pl.isList
  exact call_list_seq p (.inl rfl) ho hc hd (λh' c' kp e=>fin its r' hz h' c' kp e) (by simp only[Kz] <;> omega)
 ·obtain⟨its,r',pl,hz⟩:=I.tuple hq
  have hlen:=r'.length
  obtain⟨o,ho,hc,n,hd⟩:=pl
  exact call_list_seq p (.inr rfl) ho hc hd (λh' c' kp e=>fin its r' hz h' c' kp e) (by simp only[Kz] <;> omega)
theorem r_:iY X (.type "tuple") (λxs H Q=>∃p ys,xs=[.ref p]/\((fU X.K H p ys/\∀l,H l=none->Q (.ref l) (upd H l (.tup ys)))∨(eK X.K H p ys/\Q (.ref p) H))):=by
 intro pins s σ H xs us Q I r h
 obtain⟨p,ys,rfl,h⟩:=h
 obtain⟨u,rfl,rx⟩:=vals1 r
 cases rx
 rcases h with⟨hq,q⟩ | ⟨hq,q⟩
 ·obtain⟨its,r',pl,hz⟩:=I.list hq
  have hlen:=r'.length
  refine call_tuple_list pl.isList (λh' kp=> ?_) (by simp only[Kz] <;> omega)
  have I1:Inv X pins σ H {s with heap:=h'}:=I.kept (t':=s.toks) kp
  have I2:Inv X pins σ (upd H h'.objs.size (.tup ys)) {s with heap:=h'.push {cls:=.type "tuple",data:=.seq its.toArray}} :=
   I1.laid (t':=s.toks) (λb o e=>K4 _ e) (K0 _) (show fu X.prog X.w _ _ _ (.tup ys) from⟨hz,its,r',IsTup.new _ _⟩)
  exact⟨.ref h'.objs.size,_,I2,rfl,q _ (I1.hok.fresh (K0 _))⟩
 ·obtain⟨its,r',pl,hz⟩:=I.tuple hq
  exact call_tuple_same pl ⟨.ref p,H,I,rfl,q⟩
def OS (K:Frag)(T:String)(x:V)(H:Hp):Prop:=match x with
 | .str _=>T= "str"
 | .int _=>T= "int"
 | .ref p=>(T= "list" /\∃xs,fU K H p xs)∨(T= "tuple" /\∃o,K.lookup p=some o/\o.cls= .type "tuple" /\o.dict=none)∨
   (T= "dict" /\((∃kvs,H p=some (.dK kvs))∨∃kvs,H p=some (.dT kvs)))∨(T= "set" /\∃S n,H p=some (.set S n))
 | _=>False
theorem II {pins:List (Addr×Obj)}{σ:St}{H:Hp}{s:Shared}{T:String}{x:V}{v:Value}(I:Inv X pins σ H s)(r:RelV x v)(ty:OS X.K T x H) :
  s.TypeIs v T/\∀a,v= .ref a->∃ob,s.heap.get? a=some ob/\ob.dict=none:=by
 cases x with
 | str z=>
  obtain⟨t,rfl⟩:=r
  cases(show T= "str" from ty)
  exact⟨typeIs_str s z t,λ_ e=>nomatch e⟩
 | int i=>
  obtain⟨t,rfl⟩:=r
  cases(show T= "int" from ty)
  exact⟨typeIs_int s i t,λ_ e=>nomatch e⟩
 | ref p=>
  cases r
  rcases ty with⟨rfl,xs,hq⟩ | ⟨rfl,o,hk,hc,hd⟩ | ⟨rfl,hk⟩ | ⟨rfl,S,n,hk⟩
  ·obtain⟨its,_,pl,_⟩:=I.list hq
   refine⟨pl.isList.typeIs,λa e=> ?_⟩
   cases e
   obtain⟨o,n,e,c,hd,_⟩:=pl
   exact⟨o,e,hd⟩
  ·refine⟨⟨o,I.KR p o hk,hc⟩,λa e=> ?_⟩
   cases e
   exact⟨o,I.KR _ o hk,hd⟩
  ·have z:∃o,s.heap.get? p=some o/\o.ExactDict:=by
    rcases hk with⟨kvs,hk⟩ | ⟨kvs,hk⟩
    ·obtain⟨_,_,_,_,o,_,_,e,ex,_⟩:=I.hok p _ hk
     exact⟨o,e,ex⟩
    ·obtain⟨_,_,_,_,o,_,_,e,ex,_⟩:=I.hok p _ hk
     exact⟨o,e,ex⟩
   obtain⟨o,e,ex⟩:=z
   refine⟨⟨o,e,ex.1⟩,λa e2=> ?_⟩
   cases e2
   exact⟨o,e,ex.2.1⟩
  ·obtain⟨o,_,_,_,e,ex,_⟩:=I.hok p _ hk
   refine⟨⟨o,e,ex.1⟩,λa e2=> ?_⟩
   cases e2
   exact⟨o,e,ex.2.1⟩
 | _=>exact False.elim ty
def Px (K:Frag)(T:String)(r:V->List V->Hp->VK->Prop)(to:TE)(t:TA):TE:=λσ H Q=>to σ H λx H1=>OS K T x H1/\t σ H1 λxs H2=>r x xs H2 Q
variable {o e:Expr}{es:List Expr}{to:TE}{t:TA}{name:Str}{apos cpos:Pos}{T id:String}{r:V->List V->Hp->VK->Prop}
theorem zL (pa:PlainAttrs T)(slot:Slot T name id)(hty:typeOf (.builtin id)=pure (.type "method_descriptor"))(hm:NJ X id r)(ho:PE X o to)(ha:PA X (e :: es) t)
  (hbase:attributeBase o name X.env (eval o X.env)=eval o X.env:=by rfl)
  (hfew:((backTo cpos (starEach (e :: es) X.env)).all (λx=> !x.1) && (backToKw cpos (keywordEach [] X.env)).all (λx=>x.1.isSome)
   && decide ((e :: es).length+([]:List Keyword).length+(if ([]:List Keyword).isEmpty then 0 else 1) < 30))=true:=by rfl)
  (hline:(apos.endLine==cpos.line)=true:=by rfl) (hs:starEach (e :: es) X.env=(false,eval e X.env) :: starEach es X.env:=by rfl) (hplain:(backTo cpos (starEach es X.env)).any (·.1)=false:=by rfl) :
  PE X (.Call (.Attribute o name apos) (e :: es) [] cpos) (Px X.K T r to t):=by
 intro pins s σ H Q I h
 refine wpAny_Call_method_late hbase hfew hline rfl (di (ho pins s σ H _ I h) λv s1 ⟨x,H1,I1,r1,ty,q1⟩=> ?_)
 obtain⟨h1,h2⟩:=II I1 r1 ty
 refine⟨T,id,pa,slot,hty,h1,h2,?_⟩
 have hA:=ha cpos pins s1 σ H1 _ I1 q1
 rw[hs] at hA⊢
 refine Calls.callWith_builtin (by show(false || (backTo cpos (starEach es X.env)).any (·.1))=false;rw[hplain] <;> rfl) (Calls.evalArgs_plain ?_)
 exact di hA λus s2 ⟨vs,H2,I2,r2,q2⟩=>hm pins s2 σ H2 x vs v us Q I2 r1 r2 q2
/- xs.append(e),list.index on a module's tuple .. are NJ facts of 06m -/
end
def MZ (X:Cx)(id:String)(r:V->List V->Hp->VK->Prop):Prop :=
 ∀(pins:List (Addr×Obj)) (s:Shared) (σ:St) (H:Hp) (x:V) (xs:List V) (v:Value) (us:List Value) (Q:VK),Inv X pins σ H s->RelV x v->Vals xs us->r x xs H Q->
  wpAny (!7) X.A (call (.builtin id) (v :: us)) (EP X pins σ Q) X.xe s
theorem Vals.one {x:V}{us:List Value}(h:Vals [x] us):∃u,us=[u]/\RelV x u:=by
 cases h with|cons r q=>cases q;exact⟨_,rfl,r⟩
theorem Vals.reverse (h:Vals xs us):Vals xs.reverse us.reverse:=by
 induction h with
 | nil=>exact .nil
 | cons r t ih=>rw[YW,YW];exact Vals.append ih (.cons r .nil)
theorem Vals.rep (h:Vals xs us):∀k:Nat,Vals (List.replicate k xs).flatten (List.replicate k us).flatten
 | 0=> .nil
 | k+1=>by
  rw[Uw,Uw,Y2,Y2]
  exact Vals.append h (Vals.rep h k)
theorem foldl_rep (its:List Value):∀(k:Nat) (acc:List Value),
  List.foldl (λx1 x2=>x1++x2) acc.toArray (List.replicate k its.toArray)=(acc++(List.replicate k its).flatten).toArray
 | 0,acc=>by simp
 | k+1,acc=>by
  have e:acc.toArray++its.toArray=(acc++its).toArray:=by simp
  have e2:(acc++its)++(List.replicate k its).flatten=acc++(List.replicate (k+1) its).flatten:=by
   rw[Uw,Y2,X5]
  rw[←e2,←foldl_rep its k (acc++its),←e,Uw,UY]
section
variable {X:Cx}{pins:List (Addr×Obj)}{σ:St}{H:Hp}{s:Shared}{l b:Addr}{xs ys zs:List V}
theorem Inv.LU {its its':List Value}{n:Nat}{f:Array Value->Array Value}{t':Nat}(I:Inv X pins σ H s)(hH:H l=some (.lst xs))
  (e:s.heap.get? l=some {cls:=.type "list",data:=.seq its.toArray n}) (hf:f its.toArray=its'.toArray) (hv:Vals ys its') (hz:ys.length<=sizeLine) :
  Inv X pins σ (upd H l (.lst ys)) {s with heap:=s.heap.update l (Obj.mapSeq f),toks:=t'}:=by
 have q:=PySem.IsL.update e f
 rw[hf] at q
 refine I.write (x:=l) (e:=l) (by rw[hH];exact trivial) (.inl rfl) (λb' u hb hu=>(J8 s.heap (Obj.mapSeq f) (Ne.symm hb)).trans hu) ⟨_,q⟩ ?_
 exact⟨hz,its',_,hv,q⟩
theorem Inv.LV (I:Inv X pins σ H s)(hv:Vals ys its)(hz:ys.length<=sizeLine) :
  Inv X pins σ (upd H s.heap.objs.size (.lst ys)) {s with heap:=s.heap.push {cls:=.type "list",data:=.seq its.toArray},toks:=t'} :=
 I.laid (λ_ _ q=>K4 _ q) (K0 _) ⟨hz,its,0,hv,Kv _ rfl⟩
theorem Inv.fresh (I:Inv X pins σ H s):H s.heap.objs.size=none:=I.hok.fresh (K0 _)
theorem Inv.IJ (I:Inv X pins σ H s)(hH:H l=some (.lst xs)):xs.length<=sizeLine/\∃(its:List Value) (n:Nat),Vals xs its/\xs.length=its.length/\s.heap.get? l=some {cls:=.type "list",data:=.seq its.toArray n}:=by
 obtain⟨z,its,n,r,e⟩:=I.hok l _ hH
 exact⟨z,its,n,r,r.length,e⟩
theorem vU (h:n<=sizeLine):Builtin.List.listTooLong n=false:=by
 unfold Builtin.List.listTooLong
 exact Z2 (!1)
end
section
variable {X:Cx}
def Fh:V->List V->Hp->VK->Prop:=λx vs H Q=>∃l xs y,x= .ref l/\vs=[y]/\H l=some (.lst xs)/\xs.length < sizeLine/\Q .non (upd H l (.lst (xs++[y])))
theorem nM:MZ X "list.append" Fh:=by
 intro pins s σ H x vs v us Q I rx rv h
 obtain⟨l,xs,y,rfl,rfl,hH,hz,q⟩:=h
 cases rx
 obtain⟨u,rfl,ru⟩:=rv.one
 obtain⟨z,its,n,r,hl,e⟩:=I.IJ hH
 refine call_meets F.slot_list_append ⟨_,e,rfl⟩ F.entry_list_append (F.args_list_append_2 _ _) (PySem.list_append l its.toArray n u (by rw[Kz];omega)) ⟨e,?_⟩
 refine⟨.non,_,I.LU (its':=its++[u]) hH e (by simp) (r.append (.cons ru .nil)) ?_,rfl,q⟩
 rw[K2,X8]
 omega
def NM:R2:=λx y H Q=>∃l k xs,x= .ref l/\y= .int k/\H l=some (.lst xs)/\ -(2^63)<=k/\k < 2^63/\xs.length*k.toNat<=sizeLine/\
 ∀p,H p=none->Q (.ref p) (upd H p (.lst (List.replicate k.toNat xs).flatten))
theorem len_rep {α:Type}(xs:List α)(k:Nat):(List.replicate k xs).flatten.length=k*xs.length:=by
 induction k with
 | zero=>simp
 | succ k ih=>rw[Uw,Y2,K2,ih,Yj,Nat.add_comm]
theorem IL:sJ X (binaryOp .Mult) NM:=by
 intro pins s σ H x y v u Q I rx ry h
 obtain⟨l,k,xs,rfl,rfl,hH,h1,h2,hz,q⟩:=h
 cases rx
 obtain⟨t,rfl⟩:=ry
 obtain⟨z,its,n,r,hl,e⟩:=I.IJ hH
 have hlen:its.toArray.size*k.toNat<=sizeLine:=by rw[Kz,←hl];exact hz
 have hcap:¬ its.toArray.size*k.toNat > (2^63 - 1) / 8:=by
  have:(sizeLine:Nat)<=(2^63 - 1) / 8:=by decide
  omega
 have hfit:¬ (!Builtin.List.listFitsIndex k)=true:=by
  rw[fitsIndex_both h1 h2]
  exact K3
 have Cy:¬ Builtin.List.listTooLong (its.toArray.size*k.toNat)=true:=by
  rw[vU hlen]
  exact K3
 have hnew:List.foldl (λx1 x2=>x1++x2) #[] (List.replicate (if its.toArray.isEmpty=true then 0 else k.toNat) its.toArray)=(List.replicate k.toNat its).flatten.toArray:=by
  have f0:∀m:Nat,List.foldl (λx1 x2=>x1++x2) #[] (List.replicate m its.toArray)=(List.replicate m its).flatten.toArray:=λm=>by
   have:=foldl_rep its m []
   rw[YU] at this
   exact this
  rw[f0]
  cases its with
  | nil=>simp
  | cons a r'=>rw[Z5 (by simp)]
 refine wpAny_binaryOp_repeat_ref (T:="list") (U:="int") (!8) ⟨_,e,rfl⟩ (λs'=>typeIs_int s' k t) noFill_list_mul F.fills_int_mul F.slot_int_rmul repeat_list F.slot_int_index.lookup
  (call_meets F.slot_int_rmul (typeIs_int s k t) F.entry_int_rmul (F.args_int_rmul_2 _ _) (int___rmul___int_list k t l its.toArray n)
   ⟨e,rfl,⟨_,e,rfl⟩,call_meets F.slot_list_mul ⟨_,e,rfl⟩ F.entry_list_mul (F.args_list_mul_2 _ _) (AutoListH.list___mul___list_int_3 l its.toArray n k t hfit hcap Cy) ⟨e,?_⟩⟩)
 rw[hnew]
 exact⟨.ref _,_,I.LV (t':=s.toks) (r.rep k.toNat) (by rw[len_rep,Yz];exact hz),rfl,q _ I.fresh⟩
end
end L2
namespace OT
open PySem PySem.W PySem.Calls PyProof.Rows
theorem oX :∀(ns:List Int) (vs:List Value),WellAll P h vs (ns.map WData.int)->IntsAre vs ns:=by
 intro ns
 induction ns with
 | nil=>
  intro vs w
  rw[J0] at w
  cases w
  exact .nil
 | cons n ns ih=>
  intro vs w
  rw[Kq] at w
  cases w with
  | cons a b=>
   cases a
   exact .cons _ _ (ih _ b)
theorem A6 {l:OpenLaw}{n:Nat}(hn:l.most=some n){P:Params}{h:Heap}{args:List WData}{vals:List Value}
  (hpre:l.row.toRowW.claim.pre args=true) (hwl:WellAll P h vals args) :
  ∃a vs ns,vals=[Value.ref a]/\args=[WData.list (ns.map WData.int)]/\h.get? a=some {cls:=.type "list",data:=.seq vs.toArray}/\IntsAre vs ns/\ns.length<=n:=by
 have hsh:WShape.hasAll [] args [.list .int]=true:=(pre_splitW hpre).1
 have hc:l.pre.holds [] {args:=args}=true:=(pre_splitW hpre).2
 obtain⟨d,r,rfl,h1,h2⟩:=hasAllW_cons hsh
 obtain rfl:=hasAllW_nil h2
 obtain⟨xs,rfl,h3⟩:=hasW_list h1
 obtain⟨ns,rfl⟩:=items_int h3
 have hlen:ns.length<=n:=by
  unfold OpenLaw.pre at hc
  have h4:(WTm.not (.lt (.lit (.int (n:Int))) (.len (.arg 0)))).holds [] {args:=[.list (ns.map .int)]}=true:=by
   have h4:=(holds_andW hc).1
   rw[hn] at h4
   exact h4
  have h5:=condW_of h4 (w_not (w_lt w_lit (w_len_list (w_arg rfl))))
  rw[K6] at h5
  refine Jw λq=> ?_
  have q':(n:Int) < ((ns.length:Nat):Int):=by omega
  first
   | (rw[Z3 q'] at h5;exact absurd h5 (!8))
   | (simp at h5;omega)
 cases hwl with
 | cons w1 w2=>
  cases w2
  cases w1 with
  | list ho hall=>exact⟨_,_,ns,rfl,rfl,ho,oX ns _ hall,hlen⟩
theorem A7 (l:OpenLaw)(args:List WData):l.row.toRowW.claim.post args (.bool true) args=true :=
 postW_of (r:=l.row.toRowW) (X:=(true==true))
  (show WShape.has [] (.bool true) .bool=true by first | rfl | decide | simp[WShape.has,WShape.arms,WShape.armsAll])
  (show(WTm.eq .res (.lit (.bool true))).value [] {args:=args,res:=some (.bool true),after:=args}=some (.bool (true==true)) from w_eq_bool (w_res rfl) w_lit) rfl
theorem vV {l:OpenLaw}{n:Nat}{q:Program}{loose:List Str}{XP:(Str->Option Value)->Heap->Prop}{YP:World->Heap->Prop}{d:DefRec}
  (hn:l.most=some n) (hdf:d.params.defaults=[])
  (call:∀(w:World) (s₀ s₁:Shared) (mg mb:Str->Option Value) (fa:Addr) (o:Obj) (pm cd doc:Value) (a:Addr) (vs:List Value) (ns:List Int),
   Ground q loose [] XP w s₀ mg mb s₁.heap->YP w s₁.heap->
   s₁.heap.get? fa=some o->o.data= .func (docDef d.name d.params d.body d.scope pm cd doc)->s₁.heap.CodeRec cd d.name->mg d.name=some (.ref fa)->
   s₁.heap.get? a=some {cls:=.type "list",data:=.seq vs.toArray}->IntsAre vs ns->ns.length<=n->s₁.gens= #[]->
   codeAny (model l.prog w) callerA (.call (.ref fa) ⟨[.ref a],[]⟩) (λr s'=>r= .ok (.ret (.bool true))/\OldK s₁.heap s'.heap/\s'.os=s₁.os/\AllBare s'.gens) s₁) :
  WalkO q loose XP YP l.row.toRowW d [] (λf vs=>PySem.call f vs):=by
 intro w s₀ s₁ mg mb G Y fa o pm cd doc dV kV ho hd hcd hD hmg hg args vals as hpre hlay hrd hwl hlo
 obtain rfl:dV= .none:=Dflts.none hD hdf
 obtain rfl:kV= .none:=Dflts.noKw hD
 obtain⟨a,vs,ns,rfl,rfl,hobj,hints,hlen⟩:=A6 hn hpre hwl
 refine enter_call (codeAny_mono (call w s₀ s₁ mg mb fa o pm cd doc a vs ns G Y ho (fd_plain hd) hcd hmg hobj hints hlen hg) λr s' hq=> ?_)
 obtain⟨rfl,h2,h3,h4⟩:=hq
 exact⟨.inl ⟨.bool true,.bool true,[],rfl,λ_=>rfl,.bool true,A7 l _,λ_=>⟨List.Pairwise.nil,λ_ hm=>(nomatch hm)⟩⟩,h2,h3,h4⟩
section
variable {prog:Program}{w:World}{A:Around}{E:Zu}{s:Shared}{K:Frag}
end
end OT
namespace L2
open PySem PySem.Spec PyProof.Rows
theorem sP:∀{vs:List Value} {ns:List Int},IntsAre vs ns->Vals (ns.map V.int) vs
 | _,_,.nil=> .nil
 | _,_,.cons n t h=> .cons ⟨t,rfl⟩ (sP h)
def Only (H:Hp):Prop:=∀b,H b=none∨∃o xs,H b=some (.EU o (.lst xs))
theorem Cz {P:Program}{w:World}{K:Frag}{mg mb:Str->Option Value}{CX:Cq}{k:Nat}{fa a:Addr}{fd:FuncData}{x:Str}{sp:Sp}{s₁:Shared}{vs:List Value}{ns:List Int}
  (KX:K.In s₁.heap) (hns:s₁.heap.Ns mainGlobals mg) (hb:s₁.heap.Ns builtinsNs mb) (hbb:∀x:Str,x≠ "__name__" ->mb x=bootBuiltins x) (hlim:s₁.heap.NoLimit) (hg:s₁.gens= #[])
  (ha:s₁.heap.get? a=some {cls:=.type "list",data:=.seq vs.toArray}) (hi:IntsAre vs ns) (hl:ns.length<=sizeLine) (hr:g_ k callerA)
  (F:∀base:Heap,K.In base->base.Ns mainGlobals mg->mG P w K mg base CX k fa fd [x] sp) (hbind:∀(s:Shared) (u:Value),BindsTo s fd ⟨[u],[]⟩ [(x,u)])
  (hsp:∀H:Hp,Only H->fU K H a (ns.map V.int)->sp [.ref a] H (λv _=>v= .bl true) λ_ _ _=>False)
  (NN:∀H e s',CX [] H s₁ (λ_ _ _=>False) e s'->False) :
  codeAny (model P w) callerA (.call (.ref fa) ⟨[.ref a],[]⟩) (λr s'=>r= .ok (.ret (.bool true))/\OldK s₁.heap s'.heap/\s'.os=s₁.os/\AllBare s'.gens) s₁:=by
 have rv:=sP hi
 have lenV:=hi.length
 have core:∀H:Hp,Only H->fU K H a (ns.map V.int)->pN P w H s₁.heap->(∀b,H b≠none->b=a)->(H a≠none->K.lookup a=none)->
   codeAny (model P w) callerA (.call (.ref fa) ⟨[.ref a],[]⟩) (λr s'=>r= .ok (.ret (.bool true))/\OldK s₁.heap s'.heap/\s'.os=s₁.os/\AllBare s'.gens) s₁:=by
  intro H hO hS hok hA hK
  have zM:∀{b:Addr} {o:Obj},s₁.heap.get? b=some o->H b=none->(ui s₁.heap H).get? b=some o:=λe n=>Ce e n
  have LK:∀{b:Addr} {o:Obj} {es:Array DictEntry} {ep:Nat},s₁.heap.get? b=some o->o.data= .dict es ep->H b=none:=λ{b o es ep} e d=>by
   cases q:H b with
   | none=>rfl
   | some u=>
    have e':b=a:=hA b (by rw[q];simp)
    subst e'
    rw[ha] at e;cases e
    have d':Data.seq vs.toArray _=Data.dict es ep:=d
    cases d'
  have M0:∀{b:Addr} {m:Str->Option Value},s₁.heap.Ns b m->(ui s₁.heap H).Ns b m:=λ{b m} ⟨o,es,ep,e,d,r⟩=>⟨o,es,ep,zM e (LK e d),d,r⟩
  have OU:K.In (ui s₁.heap H):=λb o e=>zM (KX b o e) (by
   cases q:H b with
   | none=>rfl
   | some u=>
    have e':b=a:=hA b (by rw[q];simp)
    subst e'
    rw[hK (by rw[q];simp)] at e;cases e)
  have hM:Mod K mg (ui s₁.heap H):=⟨OU,M0 hns,⟨mb,M0 hb,hbb⟩,let ⟨mc,h1,h2⟩:=hlim;⟨mc,M0 h1,h2⟩⟩
  have e0:E_ P w K mg (ui s₁.heap H) callerA [] s₁ H:=⟨rfl,hM,λb o e=>E4 e,Nat.le_of_eq (AY _ _),trivial,λb hb=>absurd (show b∈([]:List Addr) from hb) (by simp),hok,.of_eq hg⟩
  refine codeAny_mono ((F _ OU (M0 hns)).run callerA [] s₁ H ⟨[.ref a],[]⟩ [.ref a] [.ref a] _ _ hr e0 (hbind s₁ (.ref a)) (.cons rfl .nil) (hsp H hO hS)) λr s' h=> ?_
  cases r with
  | error e=>exact(NN H e s' h).elim
  | ok fl=>
   cases fl with
   | next=>exact False.elim h
   | brk=>exact False.elim h
   | cont=>exact False.elim h
   | ret u=>
    obtain⟨v,H',os,bare,un,hok',r',q⟩:=h
    have q':v= .bl true:=q
    subst q'
    obtain rfl:u=Value.bool true:=r'
    refine⟨rfl,OldK.of_keep λb o e=> ?_,os,bare⟩
    cases q:H b with
    | none=>exact un.keep b o e q (by intro z;exact absurd (show b∈([]:List Addr) from z) (by simp)) (by simp)
    | some u=>
     rcases hO b with z | ⟨ob,xs,z⟩
     ·rw[q] at z;cases z
     ·have z2:=un.uh b ob _ z
      obtain⟨e1,_⟩:=hok b _ z
      obtain⟨e2,_⟩:=hok' b _ z2
      rw[e] at e1;cases e1
      exact e2
 cases hk:K.lookup a with
 | some o=>
  have e:=KX a o hk
  rw[ha] at e
  cases e
  refine core (λ_=>none) (λ_=> .inl rfl) (.inr ⟨_,vs.toArray,_,hk,rfl,rfl,rfl,by rw[Kz,lenV];exact hl,by simpa using rv⟩) (λb u z=>by have z':(none:Option HO)=some u:=z;cases z') (λb z=>absurd rfl z) λz=>absurd rfl z
 | none=>
  refine core (λb=>if b=a then some (.EU {cls:=.type "list",data:=.seq vs.toArray} (.lst (ns.map V.int))) else none) (λb=> ?_) (.inl (.inr ⟨{cls:=.type "list",data:=.seq vs.toArray},Z4 rfl⟩)) (λb u z=> ?_) (λb z=> ?_) λ_=>hk
  ·by_cases hb:b=a
   ·exact .inr ⟨_,_,Z4 hb⟩
   ·exact .inl (Z5 hb)
  ·by_cases hb:b=a
   ·have z':=(Z4 hb).symm.trans z
    cases z'
    subst hb
    exact⟨ha,by rw[K6];exact hl,vs,_,rv,ha⟩
   ·have z':=(Z5 hb).symm.trans z
    cases z'
  ·by_cases hb:b=a
   ·exact hb
   ·exact absurd (Z5 hb) z
theorem Fi {l:OpenLaw}{n k:Nat}{q:Program}{loose:List Str}{XP:(Str->Option Value)->Heap->Prop}{YP:World->Heap->Prop}{d:DefRec}{K:Params->Frag}{CX:World->Cq}{sp:World->Sp}{x:Str}
  (hn:l.most=some n) (hn2:n<=sizeLine) (hdf:d.params.defaults=[]) (hr:g_ k callerA)
  (hY:∀(w:World) (h:Heap),YP w h->(K w.params).In h)
  (F:∀(w:World) (mg:Str->Option Value) (fa:Addr) (h:Heap),(K w.params).In h->h.Ns mainGlobals mg->mg d.name=some (.ref fa)->
   ∃fd:FuncData,(∀(s:Shared) (u:Value),BindsTo s fd ⟨[u],[]⟩ [(x,u)])/\
    ∀base:Heap,(K w.params).In base->base.Ns mainGlobals mg->mG l.prog w (K w.params) mg base (CX w) k fa fd [x] (sp w))
  (hsp:∀(w:World) (H:Hp) (a:Addr) (ns:List Int),ns.length<=n->Only H->fU (K w.params) H a (ns.map V.int)->sp w [.ref a] H (λv _=>v= .bl true) λ_ _ _=>False)
  (NN:∀(w:World) (H:Hp) (s:Shared) (e:Value) (s':Shared),CX w [] H s (λ_ _ _=>False) e s'->False) :
  PySem.W.WalkO q loose XP YP l.row.toRowW d [] (λf vs=>PySem.call f vs):=by
 refine OT.vV hn hdf λw s₀ s₁ mg mb fa o pm cd doc a vs ns G Y ho hd hcd hmg hobj hints hlen hg=> ?_
 have KX:=hY w _ Y
 obtain⟨fd,hb,hF⟩:=F w mg fa _ KX G.T.g hmg
 exact Cz KX G.T.g G.T.b G.T.builtins G.T.nolimit hg hobj hints (Kw hlen hn2) hr hF hb (λH hO hS=>hsp w H a ns hlen hO hS) λH e s'=>NN w H s₁ e s'
end L2
/- THE LAST THEOREM (shape;LID,My.*are OV):
  My.QD: a structure of the addresses that your layer names (classes,functions);My.Txt K t: a structure (Prop) of the equations over K;
  My.NO:{K} {implicit addresses ..} (e1:nsIn K mainGlobals "law" =some (some (.ref f))) (e2:K.lookup f=some ⟨oc,od,.func (fnOf "law" "law" params body scope dV kV doc pm an cdv ct),sl⟩) (e3:codeIn K cdv "law" =true) ..:∃t,My.Txt K t
(the tactic k_is has no namespace: write k_is) -/
namespace L2
open PySem PySem.Spec PyProof.Rows
noncomputable def jX (s:Stmt):Arguments:=match s with
 | .FunctionDef _ a _ _ _ _ _ _ _ _=>a
 | _=>{posonlyargs:=[],args:=[],vararg:=none,kwonlyargs:=[],kw_defaults:=[],kwarg:=none,defaults:=[]}
noncomputable def eM (s:Stmt):List Stmt:=match s with
 | .FunctionDef _ _ b _ _ _ _ _ _ _=>b
 | _=> []
noncomputable def aC (s:Stmt):Scope:=match s with
 | .FunctionDef _ _ _ _ _ _ sc _ _ _=>sc
 | _=>{kind:=.function,names:=[],isGenerator:=false,isCoroutine:=false}
abbrev zN:Cq:=λ_ _ _ _ _ _=>False
abbrev E0:XK:=λ_ _ _=>False
theorem Hi :Passes zN X E0:=λ_ _ _ _ _ _ _ h=>h.elim
structure EW (K:Frag)(x qual:Str)(st:Stmt)(f:Addr)(fd:FuncData):Prop where
 ex:∃(oc:Value) (od:Option Addr) (kV doc pm:Value) (an:Option Addr) (cdv ct:Value) (osl:Array (Option Value)),
  fd=fnOf x qual (jX st) (eM st) (aC st) .none kV doc pm an cdv ct/\K.lookup f=some ⟨oc,od,.func fd,osl⟩/\codeIn K cdv qual=true
 kp:keepIn K (.ref f)=true
section
variable {P:Program}{w:World}{K:Frag}{mg:Str->Option Value}{base:Heap}
theorem EW.ok {x qual:Str}{st:Stmt}{f:Addr}{fd:FuncData}{N ps:List Str}{k:Nat}{sp:Sp}(F:EW K x qual st f fd)(S:iZ N ps (aC st))(len:∀vs H Q E,sp vs H Q E->vs.length=ps.length)
  (hbody:∀(cdv:Value) (A:Around) (outer:List Env) (s:Shared) (H:Hp) (vs:List V) (Q:VK) (E:XK),g_ k (A.deeper (envOfC qual (aC st) s.heap.objs.size f cdv))->sp vs H Q E->
   ∃t,rR (rY zN P w K mg base N qual (aC st) f cdv A outer s H E).Hb (eM st) t/\t {nx:=λ_ H'=>Q .non H',rt:=Q} (start N vs) H):mG P w K mg base zN (k+1) f fd ps sp:=by
 obtain⟨oc,od,kV,doc,pm,an,cdv,ct,osl,rfl,lk,hcd⟩:=F.ex
 refine LL lk hcd S len λA outer s H vs Q E hr hsp=> ?_
 obtain⟨t,h,q⟩:=hbody cdv A outer s H vs Q E hr hsp
 exact⟨t,h.Hb,q⟩
theorem EW.binds {x qual:Str}{st:Stmt}{f:Addr}{fd:FuncData}{ps:List Str}(F:EW K x qual st f fd)
  (h:∀(kV doc pm:Value) (an:Option Addr) (cdv ct:Value) (us:List Value),us.length=ps.length->bindArgs (fnOf x qual (jX st) (eM st) (aC st) .none kV doc pm an cdv ct) ⟨us,[]⟩=pure (ps.zip us)):Binds K fd ps []:=by
 obtain⟨oc,od,kV,doc,pm,an,cdv,ct,osl,rfl,lk,hcd⟩:=F.ex
 exact .all (h kV doc pm an cdv ct)
theorem IM {x qual:Str}{st:Stmt}{f:Addr}{oc:Value}{od an:Option Addr}{osl:Array (Option Value)}{kV doc pm cdv ct:Value}(l:K.lookup f=some ⟨oc,od,.func (fnOf x qual (jX st) (eM st) (aC st) .none kV doc pm an cdv ct),osl⟩)
  (c:codeIn K cdv qual=true) (k:keepIn K (.ref f)=true):EW K x qual st f (fnOf x qual (jX st) (eM st) (aC st) .none kV doc pm an cdv ct):=⟨⟨oc,od,kV,doc,pm,an,cdv,ct,osl,rfl,l,c⟩,k⟩
end
section
variable {X:Cx}
theorem pv (i:Nat){x:Str}{pos:Pos}(hN:X.N[i]? =some x:=by rfl)(hv:MS X.env.scope x:=by first | exact Or.inl rfl | exact Or.inr (!3) | exact Or.inr (Or.inr rfl))(hd:(x==("__debug__":Str))=false:=by decide)
  (hcd:(x==("__classdict__":Str))=false:=by decide):PE X (.Name x pos) (mh i):=Cf hN hv hd hcd
end
def Same (H H':Hp):Prop:=∀b o,H b=some o->H' b=some o
theorem Same.refl (H:Hp):Same H H:=λ_ _ h=>h
theorem Same.trans (a:Same H H1)(b:Same H1 H2):Same H H2:=λc o h=>b c o (a c o h)
theorem Same.free (e:Same H H')(h:H' l=Option.none):H l=Option.none:=by
 cases q:H l with
 | none=>rfl
 | some o=>
  rw[e l o q] at h
  cases h
theorem Same.seq {K:Frag}{H H':Hp}{a:Addr}{xs:List V}(e:Same H H')(h:fU K H a xs):fU K H' a xs:=by
 rcases h with(h | ⟨o,h⟩) | h
 ·exact .inl (.inl (e _ _ h))
 ·exact .inl (.inr ⟨o,e _ _ h⟩)
 ·exact .inr h
theorem iA (env:Env):∀(names:List (Str×NameKind)) (x:Str),
  (names.map λ(n,k)=>if (k==NameKind.free && env.scope.kind== .function && env.kindOf n==some .cell) then (n,NameKind.cell) else (n,k)).lookup x=
   (names.lookup x).map λk=>if (k==NameKind.free && env.scope.kind== .function && env.kindOf x==some .cell) then NameKind.cell else k
 | [],_=>rfl
 | (n,k) :: r,x=>by
  have ih:=iA env r x
  show List.lookup x ((if (k==NameKind.free && env.scope.kind== .function && env.kindOf n==some .cell)=true then (n,NameKind.cell) else (n,k)) :: _)=_
  cases hx:x==n with
  | true=>
   have e:x=n:=eq_of_beq hx
   subst e
   by_cases hc:(k==NameKind.free && env.scope.kind== .function && env.kindOf x==some .cell)=true
   ·rw[Z4 hc];simp only[Yw,beq_self_eq_true,UK,Z4 hc]
   ·rw[Z5 hc];simp only[Yw,beq_self_eq_true,UK,Z5 hc]
  | false=>
   by_cases hc:(k==NameKind.free && env.scope.kind== .function && env.kindOf n==some .cell)=true
   ·rw[Z4 hc];simp only[Yw,hx];exact ih
   ·rw[Z5 hc];simp only[Yw,hx];exact ih
theorem ut (h:scope.names.lookup x=some .free):(relabel scope env).names.lookup x=some .cell∨(relabel scope env).names.lookup x=some .free:=by
 show(List.lookup x (scope.names.map _)=_)∨(List.lookup x (scope.names.map _)=_)
 rw[iA,h]
 simp only[UK]
 split
 ·exact .inl rfl
 ·exact .inr rfl
theorem yx (h:(relabel scope env).names.lookup x=some .cell∨(relabel scope env).names.lookup x=some .free):scope.names.lookup x=some .cell∨scope.names.lookup x=some .free:=by
 have e:(relabel scope env).names.lookup x=(scope.names.lookup x).map _:=iA env scope.names x
 rw[e] at h
 cases q:scope.names.lookup x with
 | none=>rw[q] at h;rcases h with h | h <;> cases h
 | some k=>
  rw[q] at h
  simp only[UK] at h
  by_cases hc:(k==NameKind.free && env.scope.kind== .function && env.kindOf x==some .cell)=true
  ·have:k= .free:=by
    cases k <;> first | rfl | (exfalso;revert hc;simp;done) | (exfalso;simp at hc)
   exact .inr (by rw[this])
  ·rw[Z5 hc] at h
   exact h
theorem pU (h:∀y∈scope.names,y.2= .free->∃c,env.cells.lookup y.1=some c) :
  ∃cl:List (Str×Addr),closureFor scope env=pure cl/\(∀x c,cl.lookup x=some c->env.cells.lookup x=some c)/\∀y∈scope.names,y.2= .free->∃c,cl.lookup y.1=some c:=by
 have aux:∀(names:List (Str×NameKind)) (cs:List (Str×Addr)),(∀y∈names,y.2= .free->∃c,env.cells.lookup y.1=some c)->(∀x c,cs.lookup x=some c->env.cells.lookup x=some c)->
   ∃cl:List (Str×Addr),(forIn names cs (λx r=>(match x with | (name,kind)=>if (kind==NameKind.free)=true then do let a←cellOf env name;pure (ForInStep.yield ((name,a) :: r)) else pure (ForInStep.yield r):Sem (ForInStep (List (Str×Addr))))):Sem (List (Str×Addr)))=pure cl/\
    (∀x c,cl.lookup x=some c->env.cells.lookup x=some c)/\(∀x,(∃c,cs.lookup x=some c)->∃c,cl.lookup x=some c)/\∀y∈names,y.2= .free->∃c,cl.lookup y.1=some c:=by
  intro names
  induction names with
  | nil=>intro cs _ hs;exact⟨cs,rfl,hs,λ_ z=>z,λy hy=>by cases hy⟩
  | cons p r ih=>
   intro cs hn hs
   obtain⟨n,k⟩:=p
   by_cases hk:(k==NameKind.free)=true
   ·have ek:k= .free:=by cases k <;> first | rfl | (exfalso;revert hk;decide)
    obtain⟨c,hc⟩:=hn (n,k) K9 ek
    obtain⟨cl,e,h1,h2,h3⟩:=ih ((n,c) :: cs) (λy hy=>hn y (K8 _ hy)) (λx c' hx=>by
     rw[Yw] at hx
     cases hxn:x==n with
     | true=>
      rw[hxn] at hx
      cases hx
      rw[eq_of_beq hxn]
      exact hc
     | false=>rw[hxn] at hx;exact hs x c' hx)
    have self:∃c',((n,c) :: cs).lookup n=some c':=⟨c,by simp[Yw]⟩
    refine⟨cl,?_,h1,λx ⟨c',hx⟩=>h2 x ?_,λy hy ef=> ?_⟩
    ·rw[JU]
     simp only[hk,if_true]
     have hco:cellOf env n=pure c:=by unfold cellOf;rw[hc]
     rw[hco]
     simp only[pure_bind]
     exact e
    ·rw[Yw]
     cases hxn:x==n with
     | true=>exact⟨c,rfl⟩
     | false=>exact⟨c',hx⟩
    ·rcases Kx.mp hy with rfl | hy
     ·exact h2 _ self
     ·exact h3 y hy ef
   ·obtain⟨cl,e,h1,h2,h3⟩:=ih cs (λy hy=>hn y (K8 _ hy)) hs
    refine⟨cl,?_,h1,h2,λy hy ef=> ?_⟩
    ·rw[JU]
     simp only[hk,if_false,pure_bind]
     exact e
    ·rcases Kx.mp hy with rfl | hy
     ·have ef':k= .free:=ef
      rw[ef'] at hk
      exact absurd rfl hk
     ·exact h3 y hy ef
 obtain⟨cl,e,h1,_,h3⟩:=aux scope.names [] h (λx c hx=>by cases hx)
 refine⟨cl,?_,h1,h3⟩
 unfold closureFor
 first
  | exact(congrArg (· >>=λr=>pure r) e).trans rfl
  | (simp only[bind_pure];exact e)
  | exact e
noncomputable def bx (X:Cx)(scope:Scope)(cl:List (Str×Addr))(N:List Str)(fp:List Addr)(s:Shared)(H:Hp)(C:Addr):Cx :=
 {X with N:=N,s₀:=s,H₀:=H,env:=compEnvC scope cl C X.env,outer:=X.stack,ex:=fp,fn:=λ_=>false,pn:=[],xe:=λ_ _=>False}
noncomputable def pV (σ:St)(ix:List Nat):St:=ix.map λk=>(σ[k]?).join
def CA (X:Cx)(ifs:List Expr)(t:TT):Prop :=
 ∀(pins:List (Addr×Obj)) (s:Shared) (σ:St) (H:Hp) (Q:Bool->Hp->Prop),Inv X pins σ H s->t σ H Q->
  wpAny (!7) X.A (forIn ifs true λc r=>if r=true then do let ok←isTrue c X.env (eval c X.env);pure (ForInStep.yield ok) else pure (ForInStep.yield r)) (TP X pins σ Q) X.xe s
def NP:TT:=λ_ H Q=>Q true H
theorem Fj :CA X [] NP:=λ_ _ _ H _ I h=>wpAny_tests_nil ⟨H,I,h⟩
theorem Fk (h:PT X c t):CA X [c] t:=λpins s σ H Q I hw=>wpAny_tests_one (h pins s σ H Q I hw)
section
variable {X:Cx}{scope:Scope}{v:Str}{F:List Str}{ix:List Nat}{pins:List (Addr×Obj)}{σ:St}{H:Hp}{s:Shared}
end
end L2
namespace Y
open PySem
/- no list or dict within -/
mutual
noncomputable def bp:PyData->Bool
 | .list _=>false
 | .dict _=>false
 | .tuple xs=>ar xs
 | _=>true
noncomputable def ar:List PyData->Bool
 | []=>true
 | d :: ds=>bp d && ar ds
end
theorem gG:∀(xs ys:List PyData),ar (xs++ys)=(ar xs && ar ys)
 | [],ys=>by simp[ar]
 | x :: xs,ys=>by rw[Uj,ar,ar,gG xs ys,Bool.and_assoc]
theorem aF:∀{xs:List PyData},ar xs=true↔∀x∈xs,bp x=true
 | []=>by simp[ar]
 | x :: xs=>by rw[ar,X7,aF (xs:=xs)];simp
theorem a9 {α:Type}(f:α->PyData)(h:∀i,bp (f i)=true)(l:List α):ar (l.map f)=true:=aF.mpr λx hx=>by
 obtain⟨y,_,rfl⟩:=Ku.mp hx;exact h y
theorem vW (h:ar xs=true):∀k:Nat,ar (List.replicate k xs).flatten=true
 | 0=>rfl
 | k+1=>by rw[Uw,Y2,gG,h,vW h k];rfl
/- data that==reads: no dict,not too deep -/
mutual
noncomputable def lay:Nat->PyData->Bool
 | _,.none=>true
 | _,.bool _=>true
 | _,.int _=>true
 | _,.str x=>PyData.strOk x
 | n+1,.list xs=>lays n xs
 | n+1,.tuple xs=>lays n xs
 | _,_=>false
noncomputable def lays:Nat->List PyData->Bool
 | _,[]=>true
 | n,d :: ds=>lay n d && lays n ds
end
theorem cV :∀{xs:List PyData},lays n xs=true↔∀x∈xs,lay n x=true
 | []=>by simp[lays]
 | x :: xs=>by rw[lays,X7,cV (xs:=xs)];simp
theorem iB {α:Type}(f:α->PyData)(h:∀i,lay n (f i)=true)(l:List α):lays n (l.map f)=true:=cV.mpr λx hx=>by
 obtain⟨y,_,rfl⟩:=Ku.mp hx;exact h y
inductive R (α:Type) where
 | ok (a:α)
 | ex (c:Str)
abbrev M (α:Type):=Option (R α)
noncomputable def ah {α:Type}(a:α):M α:=some (.ok a)
noncomputable def ao {α β:Type}(m:M α)(f:α->M β):M β:=match m with
 | none=>none
 | some (.ok a)=>f a
 | some (.ex c)=>some (.ex c)
theorem aG {α β:Type}(a:α)(f:α->M β):ao (ah a) f=f a:=rfl
noncomputable def mo {α:Type}(o:Option α):M α:=o.map .ok
theorem fx {α:Type}(a:α):mo (some a)=ah a:=rfl
abbrev bL:=List (Option (Bool×PyData))
inductive Kd where
 | fr (l:List Nat)
 | base
 | any
def cQ (k:Kd)(d:PyData):Kd:=if bp d then .fr [] else k
abbrev EF:=bL->M (Kd×PyData)
abbrev TF:=bL->M Bool
inductive Out where
 | nx (Γ:bL)
 | bk (Γ:bL)
 | ct (Γ:bL)
 | rt (o:Bool) (d:PyData)
abbrev SF:=bL->M Out
abbrev GF:=Kd->PyData->bL->Option bL
abbrev IF:=bL->M (Kd×List PyData)
abbrev FF:=List PyData->M (Bool×PyData)
def eC (d:PyData):EF:=λ_=>ah (.fr [],d)
noncomputable def eV (i:Nat):EF:=λΓ=>match Γ[i]? with
 | some (some (o,d))=>ah (cQ (if o then .fr [i] else .base) d,d)
 | _=>none
def bg (g:PyData->PyData->Option PyData)(a b:EF):EF:=λΓ=>ao (a Γ) λx=>ao (b Γ) λy=>ao (mo (g x.2 y.2)) λz=>ah (.fr [],z)
def B_ (g:PyData->Option PyData)(a:EF):EF:=λΓ=>ao (a Γ) λx=>ao (mo (g x.2)) λz=>ah (.fr [],z)
def dk (g:PyData->PyData->Option PyData)(a b:EF):EF:=λΓ=>ao (a Γ) λx=>ao (b Γ) λy=>ao (mo (g x.2 y.2)) λz=>ah (cQ x.1 z,z)
def LW (c:TF)(a b:EF):EF:=λΓ=>ao (c Γ) λt=>if t=true then a Γ else b Γ
noncomputable def IN (g g':PyData->PyData->Option PyData)(a b c:EF):EF:=λΓ=>ao (a Γ) λx=>ao (b Γ) λy=>ao (mo (g x.2 y.2)) λz=>match z with
 | .bool true=>ao (c Γ) λw=>ao (mo (g' y.2 w.2)) λu=>ah (.fr [],u)
 | .bool false=>ah (.fr [],.bool false)
 | _=>none
def Fl (a b:EF):EF:=λΓ=>ao (a Γ) λx=>match x.2 with
 | .bool true=>b Γ
 | .bool false=>ah (.fr [],.bool false)
 | _=>none
def K_ (a b:EF):EF:=λΓ=>ao (a Γ) λx=>match x.2 with
 | .bool true=>ah (.fr [],.bool true)
 | .bool false=>b Γ
 | _=>none
noncomputable def LX (a:EF):EF:=λΓ=>ao (a Γ) λx=>match x.2 with
 | .bool t=>ah (.fr [],.bool (!t))
 | _=>none
def tE (a:EF):TF:=λΓ=>ao (a Γ) λx=>match x.2 with
 | .bool t=>ah t
 | _=>none
def sQ (a b:TF):TF:=λΓ=>ao (a Γ) λx=>if x=true then b Γ else ah false
def CB (a b:TF):TF:=λΓ=>ao (a Γ) λx=>if x=true then ah true else b Γ
def vX (a:TF):TF:=λΓ=>ao (a Γ) λx=>ah (!x)
noncomputable def eArgs:List EF->bL->M (List (Kd×PyData))
 | [],_=>ah []
 | f :: r,Γ=>ao (f Γ) λx=>ao (eArgs r Γ) λxs=>ah (x :: xs)
noncomputable def bV:List (Kd×PyData)->Kd
 | []=> .fr []
 | (.fr [],_) :: r=>bV r
 | _ :: _=> .any
def fV (fs:List EF):EF:=λΓ=>ao (eArgs fs Γ) λxs=>ah (cQ (bV xs) (.tuple (xs.map Prod.snd)),.tuple (xs.map Prod.snd))
def cF (fs:List EF):EF:=λΓ=>ao (eArgs fs Γ) λxs=>ah (bV xs,.list (xs.map Prod.snd))
def jA (g:List PyData->Option PyData)(fs:List EF):EF:=λΓ=>ao (eArgs fs Γ) λxs=>ao (mo (g (xs.map Prod.snd))) λz=>ah (.fr [],z)
def az (F:FF)(fs:List EF):EF:=λΓ=>ao (eArgs fs Γ) λxs=>ao (F (xs.map Prod.snd)) λr=>ah (cQ (if r.1=true then .fr [] else .any) r.2,r.2)
def oY (x y:PyData):Option PyData:=if lay 60 x && lay 60 y then some (.bool (PyData.eqv x y)) else none
def A8 (x y:PyData):Option PyData:=if lay 60 x && lay 60 y then some (.bool (!PyData.eqv x y)) else none
noncomputable def cP (ys:List PyData)(x:PyData):Bool:=ys.any λz=>PyData.eqv z x
noncomputable def Fm (x:PyData):PyData->Option PyData
 | .list ys=>if lay 60 x && lays 60 ys then some (.bool (cP ys x)) else none
 | .tuple ys=>if lay 60 x && lays 60 ys then some (.bool (cP ys x)) else none
 | _=>none
def dm (x:PyData):PyData->Option PyData
 | .list ys=>if lay 60 x && lays 60 ys then some (.bool (!cP ys x)) else none
 | .tuple ys=>if lay 60 x && lays 60 ys then some (.bool (!cP ys x)) else none
 | _=>none
noncomputable def i6:PyData->Bool
 | .none=>true
 | _=>false
noncomputable def Py (x:PyData):PyData->Option PyData
 | .none=>some (.bool (i6 x))
 | _=>none
noncomputable def jY (x:PyData):PyData->Option PyData
 | .none=>some (.bool (!i6 x))
 | _=>none
noncomputable def rW:PyData->PyData->Option PyData
 | .int i,.int j=>some (.int (i - j))
 | _,_=>none
noncomputable def fy:PyData->PyData->Option PyData
 | .int i,.int j=>if 0 < j/\j < 2^64 then some (.int (i / j)) else none
 | _,_=>none
noncomputable def fX:PyData->PyData->Option PyData
 | .int i,.int j=>if 0 < j then some (.int (i % j)) else none
 | _,_=>none
noncomputable def yy:PyData->PyData->Option PyData
 | .int i,.int j=>if 0<=j/\j<=1000000/\i.natAbs < 2^64 then some (.int (i^j.toNat)) else none
 | _,_=>none
noncomputable def La:PyData->PyData->Option PyData
 | .int i,.int j=>some (.bool (decide (i < j)))
 | _,_=>none
noncomputable def Pz:PyData->PyData->Option PyData
 | .int i,.int j=>some (.bool (decide (i<=j)))
 | _,_=>none
noncomputable def Fo:PyData->PyData->Option PyData
 | .int i,.int j=>some (.bool (decide (j < i)))
 | _,_=>none
noncomputable def A9:PyData->Option PyData
 | .int i=>some (.int (-i))
 | _=>none
noncomputable def fY:PyData->PyData->Option PyData
 | .int i,.int j=>some (.int (i+j))
 | .list xs,.list ys=>if ar xs && ar ys && decide (xs.length+ys.length<=sizeLine) then some (.list (xs++ys)) else none
 | .tuple xs,.tuple ys=>if ar xs && ar ys && decide (xs.length+ys.length<=sizeLine) then some (.tuple (xs++ys)) else none
 | .str x,.str y=>if x.length+y.length<=sizeLine then some (.str (x++y)) else none
 | _,_=>none
noncomputable def sd:PyData->PyData->Option PyData
 | .int i,.int j=>if (-(2^64) < i/\i < 2^64)∨(-(2^64) < j/\j < 2^64) then some (.int (i*j)) else none
 | _,_=>none
def yz (xs:List PyData):PyData->M (Kd×PyData)
 | .int k=>if ar xs=true/\ -(2^63)<=k/\k < 2^63/\xs.length*k.toNat<=sizeLine then ah (.fr [],.list (List.replicate k.toNat xs).flatten) else none
 | _=>none
noncomputable def isNew:Kd->Bool
 | .fr []=>true
 | _=>false
noncomputable def yA (k:Kd)(x y:PyData):M (Kd×PyData):=if isNew k=true then (match x with
 | .list xs=>yz xs y
 | _=>none) else none
def CC (a b:EF):EF:=λΓ=>ao (a Γ) λx=>ao (b Γ) λy=>yA x.1 x.2 y.2
noncomputable def sO (n:Nat)(i:Int):Option Nat:=if 0<=i then (if i < n then some i.toNat else none) else if -(n:Int)<=i then some (i+n).toNat else none
noncomputable def jZ {α:Type}(xs:List α)(i:Int):Option α:=(sO xs.length i).bind λj=>xs[j]?
noncomputable def cb:PyData->PyData->Option PyData
 | .list xs,.int i=>jZ xs i
 | .tuple xs,.int i=>jZ xs i
 | .str x,.int i=>if x.length<=sizeLine then (jZ x.cps.toList i).map λc=> .str ⟨#[c]⟩ else none
 | _,_=>none
noncomputable def iC:List PyData->Option PyData
 | [.list xs]=>some (.int xs.length)
 | [.tuple xs]=>some (.int xs.length)
 | [.str x]=>if x.length<=sizeLine then some (.int x.length) else none
 | _=>none
noncomputable def vY:List PyData->Option PyData
 | [.list xs]=>if ar xs then some (.list xs) else none
 | [.tuple xs]=>if ar xs then some (.list xs) else none
 | _=>none
def fz:List PyData->Option PyData
 | [.list xs]=>if ar xs then some (.tuple xs) else none
 | [.tuple xs]=>if ar xs then some (.tuple xs) else none
 | _=>none
noncomputable def vZ (n:String):PyData->Bool
 | .none=>false
 | .bool _=>n== "bool" || n== "int"
 | .int _=>n== "int"
 | .str _=>n== "str"
 | .list _=>n== "list"
 | .tuple _=>n== "tuple"
 | .dict _=>n== "dict"
def NQ (n:String)(a:EF):EF:=λΓ=>ao (a Γ) λx=>ah (.fr [],.bool (vZ n x.2))
noncomputable def yB (i:Nat)(Γ:bL):bL:=match Γ[i]? with
 | some (some (_,d))=>Γ.set i (some (false,d))
 | _=>Γ
noncomputable def yC (l:List Nat)(Γ:bL):bL:=l.foldl (λΓ i=>yB i Γ) Γ
noncomputable def uv (Γ:bL):bL:=Γ.map λs=>s.map λp=>(false,p.2)
noncomputable def jg (Γ:bL)(i:Nat)(k:Kd)(d:PyData):bL:=match k with
 | .fr []=>Γ.set i (some (true,d))
 | .fr (j :: l)=>(yC (j :: l) Γ).set i (some (false,d))
 | .base=>Γ.set i (some (false,d))
 | .any=>(uv Γ).set i (some (false,d))
noncomputable def cy (i:Nat):GF:=λk d Γ=>some (jg Γ i k d)
noncomputable def zO:Kd->Kd
 | .fr []=> .fr []
 | .fr (_ :: _)=> .any
 | .base=> .base
 | .any=> .any
noncomputable def pX (Γ:bL):List Nat->Kd->List PyData->bL
 | i :: is,k,d :: ds=>pX (jg Γ i (cQ k d) d) is k ds
 | _,_,_=>Γ
noncomputable def kI (is:List Nat):GF:=λk d Γ=>match d with
 | .tuple ds=>if ds.length=is.length then some (pX Γ is (zO k) ds) else none
 | _=>none
noncomputable def lZ (k:Kd)(Γ:bL):bL:=match k with
 | .fr []=>Γ
 | .fr (j :: l)=>yC (j :: l) Γ
 | .base=>Γ
 | .any=>uv Γ
noncomputable def itemsOf:PyData->Option (List PyData)
 | .list xs=>some xs
 | .tuple xs=>some xs
 | _=>none
def jB (e:EF):IF:=λΓ=>ao (e Γ) λx=>ao (mo (itemsOf x.2)) λds=>ah (x.1,ds)
def A_:PyData->M (Kd×List PyData)
 | .int n=>if -(2^62)<=n/\n < 2^62 then ah (.fr [],(List.range n.toNat).map λi=> .int (i:Nat)) else none
 | _=>none
def fi (e:EF):IF:=λΓ=>ao (e Γ) λx=>A_ x.2
noncomputable def hG (Γ:bL)(ix:List Nat):bL:=ix.map λk=>(Γ[k]?).join.map λp=>(false,p.2)
noncomputable def bW (ft:TF)(fe:EF)(cap:bL):List PyData->Option (List (Kd×PyData))
 | []=>some []
 | d :: ds=>match ft (some (false,d) :: cap) with
  | some (.ok true)=>match fe (some (false,d) :: cap) with
   | some (.ok x)=>(bW ft fe cap ds).map (x :: ·)
   | _=>none
  | some (.ok false)=>bW ft fe cap ds
  | _=>none
noncomputable def fZ:List (Kd×PyData)->Option Kd
 | []=>some (.fr [])
 | (.fr [],_) :: r=>fZ r
 | (.base,_) :: r=>(fZ r).map λ_=> .any
 | _ :: _=>none
def cW:TF:=λ_=>ah true
def bv (it:IF)(ix:List Nat)(ft:TF)(fe:EF):EF:=λΓ=>ao (it Γ) λx=>ao (mo (bW ft fe (hG Γ ix) x.2)) λys=>ao (mo (fZ ys)) λk=>if x.2.length<=100000 then ah (k,.list (ys.map Prod.snd)) else none
noncomputable def aw (f g:SF):SF:=λΓ=>ao (f Γ) λo=>match o with
 | .nx Γ'=>g Γ'
 | o=>ah o
def cc:SF:=λΓ=>ah (.nx Γ)
def NR:SF:=λΓ=>ah (.ct Γ)
noncomputable def mI:Kd->Bool
 | .fr _=>true
 | _=>false
def bq (e:EF):SF:=λΓ=>ao (e Γ) λx=>ah (.rt (mI x.1) x.2)
noncomputable def CD:SF:=λ_=>none
def aB (i:Nat)(e:EF):SF:=λΓ=>ao (e Γ) λx=>ah (.nx (jg Γ i x.1 x.2))
def hJ (t:TF)(a b:SF):SF:=λΓ=>ao (t Γ) λc=>if c=true then a Γ else b Γ
noncomputable def sf (i j:Nat):SF:=λΓ=>match Γ[j]? with
 | some (some (true,d))=>if bp d then ah (.nx (Γ.set i (some (true,d)))) else if i=j then none else ah (.nx ((Γ.set j none).set i (some (true,d))))
 | some (some (false,d))=>ah (.nx (jg Γ i (cQ .base d) d))
 | _=>none
def Fp (g:GF)(e:EF):SF:=λΓ=>ao (e Γ) λx=>ao (mo (g x.1 x.2 Γ)) λΓ'=>ah (.nx Γ')
noncomputable def bw (g:GF)(b:SF):List PyData->bL->M Out
 | [],Γ=>ah (.nx Γ)
 | d :: ds,Γ=>ao (mo (g (cQ .base d) d Γ)) λΓ1=>ao (b Γ1) λo=>match o with
  | .nx Γ'=>bw g b ds Γ'
  | .ct Γ'=>bw g b ds Γ'
  | .bk Γ'=>ah (.nx Γ')
  | .rt o d=>ah (.rt o d)
def bD (it:IF)(g:GF)(b:SF):SF:=λΓ=>ao (it Γ) λx=>bw g b x.2 (lZ x.1 Γ)
noncomputable def dX (n:Nat)(t:TF)(b:SF)(Γ:bL):M Out:=match n with
 | 0=>none
 | n+1=>ao (t Γ) λc=>if c=true then ao (b Γ) λo=>(match o with
   | .nx Γ'=>dX n t b Γ'
   | .ct Γ'=>dX n t b Γ'
   | .bk Γ'=>ah (.nx Γ')
   | .rt o d=>ah (.rt o d)) else ah (.nx Γ)
def pY:Nat:=1000000
def nN (n:Nat)(t:TF)(b:SF):SF:=λΓ=>dX n t b Γ
noncomputable def iD (i:Nat)(e:EF):SF:=λΓ=>match Γ[i]? with
 | some (some (true,.list xs))=>ao (e Γ) λx=>match x.1 with
  | .fr []=>if xs.length < sizeLine then ah (.nx (Γ.set i (some (true,.list (xs++[x.2]))))) else none
  | .fr [j]=>if xs.length < sizeLine/\i≠j then ah (.nx ((Γ.set j none).set i (some (true,.list (xs++[x.2]))))) else none
  | _=>none
 | _=>none
noncomputable def Hj:Kd->Bool
 | .fr []=>true
 | .base=>true
 | _=>false
noncomputable def yD (k:Kd):PyData->Option (List PyData)
 | .list ys=>if Hj k=true then some ys else none
 | .tuple ys=>some ys
 | _=>none
noncomputable def v4 (i:Nat)(e:EF):SF:=λΓ=>match Γ[i]? with
 | some (some (true,.list xs))=>ao (e Γ) λx=>match yD x.1 x.2 with
  | some ys=>if ar ys=true/\xs.length+ys.length<=sizeLine then ah (.nx (Γ.set i (some (true,.list (xs++ys))))) else none
  | none=>none
 | _=>none
noncomputable def CF (i:Nat)(j e:EF):SF:=λΓ=>ao (e Γ) λx=>match Γ[i]? with
 | some (some (true,.list xs))=>ao (j Γ) λy=>match y.2 with
  | .int n=>match sO xs.length n with
   | some m=>if bp x.2 && ar xs then ah (.nx (Γ.set i (some (true,.list (xs.set m x.2))))) else none
   | none=>none
  | _=>none
 | _=>none
noncomputable def cG (n:Nat)(ds:List PyData):bL:=ds.map (λd=>some (false,d))++List.replicate (n - ds.length) none
noncomputable def cz (n:Nat)(f:SF):FF:=λds=>ao (f (cG n ds)) λo=>match o with
 | .rt o d=>ah (o,d)
 | .nx _=>ah (true,.none)
 | _=>none
def v5:PyData->Option PyData
 | .list xs=>if ar xs then some (.tuple xs.reverse) else none
 | _=>none
noncomputable def CG (n d:Nat):Option Int->Nat
 | none=>d
 | some v=>if v < 0 then (v+(n:Int)).toNat else min v.toNat n
noncomputable def cutD (xs:List PyData)(lo hi:Option Int):List PyData:=(xs.drop (CG xs.length 0 lo)).take (CG xs.length xs.length hi - CG xs.length 0 lo)
def oI:PyData->M (Option Int)
 | .int n=>ah (some n)
 | _=>none
noncomputable def oE:Option EF->bL->M (Option Int)
 | none,_=>ah none
 | some f,Γ=>ao (f Γ) λx=>oI x.2
def IP (d:PyData)(lo hi:Option Int):Option PyData:=match d with
 | .list xs=>if ar xs=true then some (.list (cutD xs lo hi)) else none
 | .tuple xs=>if ar xs=true then some (.tuple (cutD xs lo hi)) else none
 | _=>none
def Fq (a:EF)(lo hi:Option EF):EF:=λΓ=>ao (a Γ) λx=>ao (oE lo Γ) λl=>ao (oE hi Γ) λh=>ao (mo (IP x.2 l h)) λz=>ah (.fr [],z)
noncomputable def pZ (xs:List PyData)(lo hi st:Option Int):List PyData:=(sliceRange (sliceBounds lo hi st xs.length).1 (sliceBounds lo hi st xs.length).2.1 (sliceBounds lo hi st xs.length).2.2).filterMap (xs[·]?)
def IQ (d:PyData)(lo hi st:Option Int):Option PyData:=match d with
 | .list xs=>if ar xs=true/\st≠some 0 then some (.list (pZ xs lo hi st)) else none
 | _=>none
def Fs (a:EF)(lo hi st:Option EF):EF:=λΓ=>ao (a Γ) λx=>ao (oE lo Γ) λl=>ao (oE hi Γ) λh=>ao (oE st Γ) λt=>ao (mo (IQ x.2 l h t)) λz=>ah (.fr [],z)
def Ft (k:Kd):PyData->M (Kd×List PyData)
 | .tuple xs=>ah (k,xs.reverse)
 | _=>none
def CH (e:EF):IF:=λΓ=>ao (e Γ) λx=>Ft x.1 x.2
mutual
noncomputable def nest:Nat->PyData->Bool
 | _,.int _=>true
 | _,.none=>true
 | n+1,.tuple ds=>nests n ds
 | _,_=>false
noncomputable def nests:Nat->List PyData->Bool
 | _,[]=>true
 | n,d :: ds=>nest n d && nests n ds
end
noncomputable def v6:Int:=4238894112
mutual
def fQ:PyData->Int
 | .int i=>hashInt i
 | .tuple xs=>reduceHash (Builtin.Tuple.tupleHashOf (j0 xs))
 | _=>v6
def j0:List PyData->List Int
 | []=> []
 | d :: ds=>fQ d :: j0 ds
end
noncomputable def dz:PyData->Bool
 | .tuple ds=>nests 7 ds
 | _=>false
def yE:PyData->Bool
 | .int _=>true
 | _=>false
abbrev j3:=List (PyData×PyData)
def f6 (kvs:j3):Bool:=kvs.all λp=>dz p.1
noncomputable def allI (kvs:j3):Bool:=kvs.all λp=>yE p.1
def cH (kvs:j3)(x:PyData):Bool:=(dz x && f6 kvs) || (yE x && allI kvs)
noncomputable def eU (kvs:j3)(x:PyData):Bool:=kvs.any λp=>PyData.eqv p.1 x
noncomputable def d6 (kvs:j3)(x:PyData):Option PyData:=(kvs.find? λp=>PyData.eqv p.1 x).map (·.2)
noncomputable def putK (kvs:j3)(k v:PyData):j3:=if eU kvs k=true then kvs.map λp=>if PyData.eqv p.1 k=true then (p.1,v) else p else kvs++[(k,v)]
noncomputable def l7 (kvs more:j3):j3:=more.foldl (λacc p=>putK acc p.1 p.2) kvs
def dY (kvs:j3):Bool:=ar (kvs.map (·.2))
noncomputable def l4 (x y:PyData):Option PyData:=match y with
 | .dict kvs=>if cH kvs x=true then some (.bool (eU kvs x)) else none
 | y=>Fm x y
def cC (x y:PyData):Option PyData:=match y with
 | .dict kvs=>if cH kvs x=true then some (.bool (!eU kvs x)) else none
 | y=>dm x y
def mi (x y:PyData):Option PyData:=match x with
 | .dict kvs=>if cH kvs y=true then d6 kvs y else none
 | x=>cb x y
def oz:EF:=λ_=>ah (.fr [],.dict [])
def v7 (a b:EF):EF:=λΓ=>ao (a Γ) λx=>ao (b Γ) λy=>if cH [] x.2=true/\bp y.2=true then ah (.fr [],.dict [(x.2,y.2)]) else none
noncomputable def pC:List PyData->Option PyData
 | [.dict kvs]=>if kvs.isEmpty=false/\f6 kvs=true/\dY kvs=true/\(kvs.map λp=>fQ p.1).Nodup then some (.dict kvs) else none
 | _=>none
noncomputable def Fv (i:Nat):Kd->Bool
 | .fr l=> !l.contains i
 | .base=>true
 | .any=>false
def v8 (i:Nat)(k:Kd)(kvs:j3):PyData->Option j3
 | .dict more=>if Fv i k=true/\((kvs.isEmpty=false/\f6 kvs=true/\f6 more=true)∨(allI kvs=true/\allI more=true))/\dY kvs=true/\dY more=true/\kvs.length+more.length<=sizeLine then some (l7 kvs more) else none
 | _=>none
noncomputable def sR (i:Nat)(e:EF):SF:=λΓ=>match Γ[i]? with
 | some (some (true,.dict kvs))=>ao (e Γ) λx=>match v8 i x.1 kvs x.2 with
  | some kvs'=>ah (.nx (Γ.set i (some (true,.dict kvs'))))
  | none=>none
 | _=>none
def oA (i:Nat)(j e:EF):SF:=λΓ=>ao (e Γ) λx=>match Γ[i]? with
 | some (some (true,.dict kvs))=>ao (j Γ) λy=>if cH kvs y.2=true/\bp x.2=true/\dY kvs=true/\kvs.length < sizeLine then ah (.nx (Γ.set i (some (true,.dict (putK kvs y.2 x.2))))) else none
 | _=>none
def oB (i:Nat)(j e:EF):SF:=λΓ=>match Γ[i]? with
 | some (some (true,.dict _))=>oA i j e Γ
 | _=>CF i j e Γ
noncomputable def zP:j3->PyData->PyData->Option j3
 | [],k,n=>some [(k,.list [n])]
 | (k',v) :: r,k,n=>if PyData.eqv k' k=true then (match v with
  | .list xs=>if ar xs=true/\xs.length < sizeLine then some ((k',.list (xs++[n])) :: r) else none
  | _=>none) else (zP r k n).map ((k',v) :: ·)
noncomputable def dC:Nat->List PyData->List PyData
 | _,[]=> []
 | n,d :: ds=> .tuple [.int (n:Int),d] :: dC (n+1) ds
def Fy (k:Kd):PyData->M (Kd×List PyData)
 | .tuple xs=>ah (k,dC 0 xs)
 | _=>none
def uw (e:EF):IF:=λΓ=>ao (e Γ) λx=>Fy x.1 x.2
end Y
namespace L2
open PySem PySem.Spec PyProof.Rows Y
abbrev OW:=List (PyData×V×V)×Nat
def p0 (a:Addr)(ks:OW)(h:Heap):Prop :=
 ks.1.length<=sizeLine/\(a==sysModules)=false/\((∀k∈ks.1,dz k.1=true)∨(∀k∈ks.1,yE k.1=true))/\(ks.1.map (·.1)).Nodup/\∃o es,h.get? a=some o/\o.ExactDict/\o.data= .dict es ks.2/\
  Paired (λ(k:PyData×V×V) (e:DictEntry)=>e.hash=fQ k.1/\RelV k.2.1 e.key/\RelV k.2.2 e.val) ks.1 es.toList
noncomputable def HO.dct (a:Addr)(ks:OW):HO:=.ext (p0 a ks)
mutual
def aK (K:Frag)(H:Hp):PyData->V->Prop
 | .none,v=>v= .non
 | .bool b,v=>v= .bl b
 | .int i,v=>v= .int i
 | .str x,v=>v= .str x
 | .list xs,v=>∃a vs,v= .ref a/\fU K H a vs/\ax K H xs vs
 | .tuple xs,v=>∃a vs,v= .ref a/\eK K H a vs/\ax K H xs vs
 | .dict kvs,v=>∃a ks,v= .ref a/\Rd H a (.dct a ks)/\aW K H kvs ks.1
def ax (K:Frag)(H:Hp):List PyData->List V->Prop
 | [],vs=>vs=[]
 | d :: ds,vs=>∃v r,vs=v :: r/\aK K H d v/\ax K H ds r
def aW (K:Frag)(H:Hp):List (PyData×PyData)->List (PyData×V×V)->Prop
 | [],ks=>ks=[]
 | (k,d) :: r,ks=>∃kv v q,ks=(k,kv,v) :: q/\aK K H k kv/\aK K H d v/\aW K H r q
end
mutual
def IsT (K:Frag)(H:Hp):PyData->V->List Addr->Prop
 | .none,v,as=>v= .non/\as=[]
 | .bool b,v,as=>v= .bl b/\as=[]
 | .int i,v,as=>v= .int i/\as=[]
 | .str x,v,as=>v= .str x/\as=[]
 | .list xs,v,as=>∃a vs bs,v= .ref a/\H a=some (.lst vs)/\aA K H xs vs bs/\as=a :: bs
 | .tuple xs,v,as=>∃a vs,v= .ref a/\eK K H a vs/\aA K H xs vs as
 | .dict kvs,v,as=>∃a ks bs,v= .ref a/\H a=some (.dct a ks)/\aN K H kvs ks.1 bs/\as=a :: bs
def aA (K:Frag)(H:Hp):List PyData->List V->List Addr->Prop
 | [],vs,as=>vs=[]/\as=[]
 | d :: ds,vs,as=>∃v r a1 a2,vs=v :: r/\as=a1++a2/\IsT K H d v a1/\aA K H ds r a2
def aN (K:Frag)(H:Hp):List (PyData×PyData)->List (PyData×V×V)->List Addr->Prop
 | [],ks,as=>ks=[]/\as=[]
 | (k,d) :: r,ks,as=>∃kv v q a1 a2,ks=(k,kv,v) :: q/\as=a1++a2/\IsT K H k kv []/\IsT K H d v a1/\aN K H r q a2
end
section
variable {K:Frag}{H H':Hp}
theorem bP :aK K H (.int i) (.int i):=by simp only[aK]
theorem zQ:aK K H .none .non:=by simp only[aK]
theorem dq :aK K H (.bool b) (.bl b):=by simp only[aK]
theorem ux :aK K H (.str x) (.str x):=by simp only[aK]
theorem bn:ax K H [] []:=by simp only[ax]
theorem a_ (h:aK K H d v)(t:ax K H ds vs):ax K H (d :: ds) (v :: vs):=by
 simp only[ax];exact⟨v,vs,rfl,h,t⟩
theorem uy (h:eK K H a vs)(t:ax K H ds vs):aK K H (.tuple ds) (.ref a):=by
 simp only[aK];exact⟨a,vs,rfl,h,t⟩
theorem uz (h:fU K H a vs)(t:ax K H ds vs):aK K H (.list ds) (.ref a):=by
 simp only[aK];exact⟨a,vs,rfl,h,t⟩
theorem aL (h:aK K H (.tuple ds) v):∃a vs,v= .ref a/\eK K H a vs/\ax K H ds vs:=by
 simpa only[aK] using h
theorem a8 (h:aK K H (.list ds) v):∃a vs,v= .ref a/\fU K H a vs/\ax K H ds vs:=by
 simpa only[aK] using h
theorem dD (h:aK K H (.dict kvs) v):∃a ks,v= .ref a/\Rd H a (.dct a ks)/\aW K H kvs ks.1:=by
 simpa only[aK] using h
theorem aJ (h:aK K H (.int i) v):v= .int i:=by simpa only[aK] using h
theorem j4 (h:aK K H (.str i) v):v= .str i:=by simpa only[aK] using h
theorem lE (h:aK K H (.bool i) v):v= .bl i:=by simpa only[aK] using h
theorem p5 (h:aK K H .none v):v= .non:=by simpa only[aK] using h
theorem am:∀{ds:List PyData} {vs:List V},ax K H ds vs->vs.length=ds.length
 | [],vs,h=>by simp only[ax] at h;subst h;rfl
 | d :: ds,vs,h=>by
  simp only[ax] at h
  obtain⟨v,r,rfl,_,t⟩:=h
  rw[Kj,Kj,am t]
theorem fB:∀{ds:List PyData} {vs:List V} {i:Nat} {d:PyData},ax K H ds vs->ds[i]? =some d->∃v,vs[i]? =some v/\aK K H d v
 | [],_,_,_,_,e=>by simp at e
 | c :: ds,vs,i,d,h,e=>by
  simp only[ax] at h
  obtain⟨v,r,rfl,hv,t⟩:=h
  cases i with
  | zero=>simp at e;subst e;exact⟨v,rfl,hv⟩
  | succ i=>
   obtain⟨w,h1,h2⟩:=fB (i:=i) (d:=d) t (by simpa using e)
   exact⟨w,by simpa using h1,h2⟩
theorem iq:∀{ds:List PyData} {vs:List V} {i:Nat} {v:V},ax K H ds vs->vs[i]? =some v->∃d,ds[i]? =some d/\aK K H d v
 | [],vs,i,v,h,e=>by simp only[ax] at h;subst h;simp at e
 | c :: ds,vs,i,v,h,e=>by
  simp only[ax] at h
  obtain⟨v',r,rfl,hv,t⟩:=h
  cases i with
  | zero=>simp at e;subst e;exact⟨c,rfl,hv⟩
  | succ i=>
   obtain⟨w,h1,h2⟩:=iq (i:=i) (v:=v) t (by simpa using e)
   exact⟨w,by simpa using h1,h2⟩
theorem e8:∀{ds es:List PyData} {vs ws:List V},ax K H ds vs->ax K H es ws->ax K H (ds++es) (vs++ws)
 | [],es,vs,ws,h,t=>by simp only[ax] at h;subst h;exact t
 | d :: ds,es,vs,ws,h,t=>by
  simp only[ax] at h
  obtain⟨v,r,rfl,hv,tl⟩:=h
  exact a_ hv (e8 tl t)
theorem Ba (h:ax K H ds vs)(t:aK K H d v):ax K H (ds++[d]) (vs++[v]):=e8 h (a_ t bn)
theorem j5:∀{ds:List PyData} {vs:List V},ax K H ds vs->ax K H ds.reverse vs.reverse
 | [],vs,h=>by simp only[ax] at h;subst h;exact bn
 | d :: ds,vs,h=>by
  simp only[ax] at h
  obtain⟨v,r,rfl,hv,tl⟩:=h
  rw[YW,YW]
  exact Ba (j5 tl) hv
theorem sS:∀{ds:List PyData} {vs:List V} (n:Nat),ax K H ds vs->ax K H (ds.take n) (vs.take n)
 | _,_,0,_=>by simp only[Jx];exact bn
 | [],vs,n+1,h=>by simp only[ax] at h;subst h;simp only[List.take_nil];exact bn
 | d :: ds,vs,n+1,h=>by
  simp only[ax] at h
  obtain⟨v,r,rfl,hv,tl⟩:=h
  exact a_ hv (sS n tl)
theorem sT:∀{ds:List PyData} {vs:List V} (n:Nat),ax K H ds vs->ax K H (ds.drop n) (vs.drop n)
 | _,_,0,h=>h
 | [],vs,n+1,h=>by simp only[ax] at h;subst h;simp only[List.drop_nil];exact bn
 | d :: ds,vs,n+1,h=>by
  simp only[ax] at h
  obtain⟨v,r,rfl,hv,tl⟩:=h
  exact sT n tl
theorem v9:∀{ds:List PyData} {vs:List V} {d:PyData} {v:V} (n:Nat),ax K H ds vs->aK K H d v->ax K H (ds.set n d) (vs.set n v)
 | [],vs,_,_,n,h,_=>by simp only[ax] at h;subst h;simp only[List.set_nil];exact bn
 | c :: ds,vs,d,v,n,h,q=>by
  simp only[ax] at h
  obtain⟨v',r,rfl,hv,tl⟩:=h
  cases n with
  | zero=>exact a_ q tl
  | succ n=>exact a_ hv (v9 n tl q)
theorem v_:∀{ds:List PyData} {vs:List V} (k:Nat),ax K H ds vs->ax K H (List.replicate k ds).flatten (List.replicate k vs).flatten
 | _,_,0,_=>bn
 | _,_,k+1,h=>by
  rw[Uw,Uw,Y2,Y2]
  exact e8 h (v_ k h)
theorem nO (h:ax K H ds vs):∀(ks:List Nat),ax K H (ks.filterMap (ds[·]?)) (ks.filterMap (vs[·]?))
 | []=>bn
 | k :: ks=>by
  cases e:ds[k]? with
  | none=>
   have e2:vs[k]? =none:=by
    have:=am h
    rw[List.getElem?_eq_none_iff] at e⊢
    omega
   rw[U6,U6,e,e2]
   exact nO h ks
  | some x=>
   obtain⟨u,hu,ru⟩:=fB h e
   rw[U6,U6,e,hu]
   exact a_ ru (nO h ks)
theorem sU:∀(ns:List Int),ax K H (!6) (ns.map V.int)
 | []=>bn
 | n :: ns=>a_ bP (sU ns)
theorem Same.mj (e:Same H H')(h:eK K H a xs):eK K H' a xs:=by
 rcases h with(h | ⟨o,h⟩) | h
 ·exact .inl (.inl (e _ _ h))
 ·exact .inl (.inr ⟨o,e _ _ h⟩)
 ·exact .inr h
theorem Same.rd (e:Same H H')(h:Rd H a u):Rd H' a u:=by
 rcases h with h | ⟨o,h⟩
 ·exact .inl (e _ _ h)
 ·exact .inr ⟨o,e _ _ h⟩
mutual
theorem aK.same (e:Same H H'):∀(d:PyData) (v:V),aK K H d v->aK K H' d v
 | .none,v,h=>by simpa only[aK] using h
 | .bool b,v,h=>by simpa only[aK] using h
 | .int i,v,h=>by simpa only[aK] using h
 | .str x,v,h=>by simpa only[aK] using h
 | .list xs,v,h=>by
  simp only[aK] at h⊢
  obtain⟨a,vs,e1,h1,h2⟩:=h
  exact⟨a,vs,e1,e.seq h1,ax.same e xs vs h2⟩
 | .tuple xs,v,h=>by
  simp only[aK] at h⊢
  obtain⟨a,vs,e1,h1,h2⟩:=h
  exact⟨a,vs,e1,e.mj h1,ax.same e xs vs h2⟩
 | .dict kvs,v,h=>by
  simp only[aK] at h⊢
  obtain⟨a,ks,e1,h1,h2⟩:=h
  exact⟨a,ks,e1,e.rd h1,aW.same e kvs ks.1 h2⟩
theorem ax.same (e:Same H H'):∀(ds:List PyData) (vs:List V),ax K H ds vs->ax K H' ds vs
 | [],vs,h=>by simpa only[ax] using h
 | d :: ds,vs,h=>by
  simp only[ax] at h⊢
  obtain⟨v,r,e1,h1,h2⟩:=h
  exact⟨v,r,e1,aK.same e d v h1,ax.same e ds r h2⟩
theorem aW.same (e:Same H H'):∀(ds:List (PyData×PyData)) (ks:List (PyData×V×V)),aW K H ds ks->aW K H' ds ks
 | [],ks,h=>by simpa only[aW] using h
 | (k,d) :: r,ks,h=>by
  simp only[aW] at h⊢
  obtain⟨kv,v,q,e1,h1,h2,h3⟩:=h
  exact⟨kv,v,q,e1,aK.same e k kv h1,aK.same e d v h2,aW.same e r q h3⟩
end
theorem Same.upd (h:H a=none):Same H (upd H a o):=λb u e=>by
 rw[aY (dy e h)];exact e
theorem Same.IS (s:Same H0 H)(h:H0 a=none):Same H0 (L2.upd H a o):=λb u e=>by
 rw[aY (dy e h)];exact s b u e
mutual
theorem IsT.same (e:Same H H'):∀(d:PyData) (v:V) (as:List Addr),IsT K H d v as->IsT K H' d v as
 | .none,v,as,h=>by simpa only[IsT] using h
 | .bool b,v,as,h=>by simpa only[IsT] using h
 | .int i,v,as,h=>by simpa only[IsT] using h
 | .str x,v,as,h=>by simpa only[IsT] using h
 | .list xs,v,as,h=>by
  simp only[IsT] at h⊢
  obtain⟨a,vs,bs,e1,h1,h2,h3⟩:=h
  exact⟨a,vs,bs,e1,e _ _ h1,aA.same e xs vs bs h2,h3⟩
 | .tuple xs,v,as,h=>by
  simp only[IsT] at h⊢
  obtain⟨a,vs,e1,h1,h2⟩:=h
  exact⟨a,vs,e1,e.mj h1,aA.same e xs vs as h2⟩
 | .dict kvs,v,as,h=>by
  simp only[IsT] at h⊢
  obtain⟨a,ks,bs,e1,h1,h2,h3⟩:=h
  exact⟨a,ks,bs,e1,e _ _ h1,aN.same e kvs ks.1 bs h2,h3⟩
theorem aA.same (e:Same H H'):∀(ds:List PyData) (vs:List V) (as:List Addr),aA K H ds vs as->aA K H' ds vs as
 | [],vs,as,h=>by simpa only[aA] using h
 | d :: ds,vs,as,h=>by
  simp only[aA] at h⊢
  obtain⟨v,r,a1,a2,e1,e2,h1,h2⟩:=h
  exact⟨v,r,a1,a2,e1,e2,IsT.same e d v a1 h1,aA.same e ds r a2 h2⟩
theorem aN.same (e:Same H H'):∀(ds:List (PyData×PyData)) (ks:List (PyData×V×V)) (as:List Addr),aN K H ds ks as->aN K H' ds ks as
 | [],ks,as,h=>by simpa only[aN] using h
 | (k,d) :: r,ks,as,h=>by
  simp only[aN] at h⊢
  obtain⟨kv,v,q,a1,a2,e1,e2,h1,h2,h3⟩:=h
  exact⟨kv,v,q,a1,a2,e1,e2,IsT.same e k kv [] h1,IsT.same e d v a1 h2,aN.same e r q a2 h3⟩
end
mutual
theorem IsT.toD:∀(d:PyData) (v:V) (as:List Addr),IsT K H d v as->aK K H d v
 | .none,v,as,h=>by simp only[IsT] at h;simp only[aK];exact h.1
 | .bool b,v,as,h=>by simp only[IsT] at h;simp only[aK];exact h.1
 | .int i,v,as,h=>by simp only[IsT] at h;simp only[aK];exact h.1
 | .str x,v,as,h=>by simp only[IsT] at h;simp only[aK];exact h.1
 | .list xs,v,as,h=>by
  simp only[IsT] at h;simp only[aK]
  obtain⟨a,vs,bs,e1,h1,h2,h3⟩:=h
  exact⟨a,vs,e1,fU.of h1,aA.toD xs vs bs h2⟩
 | .tuple xs,v,as,h=>by
  simp only[IsT] at h;simp only[aK]
  obtain⟨a,vs,e1,h1,h2⟩:=h
  exact⟨a,vs,e1,h1,aA.toD xs vs as h2⟩
 | .dict kvs,v,as,h=>by
  simp only[IsT] at h;simp only[aK]
  obtain⟨a,ks,bs,e1,h1,h2,h3⟩:=h
  exact⟨a,ks,e1,.inl h1,aN.toD kvs ks.1 bs h2⟩
theorem aA.toD:∀(ds:List PyData) (vs:List V) (as:List Addr),aA K H ds vs as->ax K H ds vs
 | [],vs,as,h=>by simp only[aA] at h;simp only[ax];exact h.1
 | d :: ds,vs,as,h=>by
  simp only[aA] at h;simp only[ax]
  obtain⟨v,r,a1,a2,e1,e2,h1,h2⟩:=h
  exact⟨v,r,e1,IsT.toD d v a1 h1,aA.toD ds r a2 h2⟩
theorem aN.toD:∀(ds:List (PyData×PyData)) (ks:List (PyData×V×V)) (as:List Addr),aN K H ds ks as->aW K H ds ks
 | [],ks,as,h=>by simp only[aN] at h;simp only[aW];exact h.1
 | (k,d) :: r,ks,as,h=>by
  simp only[aN] at h;simp only[aW]
  obtain⟨kv,v,q,a1,a2,e1,e2,h1,h2,h3⟩:=h
  exact⟨kv,v,q,e1,IsT.toD k kv [] h1,IsT.toD d v a1 h2,aN.toD r q a2 h3⟩
end
mutual
theorem aK.toT:∀(d:PyData) (v:V),bp d=true->aK K H d v->IsT K H d v []
 | .none,v,_,h=>by simp only[aK] at h;simp only[IsT];exact⟨h,trivial⟩
 | .bool b,v,_,h=>by simp only[aK] at h;simp only[IsT];exact⟨h,trivial⟩
 | .int i,v,_,h=>by simp only[aK] at h;simp only[IsT];exact⟨h,trivial⟩
 | .str x,v,_,h=>by simp only[aK] at h;simp only[IsT];exact⟨h,trivial⟩
 | .list xs,v,n,h=>by simp[bp] at n
 | .tuple xs,v,n,h=>by
  simp only[aK] at h;simp only[IsT]
  obtain⟨a,vs,e1,h1,h2⟩:=h
  exact⟨a,vs,e1,h1,ax.toT xs vs (by simpa [bp] using n) h2⟩
 | .dict kvs,v,n,h=>by simp[bp] at n
theorem ax.toT:∀(ds:List PyData) (vs:List V),ar ds=true->ax K H ds vs->aA K H ds vs []
 | [],vs,_,h=>by simp only[ax] at h;simp only[aA];exact⟨h,trivial⟩
 | d :: ds,vs,n,h=>by
  simp only[ax] at h;simp only[aA]
  obtain⟨v,r,e1,h1,h2⟩:=h
  have n':bp d=true/\ar ds=true:=by simpa [ar] using n
  exact⟨v,r,[],[],e1,rfl,aK.toT d v n'.1 h1,ax.toT ds r n'.2 h2⟩
end
mutual
theorem IsT.nil:∀(d:PyData) (v:V) (as:List Addr),bp d=true->IsT K H d v as->as=[]
 | .none,v,as,_,h=>by simp only[IsT] at h;exact h.2
 | .bool b,v,as,_,h=>by simp only[IsT] at h;exact h.2
 | .int i,v,as,_,h=>by simp only[IsT] at h;exact h.2
 | .str x,v,as,_,h=>by simp only[IsT] at h;exact h.2
 | .list xs,v,as,n,h=>by simp[bp] at n
 | .tuple xs,v,as,n,h=>by
  simp only[IsT] at h
  obtain⟨a,vs,e1,h1,h2⟩:=h
  exact aA.nil xs vs as (by simpa [bp] using n) h2
 | .dict kvs,v,as,n,h=>by simp[bp] at n
theorem aA.nil:∀(ds:List PyData) (vs:List V) (as:List Addr),ar ds=true->aA K H ds vs as->as=[]
 | [],vs,as,_,h=>by simp only[aA] at h;exact h.2
 | d :: ds,vs,as,n,h=>by
  simp only[aA] at h
  obtain⟨v,r,a1,a2,e1,e2,h1,h2⟩:=h
  have n':bp d=true/\ar ds=true:=by simpa [ar] using n
  rw[e2,IsT.nil d v a1 n'.1 h1,aA.nil ds r a2 n'.2 h2];rfl
end
def fm:HO->Prop
 | .lst _=>True
 | .ext _=>True
 | _=>False
mutual
theorem IsT.live:∀(d:PyData) (v:V) (as:List Addr),IsT K H d v as->∀a∈as,∃o,H a=some o/\fm o
 | .none,v,as,h=>by simp only[IsT] at h;rw[h.2];intro a ha;cases ha
 | .bool b,v,as,h=>by simp only[IsT] at h;rw[h.2];intro a ha;cases ha
 | .int i,v,as,h=>by simp only[IsT] at h;rw[h.2];intro a ha;cases ha
 | .str x,v,as,h=>by simp only[IsT] at h;rw[h.2];intro a ha;cases ha
 | .list xs,v,as,h=>by
  simp only[IsT] at h
  obtain⟨a,vs,bs,e1,h1,h2,rfl⟩:=h
  intro b hb
  rcases Kx.mp hb with rfl | hb
  ·exact⟨_,h1,trivial⟩
  ·exact aA.live xs vs bs h2 b hb
 | .tuple xs,v,as,h=>by
  simp only[IsT] at h
  obtain⟨a,vs,e1,h1,h2⟩:=h
  exact aA.live xs vs as h2
 | .dict kvs,v,as,h=>by
  simp only[IsT] at h
  obtain⟨a,ks,bs,e1,h1,h2,rfl⟩:=h
  intro b hb
  rcases Kx.mp hb with rfl | hb
  ·exact⟨_,h1,trivial⟩
  ·exact aN.live kvs ks.1 bs h2 b hb
theorem aA.live:∀(ds:List PyData) (vs:List V) (as:List Addr),aA K H ds vs as->∀a∈as,∃o,H a=some o/\fm o
 | [],vs,as,h=>by simp only[aA] at h;rw[h.2];intro a ha;cases ha
 | d :: ds,vs,as,h=>by
  simp only[aA] at h
  obtain⟨v,r,a1,a2,e1,rfl,h1,h2⟩:=h
  intro a ha
  rcases K1.mp ha with ha | ha
  ·exact IsT.live d v a1 h1 a ha
  ·exact aA.live ds r a2 h2 a ha
theorem aN.live:∀(ds:List (PyData×PyData)) (ks:List (PyData×V×V)) (as:List Addr),aN K H ds ks as->∀a∈as,∃o,H a=some o/\fm o
 | [],ks,as,h=>by simp only[aN] at h;rw[h.2];intro a ha;cases ha
 | (k,d) :: r,ks,as,h=>by
  simp only[aN] at h
  obtain⟨kv,v,q,a1,a2,e1,rfl,h1,h2,h3⟩:=h
  intro a ha
  rcases K1.mp ha with ha | ha
  ·exact IsT.live d v a1 h2 a ha
  ·exact aN.live r q a2 h3 a ha
end
theorem eK.upd (hl:H l=some o)(hm:fm o)(h:eK K H a xs):eK K (upd H l o') a xs:=by
 rcases h with(h | ⟨ob,h⟩) | h
 ·exact .inl (.inl (by rw[aY (Ha h hl (by intro z;subst z;exact hm))];exact h))
 ·exact .inl (.inr ⟨ob,by rw[aY (Ha h hl (by intro z;subst z;exact hm))];exact h⟩)
 ·exact .inr h
mutual
theorem IsT.upd (hl:H l=some o)(hm:fm o):∀(d:PyData) (v:V) (as:List Addr),l∉as->IsT K H d v as->IsT K (upd H l o') d v as
 | .none,v,as,_,h=>by simpa only[IsT] using h
 | .bool b,v,as,_,h=>by simpa only[IsT] using h
 | .int i,v,as,_,h=>by simpa only[IsT] using h
 | .str x,v,as,_,h=>by simpa only[IsT] using h
 | .list xs,v,as,n,h=>by
  simp only[IsT] at h⊢
  obtain⟨a,vs,bs,e1,h1,h2,rfl⟩:=h
  have n1:a≠l:=λe=>n (by rw[e];exact K9)
  exact⟨a,vs,bs,e1,by rw[aY n1];exact h1,aA.upd hl hm xs vs bs (λz=>n (K8 _ z)) h2,rfl⟩
 | .tuple xs,v,as,n,h=>by
  simp only[IsT] at h⊢
  obtain⟨a,vs,e1,h1,h2⟩:=h
  exact⟨a,vs,e1,h1.upd hl hm,aA.upd hl hm xs vs as n h2⟩
 | .dict kvs,v,as,n,h=>by
  simp only[IsT] at h⊢
  obtain⟨a,ks,bs,e1,h1,h2,rfl⟩:=h
  have n1:a≠l:=λe=>n (by rw[e];exact K9)
  exact⟨a,ks,bs,e1,by rw[aY n1];exact h1,aN.upd hl hm kvs ks.1 bs (λz=>n (K8 _ z)) h2,rfl⟩
theorem aA.upd (hl:H l=some o)(hm:fm o):∀(ds:List PyData) (vs:List V) (as:List Addr),l∉as->aA K H ds vs as->aA K (upd H l o') ds vs as
 | [],vs,as,_,h=>by simpa only[aA] using h
 | d :: ds,vs,as,n,h=>by
  simp only[aA] at h⊢
  obtain⟨v,r,a1,a2,e1,rfl,h1,h2⟩:=h
  exact⟨v,r,a1,a2,e1,rfl,IsT.upd hl hm d v a1 (λz=>n (KY _ z)) h1,aA.upd hl hm ds r a2 (λz=>n (Kk _ z)) h2⟩
theorem aN.upd (hl:H l=some o)(hm:fm o):∀(ds:List (PyData×PyData)) (ks:List (PyData×V×V)) (as:List Addr),l∉as->aN K H ds ks as->aN K (upd H l o') ds ks as
 | [],ks,as,_,h=>by simpa only[aN] using h
 | (k,d) :: r,ks,as,n,h=>by
  simp only[aN] at h⊢
  obtain⟨kv,v,q,a1,a2,e1,rfl,h1,h2,h3⟩:=h
  exact⟨kv,v,q,a1,a2,e1,rfl,IsT.upd hl hm k kv [] (by intro z;cases z) h1,IsT.upd hl hm d v a1 (λz=>n (KY _ z)) h2,aN.upd hl hm r q a2 (λz=>n (Kk _ z)) h3⟩
end
theorem jC:aA K H [] [] []:=by simp only[aA];exact⟨trivial,trivial⟩
theorem jD (h:IsT K H d v a1)(t:aA K H ds vs a2):aA K H (d :: ds) (v :: vs) (a1++a2):=by
 simp only[aA];exact⟨v,vs,a1,a2,rfl,rfl,h,t⟩
theorem zR (h:eK K H a vs)(t:aA K H ds vs as):IsT K H (.tuple ds) (.ref a) as:=by
 simp only[IsT];exact⟨a,vs,rfl,h,t⟩
theorem fC (h:H a=some (.lst vs))(t:aA K H ds vs as):IsT K H (.list ds) (.ref a) (a :: as):=by
 simp only[IsT];exact⟨a,vs,as,rfl,h,t,rfl⟩
theorem hU (h:H a=some (.dct a ks))(t:aN K H kvs ks.1 as):IsT K H (.dict kvs) (.ref a) (a :: as):=by
 simp only[IsT];exact⟨a,ks,as,rfl,h,t,rfl⟩
theorem cA (h:IsT K H (.list ds) v as):∃a vs bs,v= .ref a/\H a=some (.lst vs)/\aA K H ds vs bs/\as=a :: bs:=by
 simpa only[IsT] using h
theorem j6 (h:IsT K H (.tuple ds) v as):∃a vs,v= .ref a/\eK K H a vs/\aA K H ds vs as:=by
 simpa only[IsT] using h
theorem dE (h:IsT K H (.dict kvs) v as):∃a ks bs,v= .ref a/\H a=some (.dct a ks)/\aN K H kvs ks.1 bs/\as=a :: bs:=by
 simpa only[IsT] using h
theorem ck (h:aA K H ds vs as):vs.length=ds.length:=am (aA.toD _ _ _ h)
theorem dF:∀{ds es:List PyData} {vs ws:List V} {as bs:List Addr},aA K H ds vs as->aA K H es ws bs->aA K H (ds++es) (vs++ws) (as++bs)
 | [],es,vs,ws,as,bs,h,t=>by simp only[aA] at h;obtain⟨rfl,rfl⟩:=h;exact t
 | d :: ds,es,vs,ws,as,bs,h,t=>by
  simp only[aA] at h
  obtain⟨v,r,a1,a2,rfl,rfl,hv,tl⟩:=h
  rw[X5]
  exact jD hv (dF tl t)
theorem p6:∀{ds:List PyData} {vs:List V} {as:List Addr} {i:Nat} {d:PyData},aA K H ds vs as->ds[i]? =some d->∃v bs,vs[i]? =some v/\IsT K H d v bs/\bs.Sublist as
 | [],_,_,_,_,_,e=>by simp at e
 | c :: ds,vs,as,i,d,h,e=>by
  simp only[aA] at h
  obtain⟨v,r,a1,a2,rfl,rfl,hv,tl⟩:=h
  cases i with
  | zero=>simp at e;subst e;exact⟨v,a1,rfl,hv,List.sublist_append_left _ _⟩
  | succ i=>
   obtain⟨w,bs,h1,h2,h3⟩:=p6 (i:=i) (d:=d) tl (by simpa using e)
   exact⟨w,bs,by simpa using h1,h2,h3.trans (List.sublist_append_right _ _)⟩
end
def aP (K:Frag)(H H':Hp)(d:PyData)(v:V):Prop:=∃as,IsT K H' d v as/\as.Nodup/\∀a∈as,H a=none
def VR (K:Frag)(B:Hp)(φ:Nat->List Addr)(H H':Hp):Kd->PyData->V->Prop
 | .fr l,d,v=>∃as,IsT K H' d v as/\as.Nodup/\∀a∈as,(∃i∈l,a∈φ i)∨H a=none
 | .base,d,v=>aK K B d v
 | .any,d,v=>aK K H' d v
structure Rep (K:Frag)(B:Hp)(φ:Nat->List Addr)(Γ:bL)(σ:St)(H:Hp):Prop where
 bs:Same B H
 len:Γ.length=σ.length
 sl:∀i o d,Γ[i]? =some (some (o,d))->∃v,σ[i]? =some (some v)/\if o=true then IsT K H d v (φ i) else aK K B d v
 nd:∀i,(φ i).Nodup
 nb:∀i,∀a∈φ i,B a=none/\∃o,H a=some o/\fm o
 dj:∀i j,i≠j->∀a∈φ i,a∉φ j
def Runs (K:Frag)(Ew:Str->Hp->Prop)(B:Hp)(φ:Nat->List Addr)(H:Hp)(m:M (Kd×PyData))(Q:VK):Prop :=
 (∃k d,m=some (.ok (k,d))/\∀v H',Same H H'->VR K B φ H H' k d v->Q v H')∨(∃c,m=some (.ex c)/\∀H',Same B H'->Ew c H')
def oZ (Ew:Str->Hp->Prop)(B:Hp)(H:Hp)(m:M Bool)(Q:Bool->Hp->Prop):Prop :=
 (∃b,m=some (.ok b)/\∀H',Same H H'->Q b H')∨(∃c,m=some (.ex c)/\∀H',Same B H'->Ew c H')
def RV (K:Frag)(B H':Hp)(o:Bool)(d:PyData)(v:V):Prop :=
 if o=true then∃as,IsT K H' d v as/\as.Nodup/\∀a∈as,B a=none else aK K H' d v
def cI (K:Frag)(Ew:Str->Hp->Prop)(B:Hp)(m:M Out)(D:Ends):Prop :=
 match m with
 | some (.ok (.nx Γ))=>∀B' φ σ H,Same B B'->Rep K B' φ Γ σ H->D.nx σ H
 | some (.ok (.bk Γ))=>∀B' φ σ H,Same B B'->Rep K B' φ Γ σ H->D.bk σ H
 | some (.ok (.ct Γ))=>∀B' φ σ H,Same B B'->Rep K B' φ Γ σ H->D.ct σ H
 | some (.ok (.rt o d))=>∀v H',Same B H'->RV K B H' o d v->D.rt v H'
 | some (.ex c)=>∀H',Same B H'->Ew c H'
 | none=>False
def tD (K:Frag)(Ew:Str->Hp->Prop)(f:EF):TE:=λσ H Q=>∃B φ Γ,Rep K B φ Γ σ H/\Runs K Ew B φ H (f Γ) Q
def Fz (K:Frag)(Ew:Str->Hp->Prop)(f:TF):TT:=λσ H Q=>∃B φ Γ,Rep K B φ Γ σ H/\oZ Ew B H (f Γ) Q
def LY (K:Frag)(Ew:Str->Hp->Prop)(f:SF):TS:=λD σ H=>∃B φ Γ,Rep K B φ Γ σ H/\cI K Ew B (f Γ) D
def DE (X:Cx)(K:Frag)(Ew:Str->Hp->Prop)(e:Expr)(f:EF):Prop:=PE X e (tD K Ew f)
def DT (X:Cx)(K:Frag)(Ew:Str->Hp->Prop)(e:Expr)(f:TF):Prop:=PT X e (Fz K Ew f)
def DW (X:Cx)(K:Frag)(Ew:Str->Hp->Prop)(e:Expr)(f:TF):Prop:=PW X e (Fz K Ew f)
def DS (X:Cx)(K:Frag)(Ew:Str->Hp->Prop)(s:Stmt)(f:SF):Prop:=PS X s (LY K Ew f)
def Bb (X:Cx)(K:Frag)(Ew:Str->Hp->Prop)(s:List Stmt)(f:SF):Prop:=rR X s (LY K Ew f)
theorem M1 {K:Frag}{Ew:Str->Hp->Prop}{B:Hp}{D:Ends}{o:Option (Option (Bool×PyData))}{f:List PyData->M Out}(q:cI K Ew B (match o with
  | some (some (true,.list xs))=>f xs
  | _=>none) D):∃xs,o=some (some (true,.list xs))/\cI K Ew B (f xs) D:=by
 split at q
 ·exact⟨_,rfl,q⟩
 ·exact False.elim q
theorem LZ {K:Frag}{Ew:Str->Hp->Prop}{B:Hp}{D:Ends}{o:Option (Option (Bool×PyData))}{f:List (PyData×PyData)->M Out}(q:cI K Ew B (match o with
  | some (some (true,.dict kvs))=>f kvs
  | _=>none) D):∃kvs,o=some (some (true,.dict kvs))/\cI K Ew B (f kvs) D:=by
 split at q
 ·exact⟨_,rfl,q⟩
 ·exact False.elim q
theorem PE.imp (h:PE X e t)(i:∀σ H Q,t' σ H Q->t σ H Q):PE X e t':=λpins s σ H Q I q=>h pins s σ H Q I (i σ H Q q)
theorem PT.imp (h:PT X e t)(i:∀σ H Q,t' σ H Q->t σ H Q):PT X e t':=λpins s σ H Q I q=>h pins s σ H Q I (i σ H Q q)
theorem PW.imp (h:PW X e t)(i:∀σ H Q,t' σ H Q->t σ H Q):PW X e t':=λw pins s σ H Q I q=>h w pins s σ H Q I (i σ H Q q)
theorem PS.imp (h:PS X e t)(i:∀D σ H,t' D σ H->t D σ H):PS X e t':=λpins s σ H D I q=>h pins s σ H D I (i D σ H q)
theorem rR.imp (h:rR X e t)(i:∀D σ H,t' D σ H->t D σ H):rR X e t':=λpins s σ H D I q=>h pins s σ H D I (i D σ H q)
section
variable {K:Frag}{B B' H H' kx:Hp}{φ:Nat->List Addr}{Γ:bL}{σ:St}{k:Kd}{d:PyData}{v:V}{Ew:Str->Hp->Prop}
theorem Rep.same (r:Rep K B φ Γ σ H)(s:Same H H'):Rep K B φ Γ σ H' where
 bs:=r.bs.trans s
 len:=r.len
 sl:=λi o d e=>by
  obtain⟨v,h1,h2⟩:=r.sl i o d e
  refine⟨v,h1,?_⟩
  cases o with
  | true=>rw[Z4 rfl] at h2⊢;exact IsT.same s _ _ _ h2
  | false=>rw[Z5 K3] at h2⊢;exact h2
 nd:=r.nd
 nb:=λi a ha=>⟨(r.nb i a ha).1,let ⟨o,h1,h2⟩:=(r.nb i a ha).2;⟨o,s _ _ h1,h2⟩⟩
 dj:=r.dj
theorem VR.toD (r:Same B H')(h:VR K B φ H H' k d v):aK K H' d v:=by
 cases k with
 | fr l=>obtain⟨as,h1,_⟩:=h;exact IsT.toD _ _ _ h1
 | base=>exact aK.same r _ _ h
 | any=>exact h
theorem VR.same (h:VR K B φ H H' k d v)(s:Same H' kx):VR K B φ H kx k d v:=by
 cases k with
 | fr l=>obtain⟨as,h1,h2,h3⟩:=h;exact⟨as,IsT.same s _ _ _ h1,h2,h3⟩
 | base=>exact h
 | any=>exact aK.same s _ _ h
theorem VR.from (h:VR K B φ H H' k d v)(s:Same kx H):VR K B φ kx H' k d v:=by
 cases k with
 | fr l=>obtain⟨as,h1,h2,h3⟩:=h;exact⟨as,h1,h2,λa ha=>(h3 a ha).imp id λz=>s.free z⟩
 | base=>exact h
 | any=>exact h
theorem VR.ml (hn:bp d=true)(h:aK K H' d v)(l:List Nat):VR K B φ H H' (.fr l) d v:=⟨[],aK.toT _ _ hn h,X2,λa ha=>by cases ha⟩
theorem VR.cQ (r:Same B H')(h:VR K B φ H H' k d v):VR K B φ H H' (cQ k d) d v:=by
 unfold Y.cQ
 by_cases hn:bp d=true
 ·rw[Z4 hn];exact VR.ml hn (h.toD r) []
 ·rw[Z5 hn];exact h
theorem VR.fresh:VR K B φ H H' (.fr []) d v↔aP K H H' d v:=by
 constructor
 ·rintro⟨as,h1,h2,h3⟩
  exact⟨as,h1,h2,λa ha=>by rcases h3 a ha with⟨i,hi,_⟩ | z;cases hi;exact z⟩
 ·rintro⟨as,h1,h2,h3⟩
  exact⟨as,h1,h2,λa ha=> .inr (h3 a ha)⟩
theorem aP.ml (hn:bp d=true)(h:aK K H' d v):aP K H H' d v:=⟨[],aK.toT _ _ hn h,X2,λa ha=>by cases ha⟩
theorem aP.from (h:aP K H H' d v)(s:Same kx H):aP K kx H' d v:=by
 obtain⟨as,h1,h2,h3⟩:=h
 exact⟨as,h1,h2,λa ha=>s.free (h3 a ha)⟩
theorem aP.lst (hn:ar ds=true)(h:H' a=some (.lst vs))(t:ax K H' ds vs)(n:H a=none):aP K H H' (.list ds) (.ref a) :=
 ⟨[a],fC h (ax.toT _ _ hn t),KQ.mpr ⟨by simp,X2⟩,λb hb=>by rw[K7.mp hb];exact n⟩
theorem aP.tup (hn:ar ds=true)(h:eK K H' a vs)(t:ax K H' ds vs):aP K H H' (.tuple ds) (.ref a) :=
 ⟨[],zR h (ax.toT _ _ hn t),X2,λb hb=>by cases hb⟩
theorem Runs.mono (h:Runs K Ew B φ H m Q)(i:∀v H',Same H H'->Q v H'->Q' v H'):Runs K Ew B φ H m Q':=by
 rcases h with⟨k,d,e,h⟩ | h
 ·exact .inl ⟨k,d,e,λv H' s r=>i v H' s (h v H' s r)⟩
 ·exact .inr h
theorem Runs.bind (r:Rep K B φ Γ σ H)(h:Runs K Ew B φ H (ao m g) Q) :
  Runs K Ew B φ H m (λv H1=>∃k d,m=some (.ok (k,d))/\VR K B φ H H1 k d v/\Rep K B φ Γ σ H1/\Same H H1/\Runs K Ew B φ H (g (k,d)) Q):=by
 match m,h with
 | some (.ok (k,d)),h=>exact .inl ⟨k,d,rfl,λv H1 s hv=>⟨k,d,rfl,hv,r.same s,s,h⟩⟩
 | some (.ex c),h=>
  refine .inr ⟨c,rfl,?_⟩
  rcases h with⟨k,d,e,_⟩ | ⟨c',e,h⟩
  ·cases e
  ·cases e;exact h
 | none,h=>
  exfalso
  rcases h with⟨k,d,e,_⟩ | ⟨c',e,h⟩
  ·cases e
  ·cases e
theorem Runs.later (h:Runs K Ew B φ H m Q)(s:Same H H1):Runs K Ew B φ H1 m Q:=by
 rcases h with⟨k,d,e,h⟩ | h
 ·exact .inl ⟨k,d,e,λv H' s' hv=>h v H' (s.trans s') (hv.from s)⟩
 ·exact .inr h
theorem oZ.later (h:oZ Ew B H m Q)(s:Same H H1):oZ Ew B H1 m Q:=by
 rcases h with⟨b,e,h⟩ | h
 ·exact .inl ⟨b,e,λH' s'=>h H' (s.trans s')⟩
 ·exact .inr h
theorem oZ.bind (h:oZ Ew B H (ao m g) Q) :
  oZ Ew B H m (λb H1=>m=some (.ok b)/\Same H H1/\oZ Ew B H1 (g b) Q):=by
 match m,h with
 | some (.ok b),h=>exact .inl ⟨b,rfl,λH1 s=>⟨rfl,s,h.later s⟩⟩
 | some (.ex c),h=>
  refine .inr ⟨c,rfl,?_⟩
  rcases h with⟨k,e,_⟩ | ⟨c',e,h⟩
  ·cases e
  ·cases e;exact h
 | none,h=>
  exfalso
  rcases h with⟨k,e,_⟩ | ⟨c',e,h⟩
  ·cases e
  ·cases e
end
def jh (X:Cx)(f:Value->Value->Sem Value)(g:PyData->PyData->Option PyData):Prop :=
 ∃r,sJ X f r/\∀x y z u v H Q,g x y=some z->aK X.K H x u->aK X.K H y v->(∀w H',Same H H'->aP X.K H H' z w->Q w H')->r u v H Q
def OX (X:Cx)(f:Value->Sem Value)(g:PyData->Option PyData):Prop :=
 ∃r,MW X f r/\∀x z u H Q,g x=some z->aK X.K H x u->(∀w H',Same H H'->aP X.K H H' z w->Q w H')->r u H Q
def CallD (X:Cx)(f:Value)(g:List PyData->Option PyData):Prop :=
 ∃r,iY X f r/\∀xs z us H Q,g xs=some z->ax X.K H xs us->(∀w H',Same H H'->aP X.K H H' z w->Q w H')->r us H Q
def NS (X:Cx)(g:PyData->PyData->Option PyData):Prop :=
 ∃r,Cv X r/\∀B φ H0 k x y z u v H Q,Same B H->g x y=some z->VR X.K B φ H0 H k x u->aK X.K H y v->(∀w,VR X.K B φ H0 H (cQ k z) z w->Q w H)->r u v H Q
section
variable {X:Cx}{K:Frag}{Ew:Str->Hp->Prop}{pos:Pos}
theorem CI (h:PE X e (tC c))(hn:bp d=true)(hd:∀H,aK K H d c):DE X K Ew e (eC d):=h.imp λσ H Q q=>by
 obtain⟨B,φ,Γ,r,q⟩:=q
 rcases q with⟨k,d',e,q⟩ | ⟨c',e,q⟩
 ·cases e
  exact q _ H (Same.refl H) (VR.ml hn (hd H) [])
 ·cases e
theorem ak {j pos}:DE X K Ew (.Constant (.int i) j pos) (eC (.int i)):=CI HR rfl λ_=>bP
theorem p7 {j pos}:DE X K Ew (.Constant (.bool i) j pos) (eC (.bool i)):=CI Ln rfl λ_=>dq
theorem p8 {j pos}:DE X K Ew (.Constant (.str i) j pos) (eC (.str i)):=CI HU rfl λ_=>ux
theorem gP {j pos}:DE X K Ew (.Constant .none j pos) (eC .none):=CI HS rfl λ_=>zQ
theorem af (i:Nat)(hN:X.N[i]? =some x:=by rfl)(hv:MS X.env.scope x:=by first | exact Or.inl rfl | exact Or.inr (!3) | exact Or.inr (Or.inr rfl))(hd:(x==("__debug__":Str))=false:=by decide)
  (hcd:(x==("__classdict__":Str))=false:=by decide):DE X K Ew (.Name x pos) (eV i):=(Cf hN hv hd hcd).imp λσ H Q q=>by
 obtain⟨B,φ,Γ,r,q⟩:=q
 unfold eV at q
 match hg:Γ[i]?,q with
 | some (some (o,d)),q=>
  obtain⟨v,h1,h2⟩:=r.sl i o d hg
  refine⟨v,h1,?_⟩
  rcases q with⟨k,d',e,q⟩ | ⟨c',e,q⟩
  ·cases e
   refine q v H (Same.refl H) (VR.cQ r.bs ?_)
   cases o with
   | true=>
    rw[Z4 rfl] at h2
    exact⟨_,h2,r.nd i,λa ha=> .inl ⟨i,by simp,ha⟩⟩
   | false=>
    rw[Z5 K3] at h2
    exact h2
  ·cases e
 | some none,q=>rcases q with⟨k,d',e,q⟩ | ⟨c',e,q⟩ <;> cases e
 | none,q=>rcases q with⟨k,d',e,q⟩ | ⟨c',e,q⟩ <;> cases e
theorem p9 {fa fb:EF}{g:Kd×PyData->Kd×PyData->M (Kd×PyData)}{σ:St}{Q:VK}{OY:V->V->Hp->Prop}(h:tD K Ew (λΓ=>ao (fa Γ) λx=>ao (fb Γ) λy=>g x y) σ H Q)
  (i:∀B φ Γ k x k' y u v H1 H2,Rep K B φ Γ σ H2->Same H H1->Same H1 H2->VR K B φ H H2 k x u->VR K B φ H1 H2 k' y v->Runs K Ew B φ H (g (k,x) (k',y)) Q->OY u v H2) :
  tD K Ew fa σ H λu H1=>tD K Ew fb σ H1 λv H2=>OY u v H2:=by
 obtain⟨B,φ,Γ,r,q⟩:=h
 refine⟨B,φ,Γ,r,(q.bind r).mono λu H1 s1 ⟨k,x,e1,v1,r1,_,q1⟩=> ?_⟩
 refine⟨B,φ,Γ,r1,((q1.later s1).bind r1).mono λv H2 s2 ⟨k',y,e2,v2,r2,_,q2⟩=> ?_⟩
 refine i B φ Γ k x k' y u v H1 H2 r2 s1 s2 (v1.same s2) v2 ?_
 rcases q1 with⟨k0,d0,e0,q0⟩ | ⟨c0,e0,q0⟩
 ·rw[e2] at e0
  exact .inl ⟨k0,d0,e0,q0⟩
 ·rw[e2] at e0
  exact .inr ⟨c0,e0,q0⟩
theorem fE {φ:Nat->List Addr}{kf:PyData->Kd}{Q:VK}(h:Runs K Ew B φ H (ao (mo o) λz=>ah (kf z,z)) Q):∃z,o=some z/\∀v H',Same H H'->VR K B φ H H' (kf z) z v->Q v H':=by
 cases o with
 | none=>rcases h with⟨k,d',e,q⟩ | ⟨c',e,q⟩ <;> cases e
 | some z=>
  rcases h with⟨k,d',e,q⟩ | ⟨c',e,q⟩
  ·cases e;exact⟨z,rfl,q⟩
  ·cases e
theorem aH (ho:jh X (binaryOp op) g)(ha:DE X K Ew a fa)(hb:DE X K Ew b fb)(hK:X.K=K:=by rfl):DE X K Ew (.BinOp a op b pos) (bg g fa fb):=by
 obtain⟨r,hr,hx⟩:=ho
 refine(Hg hr ha hb).imp λσ H Q q=>p9 q λB φ Γ k x k' y u v H1 H2 r2 s1 s2 v1 v2 q=> ?_
 obtain⟨z,e,q⟩:=fE q
 rw[hK] at hx
 exact hx x y z u v H2 Q e (v1.toD r2.bs) (v2.toD r2.bs) λw H' s f=>q w H' ((s1.trans s2).trans s) (VR.fresh.mpr (f.from (s1.trans s2)))
theorem p_ (ho:jh X (compareOp op) g)(ha:DE X K Ew a fa)(hb:DE X K Ew b fb)(hm:behindInMarks op b=false)(hK:X.K=K:=by rfl) :
  DE X K Ew (.Compare a [op] [b] pos) (bg g fa fb):=by
 obtain⟨r,hr,hx⟩:=ho
 refine(E8 hr ha hb hm).imp λσ H Q q=>p9 q λB φ Γ k x k' y u v H1 H2 r2 s1 s2 v1 v2 q=> ?_
 obtain⟨z,e,q⟩:=fE q
 rw[hK] at hx
 exact hx x y z u v H2 Q e (v1.toD r2.bs) (v2.toD r2.bs) λw H' s f=>q w H' ((s1.trans s2).trans s) (VR.fresh.mpr (f.from (s1.trans s2)))
theorem Hk (ho:OX X (unaryOp op) g)(ha:DE X K Ew a fa)(hK:X.K=K:=by rfl):DE X K Ew (.UnaryOp op a pos) (B_ g fa):=by
 obtain⟨r,hr,hx⟩:=ho
 refine(LB hr ha).imp λσ H Q q=> ?_
 obtain⟨B,φ,Γ,r0,q⟩:=q
 refine⟨B,φ,Γ,r0,(q.bind r0).mono λu H1 s1 ⟨k,x,e1,v1,r1,_,q1⟩=> ?_⟩
 obtain⟨z,e,q⟩:=fE q1
 rw[hK] at hx
 exact hx x z u H1 Q e (v1.toD r1.bs) λw H' s f=>q w H' (s1.trans s) (VR.fresh.mpr (f.from s1))
theorem aU (ho:NS X g)(ha:DE X K Ew a fa)(hb:DE X K Ew b fb)(hs:zK b)(hK:X.K=K:=by rfl):DE X K Ew (.Subscript a b pos) (dk g fa fb):=by
 obtain⟨r,hr,hx⟩:=ho
 refine(LO hr ha hb hs).imp λσ H Q q=>p9 q λB φ Γ k x k' y u v H1 H2 r2 s1 s2 v1 v2 q=> ?_
 obtain⟨z,e,q⟩:=fE (kf:=λz=>cQ k z) q
 rw[hK] at hx
 exact hx B φ H k x y z u v H2 Q r2.bs e v1 (v2.toD r2.bs) λw hw=>q w H2 (s1.trans s2) hw
end
mutual
theorem hZ:∀(d:PyData) (n:Nat),lay n d=true->d.canLay0=true/\d.depth<=n
 | .none,n,_=>by simp[PyData.canLay0,PyData.depth]
 | .bool _,n,_=>by simp[PyData.canLay0,PyData.depth]
 | .int _,n,_=>by simp[PyData.canLay0,PyData.depth]
 | .str x,n,h=>by
  have h':PyData.strOk x=true:=by cases n <;> simpa [lay] using h
  simp[PyData.canLay0,PyData.depth,h']
 | .list xs,0,h=>by simp[lay] at h
 | .list xs,n+1,h=>by
  have:=iE xs n (by simpa [lay] using h)
  simp only[PyData.canLay0,PyData.depth]
  exact⟨this.1,by omega⟩
 | .tuple xs,0,h=>by simp[lay] at h
 | .tuple xs,n+1,h=>by
  have:=iE xs n (by simpa [lay] using h)
  simp only[PyData.canLay0,PyData.depth]
  exact⟨this.1,by omega⟩
 | .dict _,n,h=>by cases n <;> simp[lay] at h
theorem iE:∀(ds:List PyData) (n:Nat),lays n ds=true->PyData.canLayAll0 ds=true/\PyData.depthAll ds<=n
 | [],n,_=>by simp[PyData.canLayAll0,PyData.depthAll]
 | d :: ds,n,h=>by
  have h':lay n d=true/\lays n ds=true:=by simpa [lays] using h
  have h1:=hZ d n h'.1
  have h2:=iE ds n h'.2
  simp only[PyData.canLayAll0,PyData.depthAll,h1.1,h2.1,XQ,true_and]
  omega
end
section
variable {X:Cx}{pins:List (Addr×Obj)}{σ:St}{H:Hp}{s:Shared}
mutual
theorem aK.reads (I:Inv X pins σ H s):∀(d:PyData) (v:V) (u:Value),d.canLay0=true->aK X.K H d v->RelV v u->∃as,Reads s.heap u d as
 | .none,v,u,_,h,r=>by
  simp only[aK] at h;subst h
  cases(show u=Value.none from r);exact⟨_,.none⟩
 | .bool b,v,u,_,h,r=>by
  simp only[aK] at h;subst h
  cases(show u=Value.bool b from r);exact⟨_,.bool b⟩
 | .int i,v,u,_,h,r=>by
  simp only[aK] at h;subst h
  obtain⟨t,rfl⟩:=(show∃t,u=Value.int i t from r);exact⟨_,.int i t⟩
 | .str x,v,u,_,h,r=>by
  simp only[aK] at h;subst h
  obtain⟨t,rfl⟩:=(show∃t,u=Value.str x t from r);exact⟨_,.str x t⟩
 | .list xs,v,u,c,h,r=>by
  simp only[aK] at h
  obtain⟨a,vs,rfl,h1,h2⟩:=h
  cases(show u=Value.ref a from r)
  obtain⟨its,rv,⟨o,n,e,hc,_,hd⟩,_⟩:=I.list h1
  obtain⟨as,ra⟩:=ax.reads I xs vs its (by simpa [PyData.canLay0] using c) h2 rv
  exact⟨_,.list e hc hd (by simpa using ra)⟩
 | .tuple xs,v,u,c,h,r=>by
  simp only[aK] at h
  obtain⟨a,vs,rfl,h1,h2⟩:=h
  cases(show u=Value.ref a from r)
  obtain⟨its,rv,⟨o,e,hc,n,hd⟩,_⟩:=I.tuple h1
  obtain⟨as,ra⟩:=ax.reads I xs vs its (by simpa [PyData.canLay0] using c) h2 rv
  exact⟨_,.tuple e hc hd (by simpa using ra)⟩
 | .dict _,v,u,c,h,r=>by simp[PyData.canLay0] at c
theorem ax.reads (I:Inv X pins σ H s):∀(ds:List PyData) (vs:List V) (us:List Value),PyData.canLayAll0 ds=true->ax X.K H ds vs->Vals vs us->∃as,ReadsAll s.heap us ds as
 | [],vs,us,_,h,r=>by
  simp only[ax] at h;subst h;cases r;exact⟨_,.nil⟩
 | d :: ds,vs,us,c,h,r=>by
  simp only[ax] at h
  obtain⟨v,w,rfl,h1,h2⟩:=h
  have c':d.canLay0=true/\PyData.canLayAll0 ds=true:=by simpa [PyData.canLayAll0] using c
  cases r with
  | cons r1 r2=>
   obtain⟨as,ra⟩:=aK.reads I d v _ c'.1 h1 r1
   obtain⟨bs,rb⟩:=ax.reads I ds w _ c'.2 h2 r2
   exact⟨_,.cons ra rb⟩
end
end
theorem g_.zS (r:g_ k A):A.units+80 < cLine:=by have:=r.un;omega
section
variable {X:Cx}
theorem jh.of  
  (h:∀(pins:List (Addr×Obj)) (s:Shared) (σ:St) (H:Hp) (x y z:PyData) (u v:V) (a b:Value) (Q:VK),Inv X pins σ H s->g x y=some z->aK X.K H x u->aK X.K H y v->RelV u a->RelV v b->
   (∀w H',Same H H'->aP X.K H H' z w->Q w H')->wpAny (!7) X.A (f a b) (EP X pins σ Q) X.xe s):jh X f g :=
 ⟨λu v H Q=>∃x y z,g x y=some z/\aK X.K H x u/\aK X.K H y v/\∀w H',Same H H'->aP X.K H H' z w->Q w H',
  λpins s σ H u v a b Q I ru rv ⟨x,y,z,e,hx,hy,q⟩=>h pins s σ H x y z u v a b Q I e hx hy ru rv q,
  λx y z u v H Q e hx hy q=>⟨x,y,z,e,hx,hy,q⟩⟩
theorem ji (hu:X.A.units+80 < cLine):jh X (compareOp .Eq) oY:=jh.of λpins s σ H x y z u v a b Q I e hx hy ru rv q=>by
 unfold oY at e
 split at e
 ·rename_i c
  have c':lay 60 x=true/\lay 60 y=true:=by simpa using c
  have l1:=hZ _ _ c'.1
  have l2:=hZ _ _ c'.2
  obtain⟨as,ra⟩:=aK.reads I x u a l1.1 hx ru
  obtain⟨bs,rb⟩:=aK.reads I y v b l2.1 hy rv
  cases e
  exact SeqAt.compareEq_reads ra rb l1.1 l2.1 (!1) ⟨.bl _,H,I,rfl,q _ H (Same.refl H) (aP.ml rfl dq)⟩
 ·cases e
theorem qa (hu:X.A.units+80 < cLine):jh X (compareOp .NotEq) A8:=jh.of λpins s σ H x y z u v a b Q I e hx hy ru rv q=>by
 unfold A8 at e
 split at e
 ·rename_i c
  have c':lay 60 x=true/\lay 60 y=true:=by simpa using c
  have l1:=hZ _ _ c'.1
  have l2:=hZ _ _ c'.2
  obtain⟨as,ra⟩:=aK.reads I x u a l1.1 hx ru
  obtain⟨bs,rb⟩:=aK.reads I y v b l2.1 hy rv
  cases e
  exact SeqAt.compareNe_reads ra rb l1.1 l2.1 (!1) ⟨.bl _,H,I,rfl,q _ H (Same.refl H) (aP.ml rfl dq)⟩
 ·cases e
theorem yF (hu:X.A.units+80 < cLine):jh X (compareOp .In) Fm:=jh.of λpins s σ H x y z u v a b Q I e hx hy ru rv q=>by
 cases y <;> simp only[Fm] at e <;> try (cases e;done)
 ·rename_i ys
  split at e
  ·rename_i c
   have c':lay 60 x=true/\lays 60 ys=true:=by simpa using c
   have l1:=hZ _ _ c'.1
   have l2:=iE _ _ c'.2
   obtain⟨as,ra⟩:=aK.reads I x u a l1.1 hx ru
   obtain⟨bs,rb⟩:=aK.reads I (.list ys) v b (by simpa [PyData.canLay0] using l2.1) hy rv
   cases e
   exact SeqAt.in_list_reads rb ra l2.1 l1.1 (!1) ⟨.bl _,H,I,rfl,q _ H (Same.refl H) (aP.ml rfl dq)⟩
  ·cases e
 ·rename_i ys
  split at e
  ·rename_i c
   have c':lay 60 x=true/\lays 60 ys=true:=by simpa using c
   have l1:=hZ _ _ c'.1
   have l2:=iE _ _ c'.2
   obtain⟨as,ra⟩:=aK.reads I x u a l1.1 hx ru
   obtain⟨bs,rb⟩:=aK.reads I (.tuple ys) v b (by simpa [PyData.canLay0] using l2.1) hy rv
   cases e
   exact SeqAt.in_tuple_reads rb ra l2.1 l1.1 (!1) ⟨.bl _,H,I,rfl,q _ H (Same.refl H) (aP.ml rfl dq)⟩
  ·cases e
theorem f7 (hu:X.A.units+80 < cLine):jh X (compareOp .NotIn) dm:=jh.of λpins s σ H x y z u v a b Q I e hx hy ru rv q=>by
 cases y <;> simp only[dm] at e <;> try (cases e;done)
 ·rename_i ys
  split at e
  ·rename_i c
   have c':lay 60 x=true/\lays 60 ys=true:=by simpa using c
   have l1:=hZ _ _ c'.1
   have l2:=iE _ _ c'.2
   obtain⟨as,ra⟩:=aK.reads I x u a l1.1 hx ru
   obtain⟨bs,rb⟩:=aK.reads I (.list ys) v b (by simpa [PyData.canLay0] using l2.1) hy rv
   cases e
   exact SeqAt.notIn_list_reads rb ra l2.1 l1.1 (!1) ⟨.bl _,H,I,rfl,q _ H (Same.refl H) (aP.ml rfl dq)⟩
  ·cases e
 ·rename_i ys
  split at e
  ·rename_i c
   have c':lay 60 x=true/\lays 60 ys=true:=by simpa using c
   have l1:=hZ _ _ c'.1
   have l2:=iE _ _ c'.2
   obtain⟨as,ra⟩:=aK.reads I x u a l1.1 hx ru
   obtain⟨bs,rb⟩:=aK.reads I (.tuple ys) v b (by simpa [PyData.canLay0] using l2.1) hy rv
   cases e
   exact SeqAt.notIn_tuple_reads rb ra l2.1 l1.1 (!1) ⟨.bl _,H,I,rfl,q _ H (Same.refl H) (aP.ml rfl dq)⟩
  ·cases e
theorem CJ {K:Frag}{H:Hp}{x:PyData}{u:V}(h:aK K H x u):decide (u= .non)=i6 x:=by
 cases x <;> simp only[aK] at h
 ·subst h;rfl
 ·subst h;rfl
 ·subst h;rfl
 ·subst h;rfl
 ·obtain⟨a,_,rfl,_⟩:=h;rfl
 ·obtain⟨a,_,rfl,_⟩:=h;rfl
 ·obtain⟨a,_,rfl,_⟩:=h;rfl
theorem lF:jh X (compareOp .IsNot) jY:=jh.of λpins s σ H x y z u v a b Q I e hx hy ru rv q=>by
 cases y <;> simp only[jY] at e <;> try (cases e;done)
 cases e
 have hv:=p5 hy
 subst hv
 exact E7 pins s σ H u .non a b Q I ru rv ⟨rfl,by rw[CJ hx];exact q _ H (Same.refl H) (aP.ml rfl dq)⟩
theorem jh.ints (h:sJ X f (rI C gv))
  (hg:∀x y z,g x y=some z->∃i j,x= .int i/\y= .int j/\C i j/\bp z=true/\∀K H,aK K H z (gv i j)):jh X f g:=jh.of λpins s σ H x y z u v a b Q I e hx hy ru rv q=>by
 obtain⟨i,j,rfl,rfl,c,hn,hz⟩:=hg x y z e
 have h1:=aJ hx
 have h2:=aJ hy
 subst h1 h2
 exact h pins s σ H _ _ a b Q I ru rv ⟨i,j,rfl,rfl,c,q _ H (Same.refl H) (aP.ml hn (hz _ _))⟩
theorem jh.zT (h:sJ X f (Hf gv))
  (hg:∀x y z,g x y=some z->∃i j,x= .int i/\y= .int j/\bp z=true/\∀K H,aK K H z (gv i j)):jh X f g:=jh.of λpins s σ H x y z u v a b Q I e hx hy ru rv q=>by
 obtain⟨i,j,rfl,rfl,hn,hz⟩:=hg x y z e
 have h1:=aJ hx
 have h2:=aJ hy
 subst h1 h2
 exact h pins s σ H _ _ a b Q I ru rv ⟨i,j,rfl,rfl,q _ H (Same.refl H) (aP.ml hn (hz _ _))⟩
theorem mJ:jh X (binaryOp .Sub) Y.rW:=jh.zT Io λx y z e=>by
 cases x <;> cases y <;> simp only[Y.rW] at e <;> cases e
 exact⟨_,_,rfl,rfl,rfl,λ_ _=>bP⟩
theorem CK:jh X (compareOp .Lt) La:=jh.zT LD λx y z e=>by
 cases x <;> cases y <;> simp only[La] at e <;> cases e
 exact⟨_,_,rfl,rfl,rfl,λ_ _=>dq⟩
theorem uA:jh X (compareOp .Gt) Fo:=jh.zT LF λx y z e=>by
 cases x <;> cases y <;> simp only[Fo] at e <;> cases e
 exact⟨_,_,rfl,rfl,rfl,λ_ _=>dq⟩
theorem bF:jh X (binaryOp .Mod) fX:=jh.ints Iq λx y z e=>by
 cases x <;> cases y <;> simp only[fX] at e <;> try (cases e;done)
 split at e
 ·rename_i c;cases e;exact⟨_,_,rfl,rfl,c,rfl,λ_ _=>bP⟩
 ·cases e
theorem pD:jh X (binaryOp .Pow) yy:=jh.ints Ir λx y z e=>by
 cases x <;> cases y <;> simp only[yy] at e <;> try (cases e;done)
 split at e
 ·rename_i c;cases e;exact⟨_,_,rfl,rfl,c,rfl,λ_ _=>bP⟩
 ·cases e
theorem zU:OX X (unaryOp .USub) A9:=⟨_,Iu,λx z u H Q e hx q=>by
 cases x <;> simp only[A9] at e <;> cases e
 have:=aJ hx
 subst this
 exact⟨_,rfl,q _ H (Same.refl H) (aP.ml rfl bP)⟩⟩
theorem bX:jh X (binaryOp .FloorDiv) fy:=jh.of λpins s σ H x y z u v a b Q I e hx hy ru rv q=>by
 cases x <;> cases y <;> simp only[fy] at e <;> try (cases e;done)
 rename_i i j
 split at e
 ·rename_i c
  cases e
  have h1:=aJ hx
  have h2:=aJ hy
  subst h1 h2
  obtain⟨t,rfl⟩:=ru
  obtain⟨t',rfl⟩:=rv
  refine floordiv_int (!1) ?_ (.inl (PyProof.noPylong_of_log2 ?_))
  ·rw[Int.fdiv_eq_ediv_of_nonneg i (!1)]
   exact⟨.int (i / j),H,I.tok _,⟨_,rfl⟩,q _ H (Same.refl H) (aP.ml rfl bP)⟩
  ·have h3:j.natAbs.log2 < 64:=(Nat.log2_lt (!1)).mpr (!1)
   omega
 ·cases e
theorem cD:jh X (binaryOp .Add) fY:=jh.of λpins s σ H x y z u v a b Q I e hx hy ru rv q=>by
 cases x <;> cases y <;> simp only[fY] at e <;> try (cases e;done)
 ·cases e
  have h1:=aJ hx
  have h2:=aJ hy
  subst h1 h2
  exact Im pins s σ H _ _ a b Q I ru rv ⟨_,_,rfl,rfl,q _ H (Same.refl H) (aP.ml rfl bP)⟩
 ·rename_i x y
  split at e
  ·rename_i c
   cases e
   have h1:=j4 hx
   have h2:=j4 hy
   subst h1 h2
   obtain⟨t,rfl⟩:=ru
   obtain⟨t',rfl⟩:=rv
   exact add_str (λt' tk=>⟨.str (x++y),H,I.tok _,⟨_,rfl⟩,q _ H (Same.refl H) (aP.ml rfl ux)⟩) c
  ·cases e
 ·rename_i xs ys
  split at e
  ·rename_i c
   have c':(ar xs=true/\ar ys=true)/\xs.length+ys.length<=sizeLine:=by simpa using c
   cases e
   obtain⟨p,vs,rfl,h1,h2⟩:=a8 hx
   obtain⟨p',vs',rfl,h3,h4⟩:=a8 hy
   cases ru;cases rv
   obtain⟨its,r1,⟨⟨c1,d1,QE,PB⟩,n1,ho1,hc1,_,hd1⟩,_⟩:=I.list h1
   obtain⟨its2,r2,⟨⟨c2,d2,OZ,sl2⟩,n2,ho2,hc2,_,hd2⟩,_⟩:=I.list h3
   simp only at hc1 hd1 hc2 hd2
   subst hc1 hd1 hc2 hd2
   have hz:vs.length+vs'.length<=sizeLine:=by rw[am h2,am h4];exact c'.2
   have hz2:its.length+its2.length<=sizeLine:=by rw[←r1.length,←r2.length];exact hz
   refine concat_meets ⟨_,ho1,rfl⟩ ⟨_,ho2,rfl⟩ noFill_list_add seq_list_add PySem.F.slot_list_add PySem.F.entry_list_add (PySem.F.args_list_add_2 _ _) (list_addW p p' its.toArray its2.toArray n1 n2 d1 d2 PB sl2 (by simpa using hz2)) ⟨ho1,ho2,?_⟩
   have ea:its.toArray++its2.toArray=(its++its2).toArray:=by simp
   rw[ea]
   have hf:=I.fresh
   refine⟨.ref _,_,I.LV (t':=s.toks) (r1.append r2) (by rw[K2];exact hz),rfl,q _ _ (Same.upd hf) ?_⟩
   exact aP.lst (by rw[gG,c'.1.1,c'.1.2];rfl) ay (ax.same (Same.upd hf) _ _ (e8 h2 h4)) hf
  ·cases e
 ·rename_i xs ys
  split at e
  ·rename_i c
   have c':(ar xs=true/\ar ys=true)/\xs.length+ys.length<=sizeLine:=by simpa using c
   cases e
   obtain⟨p,vs,rfl,h1,h2⟩:=aL hx
   obtain⟨p',vs',rfl,h3,h4⟩:=aL hy
   have l1:=am h2
   have l2:=am h4
   by_cases hn:vs=[]
   ·have hds:xs=[]:=Yk (by rw[←l1,hn];rfl)
    cases ru;cases rv
    obtain⟨its,r1,p1,_⟩:=I.tuple h1
    obtain⟨its2,r2,p2,_⟩:=I.tuple h3
    obtain⟨⟨cls,dd,data,sl⟩,ho,hc,n,hda⟩:=id p1
    obtain⟨⟨cls2,dd2,data2,sl2⟩,ho2,hc2,n2,hdb⟩:=id p2
    simp only at hc hda hc2 hdb
    subst hc hda hc2 hdb
    have hv:its=[]:=(r1.pB).mpr hn
    exact concat_meets ⟨_,ho,rfl⟩ ⟨_,ho2,rfl⟩ noFill_tuple_add seq_tuple_add PySem.F.slot_tuple_add PySem.F.entry_tuple_add (PySem.F.args_tuple_add_2 _ _)
     (tuple_addW0 p p' its.toArray its2.toArray n n2 dd dd2 sl sl2 (by simp[hv])) ⟨ho,ho2,⟨.ref p',H,I,rfl,q _ H (Same.refl H) (aP.ml (by rw[bp,hds];exact c'.1.2) (by rw[hds];exact hy))⟩⟩
   ·refine Fe pins s σ H _ _ a b Q I ru rv ⟨p,p',vs,vs',rfl,rfl,h1,h3,hn,by omega,λe=> ?_,λe t ht=> ?_⟩
    ·have hes:ys=[]:=Yk (by rw[←l2,e];rfl)
     exact q _ H (Same.refl H) (aP.ml (by rw[bp,hes,Xj];exact c'.1.1) (by rw[hes,Xj];exact hx))
    ·exact q _ _ (Same.upd ht) (aP.tup (by rw[gG,c'.1.1,c'.1.2];rfl) (eK.of ay) (ax.same (Same.upd ht) _ _ (e8 h2 h4)))
  ·cases e
end
section
variable {X:Cx}{K:Frag}{Ew:Str->Hp->Prop}{pos:Pos}{a b:Expr}{fa fb:EF}{ta tb:TF}
theorem zV (r:Rep K B φ Γ σ H)(h:oZ Ew B H (tE fa Γ) Q) :
  Runs K Ew B φ H (fa Γ) (λv H1=>∃c,v= .bl c/\Q c H1):=by
 unfold tE at h
 match hm:fa Γ,h with
 | some (.ok (k,d)),h=>
  refine .inl ⟨k,d,rfl,λv H' s hv=> ?_⟩
  cases d <;> try (rcases h with⟨t,e,_⟩ | ⟨c,e,_⟩ <;> cases e;done)
  rename_i t
  rcases h with⟨t',e,h⟩ | ⟨c,e,h⟩
  ·cases e
   have:=lE (hv.toD (r.bs.trans s))
   exact⟨t,this,h H' s⟩
  ·cases e
 | some (.ex c),h=>
  rcases h with⟨t',e,h⟩ | ⟨c',e,h⟩
  ·cases e
  ·cases e;exact .inr ⟨c,rfl,h⟩
 | none,h=>rcases h with⟨t',e,h⟩ | ⟨c',e,h⟩ <;> cases e
theorem CL (ha:DE X K Ew a fa)(he:∀whole,isTrue a X.env whole=(do let v←whole;standAt a.pos;holding [v] (truthy v)):=by intro _;rfl):DT X K Ew a (tE fa) :=
 (HV ha he).imp λσ H Q q=>by
  obtain⟨B,φ,Γ,r,q⟩:=q
  exact⟨B,φ,Γ,r,zV r q⟩
theorem aX (ho:jh X (compareOp op) g)(ha:DE X K Ew a fa)(hb:DE X K Ew b fb)(hm:behindInMarks op b=false)(hK:X.K=K:=by rfl) :
  DT X K Ew (.Compare a [op] [b] pos) (tE (bg g fa fb)):=by
 obtain⟨r,hr,hx⟩:=ho
 refine(E9 hr ha hb hm).imp λσ H Q q=> ?_
 obtain⟨B,φ,Γ,r0,q⟩:=q
 refine p9 (g:=λx y=>ao (mo (g x.2 y.2)) λz=>ah (.fr [],z)) (Q:=λv H1=>∃c,v= .bl c/\Q c H1) ⟨B,φ,Γ,r0,zV r0 q⟩ λB φ Γ k x k' y u v H1 H2 r2 s1 s2 v1 v2 q=> ?_
 obtain⟨z,e,q⟩:=fE (kf:=λ_=> .fr []) q
 rw[hK] at hx
 exact hx x y z u v H2 _ e (v1.toD r2.bs) (v2.toD r2.bs) λw H' s f=>q w H' ((s1.trans s2).trans s) (VR.fresh.mpr (f.from (s1.trans s2)))
theorem uB (ha:DT X K Ew a ta):DW X K Ew (.BoolOp .And [a] pos) ta:=E6 ha
theorem CM (ha:DT X K Ew a ta):DW X K Ew (.BoolOp .Or [a] pos) ta:=HW ha
theorem yG {rest:List Expr}(ha:DT X K Ew a ta)(hb:DW X K Ew (.BoolOp .And (b :: rest) pos) tb):DW X K Ew (.BoolOp .And (a :: b :: rest) pos) (sQ ta tb) :=
 (HX ha hb).imp λσ H Q q=>by
  obtain⟨B,φ,Γ,r,q⟩:=q
  refine⟨B,φ,Γ,r,?_⟩
  have q':=oZ.bind q
  rcases q' with⟨t,e,q'⟩ | q'
  ·refine .inl ⟨t,e,λH1 s1=> ?_⟩
   obtain⟨_,_,q2⟩:=q' H1 s1
   cases t with
   | true=>rw[Z4 rfl] at q2⊢;exact⟨B,φ,Γ,r.same s1,q2⟩
   | false=>
    rw[Z5 K3] at q2⊢
    rcases q2 with⟨t',e',q2⟩ | ⟨c,e',_⟩
    ·cases e';exact q2 H1 (Same.refl H1)
    ·cases e'
  ·exact .inr q'
theorem Hl {rest:List Expr}(ha:DT X K Ew a ta)(hb:DW X K Ew (.BoolOp .Or (b :: rest) pos) tb):DW X K Ew (.BoolOp .Or (a :: b :: rest) pos) (CB ta tb) :=
 (Lo ha hb).imp λσ H Q q=>by
  obtain⟨B,φ,Γ,r,q⟩:=q
  refine⟨B,φ,Γ,r,?_⟩
  have q':=oZ.bind q
  rcases q' with⟨t,e,q'⟩ | q'
  ·refine .inl ⟨t,e,λH1 s1=> ?_⟩
   obtain⟨_,_,q2⟩:=q' H1 s1
   cases t with
   | false=>rw[Z5 K3] at q2⊢;exact⟨B,φ,Γ,r.same s1,q2⟩
   | true=>
    rw[Z4 rfl] at q2⊢
    rcases q2 with⟨t',e',q2⟩ | ⟨c,e',_⟩
    ·cases e';exact q2 H1 (Same.refl H1)
    ·cases e'
  ·exact .inr q'
theorem DW.dt (h:DW X K Ew a ta):DT X K Ew a ta:=PW.pt h
theorem CN (ha:DT X K Ew a ta):DT X K Ew (.UnaryOp .Not a pos) (vX ta):=(HY ha).imp λσ H Q q=>by
 obtain⟨B,φ,Γ,r,q⟩:=q
 refine⟨B,φ,Γ,r,?_⟩
 have q':=oZ.bind q
 rcases q' with⟨t,e,q'⟩ | q'
 ·refine .inl ⟨t,e,λH1 s1=> ?_⟩
  obtain⟨_,_,q2⟩:=q' H1 s1
  rcases q2 with⟨t',e',q2⟩ | ⟨c,e',_⟩
  ·cases e';exact q2 H1 (Same.refl H1)
  ·cases e'
 ·exact .inr q'
theorem Hm (hc:DT X K Ew c ta)(ha:DE X K Ew a fa)(hb:DE X K Ew b fb):DE X K Ew (.IfExp c a b pos) (LW ta fa fb):=(Cg hc ha hb).imp λσ H Q q=>by
 obtain⟨B,φ,Γ,r,q⟩:=q
 refine⟨B,φ,Γ,r,?_⟩
 unfold LW at q
 match hm:ta Γ,q with
 | some (.ok t),q=>
  refine .inl ⟨t,rfl,λH1 s1=> ?_⟩
  cases t with
  | true=>rw[Z4 rfl];exact⟨B,φ,Γ,r.same s1,Runs.later q s1⟩
  | false=>rw[Z5 K3];exact⟨B,φ,Γ,r.same s1,Runs.later q s1⟩
 | some (.ex c),q=>
  rcases q with⟨k,d,e,h⟩ | ⟨c',e,h⟩
  ·cases e
  ·cases e;exact .inr ⟨c,rfl,h⟩
 | none,q=>rcases q with⟨k,d,e,h⟩ | ⟨c',e,h⟩ <;> cases e
theorem CO {op}(ha:DE X K Ew a fa):DE X K Ew (.BoolOp op [a] pos) fa:=HZ ha
theorem zW {φ:Nat->List Addr}{Γ:bL}{σ:St}{Q Q':VK}{g:PyData->M (Kd×PyData)}(r:Rep K B φ Γ σ H)(h:Runs K Ew B φ H (ao (fa Γ) λx=>g x.2) Q)
  (hg:∀d,(∀t,d≠ .bool t)->g d=none) (i:∀t H1,Same H H1->Rep K B φ Γ σ H1->Runs K Ew B φ H1 (g (.bool t)) Q->Q' (.bl t) H1):Runs K Ew B φ H (fa Γ) Q':=by
 refine(h.bind r).mono λv H1 s1 ⟨k,d,e,hv,r1,_,q⟩=> ?_
 cases d with
 | bool t=>
  have:=lE (hv.toD r1.bs)
  subst this
  exact i t H1 s1 r1 (q.later s1)
 | _=>
  exfalso
  rw[show g _=none from hg _ (by intro t z;cases z)] at q
  rcases q with⟨k,d,e,h⟩ | ⟨c',e,h⟩ <;> cases e
theorem IT {rest:List Expr}(ha:DE X K Ew a fa)(hb:DE X K Ew (.BoolOp .And (b :: rest) pos) fb):DE X K Ew (.BoolOp .And (a :: b :: rest) pos) (Fl fa fb):=(H_ ha hb).imp λσ H Q q=>by
 obtain⟨B,φ,Γ,r,q⟩:=q
 refine⟨B,φ,Γ,r,zW (g:=λd=>match d with | .bool true=>fb Γ | .bool false=>ah (.fr [],.bool false) | _=>none) r q (λd hd=> ?_) λt H1 s1 r1 q1=>⟨t,rfl,?_⟩⟩
 ·cases d <;> first | rfl | exact absurd rfl (hd _)
 ·cases t with
  | true=>rw[Z4 rfl];exact⟨B,φ,Γ,r1,q1⟩
  | false=>
   rw[Z5 K3]
   rcases q1 with⟨k,d,e,h⟩ | ⟨c',e,h⟩
   ·cases e;exact h _ H1 (Same.refl H1) (VR.ml rfl dq [])
   ·cases e
theorem L0 {rest:List Expr}(ha:DE X K Ew a fa)(hb:DE X K Ew (.BoolOp .Or (b :: rest) pos) fb):DE X K Ew (.BoolOp .Or (a :: b :: rest) pos) (K_ fa fb):=(Lq ha hb).imp λσ H Q q=>by
 obtain⟨B,φ,Γ,r,q⟩:=q
 refine⟨B,φ,Γ,r,zW (g:=λd=>match d with | .bool true=>ah (.fr [],.bool true) | .bool false=>fb Γ | _=>none) r q (λd hd=> ?_) λt H1 s1 r1 q1=>⟨t,rfl,?_⟩⟩
 ·cases d <;> first | rfl | exact absurd rfl (hd _)
 ·cases t with
  | false=>rw[Z5 K3];exact⟨B,φ,Γ,r1,q1⟩
  | true=>
   rw[Z4 rfl]
   rcases q1 with⟨k,d,e,h⟩ | ⟨c',e,h⟩
   ·cases e;exact h _ H1 (Same.refl H1) (VR.ml rfl dq [])
   ·cases e
end
open Classical in
noncomputable def gQ (φ:Nat->List Addr)(H:Hp):Hp:=λa=>if∃j,a∈φ j then none else H a
theorem dr (h:∀j,a∉φ j):gQ φ H a=H a:=by
 unfold gQ;rw[Z5];rintro⟨j,z⟩;exact h j z
theorem zX (h:a∈φ j):gQ φ H a=none:=by
 unfold gQ;rw[Z4 ⟨j,h⟩]
theorem jE (φ:Nat->List Addr)(H:Hp):Same (gQ φ H) H:=λa o e=>by
 unfold gQ at e
 split at e
 ·cases e
 ·exact e
section
variable {K:Frag}{B B' H H':Hp}{φ:Nat->List Addr}{Γ:bL}{σ:St}{k:Kd}{d:PyData}{v:V}
theorem eK.toB (e:∀a o,H a=some o->¬ fm o->B' a=some o)(h:eK K H a xs):eK K B' a xs:=by
 rcases h with(h | ⟨o,h⟩) | h
 ·exact .inl (.inl (e _ _ h (λz=>z)))
 ·exact .inl (.inr ⟨o,e _ _ h (λz=>z)⟩)
 ·exact .inr h
mutual
theorem IsT.toB (e:∀a o,H a=some o->¬ fm o->B' a=some o):∀(d:PyData) (v:V) (as:List Addr),(∀a∈as,∀o,H a=some o->B' a=some o)->IsT K H d v as->aK K B' d v
 | .none,v,as,_,h=>by simp only[IsT] at h;simp only[aK];exact h.1
 | .bool b,v,as,_,h=>by simp only[IsT] at h;simp only[aK];exact h.1
 | .int i,v,as,_,h=>by simp only[IsT] at h;simp only[aK];exact h.1
 | .str x,v,as,_,h=>by simp only[IsT] at h;simp only[aK];exact h.1
 | .list xs,v,as,m,h=>by
  simp only[IsT] at h;simp only[aK]
  obtain⟨a,vs,bs,e1,h1,h2,rfl⟩:=h
  exact⟨a,vs,e1,fU.of (m a K9 _ h1),aA.toB e xs vs bs (λb hb=>m b (K8 _ hb)) h2⟩
 | .tuple xs,v,as,m,h=>by
  simp only[IsT] at h;simp only[aK]
  obtain⟨a,vs,e1,h1,h2⟩:=h
  exact⟨a,vs,e1,h1.toB e,aA.toB e xs vs as m h2⟩
 | .dict kvs,v,as,m,h=>by
  simp only[IsT] at h;simp only[aK]
  obtain⟨a,ks,bs,e1,h1,h2,rfl⟩:=h
  exact⟨a,ks,e1,.inl (m a K9 _ h1),aN.toB e kvs ks.1 bs (λb hb=>m b (K8 _ hb)) h2⟩
theorem aA.toB (e:∀a o,H a=some o->¬ fm o->B' a=some o):∀(ds:List PyData) (vs:List V) (as:List Addr),(∀a∈as,∀o,H a=some o->B' a=some o)->aA K H ds vs as->ax K B' ds vs
 | [],vs,as,_,h=>by simp only[aA] at h;simp only[ax];exact h.1
 | d :: ds,vs,as,m,h=>by
  simp only[aA] at h;simp only[ax]
  obtain⟨v,r,a1,a2,e1,rfl,h1,h2⟩:=h
  exact⟨v,r,e1,IsT.toB e d v a1 (λb hb=>m b (KY _ hb)) h1,aA.toB e ds r a2 (λb hb=>m b (Kk _ hb)) h2⟩
theorem aN.toB (e:∀a o,H a=some o->¬ fm o->B' a=some o):∀(ds:List (PyData×PyData)) (ks:List (PyData×V×V)) (as:List Addr),(∀a∈as,∀o,H a=some o->B' a=some o)->aN K H ds ks as->aW K B' ds ks
 | [],ks,as,_,h=>by simp only[aN] at h;simp only[aW];exact h.1
 | (k,d) :: r,ks,as,m,h=>by
  simp only[aN] at h;simp only[aW]
  obtain⟨kv,v,q,a1,a2,e1,rfl,h1,h2,h3⟩:=h
  exact⟨kv,v,q,e1,IsT.toB e k kv [] (λb hb=>by cases hb) h1,IsT.toB e d v a1 (λb hb=>m b (KY _ hb)) h2,aN.toB e r q a2 (λb hb=>m b (Kk _ hb)) h3⟩
end
theorem Rep.mu (r:Rep K B φ Γ σ H):∀a o,H a=some o->¬ fm o->gQ φ H a=some o:=λa o e n=>by
 rw[dr]
 ·exact e
 ·intro j hj
  obtain⟨o',e',m⟩:=(r.nb j a hj).2
  rw[e] at e';cases e'
  exact n m
theorem Rep.uC (r:Rep K B φ Γ σ H):Same B (gQ φ H):=λa o e=>by
 rw[dr]
 ·exact r.bs a o e
 ·intro j hj
  rw[(r.nb j a hj).1] at e
  cases e
theorem Rep.base (r:Rep K B φ Γ σ H)(s:Same B B')(s':Same B' H)(n:∀j,∀a∈φ j,B' a=none):Rep K B' φ Γ σ H where
 bs:=s'
 len:=r.len
 sl:=λi o d e=>by
  obtain⟨v,h1,h2⟩:=r.sl i o d e
  refine⟨v,h1,?_⟩
  cases o with
  | true=>exact h2
  | false=>rw[Z5 K3] at h2⊢;exact aK.same s _ _ h2
 nd:=r.nd
 nb:=λi a ha=>⟨n i a ha,(r.nb i a ha).2⟩
 dj:=r.dj
theorem Rep.cut (r:Rep K B φ Γ σ H):Rep K (gQ φ H) φ Γ σ H:=r.base r.uC (jE _ _) λj a ha=>zX ha
noncomputable def Bc (φ:Nat->List Addr)(i:Nat):Nat->List Addr:=λj=>if j=i then [] else φ j
theorem fF (h:a∈Bc φ i j):j≠i/\a∈φ j:=by
 unfold Bc at h
 split at h
 ·cases h
 ·rename_i n;exact⟨n,h⟩
theorem Rep.less (r:Rep K B φ Γ σ H)(hψ:∀j,ψ j=φ j∨ψ j=[])(Γ':bL)(hl:Γ'.length=Γ.length)
  (hs:∀i o d,Γ'[i]? =some (some (o,d))->(Γ[i]? =some (some (o,d))/\(o=true->ψ i=φ i))∨(o=false/\ψ i=[]/\∃o',Γ[i]? =some (some (o',d)))) :
  Same B (gQ ψ H)/\Rep K (gQ ψ H) ψ Γ' σ H:=by
 have sub:∀j a,a∈ψ j->a∈φ j:=λj a ha=>by
  rcases hψ j with e | e
  ·rw[e] at ha;exact ha
  ·rw[e] at ha;cases ha
 have s1:Same B (gQ ψ H):=λa o e=>by
  rw[dr]
  ·exact r.bs a o e
  ·intro j hj
   rw[(r.nb j a (sub j a hj)).1] at e
   cases e
 have mu:∀a o,H a=some o->¬ fm o->gQ ψ H a=some o:=λa o e n=>by
  rw[dr]
  ·exact e
  ·intro j hj
   obtain⟨o',e',m⟩:=(r.nb j a (sub j a hj)).2
   rw[e] at e';cases e'
   exact n m
 refine⟨s1,jE _ _,hl.trans r.len,λi o d e=> ?_,λj=> ?_,λj a ha=>⟨zX ha,(r.nb j a (sub j a ha)).2⟩,λi j n a ha hb=>r.dj i j n a (sub i a ha) (sub j a hb)⟩
 ·rcases hs i o d e with⟨e1,e2⟩ | ⟨rfl,e2,o',e3⟩
  ·obtain⟨v,h1,h2⟩:=r.sl i o d e1
   refine⟨v,h1,?_⟩
   cases o with
   | true=>rw[Z4 rfl] at h2⊢;rw[e2 rfl];exact h2
   | false=>rw[Z5 K3] at h2⊢;exact aK.same s1 _ _ h2
  ·obtain⟨v,h1,h2⟩:=r.sl i o' d e3
   refine⟨v,h1,?_⟩
   rw[Z5 K3]
   cases o' with
   | false=>rw[Z5 K3] at h2;exact aK.same s1 _ _ h2
   | true=>
    rw[Z4 rfl] at h2
    refine IsT.toB mu _ _ _ (λa ha o e=> ?_) h2
    rw[dr]
    ·exact e
    ·intro j hj
     by_cases hji:j=i
     ·subst hji;rw[e2] at hj;cases hj
     ·exact r.dj i j (Ne.symm hji) a ha (sub j a hj)
 ·rcases hψ j with e | e
  ·rw[e];exact r.nd j
  ·rw[e];exact X2
theorem CP (i:Nat)(Γ:bL):(yB i Γ).length=Γ.length:=by
 unfold yB
 split <;> simp
theorem Rep.yB (r:Rep K B φ Γ σ H)(i:Nat):Same B (gQ (Bc φ i) H)/\Rep K (gQ (Bc φ i) H) (Bc φ i) (yB i Γ) σ H:=by
 refine r.less (λj=> ?_) _ (CP i Γ) λj o d e=> ?_
 ·unfold Bc
  by_cases h:j=i
  ·exact .inr (Z4 h)
  ·exact .inl (Z5 h)
 ·unfold Y.yB at e
  split at e
  ·rename_i o' d' hg
   by_cases h:j=i
   ·subst h
    have hj:j < Γ.length:=(Xz.mp hg).1
    rw[U8 hj] at e
    cases e
    exact .inr ⟨rfl,Z4 rfl,o',hg⟩
   ·rw[U7 (Ne.symm h)] at e
    exact .inl ⟨e,λ_=>Z5 h⟩
  ·rename_i hg
   by_cases h:j=i
   ·subst h
    exact absurd e (hg o d)
   ·exact .inl ⟨e,λ_=>Z5 h⟩
theorem Rep.yC:∀(l:List Nat) {B:Hp} {φ:Nat->List Addr} {Γ:bL},Rep K B φ Γ σ H->∃ψ,Same B (gQ ψ H)/\Rep K (gQ ψ H) ψ (yC l Γ) σ H/\(∀j a,a∈ψ j->a∈φ j)/\∀j∈l,ψ j=[]
 | [],B,φ,Γ,r=>⟨φ,r.uC,r.cut,λ_ _ h=>h,λj hj=>by cases hj⟩
 | i :: l,B,φ,Γ,r=>by
  obtain⟨s1,r1⟩:=r.yB i
  obtain⟨ψ,s2,r2,h3,h4⟩:=Rep.yC l r1
  refine⟨ψ,s1.trans s2,r2,λj a ha=>(fF (h3 j a ha)).2,λj hj=> ?_⟩
  rcases Kx.mp hj with rfl | hj
  ·cases e:ψ j with
   | nil=>rfl
   | cons b t=>
    have:=fF (h3 j b (by rw[e];exact K9))
    exact absurd rfl this.1
  ·exact h4 j hj
theorem Rep.uv (r:Rep K B φ Γ σ H):Same B H/\Rep K H (λ_=> []) (uv Γ) σ H:=by
 have h:=r.less (ψ:=λ_=> []) (λj=> .inr rfl) (Y.uv Γ) (by simp[Y.uv]) λj o d e=>by
  unfold Y.uv at e
  rw[KZ] at e
  cases hg:Γ[j]? with
  | none=>rw[hg] at e;cases e
  | some s=>
   rw[hg] at e
   cases s with
   | none=>cases e
   | some p=>cases e;exact .inr ⟨rfl,rfl,p.1,rfl⟩
 have e:gQ (λ_=> []) H=H:=by
  funext a
  exact dr λj hj=>by cases hj
 rw[e] at h
 exact h
def Av (K:Frag)(B:Hp)(φ:Nat->List Addr)(H:Hp):Kd->PyData->V->Prop
 | .fr l,d,v=>∃as,IsT K H d v as/\as.Nodup/\∀a∈as,(∃i∈l,a∈φ i)∨(B a=none/\∀j,a∉φ j)
 | .base,d,v=>aK K B d v
 | .any,d,v=>aK K H d v
theorem VR.av (r:Rep K B φ Γ σ H0)(h:VR K B φ H0 H k d v):Av K B φ H k d v:=by
 cases k with
 | fr l=>
  obtain⟨as,h1,h2,h3⟩:=h
  refine⟨as,h1,h2,λa ha=>(h3 a ha).imp id λz=>⟨r.bs.free z,λj hj=> ?_⟩⟩
  obtain⟨o,e,_⟩:=(r.nb j a hj).2
  rw[z] at e;cases e
 | base=>exact h
 | any=>exact h
theorem Rep.put (r:Rep K B φ Γ σ H)(i:Nat)(h:IsT K H d v as)(nd:as.Nodup)(hb:∀a∈as,B a=none/\∀j,j≠i->a∉φ j) :
  Rep K B (λj=>if j=i then as else φ j) (Γ.set i (some (true,d))) (σ.set i (some v)) H where
 bs:=r.bs
 len:=by rw[Uu,Uu];exact r.len
 sl:=λj o d' e=>by
  by_cases hj:j=i
  ·subst hj
   by_cases hlt:j < Γ.length
   ·rw[U8 hlt] at e
    cases e
    refine⟨v,by rw[U8 (by rw[←r.len];exact hlt)],?_⟩
    rw[Z4 rfl,Z4 rfl];exact h
   ·rw[XY (by rw[Uu];omega)] at e
    cases e
  ·rw[U7 (Ne.symm hj)] at e
   obtain⟨w,h1,h2⟩:=r.sl j o d' e
   refine⟨w,by rw[U7 (Ne.symm hj)];exact h1,?_⟩
   simp only[Z5 hj]
   exact h2
 nd:=λj=>by
  by_cases hj:j=i
  ·simp only[Z4 hj];exact nd
  ·simp only[Z5 hj];exact r.nd j
 nb:=λj a ha=>by
  by_cases hj:j=i
  ·simp only[Z4 hj] at ha;exact⟨(hb a ha).1,IsT.live _ _ _ h a ha⟩
  ·simp only[Z5 hj] at ha;exact r.nb j a ha
 dj:=λj j' n a ha hb'=>by
  by_cases hj:j=i
  ·simp only[Z4 hj] at ha
   by_cases hj':j'=i
   ·exact n (hj.trans hj'.symm)
   ·simp only[Z5 hj'] at hb';exact(hb a ha).2 j' hj' hb'
  ·simp only[Z5 hj] at ha
   by_cases hj':j'=i
   ·simp only[Z4 hj'] at hb';exact(hb a hb').2 j hj ha
   ·simp only[Z5 hj'] at hb';exact r.dj j j' n a ha hb'
theorem Rep.IU (r:Rep K B φ Γ σ H)(i:Nat)(h:aK K B d v):Rep K B (Bc φ i) (Γ.set i (some (false,d))) (σ.set i (some v)) H where
 bs:=r.bs
 len:=by rw[Uu,Uu];exact r.len
 sl:=λj o d' e=>by
  by_cases hj:j=i
  ·subst hj
   by_cases hlt:j < Γ.length
   ·rw[U8 hlt] at e
    cases e
    refine⟨v,by rw[U8 (by rw[←r.len];exact hlt)],?_⟩
    rw[Z5 K3];exact h
   ·rw[XY (by rw[Uu];omega)] at e
    cases e
  ·rw[U7 (Ne.symm hj)] at e
   obtain⟨w,h1,h2⟩:=r.sl j o d' e
   refine⟨w,by rw[U7 (Ne.symm hj)];exact h1,?_⟩
   unfold Bc
   simp only[Z5 hj]
   exact h2
 nd:=λj=>by
  unfold Bc
  by_cases hj:j=i
  ·simp only[Z4 hj];exact X2
  ·simp only[Z5 hj];exact r.nd j
 nb:=λj a ha=>r.nb j a (fF ha).2
 dj:=λj j' n a ha hb'=>r.dj j j' n a (fF ha).2 (fF hb').2
theorem Rep.kill (r:Rep K B φ Γ σ H)(i:Nat):Rep K B (Bc φ i) (Γ.set i none) σ H where
 bs:=r.bs
 len:=by rw[Uu];exact r.len
 sl:=λj o d' e=>by
  by_cases hj:j=i
  ·subst hj
   by_cases hlt:j < Γ.length
   ·rw[U8 hlt] at e;cases e
   ·rw[XY (by rw[Uu];omega)] at e;cases e
  ·rw[U7 (Ne.symm hj)] at e
   obtain⟨w,h1,h2⟩:=r.sl j o d' e
   refine⟨w,h1,?_⟩
   unfold Bc
   simp only[Z5 hj]
   exact h2
 nd:=λj=>by
  unfold Bc
  by_cases hj:j=i
  ·simp only[Z4 hj];exact X2
  ·simp only[Z5 hj];exact r.nd j
 nb:=λj a ha=>r.nb j a (fF ha).2
 dj:=λj j' n a ha hb'=>r.dj j j' n a (fF ha).2 (fF hb').2
theorem j7 (r:Rep K B φ Γ σ H)(i:Nat)(h:Av K B φ H k d v):∃B' φ',Same B B'/\Rep K B' φ' (jg Γ i k d) (σ.set i (some v)) H:=by
 match k,h with
 | .fr [],h=>
  obtain⟨as,h1,h2,h3⟩:=h
  exact⟨B,_,Same.refl B,r.put i h1 h2 λa ha=>by
   rcases h3 a ha with⟨_,z,_⟩ | z
   ·cases z
   ·exact⟨z.1,λj _=>z.2 j⟩⟩
 | .fr (j :: l),h=>
  obtain⟨as,h1,h2,h3⟩:=h
  obtain⟨ψ,s1,r1,sub,hl⟩:=r.yC (j :: l)
  refine⟨_,_,s1,r1.IU i ?_⟩
  refine IsT.toB (λa o e n=> ?_) _ _ _ (λa ha o e=> ?_) h1
  ·rw[dr]
   ·exact e
   ·intro j' hj'
    obtain⟨o',e',m⟩:=(r.nb j' a (sub j' a hj')).2
    rw[e] at e';cases e'
    exact n m
  ·rw[dr]
   ·exact e
   ·intro j' hj'
    rcases h3 a ha with⟨i',hi',z⟩ | z
    ·by_cases hij:i'=j'
     ·subst hij;rw[hl _ hi'] at hj';cases hj'
     ·exact r.dj i' j' hij a z (sub j' a hj')
    ·exact z.2 j' (sub j' a hj')
 | .base,h=>exact⟨B,_,Same.refl B,r.IU i h⟩
 | .any,h=>
  obtain⟨s1,r1⟩:=r.uv
  exact⟨H,_,s1,r1.IU i h⟩
end
section
variable {X:Cx}{K:Frag}{Ew:Str->Hp->Prop}{pos:Pos}{st:Stmt}{rest:List Stmt}{e:Expr}{fe:EF}{f g:SF}{t:TF}
theorem RV.base (s:Same B B')(h:RV K B' H' o d v):RV K B H' o d v:=by
 unfold RV at h⊢
 cases o with
 | true=>
  rw[Z4 rfl] at h⊢
  obtain⟨as,h1,h2,h3⟩:=h
  exact⟨as,h1,h2,λa ha=>s.free (h3 a ha)⟩
 | false=>rw[Z5 K3] at h⊢;exact h
theorem cI.base (s:Same B B')(h:cI K Ew B m D):cI K Ew B' m D:=by
 match m,h with
 | some (.ok (.nx Γ)),h=>exact λB2 φ σ H s2 r=>h B2 φ σ H (s.trans s2) r
 | some (.ok (.bk Γ)),h=>exact λB2 φ σ H s2 r=>h B2 φ σ H (s.trans s2) r
 | some (.ok (.ct Γ)),h=>exact λB2 φ σ H s2 r=>h B2 φ σ H (s.trans s2) r
 | some (.ok (.rt o d)),h=>exact λv H' s' rv=>h v H' (s.trans s') (rv.base s)
 | some (.ex c),h=>exact λH' s'=>h H' (s.trans s')
 | none,h=>exact h
theorem bh:Bb X K Ew [] cc:=zD.imp λD σ H q=>by
 obtain⟨B,φ,Γ,r,q⟩:=q
 exact q B φ σ H (Same.refl B) r
theorem ae (h1:DS X K Ew st f)(h2:Bb X K Ew rest g):Bb X K Ew (st :: rest) (aw f g):=(pO h1 h2).imp λD σ H q=>by
 obtain⟨B,φ,Γ,r,q⟩:=q
 refine⟨B,φ,Γ,r,?_⟩
 unfold aw at q
 match hm:f Γ,q with
 | some (.ok (.nx Γ')),q=>exact λB' φ' σ' H' s' r'=>⟨B',φ',Γ',r',cI.base s' q⟩
 | some (.ok (.bk Γ')),q=>exact q
 | some (.ok (.ct Γ')),q=>exact q
 | some (.ok (.rt o d)),q=>exact q
 | some (.ex c),q=>exact q
 | none,q=>cases q
theorem aj (h1:DS X K Ew st f):Bb X K Ew [st] f:=uj h1
theorem gH {g:Kd×PyData->bL->M Out}{σ:St}{R:VK}(h:LY K Ew (λΓ=>ao (fe Γ) λx=>g x Γ) D σ H)
  (i:∀B φ Γ k d v H1,Rep K B φ Γ σ H1->Av K B φ H1 k d v->cI K Ew B (g (k,d) Γ) D->R v H1):tD K Ew fe σ H R:=by
 obtain⟨B,φ,Γ,r,q⟩:=h
 refine⟨B,φ,Γ,r,?_⟩
 have q:cI K Ew B (ao (fe Γ) λx=>g x Γ) D:=q
 match hm:fe Γ,q with
 | some (.ok (k,d)),q=>exact .inl ⟨k,d,rfl,λv H1 s hv=>i B φ Γ k d v H1 (r.same s) (hv.av r) q⟩
 | some (.ex c),q=>exact .inr ⟨c,rfl,q⟩
 | none,q=>cases q
theorem Av.toD (s:Same B H)(h:Av K B φ H k d v):aK K H d v:=by
 cases k with
 | fr l=>obtain⟨as,h1,_⟩:=h;exact IsT.toD _ _ _ h1
 | base=>exact aK.same s _ _ h
 | any=>exact h
theorem aM (he:DE X K Ew e fe):DS X K Ew (.Return (some e) pos) (bq fe):=(Ci he).imp λD σ H q=>
 gH (g:=λx _=>ah (.rt (mI x.1) x.2)) q λB φ Γ k d v H1 r a q=>by
  refine q v H1 r.bs ?_
  unfold RV
  cases k with
  | fr l=>
   simp only[mI,if_true]
   obtain⟨as,h1,h2,h3⟩:=a
   refine⟨as,h1,h2,λa ha=> ?_⟩
   rcases h3 a ha with⟨i,_,z⟩ | z
   ·exact(r.nb i a z).1
   ·exact z.1
  | base=>simp only[mI,XW,if_false];exact aK.same r.bs _ _ a
  | any=>simp only[mI,XW,if_false];exact a
theorem au (hN:X.N.Nodup)(hi:X.N[i]? =some x)(hx:Loc X.env.scope x)(he:DE X K Ew e fe)(hs:swapsWith e (some (.Name x pos')) pos.line X.env=pure false:=by rfl)(hf:X.fn x=true∨X.env.scope.names.lookup x=some .local:=by first | exact .inl rfl | exact .inr rfl | assumption) :
  DS X K Ew (.Assign [.Name x pos'] e pos) (aB i fe):=(yp (i:=i) hN hi hx he hs hf).imp λD σ H q=>
 gH (g:=λx Γ=>ah (.nx (jg Γ i x.1 x.2))) q λB φ Γ k d v H1 r a q=>by
  obtain⟨B',φ',s',r'⟩:=j7 r i a
  exact q B' φ' _ H1 s' r'
theorem nP (hN:X.N.Nodup)(hi:X.N[i]? =some x)(hx:Loc X.env.scope x)(hj:PE X (.Name y pos2) (mh j))(hs:swapsWith (.Name y pos2) (some (.Name x pos')) pos.line X.env=pure false:=by rfl)(hf:X.fn x=true∨X.env.scope.names.lookup x=some .local:=by first | exact .inl rfl | exact .inr rfl | assumption) :
  DS X K Ew (.Assign [.Name x pos'] (.Name y pos2) pos) (sf i j):=(yp (i:=i) hN hi hx hj hs hf).imp λD σ H q=>by
 obtain⟨B,φ,Γ,r,q⟩:=q
 unfold sf at q
 match hm:Γ[j]?,q with
 | some (some (true,d)),q=>
  obtain⟨v,h1,h2⟩:=r.sl j true d hm
  rw[Z4 rfl] at h2
  refine⟨v,h1,?_⟩
  by_cases hn:bp d=true
  ·simp only[hn,if_true] at q
   exact q B _ _ H (Same.refl B) (r.put i (aK.toT _ _ hn (IsT.toD _ _ _ h2)) X2 λa ha=>by cases ha)
  ·simp only[hn,if_false] at q
   by_cases hij:i=j
   ·simp only[hij,if_true] at q;exact False.elim q
   ·simp only[hij,if_false] at q
    refine q B _ _ H (Same.refl B) ((r.kill j).put i h2 (r.nd j) λa ha=>⟨(r.nb j a ha).1,λj' _ hj'=> ?_⟩)
    obtain⟨n1,n2⟩:=fF hj'
    exact r.dj j' j n1 a n2 ha
 | some (some (false,d)),q=>
  obtain⟨v,h1,h2⟩:=r.sl j false d hm
  rw[Z5 K3] at h2
  refine⟨v,h1,?_⟩
  obtain⟨B',φ',s',r'⟩:=j7 (k:=cQ .base d) r i (VR.av r (VR.cQ r.bs (show VR K B φ H H .base d v from h2)))
  exact q B' φ' _ H s' r'
 | some none,q|none,q=>cases q
theorem cJ (hc:DT X K Ew c t)(ha:Bb X K Ew a f)(hb:Bb X K Ew b g):DS X K Ew (.If c a b pos) (hJ t f g):=(Hd hc ha hb).imp λD σ H q=>by
 obtain⟨B,φ,Γ,r,q⟩:=q
 refine⟨B,φ,Γ,r,?_⟩
 unfold hJ at q
 match hm:t Γ,q with
 | some (.ok true),q=>exact .inl ⟨true,rfl,λH1 s=>by show(if true=true then _ else _);rw[Z4 rfl];exact⟨B,φ,Γ,r.same s,q⟩⟩
 | some (.ok false),q=>exact .inl ⟨false,rfl,λH1 s=>by show(if false=true then _ else _);rw[Z5 K3];exact⟨B,φ,Γ,r.same s,q⟩⟩
 | some (.ex c),q=>exact .inr ⟨c,rfl,q⟩
 | none,q=>cases q
end
def O0 (K:Frag)(B:Hp)(φ:Nat->List Addr)(H:Hp):Kd->List PyData->List V->Prop
 | .fr l,ds,vs=>∃as,aA K H ds vs as/\as.Nodup/\∀a∈as,(∃i∈l,a∈φ i)∨(B a=none/\∀j,a∉φ j)
 | .base,ds,vs=>ax K B ds vs
 | .any,ds,vs=>ax K H ds vs
def tG (K:Frag)(g:GF):TG:=λv σ H Q=>∃B φ Γ k d Γ',Rep K B φ Γ σ H/\Av K B φ H k d v/\g k d Γ=some Γ'/\∀B' φ' σ',Same B B'->Rep K B' φ' Γ' σ' H->Q σ' H
def DG (X:Cx)(K:Frag)(e:Expr)(g:GF):Prop:=PG X e (tG K g)
theorem PG.imp (h:PG X e t)(i:∀v σ H Q,t' v σ H Q->t v σ H Q):PG X e t':=λpins s σ H v u Q I r q=>h pins s σ H v u Q I r (i v σ H Q q)
def uD:List Nat->Ib
 | []=>Lw
 | i :: is=>He (pP i) (uD is)
noncomputable def qb (σ:St):List Nat->List V->St
 | i :: is,v :: vs=>qb (σ.set i (some v)) is vs
 | _,_=>σ
section
variable {X:Cx}{K:Frag}{Ew:Str->Hp->Prop}{pos:Pos}
theorem cn (hN:X.N.Nodup)(hi:X.N[i]? =some x)(hx:Loc X.env.scope x)(hf:X.fn x=true∨X.env.scope.names.lookup x=some .local:=by first | exact .inl rfl | exact .inr rfl | assumption):DG X K (.Name x pos) (cy i) :=
 (bE (i:=i) hN hi hx hf).imp λv σ H Q q=>by
  obtain⟨B,φ,Γ,k,d,Γ',r,a,e,q⟩:=q
  cases e
  obtain⟨B',φ',s',r'⟩:=j7 r i a
  exact q B' φ' _ s' r'
theorem mm:∀(is:List Nat) (vs:List V) (σ:St) (H:Hp) (Q:St->Hp->Prop),vs.length=is.length->Q (qb σ is vs) H->uD is vs σ H Q
 | [],[],σ,H,Q,_,q=>⟨rfl,q⟩
 | i :: is,v :: vs,σ,H,Q,hl,q=>⟨v,vs,rfl,mm is vs _ H Q (by simpa using hl) q⟩
 | [],_ :: _,_,_,_,hl,_=>by simp at hl
 | _ :: _,[],_,_,_,hl,_=>by simp at hl
def O1:Kd->Prop
 | .fr []=>True
 | .fr (_ :: _)=>False
 | _=>True
theorem jF (hk:O1 k):∀(is:List Nat) (ds:List PyData) (vs:List V) {B:Hp} {φ:Nat->List Addr} {Γ:bL} {σ:St},ds.length=is.length->Rep K B φ Γ σ H->O0 K B φ H k ds vs->
  ∃B' φ',Same B B'/\Rep K B' φ' (pX Γ is k ds) (qb σ is vs) H
 | [],[],vs,B,φ,Γ,σ,_,r,a=>⟨B,φ,Same.refl B,by unfold qb pX;exact r⟩
 | [],_ :: _,_,_,_,_,_,hl,_,_=>by simp at hl
 | _ :: _,[],_,_,_,_,_,hl,_,_=>by simp at hl
 | i :: is,d :: ds,vs,B,φ,Γ,σ,hl,r,a=>by
  have hl':ds.length=is.length:=by simpa using hl
  match k,hk,a with
  | .fr [],_,a=>
   obtain⟨as,h1,h2,h3⟩:=a
   simp only[aA] at h1
   obtain⟨v,vr,a1,a2,rfl,rfl,hv,tl⟩:=h1
   have h3':∀a∈a1++a2,B a=none/\∀j,a∉φ j:=λa ha=>by
    rcases h3 a ha with⟨_,z,_⟩ | z
    ·cases z
    ·exact z
   have hnd:=XZ.mp h2
   by_cases hn:bp d=true
   ·have e1:a1=[]:=IsT.nil _ _ _ hn hv
    subst e1
    have r1:=r.put i hv X2 λa ha=>by cases ha
    obtain⟨B',φ',s',r'⟩:=jF (k:=.fr []) trivial is ds vr hl' r1 ⟨a2,tl,hnd.2.1,λa ha=> .inr ⟨(h3' a (Kk _ ha)).1,λj=>by
     by_cases hj:j=i
     ·simp only[Z4 hj];intro z;cases z
     ·simp only[Z5 hj];exact(h3' a (Kk _ ha)).2 j⟩⟩
    refine⟨B',φ',s',?_⟩
    simp only[pX,qb,cQ,hn,if_true,jg]
    exact r'
   ·have r1:=r.put i hv hnd.1 λa ha=>⟨(h3' a (KY _ ha)).1,λj _=>(h3' a (KY _ ha)).2 j⟩
    obtain⟨B',φ',s',r'⟩:=jF (k:=.fr []) trivial is ds vr hl' r1 ⟨a2,tl,hnd.2.1,λa ha=> .inr ⟨(h3' a (Kk _ ha)).1,λj=>by
     by_cases hj:j=i
     ·simp only[Z4 hj];intro z;exact hnd.2.2 a z a ha rfl
     ·simp only[Z5 hj];exact(h3' a (Kk _ ha)).2 j⟩⟩
    refine⟨B',φ',s',?_⟩
    simp only[pX,qb,cQ,hn,if_false,jg]
    exact r'
  | .base,_,a=>
   have a':ax K B (d :: ds) vs:=a
   simp only[ax] at a'
   obtain⟨v,vr,rfl,hv,tl⟩:=a'
   obtain⟨B1,φ1,s1,r1⟩:=j7 (k:=cQ .base d) r i (VR.av r (VR.cQ r.bs (show VR K B φ H H .base d v from hv)))
   obtain⟨B',φ',s',r'⟩:=jF (k:=.base) trivial is ds vr hl' r1 (ax.same s1 _ _ tl)
   exact⟨B',φ',s1.trans s',r'⟩
  | .any,_,a=>
   have a':ax K H (d :: ds) vs:=a
   simp only[ax] at a'
   obtain⟨v,vr,rfl,hv,tl⟩:=a'
   obtain⟨B1,φ1,s1,r1⟩:=j7 (k:=cQ .any d) r i (VR.av r (VR.cQ r.bs (show VR K B φ H H .any d v from hv)))
   obtain⟨B',φ',s',r'⟩:=jF (k:=.any) trivial is ds vr hl' r1 tl
   exact⟨B',φ',s1.trans s',r'⟩
theorem Av.tup (s:Same B H)(h:Av K B φ H k (.tuple ds) v):∃a vs,v= .ref a/\eK K H a vs/\O0 K B φ H (zO k) ds vs/\vs.length=ds.length:=by
 match k,h with
 | .fr [],h=>
  obtain⟨as,h1,h2,h3⟩:=h
  obtain⟨a,vs,e,q,t⟩:=j6 h1
  exact⟨a,vs,e,q,⟨as,t,h2,h3⟩,ck t⟩
 | .fr (j :: l),h=>
  obtain⟨as,h1,h2,h3⟩:=h
  obtain⟨a,vs,e,q,t⟩:=j6 h1
  exact⟨a,vs,e,q,aA.toD _ _ _ t,ck t⟩
 | .base,h=>
  obtain⟨a,vs,e,q,t⟩:=aL (show aK K B (.tuple ds) v from h)
  exact⟨a,vs,e,s.mj q,t,am t⟩
 | .any,h=>
  obtain⟨a,vs,e,q,t⟩:=aL (show aK K H (.tuple ds) v from h)
  exact⟨a,vs,e,q,t,am t⟩
theorem wd (k:Kd):O1 (zO k):=by
 match k with
 | .fr []=>trivial
 | .fr (_ :: _)=>trivial
 | .base=>trivial
 | .any=>trivial
theorem oC {es:List Expr}{k:Nat}{is:List Nat}(hc:X.calm=true)(hg:KS X es (uD is))(hn:(assignEach es X.env).length=is.length:=by rfl)(hst:(assignEach es X.env).findIdx? (·.1)=none:=by rfl)(hK:X.K=K:=by rfl) :
  DG X K (.Tuple es k pos) (kI is):=(Ck (n:=is.length) hc hg hn hst).imp λv σ H Q q=>by
 obtain⟨B,φ,Γ,k,d,Γ',r,a,e,q⟩:=q
 cases d <;> simp only[kI] at e <;> try (cases e;done)
 rename_i ds
 split at e
 ·rename_i hl
  cases e
  obtain⟨a',vs,rfl,hq,av,hlen⟩:=a.tup r.bs
  refine⟨a',vs,rfl,by rw[hK];exact hq,by omega,mm _ _ _ _ _ (!1) ?_⟩
  obtain⟨B',φ',s',r'⟩:=jF (wd k) is ds vs hl r av
  exact q B' φ' _ s' r'
 ·cases e
theorem IV (he:DE X K Ew e fe)(hg:DG X K tg g)(hs:swapsWithSole [tg] e pos.line X.env=pure false:=by rfl)(hw:swappedStores [tg] e X.env=pure none:=by rfl)
  (h1:(assignEach [tg] X.env).map (·.2)=[assign tg X.env]:=by rfl):DS X K Ew (.Assign [tg] e pos) (Fp g fe):=(uk he hg hs hw h1).imp λD σ H q=>
 gH (g:=λx Γ=>ao (mo (g x.1 x.2 Γ)) λΓ'=>ah (.nx Γ')) q λB φ Γ k d v H1 r a q=>by
  cases e:g k d Γ with
  | none=>simp only[e] at q;exact False.elim q
  | some Γ'=>
   simp only[e] at q
   exact⟨B,φ,Γ,k,d,Γ',r,a,e,λB' φ' σ' s' r'=>q B' φ' σ' H1 s' r'⟩
structure wg (K:Frag)(B:Hp)(J:It)(ds:List PyData):Prop where
 go:∀i H,i < ds.length->Same B H->J.go i H
 yl:∀i H x H',i < ds.length->Same B H->J.Lx i H x H'->Same H H'/\∃d,ds[i]? =some d/\∀B2,Same B B2->(∀a o,H a=none->H' a=some o->B2 a=some o)->aK K B2 d x
 stop:∀H,Same B H->J.stop ds.length H
def yH (K:Frag)(Ew:Str->Hp->Prop)(B H:Hp)(Γ:bL)(σ:St)(R:It->Hp->Prop)(m:M (Kd×List PyData)):Prop:=match m with
 | some (.ok (k,ds))=>∀J H1 B1 ψ,Same H H1->Same B B1->Rep K B1 ψ (lZ k Γ) σ H1->wg K B1 J ds->R J H1
 | some (.ex c)=>∀H',Same B H'->Ew c H'
 | none=>False
def tI (K:Frag)(Ew:Str->Hp->Prop)(it:IF):TI:=λσ H R=>∃B φ Γ,Rep K B φ Γ σ H/\yH K Ew B H Γ σ R (it Γ)
def DI (X:Cx)(K:Frag)(Ew:Str->Hp->Prop)(tg e:Expr)(it:IF):Prop:=PI X tg e (tI K Ew it)
theorem PI.imp (h:PI X tg e t)(i:∀σ H R,t' σ H R->t σ H R):PI X tg e t':=λpins s σ H R I q=>h pins s σ H R I (i σ H R q)
theorem Rep.lZ (r:Rep K B φ Γ σ H)(h:Av K B φ H k d v) :
  ∃B1 ψ,Same B B1/\Rep K B1 ψ (lZ k Γ) σ H/\aK K B1 d v:=by
 match k,h with
 | .fr [],h=>
  obtain⟨as,h1,h2,h3⟩:=h
  refine⟨gQ φ H,φ,r.uC,r.cut,IsT.toB r.mu _ _ _ (λa ha o e=> ?_) h1⟩
  rw[dr]
  ·exact e
  ·rcases h3 a ha with⟨_,z,_⟩ | z
   ·cases z
   ·exact z.2
 | .fr (j :: l),h=>
  obtain⟨as,h1,h2,h3⟩:=h
  obtain⟨ψ,s1,r1,sub,hl⟩:=r.yC (j :: l)
  refine⟨_,_,s1,r1,IsT.toB (λa o e n=> ?_) _ _ _ (λa ha o e=> ?_) h1⟩
  ·rw[dr]
   ·exact e
   ·intro j' hj'
    obtain⟨o',e',m⟩:=(r.nb j' a (sub j' a hj')).2
    rw[e] at e';cases e'
    exact n m
  ·rw[dr]
   ·exact e
   ·intro j' hj'
    rcases h3 a ha with⟨i',hi',z⟩ | z
    ·by_cases hij:i'=j'
     ·subst hij;rw[hl _ hi'] at hj';cases hj'
     ·exact r.dj i' j' hij a z (sub j' a hj')
    ·exact z.2 j' (sub j' a hj')
 | .base,h=>exact⟨B,φ,Same.refl B,r,h⟩
 | .any,h=>
  obtain⟨s1,r1⟩:=r.uv
  exact⟨H,_,s1,r1,h⟩
theorem sV (h:fU K B a vs)(t:ax K B ds vs):wg K B (Nv K a) ds where
 go:=λi H hi s=>by
  have hl:=am t
  exact⟨vs,vs[i]'(!1),s.seq h,by simp⟩
 yl:=λi H x H' hi s y=>by
  obtain⟨rfl,y⟩:=y
  obtain⟨d,e,hd⟩:=iq t (y vs (s.seq h))
  exact⟨Same.refl _,d,e,λB2 s2 _=>aK.same s2 _ _ hd⟩
 stop:=λH s=>⟨vs,s.seq h,by rw[am t];exact K0 _⟩
theorem CQ (h:eK K B a vs)(t:ax K B ds vs):wg K B (Nw K a) ds where
 go:=λi H hi s=>by
  have hl:=am t
  exact⟨vs,vs[i]'(!1),s.mj h,by simp⟩
 yl:=λi H x H' hi s y=>by
  obtain⟨rfl,y⟩:=y
  obtain⟨d,e,hd⟩:=iq t (y vs (s.mj h))
  exact⟨Same.refl _,d,e,λB2 s2 _=>aK.same s2 _ _ hd⟩
 stop:=λH s=>⟨vs,s.mj h,by rw[am t];exact K0 _⟩
theorem CS :wg K B (MV m n) ((List.range n).map λi=> .int (m+(i:Nat))) where
 go:=λi H hi s=>by
  show i < n
  simpa using hi
 yl:=λi H x H' hi s y=>by
  obtain⟨rfl,rfl⟩:=y
  have hi':i < n:=by simpa using hi
  exact⟨Same.refl _,.int (m+(i:Nat)),by simp[hi'],λB2 s2 _=>bP⟩
 stop:=λH s=>by
  show n<=_
  simp
theorem pE {fe:EF}{g:Kd×PyData->bL->M (Kd×List PyData)}{σ:St}{R:It->Hp->Prop}{R1:VK}(h:tI K Ew (λΓ=>ao (fe Γ) λx=>g x Γ) σ H R)
  (i:∀B φ Γ k d v H1,Rep K B φ Γ σ H1->Same H H1->Av K B φ H1 k d v->yH K Ew B H Γ σ R (g (k,d) Γ)->R1 v H1):tD K Ew fe σ H R1:=by
 obtain⟨B,φ,Γ,r,q⟩:=h
 refine⟨B,φ,Γ,r,?_⟩
 have q:yH K Ew B H Γ σ R (ao (fe Γ) λx=>g x Γ):=q
 match hm:fe Γ,q with
 | some (.ok (k,d)),q=>exact .inl ⟨k,d,rfl,λv H1 s hv=>i B φ Γ k d v H1 (r.same s) s (hv.av r) q⟩
 | some (.ex c),q=>exact .inr ⟨c,rfl,q⟩
 | none,q=>cases q
theorem L1 (h:PI X tg l t)(h':PI X tg l t'):PI X tg l (λσ H R=>t σ H R∨t' σ H R):=λpins s σ H R I q=>by
 rcases q with q | q
 ·exact h pins s σ H R I q
 ·exact h' pins s σ H R I q
theorem jG (hl:DE X K Ew l fe)(hK:X.K=K:=by rfl):DI X K Ew tg l (jB fe):=(L1 (zF hl) (Ih hl)).imp λσ H R q=>by
 have q0:=q
 obtain⟨B0,φ0,Γ0,r0,q0⟩:=q0
 have PC:(∃k xs,fe Γ0=some (.ok (k,.list xs)))∨(∃k xs,fe Γ0=some (.ok (k,.tuple xs)))∨∃c,fe Γ0=some (.ex c):=by
  unfold jB at q0
  match hm:fe Γ0,q0 with
  | some (.ok (k,.list xs)),q0=>exact .inl ⟨k,xs,rfl⟩
  | some (.ok (k,.tuple xs)),q0=>exact .inr (.inl ⟨k,xs,rfl⟩)
  | some (.ex c),q0=>exact .inr (.inr ⟨c,rfl⟩)
  | some (.ok (k,.none)),q0=>exact False.elim q0
  | some (.ok (k,.bool _)),q0=>exact False.elim q0
  | some (.ok (k,.int _)),q0=>exact False.elim q0
  | some (.ok (k,.str _)),q0=>exact False.elim q0
  | some (.ok (k,.dict _)),q0=>exact False.elim q0
  | none,q0=>exact False.elim q0
 rcases PC with⟨k,xs,e⟩ | ⟨k,xs,e⟩ | ⟨c,e⟩
 ·left
  refine⟨B0,φ0,Γ0,r0,.inl ⟨k,_,e,λv H1 s hv=> ?_⟩⟩
  simp only[jB,e] at q0
  obtain⟨B1,ψ,s1,r1,hd⟩:=(r0.same s).lZ (hv.av r0)
  obtain⟨a,vs,rfl,h1,h2⟩:=a8 hd
  rw[hK]
  exact⟨a,rfl,⟨vs,r1.bs.seq h1⟩,q0 _ H1 B1 ψ s s1 r1 (sV h1 h2)⟩
 ·right
  refine⟨B0,φ0,Γ0,r0,.inl ⟨k,_,e,λv H1 s hv=> ?_⟩⟩
  simp only[jB,e] at q0
  obtain⟨B1,ψ,s1,r1,hd⟩:=(r0.same s).lZ (hv.av r0)
  obtain⟨a,vs,rfl,h1,h2⟩:=aL hd
  rw[hK]
  exact⟨a,rfl,⟨vs,r1.bs.mj h1⟩,q0 _ H1 B1 ψ s s1 r1 (CQ h1 h2)⟩
 ·left
  simp only[jB,e] at q0
  exact⟨B0,φ0,Γ0,r0,.inr ⟨c,e,q0⟩⟩
theorem dR (hg:Gl X "range")(hm:X.mg "range" =none)(ha:DE X K Ew a fa)(hs:starEach [a] X.env=[(false,eval a X.env)]:=by rfl):DI X K Ew tg (.Call (.Name "range" p) [a] [] pos) (fi fa) :=
 (A2 hg hm (b_ ha dS hs) hs).imp λσ H R q=>pE (g:=λx _=>A_ x.2) q λB φ Γ k d v H1 r s av q=>by
  replace q:yH K Ew B H Γ σ R (A_ d):=q
  cases d <;> try (exact False.elim q)
  rename_i n
  have hv:=aJ (av.toD r.bs)
  subst hv
  by_cases hn:-(2^62)<=n/\n < 2^62
  ·simp only[A_,Z4 hn] at q
   refine⟨n,rfl,hn.1,hn.2,q _ H1 B φ s (Same.refl B) r ?_⟩
   have:=CS (K:=K) (B:=B) (m:=0) (n:=n.toNat)
   simpa only[Int.zero_add] using this
  ·simp only[A_,Z5 hn] at q
   exact False.elim q
theorem ba (hp:PassesOwn (!7) X.A X.env X.xe)(hc:X.calm=true)(hi:DI X K Ew tg iter it)(hg:DG X K tg g)(hb:Bb X K Ew body fb)
  (hs:∀x,foldedSetIterable iter X.env x=pure x:=by intro _;rfl):DS X K Ew (.For tg iter body [] pos) (bD it g fb):=(yt hp hc hi hg hb hs).imp λD σ H q=>by
 obtain⟨B,φ,Γ,r,q⟩:=q
 refine⟨B,φ,Γ,r,?_⟩
 unfold bD at q
 match hm:it Γ,q with
 | some (.ok (k,ds)),q=>
  intro J H1 B1 ψ s0 s1 r1 io
  have q:cI K Ew B1 (bw g fb ds (lZ k Γ)) D:=cI.base s1 q
  refine⟨λi m σ H=>m=ds.length - i/\i<=ds.length/\∃B2 φ2 Γ2,Same B1 B2/\Rep K B2 φ2 Γ2 σ H/\cI K Ew B1 (bw g fb (ds.drop i) Γ2) D,⟨ds.length,by simp,Xq _,B1,ψ,_,Same.refl B1,r1,by simpa using q⟩,?_⟩
  rintro i m σ2 H2 ⟨rfl,hi2,B2,φ2,Γ2,s2,r2,q2⟩
  by_cases hlt:i < ds.length
  ·refine .inr ⟨io.go i H2 hlt (s2.trans r2.bs),λσ' H'=>∃B3 φ3 Γ3,Same B1 B3/\Rep K B3 φ3 Γ3 σ' H'/\cI K Ew B1 (bw g fb (ds.drop (i+1)) Γ3) D,λσ' H' h'=>⟨ds.length - (i+1),by omega,rfl,hlt,h'⟩,λx H' y=> ?_⟩
   obtain⟨s3,d,e,hd⟩:=io.yl i H2 x H' hlt (s2.trans r2.bs) y
   have r3:=r2.same s3
   have CT:aK K (gQ φ2 H') d x:=hd _ (s2.trans r3.uC) λa o e1 e2=>by
    rw[dr]
    ·exact e2
    ·intro j hj
     obtain⟨o',e',_⟩:=(r2.nb j a hj).2
     rw[e1] at e';cases e'
   have ed:ds.drop i=d :: ds.drop (i+1):=by
    rw[U3 hlt]
    congr 1
    rw[K5 hlt] at e
    exact Option.some.inj e
   rw[ed] at q2
   have q3:=q2
   simp only[bw] at q3
   cases CU:g (cQ .base d) d Γ2 with
   | none=>simp only[CU] at q3;exact False.elim q3
   | some Γ3=>
    simp only[CU,fx,aG] at q3
    refine⟨gQ φ2 H',φ2,Γ2,cQ .base d,d,Γ3,r3.cut,VR.av r3.cut (VR.cQ (jE _ _) (show VR K _ φ2 H' H' .base d x from CT)),CU,λB4 φ4 σ4 s4 r4=> ?_⟩
    have sB:Same B1 B4:=(s2.trans r3.uC).trans s4
    refine⟨B4,φ4,Γ3,r4,?_⟩
    match hbm:fb Γ3,q3 with
    | some (.ok (.nx Γ')),q3=>exact λB' φ' σ' kx s' r'=>⟨B',φ',Γ',sB.trans s',r',q3⟩
    | some (.ok (.ct Γ')),q3=>exact λB' φ' σ' kx s' r'=>⟨B',φ',Γ',sB.trans s',r',q3⟩
    | some (.ok (.bk Γ')),q3=>exact λB' φ' σ' kx s' r'=>q3 B' φ' σ' kx (sB.trans s') r'
    | some (.ok (.rt o d)),q3=>exact λv kx s' rv=>q3 v kx (sB.trans s') (rv.base sB)
    | some (.ex c),q3=>exact λkx s'=>q3 kx (sB.trans s')
    | none,q3=>exact False.elim q3
  ·have e:i=ds.length:=by omega
   subst e
   rw[List.drop_length] at q2
   exact .inl ⟨io.stop H2 (s2.trans r2.bs),q2 B2 φ2 σ2 H2 s2 r2⟩
 | some (.ex c),q=>exact q
 | none,q=>cases q
theorem qc (n:Nat)(hp:PassesOwn (!7) X.A X.env X.xe)(hc:DT X K Ew c t)(hb:Bb X K Ew body fb):DS X K Ew (.While c body [] pos) (nN n t fb):=(Cm hp hc hb).imp λD σ H q=>by
 obtain⟨B,φ,Γ,r,q⟩:=q
 refine⟨λm σ H=>∃B2 φ2 Γ2,Same B B2/\Rep K B2 φ2 Γ2 σ H/\cI K Ew B (dX m t fb Γ2) D,⟨n,B,φ,Γ,Same.refl B,r,q⟩,?_⟩
 rintro m σ2 H2 ⟨B2,φ2,Γ2,s2,r2,q2⟩
 cases m with
 | zero=>exact False.elim q2
 | succ m=>
  refine⟨B2,φ2,Γ2,r2,?_⟩
  simp only[dX] at q2
  match hm:t Γ2,q2 with
  | some (.ok true),q2=>
   refine .inl ⟨true,rfl,λH3 s3=> ?_⟩
   show(if true=true then _ else _)
   rw[Z4 rfl]
   refine⟨λσ' H'=>∃B3 φ3 Γ3,Same B B3/\Rep K B3 φ3 Γ3 σ' H'/\cI K Ew B (dX m t fb Γ3) D,λσ' H' h=>⟨m,Y9 _,h⟩,B2,φ2,Γ2,r2.same s3,?_⟩
   have q3:cI K Ew B (ao (fb Γ2) λo=>(match o with
    | .nx Γ'=>dX m t fb Γ'
    | .ct Γ'=>dX m t fb Γ'
    | .bk Γ'=>ah (.nx Γ')
    | .rt o d=>ah (.rt o d))) D:=q2
   match hbm:fb Γ2,q3 with
   | some (.ok (.nx Γ')),q3=>exact λB' φ' σ' kx s' r'=>⟨B',φ',Γ',s2.trans s',r',q3⟩
   | some (.ok (.ct Γ')),q3=>exact λB' φ' σ' kx s' r'=>⟨B',φ',Γ',s2.trans s',r',q3⟩
   | some (.ok (.bk Γ')),q3=>exact λB' φ' σ' kx s' r'=>q3 B' φ' σ' kx (s2.trans s') r'
   | some (.ok (.rt o d)),q3=>exact λv kx s' rv=>q3 v kx (s2.trans s') (rv.base s2)
   | some (.ex c),q3=>exact λkx s'=>q3 kx (s2.trans s')
   | none,q3=>exact False.elim q3
  | some (.ok false),q2=>
   refine .inl ⟨false,rfl,λH3 s3=> ?_⟩
   show(if false=true then _ else _)
   rw[Z5 K3]
   exact q2 B2 φ2 σ2 H3 s2 (r2.same s3)
  | some (.ex c),q2=>exact .inr ⟨c,rfl,λH' s'=>q2 H' (s2.trans s')⟩
  | none,q2=>exact False.elim q2
end
noncomputable def uE (K:Frag)(B:Hp)(φ:Nat->List Addr):Hp->Hp->List (Kd×PyData)->List V->Prop
 | _,_,[],vs=>vs=[]
 | H,H',x :: xs,vs=>∃v r H1,vs=v :: r/\Same H H1/\Same H1 H'/\VR K B φ H H1 x.1 x.2 v/\uE K B φ H1 H' xs r
noncomputable def tA (K:Frag)(Ew:Str->Hp->Prop)(fs:List EF):TA:=λσ H Q=>∃B φ Γ,Rep K B φ Γ σ H/\match eArgs fs Γ with
 | some (.ok xs)=>∀vs H',Same H H'->uE K B φ H H' xs vs->Q vs H'
 | some (.ex c)=>∀H',Same B H'->Ew c H'
 | none=>False
def DA (X:Cx)(K:Frag)(Ew:Str->Hp->Prop)(es:List Expr)(fs:List EF):Prop:=PA X es (tA K Ew fs)
theorem PA.imp (h:PA X es t)(i:∀σ H Q,t' σ H Q->t σ H Q):PA X es t':=λpos pins s σ H Q I q=>h pos pins s σ H Q I (i σ H Q q)
section
variable {X:Cx}{K:Frag}{Ew:Str->Hp->Prop}{pos:Pos}{e:Expr}{es:List Expr}{fe:EF}{fs:List EF}
theorem ai:DA X K Ew [] []:=dS.imp λσ H Q q=>by
 obtain⟨B,φ,Γ,r,q⟩:=q
 exact q [] H (Same.refl H) (by unfold uE;rfl)
theorem ab (h1:DE X K Ew e fe)(h2:DA X K Ew es fs)(hs:starEach (e :: es) X.env=(false,eval e X.env) :: starEach es X.env:=by rfl):DA X K Ew (e :: es) (fe :: fs):=(b_ h1 h2 hs).imp λσ H Q q=>by
 obtain⟨B,φ,Γ,r,q⟩:=q
 refine⟨B,φ,Γ,r,?_⟩
 simp only[eArgs] at q
 match hm:fe Γ,q with
 | some (.ok (k,d)),q=>
  refine .inl ⟨k,d,rfl,λv H1 s1 hv=>⟨B,φ,Γ,r.same s1,?_⟩⟩
  match hm2:eArgs fs Γ,q with
  | some (.ok xs),q=>exact λvs H2 s2 hvs=>q (v :: vs) H2 (s1.trans s2) (by unfold uE;exact⟨v,vs,H1,rfl,s1,s2,hv,hvs⟩)
  | some (.ex c),q=>exact q
  | none,q=>cases q
 | some (.ex c),q=>exact .inr ⟨c,rfl,q⟩
 | none,q=>cases q
theorem uE.toD :∀{xs:List (Kd×PyData)} {vs:List V} {H H':Hp},Same B H->Same H H'->uE K B φ H H' xs vs->ax K H' (xs.map Prod.snd) vs
 | [],vs,H,H',_,_,h=>by unfold uE at h;subst h;exact bn
 | x :: xs,vs,H,H',s,s',h=>by
  unfold uE at h
  obtain⟨v,r,H1,rfl,s1,s2,hv,tl⟩:=h
  exact a_ (aK.same s2 _ _ (hv.toD (s.trans s1))) (uE.toD (s.trans s1) s2 tl)
theorem uE.fresh :∀{xs:List (Kd×PyData)} {vs:List V} {H H':Hp},bV xs= .fr []->Same H H'->uE K B φ H H' xs vs->∃as,aA K H' (xs.map Prod.snd) vs as/\as.Nodup/\∀a∈as,H a=none
 | [],vs,H,H',_,_,h=>by unfold uE at h;subst h;exact⟨[],jC,X2,λa ha=>by cases ha⟩
 | (k,d) :: xs,vs,H,H',hk,s',h=>by
  match k,hk with
  | .fr [],hk=>
   unfold uE at h
   obtain⟨v,r,H1,rfl,s1,s2,hv,tl⟩:=h
   obtain⟨as,h1,h2,h3⟩:=VR.fresh.mp hv
   obtain⟨bs,g1,g2,g3⟩:=uE.fresh (xs:=xs) (by simpa [bV] using hk) s2 tl
   refine⟨as++bs,jD (IsT.same s2 _ _ _ h1) g1,XZ.mpr ⟨h2,g2,λa ha b hb e=> ?_⟩,λa ha=> ?_⟩
   ·subst e
    obtain⟨o,e,_⟩:=IsT.live _ _ _ h1 a ha
    rw[g3 a hb] at e;cases e
   ·rcases K1.mp ha with ha | ha
    ·exact h3 a ha
    ·exact s1.free (g3 a ha)
  | .fr (_ :: _),hk=>simp[bV] at hk
  | .base,hk=>simp[bV] at hk
  | .any,hk=>simp[bV] at hk
theorem sW (xs:List (Kd×PyData)):bV xs= .fr []∨bV xs= .any:=by
 induction xs with
 | nil=>exact .inl rfl
 | cons x xs ih=>
  obtain⟨k,d⟩:=x
  match k with
  | .fr []=>simpa [bV] using ih
  | .fr (_ :: _)=>exact .inr rfl
  | .base=>exact .inr rfl
  | .any=>exact .inr rfl
theorem lG :∀{fs:List EF} {xs:List (Kd×PyData)},eArgs fs Γ=some (.ok xs)->xs.length=fs.length
 | [],xs,h=>by simp only[eArgs,ah] at h;cases h;rfl
 | f :: fs,xs,h=>by
  simp only[eArgs] at h
  match hf:f Γ,h with
  | some (.ok x),h=>
   match hr:eArgs fs Γ,h with
   | some (.ok ys),h=>cases h;rw[Kj,Kj,lG hr]
   | some (.ex c),h=>cases h
   | none,h=>cases h
  | some (.ex c),h=>cases h
  | none,h=>cases h
theorem uE.len :∀{xs:List (Kd×PyData)} {vs:List V} {H H':Hp},uE K B φ H H' xs vs->vs.length=xs.length
 | [],vs,H,H',h=>by unfold uE at h;subst h;rfl
 | x :: xs,vs,H,H',h=>by
  unfold uE at h
  obtain⟨v,r,H1,rfl,s1,s2,hv,tl⟩:=h
  rw[Kj,Kj,tl.len]
theorem pF {g:List (Kd×PyData)->M (Kd×PyData)}{σ:St}{Q:VK}{R:List V->Hp->Prop}(h:tD K Ew (λΓ=>ao (eArgs fs Γ) g) σ H Q)
  (i:∀B φ Γ xs vs H1,Rep K B φ Γ σ H->Rep K B φ Γ σ H1->Same H H1->eArgs fs Γ=some (.ok xs)->uE K B φ H H1 xs vs->Runs K Ew B φ H (g xs) Q->R vs H1):tA K Ew fs σ H R:=by
 obtain⟨B,φ,Γ,r,q⟩:=h
 refine⟨B,φ,Γ,r,?_⟩
 replace q:Runs K Ew B φ H (ao (eArgs fs Γ) g) Q:=q
 match hm:eArgs fs Γ,q with
 | some (.ok xs),q=>exact λvs H1 s hv=>i B φ Γ xs vs H1 r (r.same s) s hm hv q
 | some (.ex c),q=>
  rcases q with⟨k,d,e,_⟩ | ⟨c',e,q⟩
  ·cases e
  ·cases e;exact q
 | none,q=>rcases q with⟨k,d,e,_⟩ | ⟨c',e,q⟩ <;> cases e
theorem cK {x1}(h:DA X K Ew es fs)(hl:fs.length<=1000:=by decide):DE X K Ew (.Tuple es x1 pos) (fV fs):=(Iw h).imp λσ H Q q=>
 pF (g:=λ(xs:List (Kd×PyData))=>ah (cQ (bV xs) (.tuple (xs.map Prod.snd)),.tuple (xs.map Prod.snd))) q λB φ Γ xs vs H1 r r1 s hx hv q=>by
  have hz:vs.length<=1000:=by rw[hv.len,lG hx];exact hl
  refine⟨Kw hz (!8),λp hp=> ?_⟩
  rcases q with⟨k,d,e,q⟩ | ⟨c,e,q⟩
  ·cases e
   refine q _ _ (s.trans (Same.upd hp)) (VR.cQ (r1.bs.trans (Same.upd hp)) ?_)
   rcases sW xs with hk | hk
   ·rw[hk]
    obtain⟨as,h1,h2,h3⟩:=hv.fresh hk s
    exact⟨as,zR (eK.of ay) (aA.same (Same.upd hp) _ _ _ h1),h2,λa ha=> .inr (h3 a ha)⟩
   ·rw[hk]
    exact uy (eK.of ay) (ax.same (Same.upd hp) _ _ (hv.toD r.bs s))
  ·cases e
theorem bz (h:DA X K Ew es fs)(hl:fs.length<=1000:=by decide):DE X K Ew (.List es pos) (cF fs):=(Cp h).imp λσ H Q q=>
 pF (g:=λ(xs:List (Kd×PyData))=>ah (bV xs,.list (xs.map Prod.snd))) q λB φ Γ xs vs H1 r r1 s hx hv q=>by
  have hz:vs.length<=1000:=by rw[hv.len,lG hx];exact hl
  refine⟨Kw hz (!8),λp hp=> ?_⟩
  rcases q with⟨k,d,e,q⟩ | ⟨c,e,q⟩
  ·cases e
   refine q _ _ (s.trans (Same.upd hp)) ?_
   rcases sW xs with hk | hk
   ·rw[hk]
    obtain⟨as,h1,h2,h3⟩:=hv.fresh hk s
    refine⟨p :: as,fC ay (aA.same (Same.upd hp) _ _ _ h1),KQ.mpr ⟨λz=> ?_,h2⟩,λa ha=> .inr ?_⟩
    ·obtain⟨o,e,_⟩:=aA.live _ _ _ h1 p z
     rw[hp] at e;cases e
    ·rcases Kx.mp ha with rfl | ha
     ·exact s.free hp
     ·exact h3 a ha
   ·rw[hk]
    exact uz (fU.of ay) (ax.same (Same.upd hp) _ _ (hv.toD r.bs s))
  ·cases e
theorem wj {f:Value}     
  (hx:∀xs z us H Q,g xs=some z->ax K H xs us->(∀w H',Same H H'->aP K H H' z w->Q w H')->r us H Q) (q:tD K Ew (jA g fs) σ H Q):NH r (tA K Ew fs) σ H Q :=
 pF (g:=λ(xs:List (Kd×PyData))=>ao (mo (g (xs.map Prod.snd))) λz=>ah (.fr [],z)) q λB φ Γ xs vs H1 r0 r1 s hx' hv q=>by
  obtain⟨z,e,q⟩:=fE (kf:=λ_=> .fr []) q
  exact hx _ z vs H1 Q e (hv.toD r0.bs s) λw H' s' f=>q w H' (s.trans s') (VR.fresh.mpr (f.from s))
theorem bK {x:Str}{id:String}{p:Pos}{g:List PyData->Option PyData}{Bd:List EF}(hc:CallD X (.builtin id) g)(hg:Gl X x)(hm:X.mg x=none)(hv:bootBuiltins x=some (.builtin id))(ha:DA X K Ew (e :: es) Bd)(hK:X.K=K:=by rfl)(hn:x≠ "__name__":=by decide)(hdb:(x==("__debug__":Str))=false:=by decide)
  (he:starEach (e :: es) X.env=(false,eval e X.env) :: starEach es X.env:=by rfl) (hpl:(backTo pos (starEach es X.env)).any (·.1)=false:=by rfl):DE X K Ew (.Call (.Name x p) (e :: es) [] pos) (jA g Bd):=by
 obtain⟨r,hr,hx⟩:=hc
 rw[hK] at hx
 exact(Cr hr hg hm hv ha hn hdb he hpl).imp λσ H Q q=>wj (f:=.builtin id) hx q
theorem cL {x:Str}{T:String}{p:Pos}{g:List PyData->Option PyData}{Bd:List EF}(hc:CallD X (.type T) g)(hg:Gl X x)(hm:X.mg x=none)(hv:bootBuiltins x=some (.type T))(ha:DA X K Ew (e :: es) Bd)(hK:X.K=K:=by rfl)(hn:x≠ "__name__":=by decide)(hdb:(x==("__debug__":Str))=false:=by decide)
  (he:starEach (e :: es) X.env=(false,eval e X.env) :: starEach es X.env:=by rfl) (hpl:(backTo pos (starEach es X.env)).any (·.1)=false:=by rfl):DE X K Ew (.Call (.Name x p) (e :: es) [] pos) (jA g Bd):=by
 obtain⟨r,hr,hx⟩:=hc
 rw[hK] at hx
 exact(A5 hr hg hm hv ha hn hdb he hpl).imp λσ H Q q=>wj (f:=.type T) hx q
def iW (K:Frag)(n:Nat)(F:FF):Sp:=λvs H Q _=>∃ds,ds.length=n/\ax K H ds vs/\match F ds with
 | some (.ok (o,d))=>∀v H',Same H H'->RV K H H' o d v->Q v H'
 | _=>False
theorem FA {n:Nat}{CX:Cq}{k:Nat}{f:Addr}{fd:FuncData}{ps:List Str}{F:FF}{x:Str}{p:Pos}{Bd:List EF}{E:XK}(G:mG X.prog X.w X.K X.mg X.base CX k f fd ps (iW K n F))(hr:g_ k X.A)(hg:Gl X x)(hm:X.mg x=some (.ref f))(hk:keepIn X.K (.ref f)=true)(hb:Binds X.K fd ps [])(hx:Passes CX X E)
  (ha:DA X K Ew (e :: es) Bd) (hn:Bd.length=n:=by rfl) (hE:∀c H,¬ Ew c H:=by exact λ_ _ h=>h) (hdb:(x==("__debug__":Str))=false:=by decide) (he:starEach (e :: es) X.env=(false,eval e X.env) :: starEach es X.env:=by rfl) (hpl:(backTo pos (starEach es X.env)).any (·.1)=false:=by rfl) :
  DE X K Ew (.Call (.Name x p) (e :: es) [] pos) (az F Bd):=(zG G hr hg hm hk hb .nil hx ha hdb he hpl).imp λσ H Q q=>
 pF (g:=λ(xs:List (Kd×PyData))=>ao (F (xs.map Prod.snd)) λr=>ah (cQ (if r.1=true then .fr [] else .any) r.2,r.2)) q λB φ Γ xs vs H1 r r1 s hx' hv q=>by
  rw[Xj]
  refine⟨xs.map Prod.snd,by rw[K6,lG hx'];exact hn,hv.toD r.bs s,?_⟩
  match hF:F (xs.map Prod.snd),q with
  | some (.ok (o,d)),q=>
   intro v H' s' rv
   rcases q with⟨k,d',e,q⟩ | ⟨c,e,q⟩
   ·cases e
    refine q v H' (s.trans s') (VR.cQ (r1.bs.trans s') ?_)
    unfold RV at rv
    cases o with
    | true=>
     rw[Z4 rfl] at rv⊢
     obtain⟨as,h1,h2,h3⟩:=rv
     exact⟨as,h1,h2,λa ha=> .inr (s.free (h3 a ha))⟩
    | false=>
     rw[Z5 K3] at rv⊢
     exact rv
   ·cases e
  | some (.ex c),q=>
   rcases q with⟨k,d',e,q⟩ | ⟨c,e,q⟩
   ·cases e
   ·exact hE _ _ (q H1 r1.bs)
  | none,q=>rcases q with⟨k,d',e,q⟩ | ⟨c,e,q⟩ <;> cases e
theorem Be (N:List Str)(h:ax K H ds vs):Rep K H (λ_=> []) (cG N.length ds) (start N vs) H where
 bs:=Same.refl H
 len:=by
  have:=am h
  unfold cG start
  simp[this]
 sl:=λi o d e=>by
  have hl:=am h
  unfold cG at e
  by_cases hi:i < ds.length
  ·rw[Xx (by simpa using hi),KZ] at e
   cases hd:ds[i]? with
   | none=>rw[hd] at e;cases e
   | some d'=>
    rw[hd] at e
    cases e
    obtain⟨v,h1,h2⟩:=fB h hd
    refine⟨v,?_,?_⟩
    ·unfold start
     rw[Xx (by simp;omega),KZ,h1];rfl
    ·rw[Z5 K3];exact h2
  ·rw[Xu (by simpa using hi),YJ] at e
   split at e <;> cases e
 nd:=λ_=>X2
 nb:=λ_ a ha=>by cases ha
 dj:=λ_ _ _ a ha=>by cases ha
theorem EW.PD {P:Program}{w:World}{mg:Str->Option Value}{base:Heap}{x qual:Str}{st:Stmt}{f:Addr}{fd:FuncData}{N ps:List Str}{k:Nat}{fb:SF}(F:EW K x qual st f fd)(S:iZ N ps (aC st))
  (hbody:∀(cdv:Value) (A:Around) (outer:List Env) (s:Shared) (H:Hp) (E:XK),g_ k (A.deeper (envOfC qual (aC st) s.heap.objs.size f cdv))->
   Bb (rY zN P w K mg base N qual (aC st) f cdv A outer s H E).Hb K (λ_ _=>False) (eM st) fb):mG P w K mg base zN (k+1) f fd ps (iW K ps.length (cz N.length fb)):=by
 refine F.ok S (λvs H Q E h=> ?_) λcdv A outer s H vs Q E hr h=>⟨_,hbody cdv A outer s H E hr,?_⟩
 ·obtain⟨ds,h1,h2,_⟩:=h
  rw[am h2];exact h1
 ·obtain⟨ds,h1,h2,h3⟩:=h
  refine⟨H,_,_,Be N h2,?_⟩
  unfold cz at h3
  match hf:fb (cG N.length ds),h3 with
  | some (.ok (.rt o d)),h3=>exact h3
  | some (.ok (.nx Γ)),h3=>
   exact λB' φ σ H' s' r=>h3 .non H' (s'.trans r.bs) (by unfold RV;rw[Z4 rfl];exact⟨[],aK.toT _ _ rfl zQ,X2,λa ha=>by cases ha⟩)
  | some (.ok (.bk Γ)),h3=>exact False.elim h3
  | some (.ok (.ct Γ)),h3=>exact False.elim h3
  | some (.ex c),h3=>exact False.elim h3
  | none,h3=>exact False.elim h3
end
section
variable {X:Cx}{K:Frag}{Ew:Str->Hp->Prop}{pos:Pos}
theorem VR.ofList (s:Same B H)(h:VR K B φ H0 H k (.list ds) u) :
  ∃p vs,u= .ref p/\fU K H p vs/\vs.length=ds.length/\∀(j:Nat) (d:PyData),ds[j]? =some d->∃w,vs[j]? =some w/\VR K B φ H0 H k d w:=by
 cases k with
 | fr l=>
  obtain⟨as,h1,h2,h3⟩:=h
  obtain⟨a,vs,bs,rfl,e,t,rfl⟩:=cA h1
  refine⟨a,vs,rfl,fU.of e,ck t,λj d hd=> ?_⟩
  obtain⟨w,cs,hw,hT,sub⟩:=p6 t hd
  have sub':cs.Sublist (a :: bs):=sub.trans (List.sublist_cons_self _ _)
  exact⟨w,hw,cs,hT,h2.sublist sub',λx hx=>h3 x (sub'.subset hx)⟩
 | base=>
  obtain⟨a,vs,rfl,e,t⟩:=a8 (show aK K B (.list ds) u from h)
  exact⟨a,vs,rfl,s.seq e,am t,λj d hd=>fB t hd⟩
 | any=>
  obtain⟨a,vs,rfl,e,t⟩:=a8 (show aK K H (.list ds) u from h)
  exact⟨a,vs,rfl,e,am t,λj d hd=>fB t hd⟩
theorem VR.L3 (s:Same B H)(h:VR K B φ H0 H k (.tuple ds) u) :
  ∃p vs,u= .ref p/\eK K H p vs/\vs.length=ds.length/\∀(j:Nat) (d:PyData),ds[j]? =some d->∃w,vs[j]? =some w/\VR K B φ H0 H k d w:=by
 cases k with
 | fr l=>
  obtain⟨as,h1,h2,h3⟩:=h
  obtain⟨a,vs,rfl,e,t⟩:=j6 h1
  refine⟨a,vs,rfl,e,ck t,λj d hd=> ?_⟩
  obtain⟨w,cs,hw,hT,sub⟩:=p6 t hd
  exact⟨w,hw,cs,hT,h2.sublist sub,λx hx=>h3 x (sub.subset hx)⟩
 | base=>
  obtain⟨a,vs,rfl,e,t⟩:=aL (show aK K B (.tuple ds) u from h)
  exact⟨a,vs,rfl,s.mj e,am t,λj d hd=>fB t hd⟩
 | any=>
  obtain⟨a,vs,rfl,e,t⟩:=aL (show aK K H (.tuple ds) u from h)
  exact⟨a,vs,rfl,e,am t,λj d hd=>fB t hd⟩
theorem sX {ds:List PyData}{vs:List V}{i:Int}{z:PyData}(hl:vs.length=ds.length)(h:jZ ds i=some z):∃j:Nat,ds[j]? =some z/\∀w,vs[j]? =some w->IC vs i=some w:=by
 unfold jZ at h
 cases e:Y.sO ds.length i with
 | none=>rw[e] at h;cases h
 | some j=>
  rw[e] at h
  refine⟨j,h,λw hw=> ?_⟩
  unfold IC
  rw[show L2.sO vs.length i=Y.sO ds.length i by rw[hl];rfl,e]
  exact hw
theorem g7:NS X cb:=⟨_,IG,λB φ H0 k x y z u v H Q s e hx hy q=>by
 cases x <;> cases y <;> simp only[cb] at e <;> try (cases e;done)
 ·rename_i x i
  split at e
  ·rename_i hz
   have h1:=j4 (hx.toD s)
   have h2:=aJ hy
   subst h1 h2
   cases hc:jZ x.cps.toList i with
   | none=>rw[hc] at e;cases e
   | some c=>
    rw[hc] at e
    cases e
    exact .inr (.inr ⟨x,i,c,rfl,rfl,hz,hc,q _ (by rw[show cQ k (.str ⟨#[c]⟩)= .fr [] from rfl];exact VR.ml rfl ux [])⟩)
  ·cases e
 ·rename_i xs i
  have h2:=aJ hy
  subst h2
  obtain⟨p,vs,rfl,hq,hl,hg⟩:=VR.ofList s hx
  obtain⟨j,hj,hw⟩:=sX hl e
  obtain⟨w,h3,h4⟩:=hg j z hj
  exact .inl ⟨p,vs,i,w,rfl,rfl,hq,hw w h3,q w (h4.cQ s)⟩
 ·rename_i xs i
  have h2:=aJ hy
  subst h2
  obtain⟨p,vs,rfl,hq,hl,hg⟩:=VR.L3 s hx
  obtain⟨j,hj,hw⟩:=sX hl e
  obtain⟨w,h3,h4⟩:=hg j z hj
  exact .inr (.inl ⟨p,vs,i,w,rfl,rfl,hq,hw w h3,q w (h4.cQ s)⟩)⟩
theorem d_ (h:ax K H [d] us):∃u,us=[u]/\aK K H d u:=by
 simp only[ax] at h
 obtain⟨v,r,rfl,hv,rfl⟩:=h
 exact⟨v,rfl,hv⟩
theorem bM:CallD X (.builtin "len") iC:=⟨_,uo.or uq,λxs z us H Q e h q=>by
 match xs,e,h with
 | [.list ds],e,h=>
  cases e
  obtain⟨u,rfl,hu⟩:=d_ h
  obtain⟨a,vs,rfl,h1,h2⟩:=a8 hu
  exact .inl ⟨a,vs,rfl,.inl h1,by rw[am h2];exact q _ H (Same.refl H) (aP.ml rfl bP)⟩
 | [.tuple ds],e,h=>
  cases e
  obtain⟨u,rfl,hu⟩:=d_ h
  obtain⟨a,vs,rfl,h1,h2⟩:=aL hu
  exact .inl ⟨a,vs,rfl,.inr h1,by rw[am h2];exact q _ H (Same.refl H) (aP.ml rfl bP)⟩
 | [.str x],e,h=>
  simp only[iC] at e
  split at e
  ·rename_i hz
   cases e
   obtain⟨u,rfl,hu⟩:=d_ h
   have:=j4 hu
   subst this
   exact .inr ⟨x,rfl,hz,q _ H (Same.refl H) (aP.ml rfl bP)⟩
  ·cases e⟩
theorem yI:CallD X (.type "list") vY:=⟨_,ur,λxs z us H Q e h q=>by
 match xs,e,h with
 | [.list ds],e,h=>
  simp only[vY] at e
  split at e
  ·rename_i hn
   cases e
   obtain⟨u,rfl,hu⟩:=d_ h
   obtain⟨a,vs,rfl,h1,h2⟩:=a8 hu
   exact⟨a,vs,rfl,.inl h1,λl hl=>q _ _ (Same.upd hl) (aP.lst hn ay (ax.same (Same.upd hl) _ _ h2) hl)⟩
  ·cases e
 | [.tuple ds],e,h=>
  simp only[vY] at e
  split at e
  ·rename_i hn
   cases e
   obtain⟨u,rfl,hu⟩:=d_ h
   obtain⟨a,vs,rfl,h1,h2⟩:=aL hu
   exact⟨a,vs,rfl,.inr h1,λl hl=>q _ _ (Same.upd hl) (aP.lst hn ay (ax.same (Same.upd hl) _ _ h2) hl)⟩
  ·cases e⟩
theorem cp:CallD X (.type "tuple") fz:=⟨_,r_,λxs z us H Q e h q=>by
 match xs,e,h with
 | [.list ds],e,h=>
  simp only[fz] at e
  split at e
  ·rename_i hn
   cases e
   obtain⟨u,rfl,hu⟩:=d_ h
   obtain⟨a,vs,rfl,h1,h2⟩:=a8 hu
   exact⟨a,vs,rfl,.inl ⟨h1,λl hl=>q _ _ (Same.upd hl) (aP.tup hn (eK.of ay) (ax.same (Same.upd hl) _ _ h2))⟩⟩
  ·cases e
 | [.tuple ds],e,h=>
  simp only[fz] at e
  split at e
  ·rename_i hn
   cases e
   obtain⟨u,rfl,hu⟩:=d_ h
   obtain⟨a,vs,rfl,h1,h2⟩:=aL hu
   exact⟨a,vs,rfl,.inr ⟨h1,q _ H (Same.refl H) (aP.ml (by rw[bp];exact hn) hu)⟩⟩
  ·cases e⟩
theorem Rep.own (r:Rep K B φ Γ σ H)(h:Γ[i]? =some (some (true,d))):∃v,σ[i]? =some (some v)/\IsT K H d v (φ i):=by
 obtain⟨v,h1,h2⟩:=r.sl i true d h
 rw[Z4 rfl] at h2
 exact⟨v,h1,h2⟩
theorem Rep.chg (r:Rep K B φ Γ σ H)(hi:l∈φ i)(hl:H l=some o)(hm:fm o)(hv:σ[i]? =some (some v))
  (ht:IsT K (upd H l o') d v as) (hnd:as.Nodup) (hs:∀a∈as,a∈φ i∨(B a=none/\∀j,a∉φ j)) (hm':fm o'):Rep K B (λj=>if j=i then as else φ j) (Γ.set i (some (true,d))) σ (upd H l o'):=by
 have hB:B l=none:=(r.nb i l hi).1
 have hn:∀j,j≠i->l∉φ j:=λj hj z=>r.dj j i hj l z hi
 have r1:Rep K B φ (Γ.set i none) σ (upd H l o'):={
  bs:=r.bs.IS hB
  len:=by rw[Uu];exact r.len
  sl:=λj o d' e=>by
   by_cases hj:j=i
   ·subst hj
    by_cases hlt:j < Γ.length
    ·rw[U8 hlt] at e;cases e
    ·rw[XY (by rw[Uu];omega)] at e;cases e
   ·rw[U7 (Ne.symm hj)] at e
    obtain⟨w,h1,h2⟩:=r.sl j o d' e
    refine⟨w,h1,?_⟩
    cases o with
    | true=>rw[Z4 rfl] at h2⊢;exact IsT.upd hl hm _ _ _ (hn j hj) h2
    | false=>rw[Z5 K3] at h2⊢;exact h2
  nd:=r.nd
  nb:=λj a ha=>by
   refine⟨(r.nb j a ha).1,?_⟩
   by_cases hal:a=l
   ·subst hal;exact⟨o',ay,hm'⟩
   ·obtain⟨o2,e2,m2⟩:=(r.nb j a ha).2
    exact⟨o2,by rw[aY hal];exact e2,m2⟩
  dj:=r.dj}
 have r2:=r1.put i ht hnd λa ha=>by
  rcases hs a ha with z | z
  ·exact⟨(r.nb i a z).1,λj hj hz=>r.dj j i hj a hz z⟩
  ·exact⟨z.1,λj _=>z.2 j⟩
 rw[List.set_set] at r2
 have e:σ.set i (some v)=σ:=by
  apply List.ext_getElem?
  intro j
  by_cases hj:j=i
  ·subst hj
   have hlt:j < σ.length:=(Xz.mp hv).1
   rw[U8 hlt,hv]
  ·rw[U7 (Ne.symm hj)]
 rw[e] at r2
 exact r2
variable {o e:Expr}{fe:EF}{apos cpos:Pos}
theorem dG (ho:PE X o (mh i))(he:DE X K Ew e fe)(hK:X.K=K:=by rfl)
  (hbase:attributeBase o "append" X.env (eval o X.env)=eval o X.env:=by rfl)
  (hfew:((backTo cpos (starEach [e] X.env)).all (λx=> !x.1) && (backToKw cpos (keywordEach [] X.env)).all (λx=>x.1.isSome)
   && decide (([e]:List Expr).length+([]:List Keyword).length+(if ([]:List Keyword).isEmpty then 0 else 1) < 30))=true:=by rfl)
  (hline:(apos.endLine==cpos.line)=true:=by rfl) (hs:starEach [e] X.env=(false,eval e X.env) :: starEach [] X.env:=by rfl) (hplain:(backTo cpos (starEach [] X.env)).any (·.1)=false:=by rfl)
  (hsw:swapsWith (.Call (.Attribute o "append" apos) [e] [] cpos) none pos.line X.env=pure false:=by rfl) :
  DS X K Ew (.Expr (.Call (.Attribute o "append" apos) [e] [] cpos) pos) (iD i fe) :=
 (mE (zL PySem.F.plainAttrs_list PySem.F.slot_list_append PySem.F.type_list_append nM ho (b_ he dS hs) hbase hfew hline hs hplain) hsw).imp λD σ H q=>by
  obtain⟨B,φ,Γ,r,q⟩:=q
  unfold iD at q
  obtain⟨xs,hg,q⟩:=M1 q
  obtain⟨v,hv,hT⟩:=r.own hg
  obtain⟨l,vs,bs,rfl,hl,ht,hφ⟩:=cA hT
  refine⟨.ref l,hv,.inl ⟨rfl,vs,fU.of hl⟩,B,φ,Γ,r,?_⟩
  match hm:fe Γ,q with
  | some (.ok (k,d)),q=>
   refine .inl ⟨k,d,rfl,λy H1 s1 hy=> ?_⟩
   have r1:=r.same s1
   have hl1:=s1 _ _ hl
   have hlen:vs.length=xs.length:=ck ht
   have av:=hy.av r
   have hli:l∈φ i:=by rw[hφ];exact K9
   match k,q,av with
   | .fr [],q,av=>
    by_cases hz:xs.length < sizeLine
    ·replace q:cI K Ew B (ah (.nx (Γ.set i (some (true,.list (xs++[d])))))) D:=by simpa only[ao,Z4 hz] using q
     refine⟨l,vs,y,rfl,rfl,hl1,by omega,?_⟩
     obtain⟨as,h1,h2,h3⟩:=av
     have h3':∀a∈as,B a=none/\∀j,a∉φ j:=λa ha=>by
      rcases h3 a ha with⟨_,z,_⟩ | z
      ·cases z
      ·exact z
     have L5:l∉as:=λz=>(h3' l z).2 i hli
     have hnd:=r.nd i
     rw[hφ] at hnd
     have hnb:l∉bs:=(KQ.mp hnd).1
     refine q B _ σ _ (Same.refl B) (r1.chg (d:=.list (xs++[d])) (as:=l :: (bs++as)) hli hl1 trivial hv ?_ ?_ ?_ trivial)
     ·exact fC ay (dF (aA.upd hl1 trivial _ _ _ hnb (aA.same s1 _ _ _ ht)) (by
       have:=jD (IsT.upd (o':=.lst (vs++[y])) hl1 trivial _ _ _ L5 h1) (jC (K:=K))
       rwa [Xj] at this))
     ·refine KQ.mpr ⟨λz=> ?_,XZ.mpr ⟨(KQ.mp hnd).2,h2,λa ha b hb e=> ?_⟩⟩
      ·rcases K1.mp z with z | z
       ·exact hnb z
       ·exact L5 z
      ·subst e
       exact(h3' a hb).2 i (by rw[hφ];exact K8 _ ha)
     ·intro a ha
      rcases Kx.mp ha with rfl | ha
      ·exact .inl hli
      ·rcases K1.mp ha with ha | ha
       ·exact .inl (by rw[hφ];exact K8 _ ha)
       ·exact .inr (h3' a ha)
    ·simp only[ao,Z5 hz] at q
     exact False.elim q
   | .fr [j],q,av=>
    by_cases hz:xs.length < sizeLine/\i≠j
    ·replace q:cI K Ew B (ah (.nx ((Γ.set j none).set i (some (true,.list (xs++[d])))))) D:=by simpa only[ao,Z4 hz] using q
     refine⟨l,vs,y,rfl,rfl,hl1,by omega,?_⟩
     obtain⟨as,h1,h2,h3⟩:=av
     have h3':∀a∈as,a∈φ j∨(B a=none/\∀j',a∉φ j'):=λa ha=>by
      rcases h3 a ha with⟨j',z,z2⟩ | z
      ·rw[K7.mp z] at z2;exact .inl z2
      ·exact .inr z
     have L5:l∉as:=λz=>by
      rcases h3' l z with z | z
      ·exact r.dj i j hz.2 l hli z
      ·exact z.2 i hli
     have hnd:=r.nd i
     rw[hφ] at hnd
     have hnb:l∉bs:=(KQ.mp hnd).1
     have r2:=r1.kill j
     have hdi:Bc φ j i=φ i:=Z5 hz.2
     refine q B _ σ _ (Same.refl B) (r2.chg (d:=.list (xs++[d])) (as:=l :: (bs++as)) (by rw[hdi];exact hli) hl1 trivial hv ?_ ?_ ?_ trivial)
     ·exact fC ay (dF (aA.upd hl1 trivial _ _ _ hnb (aA.same s1 _ _ _ ht)) (by
       have:=jD (IsT.upd (o':=.lst (vs++[y])) hl1 trivial _ _ _ L5 h1) (jC (K:=K))
       rwa [Xj] at this))
     ·refine KQ.mpr ⟨λz=> ?_,XZ.mpr ⟨(KQ.mp hnd).2,h2,λa ha b hb e=> ?_⟩⟩
      ·rcases K1.mp z with z | z
       ·exact hnb z
       ·exact L5 z
      ·subst e
       have hai:a∈φ i:=by rw[hφ];exact K8 _ ha
       rcases h3' a hb with z | z
       ·exact r.dj i j hz.2 a hai z
       ·exact z.2 i hai
     ·intro a ha
      rw[hdi]
      rcases Kx.mp ha with rfl | ha
      ·exact .inl hli
      ·rcases K1.mp ha with ha | ha
       ·exact .inl (by rw[hφ];exact K8 _ ha)
       ·rcases h3' a ha with z | z
        ·refine .inr ⟨(r.nb j a z).1,λj' hj'=> ?_⟩
         obtain⟨n1,n2⟩:=fF hj'
         exact r.dj j' j n1 a n2 z
        ·exact .inr ⟨z.1,λj' hj'=>z.2 j' (fF hj').2⟩
    ·simp only[ao,Z5 hz] at q
     exact False.elim q
   | .fr (_ :: _ :: _),q,_=>exact False.elim q
   | .base,q,_=>exact False.elim q
   | .any,q,_=>exact False.elim q
  | some (.ex c),q=>exact .inr ⟨c,rfl,q⟩
  | none,q=>cases q
end
section
variable {K:Frag}{H H':Hp}
theorem eK.mv (e:∀a o,H a=some o->¬ fm o->H' a=some o)(h:eK K H a xs):eK K H' a xs:=eK.toB e h
mutual
theorem IsT.mv (e:∀a o,H a=some o->¬ fm o->H' a=some o):∀(d:PyData) (v:V) (as:List Addr),(∀a∈as,∀o,H a=some o->H' a=some o)->IsT K H d v as->IsT K H' d v as
 | .none,v,as,_,h=>by simpa only[IsT] using h
 | .bool b,v,as,_,h=>by simpa only[IsT] using h
 | .int i,v,as,_,h=>by simpa only[IsT] using h
 | .str x,v,as,_,h=>by simpa only[IsT] using h
 | .list xs,v,as,m,h=>by
  simp only[IsT] at h⊢
  obtain⟨a,vs,bs,e1,h1,h2,rfl⟩:=h
  exact⟨a,vs,bs,e1,m a K9 _ h1,aA.mv e xs vs bs (λb hb=>m b (K8 _ hb)) h2,rfl⟩
 | .tuple xs,v,as,m,h=>by
  simp only[IsT] at h⊢
  obtain⟨a,vs,e1,h1,h2⟩:=h
  exact⟨a,vs,e1,h1.mv e,aA.mv e xs vs as m h2⟩
 | .dict kvs,v,as,m,h=>by
  simp only[IsT] at h⊢
  obtain⟨a,ks,bs,e1,h1,h2,rfl⟩:=h
  exact⟨a,ks,bs,e1,m a K9 _ h1,aN.mv e kvs ks.1 bs (λb hb=>m b (K8 _ hb)) h2,rfl⟩
theorem aA.mv (e:∀a o,H a=some o->¬ fm o->H' a=some o):∀(ds:List PyData) (vs:List V) (as:List Addr),(∀a∈as,∀o,H a=some o->H' a=some o)->aA K H ds vs as->aA K H' ds vs as
 | [],vs,as,_,h=>by simpa only[aA] using h
 | d :: ds,vs,as,m,h=>by
  simp only[aA] at h⊢
  obtain⟨v,r,a1,a2,e1,rfl,h1,h2⟩:=h
  exact⟨v,r,a1,a2,e1,rfl,IsT.mv e d v a1 (λb hb=>m b (KY _ hb)) h1,aA.mv e ds r a2 (λb hb=>m b (Kk _ hb)) h2⟩
theorem aN.mv (e:∀a o,H a=some o->¬ fm o->H' a=some o):∀(ds:List (PyData×PyData)) (ks:List (PyData×V×V)) (as:List Addr),(∀a∈as,∀o,H a=some o->H' a=some o)->aN K H ds ks as->aN K H' ds ks as
 | [],ks,as,_,h=>by simpa only[aN] using h
 | (k,d) :: r,ks,as,m,h=>by
  simp only[aN] at h⊢
  obtain⟨kv,v,q,a1,a2,e1,rfl,h1,h2,h3⟩:=h
  exact⟨kv,v,q,a1,a2,e1,rfl,IsT.mv e k kv [] (λb hb=>by cases hb) h1,IsT.mv e d v a1 (λb hb=>m b (KY _ hb)) h2,aN.mv e r q a2 (λb hb=>m b (Kk _ hb)) h3⟩
end
end
open Classical in
noncomputable def h9 (D:Addr)(H:Hp):Hp:=λa=>if a=D then none else H a
theorem i7 (h:a≠D):h9 D H a=H a:=by unfold h9;rw[Z5 h]
theorem jH :h9 D H D=none:=by unfold h9;rw[Z4 rfl]
theorem jI :Same (h9 D H) H:=λa o e=>by
 by_cases h:a=D
 ·subst h;rw[jH] at e;cases e
 ·rw[i7 h] at e;exact e
theorem lH (s:Same H H'):Same (h9 D H) (h9 D H'):=λa o e=>by
 by_cases h:a=D
 ·subst h;rw[jH] at e;cases e
 ·rw[i7 h] at e⊢;exact s a o e
theorem sY (h:H0 D=none)(s:Same H0 H):Same H0 (h9 D H):=λa o e=>by
 rw[i7 (dy e h)];exact s a o e
theorem wk :h9 D (upd H D o)=h9 D H:=by
 funext a
 by_cases h:a=D
 ·subst h;rw[jH,jH]
 ·rw[i7 h,i7 h,aY h]
theorem Bf (h:fZ (xs++[x])=some (.fr [])):fZ xs=some (.fr [])/\x.1= .fr []:=by
 induction xs with
 | nil=>
  obtain⟨k,d⟩:=x
  match k,h with
  | .fr [],h=>exact⟨rfl,rfl⟩
  | .fr (_ :: _),h=>simp[fZ] at h
  | .base,h=>simp[fZ] at h
  | .any,h=>simp[fZ] at h
 | cons y xs ih=>
  obtain⟨k,d⟩:=y
  match k,h with
  | .fr [],h=>
   simp only[Uj,fZ] at h⊢
   exact ih h
  | .fr (_ :: _),h=>simp[fZ] at h
  | .base,h=>
   simp only[Uj,fZ] at h
   cases e:fZ (xs++[x]) with
   | none=>rw[e] at h;cases h
   | some k=>rw[e] at h;cases h
  | .any,h=>simp[fZ] at h
theorem CV (h:fZ xs=some k):(k= .fr []∨k= .any)/\∀x∈xs,x.1= .fr []∨x.1= .base:=by
 induction xs generalizing k with
 | nil=>cases h;exact⟨.inl rfl,λx hx=>by cases hx⟩
 | cons y xs ih=>
  obtain⟨k',d⟩:=y
  match k',h with
  | .fr [],h=>
   simp only[fZ] at h
   obtain⟨h1,h2⟩:=ih h
   exact⟨h1,λx hx=>by rcases Kx.mp hx with rfl | hx;exact .inl rfl;exact h2 x hx⟩
  | .fr (_ :: _),h=>simp[fZ] at h
  | .base,h=>
   simp only[fZ] at h
   cases e:fZ xs with
   | none=>rw[e] at h;cases h
   | some k2=>
    rw[e] at h;cases h
    obtain⟨h1,h2⟩:=ih e
    exact⟨.inr rfl,λx hx=>by rcases Kx.mp hx with rfl | hx;exact .inr rfl;exact h2 x hx⟩
  | .any,h=>simp[fZ] at h
abbrev Bg:Str->Hp->Prop:=λ_ _=>False
section
variable {X:Cx}{K:Frag}{Ew:Str->Hp->Prop}{pos px:Pos}{scope:Scope}{v:Str}{F:List Str}{ix:List Nat}{elt iter:Expr}{ifs:List Expr}{it:IF}{ft:TF}{fe:EF}
theorem gh :CA Y [] (Fz K Bg cW):=λpins s σ H Q I q=>by
 obtain⟨B,φ,Γ,r,q⟩:=q
 rcases q with⟨b,e,q⟩ | ⟨c,e,q⟩
 ·cases e;exact Fj pins s σ H Q I (q H (Same.refl H))
 ·cases e
theorem uF (h:DT Y K Bg c ft):CA Y [c] (Fz K Bg ft):=Fk h
end
theorem wm:typeLookup (.type "list_reverseiterator") "__len__" =pure none:=by(rw[typeLookup_type,builtinLookup_eq_fast]);(kernel_rfl)
theorem zY:typeLookup (.type "list_reverseiterator") "__length_hint__" =pure (some (.builtin "list_reverseiterator.__length_hint__")):=by(rw[typeLookup_type,builtinLookup_eq_fast]);(kernel_rfl)
section
variable {prog:Program}{w:World}{A:Around}{E:Zu}{s:Shared}{I:Addr}{fp wr:List Addr}{G:Array GenState->Array GenState->Prop}{n:Nat}{P:Nat->Value->Prop}{St:Nat->Shared->Prop}
theorem yJ (W:WalksS prog w A.in1 I fp wr G n P St)(hT:∀i s,St i s->s.TypeIs (.ref I) "list_reverseiterator")(st0:St 0 s)(hfp:∀b∈fp,b < s.heap.objs.size)(hI:I∈fp)
  (hn:n<=sizeLine) (hQ:∀s' acc,Moved wr G s s'->ItemsOf P acc n->Q acc.toList s'):wpAny (!4) A (collect (.ref I)) Q E s:=by
 have nS:s.heap.objs.size∉fp:=λhm=>U2 _ (hfp _ hm)
 have nI:s.heap.objs.size≠I:=λe=>nS (e ▸ hI)
 unfold collect
 refine Z7 (wpAny_runValue (codeAny_builtin F.entry_proto_collect ?_));rw[Around.under_plainId F.plain_proto_collect _]
 show wpAny _ A.in1 (newList [] >>=λl=>again (.builtin "list.__iadd__" ⟨[l,.ref I],[]⟩)) _ _ s
 refine Z7 (Zk ?_);refine Z6 ⟨plainId_quiet F.plain_list_iadd _,codeAny_builtin F.entry_list_iadd ?_⟩;rw[Around.under_plainId F.plain_list_iadd _]
 have st1:=W.frame 0 s (s.heap.push {cls:=.type "list",data:=.seq ([]:List Value).toArray}) s.toks st0 (K0 _) (λb _ o e=>K4 _ e)
 have new1:(s.heap.push {cls:=.type "list",data:=.seq ([]:List Value).toArray}).get? s.heap.objs.size=some {cls:=.type "list",data:=.seq ([]:List Value).toArray}:=(Kv _ rfl)
 have h1:Builtin.List.listSameRef (.ref s.heap.objs.size) (.ref I)=false:=by(simp[Builtin.List.listSameRef,nI])
 show wpAny _ A.in1 (Builtin.List.listExtendWith (.ref s.heap.objs.size) (.ref I) (.ref s.heap.objs.size)) _ _ _;unfold Builtin.List.listExtendWith
 refine Z7 (wpAny_typeOf (hT 0 _ st1) ?_)
 rw[Z5 (by rw[h1];decide)];refine Z7 (W.self 0 _ _ _ st1 ?_);refine Z7 (Z1 ?_);unfold Builtin.List.listLengthHint
 refine Z7 (Zx (hT 0 _ st1) wm ?_)
 show wpAny _ A.in1 (specialOf (Value.ref I) (Str.ofString "__length_hint__") >>=_) _ _ _;refine Z7 (Zx (hT 0 _ st1) zY ?_)
 generalize hid:("list_reverseiterator.__length_hint__":String)=id0
 wp_delta
 rw[show splitId id0=some ("list_reverseiterator","__length_hint__") from by subst hid;decide+kernel]
 subst hid
 refine Z7 (wpAny_isInstance (b:=true) (hT 0 _ st1) (by rw[isSubtype_type];kernel_rfl) ?_);refine Z6 ?_;rw[Z5 (!8)]
 refine Z6 ⟨plainId_quiet F.plain_extend_loop _,codeAny_extend_loopS W hn _ nS _ n 0 _ _ _ rfl (Xq _) st1 new1 (ItemsOf.nil P) λs' acc' c' hm hS' hacc=> ?_⟩
 show wpAny _ A (load s.heap.objs.size >>=_) _ _ s';refine Z7 (wpAny_load hS' ?_)
 exact Z6 (hQ s' acc' (Moved.drop_new (o:={cls:=.type "list",data:=.seq ([]:List Value).toArray}) (tk:=s.toks) hm (K0 _)) hacc)
theorem wn (W:WalksS prog w A.in1.in1 I fp wr G n P St)(hT:∀i s,St i s->s.TypeIs (.ref I) "list_reverseiterator")(st0:St 0 s)(hfp:∀b∈fp,b < s.heap.objs.size)(hI:I∈fp)
  (hn:n<=sizeLine) (h:∀s' acc,Moved wr G s s'->ItemsOf P acc n->Q1 (.ref s'.heap.objs.size) {s' with heap:=s'.heap.push {cls:=.type "tuple",data:=.seq acc}}) :
  codeAny (!4) A (.call (.builtin "tuple.__new__") ⟨[.type "tuple",.ref I],[]⟩) (wants Q1 E) s:=by
 refine codeAny_of_tree ?_
 show wpAny _ A.in1 (do checkBuiltinCall "tuple.__new__" ⟨[.type "tuple",.ref I],[]⟩;again (.builtin "tuple.__new__" ⟨[.type "tuple",.ref I],[]⟩)) _ _ s;refine Z7 (wpAny_of_eq (F.newCall_tuple_1 _) (Z6 ⟨plainId_quiet F.plain_tuple_new _,codeAny_builtin F.entry_tuple_new ?_⟩))
 rw[Around.under_plainId F.plain_tuple_new _];have hsub:=sub_tuple_self;have hinit:=init_tuple_lookup;have hmh:=madeHere_tuple;have hTI:=hT 0 s st0
 wp_walk using wpAny_typeOf hTI,yJ W hT st0 hfp hI hn
 intro s' acc hm hacc
 show wpAny _ _ (Builtin.Tuple.tupleExact acc.toList.toArray >>=λv=>ret v) _ _ _;unfold Builtin.Tuple.tupleExact
 refine Z7 (Zk ?_ (by show acc.toList.toArray.size<=sizeLine;(simp only[Array.toArray_toList]);(rw[hacc.1]);exact hn));refine Z6 ?_
 have e:acc.toList.toArray=acc:=(by simp)
 rw[e];exact h s' acc hm hacc
theorem uG (W:WalksS prog w A.in1.in1.in1 I fp wr G n P St)(hT:∀i s,St i s->s.TypeIs (.ref I) "list_reverseiterator")(st0:St 0 s)(hfp:∀b∈fp,b < s.heap.objs.size)(hI:I∈fp)
  (hn:n<=sizeLine) (hQ:∀s' acc,Moved wr G s s'->ItemsOf P acc n->Q (.ref s'.heap.objs.size) {s' with heap:=s'.heap.push {cls:=.type "tuple",data:=.seq acc}}):wpAny (!4) A (call (.type "tuple") [.ref I]) Q E s:=by
 refine callType_codes (Q₁:=λobj s1=>s1.TypeIs obj "tuple" /\Q obj s1) F.called_tuple (F.typeCall_tuple_1 _) F.entry_object_init (wn W hT st0 hfp hI hn λs' acc hm hacc=>⟨⟨_,Kv _ rfl,rfl⟩,hQ s' acc hm hacc⟩) λobj s1 q=> ?_
 exact⟨q.1,F.args_object_init_2 obj _,object_init_meets F.called_tuple.init.lookup F.called_tuple.made (!8) prog w A.in1 _ s1 ⟨q.1,rfl,q.2⟩⟩
end
section
variable {X:Cx}{K:Frag}{Ew:Str->Hp->Prop}{pos pos2 p p2:Pos}{a e o:Expr}{ta:TE}{fa fe:EF}{apos cpos:Pos}
def FC (K:Frag)(ta:TE):TE:=λσ H Q=>ta σ H λx H1=>∃q ys,x= .ref q/\fU K H1 q ys/\∀t,H1 t=none->Q (.ref t) (upd H1 t (.tup ys.reverse))
theorem sZ {its:List Value}{acc:Array Value}(h:ItemsOf (λi v=>its.toArray[its.toArray.size - 1 - i]? =some v) acc its.toArray.size):acc=its.reverse.toArray:=by
 apply Array.ext'
 apply List.ext_getElem?
 intro i
 have hs:acc.toList.length=its.length:=by simpa using h.1
 by_cases hi:i < its.length
 ·have hi':i < acc.toList.length:=by omega
  have e1:acc.toList[i]? =some (acc.toList[i]'hi'):=K5 hi'
  have e2:=h.2 i (acc.toList[i]'hi') (by rw[←UJ];exact e1)
  rw[e1,JZ hi,←e2]
  simp
 ·rw[XY (!1),XY (by simp;omega)]
theorem Bh (hc:X.calm=true)(hg:Gl X "tuple")(hm:X.mg "tuple" =none)(hg2:Gl X "reversed")(hm2:X.mg "reversed" =none)(ha:PE X a ta)
  (hs:starEach [a] X.env=(false,eval a X.env) :: starEach [] X.env:=by rfl) (hpl:(backTo pos2 (starEach [] X.env)).any (·.1)=false:=by rfl)
  (hs2:starEach [.Call (.Name "reversed" p2) [a] [] pos2] X.env=(false,eval (.Call (.Name "reversed" p2) [a] [] pos2) X.env) :: starEach [] X.env:=by rfl) (qd:(backTo pos (starEach [] X.env)).any (·.1)=false:=by rfl)
  (hnil:backTo pos (starEach [] X.env)=[]:=by rfl) :
  PE X (.Call (.Name "tuple" p) [.Call (.Name "reversed" p2) [a] [] pos2] [] pos) (FC X.K ta):=by
 intro pins s σ H Q I h
 refine wpAny_Call_Name_kw (gO I hg hm PyProof.Rows.boot_tuple ?_)
 refine PyProof.Rows.callWith_type1 ?_ hs2 qd
 rw[hs2]
 show wpAny _ _ (spliced ((false,eval (.Call (.Name "reversed" p2) [a] [] pos2) X.env) :: backTo pos (starEach [] X.env))) _ _ s
 refine Calls.spliced_cons ?_
 refine wpAny_Call_Name_kw (gO I hg2 hm2 PyProof.Rows.boot_reversed ?_)
 refine PyProof.Rows.callWith_type1 (di (b_ ha dS hs pos2 pins s σ H (λvs H1=>match vs with
  | [x]=>∃q ys,x= .ref q/\fU X.K H1 q ys/\∀t,H1 t=none->Q (.ref t) (upd H1 t (.tup ys.reverse))
  | _=>False) I h) λus s1 ⟨vs,H1,I1,r1,q1⟩=> ?_) hs hpl
 match vs,r1,q1 with
 | [x],r1,q1=>
  obtain⟨q,ys,rfl,hq,fin⟩:=q1
  obtain⟨u,rfl,ru⟩:=r1.one
  cases ru
  obtain⟨its,rv,pl,hz⟩:=I1.list hq
  refine call_reversed_list pl.isList ?_
  rw[hnil]
  refine Calls.spliced_nil ?_
  have hfr:=I1.fresh
  have I2:Inv X pins σ H1 {s1 with heap:=s1.heap.push (revObj q ((its.toArray.size:Int) - 1))}:=I1.kept (t':=s1.toks) λb u e=>K4 _ e
  have hit:(s1.heap.push (revObj q ((its.toArray.size:Int) - 1))).IsRevIter s1.heap.objs.size q ((its.toArray.size:Int) - 1):=⟨_,Kv _ rfl,rfl,rfl⟩
  have NT:(s1.heap.push (revObj q ((its.toArray.size:Int) - 1))).IsList q its.toArray:=pl.isList.at λo e=>K4 _ e
  have hq1:q < s1.heap.objs.size:=let ⟨o,_,e,_⟩:=pl;KJ e
  have hne:q≠s1.heap.objs.size:=Xk hq1
  have hh:X.A.in1.in1.in1.handled=none:=I1.ok.hd hc
  have hl:=rv.length
  refine uG (Walks.toS (Walks.listRev (prog:=X.prog) (w:=X.w) hh s1.heap.objs.size q hne its.toArray)) (λi s st=>st.2.1.typeIs) ⟨Xq _,by simpa using hit,NT⟩ (λb hb=> ?_) (by simp) (by rw[Kz];omega) λs' acc hm hacc=> ?_
  ·have:b=s1.heap.objs.size∨b=q:=by simpa using hb
   show b < (s1.heap.push _).objs.size
   rw[Uk]
   rcases this with z | z
   ·rw[z];exact Y9 _
   ·rw[z];exact UZ hq1
  ·rw[sZ hacc]
   obtain⟨h',g',d',t',os'⟩:=s'
   obtain rfl:g'=s1.gens:=hm.gens
   obtain rfl:d'=s1.drawn:=hm.drawn
   obtain rfl:os'=s1.os:=hm.os
   have fo:=I1.pR (H':=H1) (K0 s1.heap.objs.size) hfr
   have I3:Inv X pins σ H1 {s1 with heap:=h',toks:=t'}:=Inv.turned (s:={s1 with heap:=s1.heap.push (revObj q ((its.toArray.size:Int) - 1))}) (h':=h') (t':=t') (it:=s1.heap.objs.size) I2 (λb o hb e=>hm.heap b o (by simpa using hb) e) hfr fo.2.1 fo.2.2.2.1 fo.2.2.2.2.1 fo.2.2.2.2.2
   refine⟨.ref h'.objs.size,_,I3.laid (t':=t') (a:=h'.objs.size) (o:=.tup ys.reverse) (λb u e=>K4 _ e) (K0 _) ⟨by rw[Xy];exact hz,its.reverse,rv.reverse,IsTup.new _ _⟩,rfl,fin _ I3.fresh⟩
 | [],r1,q1=>exact False.elim q1
 | _ :: _ :: _,r1,q1=>exact False.elim q1
theorem s_ (hc:X.calm=true)(hg:Gl X "tuple")(hm:X.mg "tuple" =none)(hg2:Gl X "reversed")(hm2:X.mg "reversed" =none)(ha:DE X K Ew a fa)(hK:X.K=K:=by rfl)
  (hs:starEach [a] X.env=(false,eval a X.env) :: starEach [] X.env:=by rfl) (hpl:(backTo pos2 (starEach [] X.env)).any (·.1)=false:=by rfl)
  (hs2:starEach [.Call (.Name "reversed" p2) [a] [] pos2] X.env=(false,eval (.Call (.Name "reversed" p2) [a] [] pos2) X.env) :: starEach [] X.env:=by rfl) (qd:(backTo pos (starEach [] X.env)).any (·.1)=false:=by rfl)
  (hnil:backTo pos (starEach [] X.env)=[]:=by rfl) :
  DE X K Ew (.Call (.Name "tuple" p) [.Call (.Name "reversed" p2) [a] [] pos2] [] pos) (B_ v5 fa):=(Bh hc hg hm hg2 hm2 ha hs hpl hs2 qd hnil).imp λσ H Q q=>by
 obtain⟨B,φ,Γ,r0,q⟩:=q
 refine⟨B,φ,Γ,r0,(q.bind r0).mono λu H1 s1 ⟨k,x,e1,v1,r1,_,q1⟩=> ?_⟩
 obtain⟨z,e,q⟩:=fE (kf:=λ_=> .fr []) q1
 cases x <;> simp only[v5] at e <;> try (cases e;done)
 split at e
 ·rename_i xs hn
  cases e
  obtain⟨p,vs,rfl,h1,h2⟩:=a8 (v1.toD r1.bs)
  rw[hK]
  refine⟨p,vs,rfl,h1,λt ht=>q _ _ (s1.trans (Same.upd ht)) (VR.fresh.mpr (aP.tup ?_ (eK.of ay) (ax.same (Same.upd ht) _ _ (j5 h2))))⟩
  exact aF.mpr λx hx=>aF.mp hn x (Uy.mp hx)
 ·cases e
theorem j8:jh X (binaryOp .Mult) sd:=jh.ints Ip λx y z e=>by
 cases x <;> cases y <;> simp only[sd] at e <;> try (cases e;done)
 split at e
 ·rename_i c;cases e;exact⟨_,_,rfl,rfl,c,rfl,λ_ _=>bP⟩
 ·cases e
theorem Runs.no (h:Runs K Ew B φ H none Q):False:=by
 rcases h with⟨k,d,e,_⟩ | ⟨c,e,_⟩ <;> cases e
theorem Runs.ret (h:Runs K Ew B φ H (ah (k,d)) Q):∀v H',Same H H'->VR K B φ H H' k d v->Q v H':=by
 rcases h with⟨k',d',e,q⟩ | ⟨c,e,_⟩
 ·cases e;exact q
 ·cases e
theorem CW (h:isNew k=true):k= .fr []:=by
 match k,h with
 | .fr [],_=>rfl
theorem CY (h:Runs K Ew B φ H (yA k x y) Q):∃xs n,k= .fr []/\x= .list xs/\y= .int n/\
  (ar xs=true/\ -(2^63)<=n/\n < 2^63/\xs.length*n.toNat<=sizeLine)/\∀v H',Same H H'->VR K B φ H H' (.fr []) (.list (List.replicate n.toNat xs).flatten) v->Q v H':=by
 unfold yA at h
 by_cases hk:isNew k=true
 ·rw[Z4 hk] at h
  cases x <;> try (exact(Runs.no h).elim)
  rename_i xs
  replace h:Runs K Ew B φ H (yz xs y) Q:=h
  cases y <;> try (exact(Runs.no h).elim)
  rename_i n
  by_cases hc:ar xs=true/\ -(2^63)<=n/\n < 2^63/\xs.length*n.toNat<=sizeLine
  ·rw[yz,Z4 hc] at h
   exact⟨xs,n,CW hk,rfl,rfl,hc,h.ret⟩
  ·rw[yz,Z5 hc] at h
   exact(Runs.no h).elim
 ·rw[Z5 hk] at h
  exact(Runs.no h).elim
theorem yK (ha:DE X K Ew a fa)(hb:DE X K Ew b fb):DE X K Ew (.BinOp a .Mult b pos) (CC fa fb) :=
 (Hg IL ha hb).imp λσ H Q q=>p9 (g:=λx y=>yA x.1 x.2 y.2) q λB φ Γ k x k' y u v H1 H2 r2 s1 s2 v1 v2 q=>by
  obtain⟨xs,n,rfl,rfl,rfl,⟨hn,c1,c2,c3⟩,q⟩:=CY q
  obtain⟨as,h1,h2,h3⟩:=v1
  obtain⟨l,vs,bs,rfl,hl,ht,rfl⟩:=cA h1
  have hv:=aJ (v2.toD r2.bs)
  subst hv
  have hd:=aA.toD _ _ _ ht
  exact⟨l,n,vs,rfl,rfl,hl,c1,c2,by rw[am hd];exact c3,λp hp=>q _ _ ((s1.trans s2).trans (Same.upd hp)) (VR.fresh.mpr (aP.from (aP.lst (vW hn _) ay (ax.same (Same.upd hp) _ _ (v_ _ hd)) hp) (s1.trans s2)))⟩
open AutoSeq1 in
theorem FD (T:String)(hT:T= "list" ∨T= "tuple")(l b:Addr)(xs ys:Array Value)(n m:Nat)(dd:Option Addr)(sl:Array (Option Value))(h0:¬ (!xs.isEmpty && Builtin.List.listTooLong (xs.size+ys.size))=true)(h1:xs.size<=sizeLine)(h2:xs.size+ys.size<=sizeLine+1)(hlb:l≠b) :
  Meets (Builtin.«list.extend» ⟨[.ref l,.ref b],[]⟩) (λ_ R s=>s.heap.get? l=some {cls:=.type "list",data:=.seq xs n}/\s.heap.get? b=some ⟨.type T,dd,.seq ys m,sl⟩/\R (.ok (.ret Value.none)) {s with heap:=s.heap.update l (Obj.mapSeq λx=>x++ys)}) :=
 .of_wp λprog w A R s q=>by
  obtain⟨hp,g,d,tk,os⟩:=s
  obtain⟨hl,hb,q⟩:=q
  have f1:=AutoSeq1.idx_int;have f2:=AutoSeq1.sub_tuple_tuple;have f3:=AutoSeq1.sub_list_list;have f4:=AutoSeq1.sub_tuple_list;have f5:=AutoSeq1.sub_list_tuple
  have hz:(xs++ys).size<=sizeLine+1:=by(rw[Array.size_append]);exact h2
  rcases hT with rfl | rfl
  ·(wp_walk using (wpAny_updateSeq hl rfl (hz:=h1) (_hz':=hz)),wpAny_loadPart' hl,wpAny_loadPart' hb);exact⟨_,rfl,q⟩
  ·(wp_walk using (wpAny_updateSeq hl rfl (hz:=h1) (_hz':=hz)),wpAny_loadPart' hl,wpAny_loadPart' hb);exact⟨_,rfl,q⟩
def CZ (K:Frag):V->List V->Hp->VK->Prop:=λx vs H Q=>∃l b xs zs,x= .ref l/\vs=[.ref b]/\H l=some (.lst xs)/\(l=b->∃o,K.lookup b=some o)/\(fU K H b zs∨eK K H b zs)/\xs.length+zs.length<=sizeLine/\Q .non (upd H l (.lst (xs++zs)))
theorem zZ:MZ X "list.extend" (CZ X.K):=by
 intro pins s σ H x vs v us Q I rx rv h
 obtain⟨l,b,xs,zs,rfl,rfl,hH,hlb,hB,hz,q⟩:=h
 replace hlb:l≠b:=λz=>by
  obtain⟨o,ho⟩:=hlb z
  have:=(I.bs b o (I.ok.mod.MR b o ho)).2
  rw[←z,hH] at this
  cases this
 cases rx
 obtain⟨u,rfl,ru⟩:=rv.one
 cases ru
 obtain⟨z,its,n,r,hl,e⟩:=I.IJ hH
 have main:∀(T:String) (hT:T= "list" ∨T= "tuple") (its2:List Value) (dd:Option Addr) (sl:Array (Option Value)) (m:Nat),Vals zs its2->s.heap.get? b=some ⟨.type T,dd,.seq its2.toArray m,sl⟩->wpAny (!7) X.A (call (.builtin "list.extend") [.ref l,.ref b]) (EP X pins σ Q) X.xe s:=λT hT its2 dd sl m r2 e2=>by
  have hl2:=r2.length
  have hsz:its.toArray.size+its2.toArray.size<=sizeLine:=by rw[Kz,Kz];omega
  have Cy:¬ (!its.toArray.isEmpty && Builtin.List.listTooLong (its.toArray.size+its2.toArray.size))=true:=λw=>by
   rw[vU hsz,Bool.and_false] at w
   cases w
  refine call_meets F.slot_list_extend ⟨_,e,rfl⟩ F.entry_list_extend (F.args_list_extend_2 _ _) (FD T hT l b its.toArray its2.toArray n m dd sl Cy (by rw[Kz];omega) (!1) hlb) ⟨e,e2,?_⟩
  refine⟨.non,_,I.LU (t':=s.toks) (its':=its++its2) hH e (by simp) (r.append r2) ?_,rfl,q⟩
  (rw[K2]);omega
 rcases hB with hB | hB
 ·obtain⟨its2,r2,⟨⟨c2,d2,OZ,sl2⟩,n2,ho2,hc2,_,hd2⟩,hz2⟩:=I.list hB
  simp only at hc2 hd2
  subst hc2 hd2
  exact main "list" (.inl rfl) its2 d2 sl2 n2 r2 ho2
 ·obtain⟨its2,r2,⟨⟨c2,d2,OZ,sl2⟩,ho2,hc2,n2,hd2⟩,hz2⟩:=I.tuple hB
  simp only at hc2 hd2
  subst hc2 hd2
  exact main "tuple" (.inr rfl) its2 d2 sl2 n2 r2 ho2
theorem C0 (ho:PE X o (mh i))(he:DE X K Ew e fe)(hK:X.K=K:=by rfl)
  (hbase:attributeBase o "extend" X.env (eval o X.env)=eval o X.env:=by rfl)
  (hfew:((backTo cpos (starEach [e] X.env)).all (λx=> !x.1) && (backToKw cpos (keywordEach [] X.env)).all (λx=>x.1.isSome)
   && decide (([e]:List Expr).length+([]:List Keyword).length+(if ([]:List Keyword).isEmpty then 0 else 1) < 30))=true:=by rfl)
  (hline:(apos.endLine==cpos.line)=true:=by rfl) (hs:starEach [e] X.env=(false,eval e X.env) :: starEach [] X.env:=by rfl) (hplain:(backTo cpos (starEach [] X.env)).any (·.1)=false:=by rfl)
  (hsw:swapsWith (.Call (.Attribute o "extend" apos) [e] [] cpos) none pos.line X.env=pure false:=by rfl) :
  DS X K Ew (.Expr (.Call (.Attribute o "extend" apos) [e] [] cpos) pos) (v4 i fe) :=
 (mE (zL PySem.F.plainAttrs_list PySem.F.slot_list_extend PySem.F.type_list_extend zZ ho (b_ he dS hs) hbase hfew hline hs hplain) hsw).imp λD σ H q=>by
  obtain⟨B,φ,Γ,r,q⟩:=q
  unfold v4 at q
  obtain⟨xs,hg,q⟩:=M1 q
  obtain⟨v,hv,hT⟩:=r.own hg
  obtain⟨l,vs,bs,rfl,hl,ht,hφ⟩:=cA hT
  refine⟨.ref l,hv,.inl ⟨rfl,vs,fU.of hl⟩,B,φ,Γ,r,?_⟩
  match hm:fe Γ,q with
  | some (.ok (k,d)),q=>
   refine .inl ⟨k,d,rfl,λy H1 s1 hy=> ?_⟩
   have r1:=r.same s1
   have hl1:=s1 _ _ hl
   have hlen:vs.length=xs.length:=ck ht
   have hli:l∈φ i:=by rw[hφ];exact K9
   replace q:cI K Ew B (match yD k d with
    | some ys=>if ar ys=true/\xs.length+ys.length<=sizeLine then ah (.nx (Γ.set i (some (true,.list (xs++ys))))) else none
    | none=>none) D:=q
   have hd:=hy.toD r1.bs
   have hnd:=r.nd i
   rw[hφ] at hnd
   have hnb:l∉bs:=(KQ.mp hnd).1
   have main:∀(b:Addr) (ws:List V) (ys:List PyData),y= .ref b->yD k d=some ys->(l=b->∃o,K.lookup b=some o)->(fU K H1 b ws∨eK K H1 b ws)->ax K H1 ys ws->CZ X.K (.ref l) [y] H1 λ_ H1=>D.nx σ H1:=λb ws ys ey ei NU hb hws=>by
    rw[ei] at q
    by_cases hc:ar ys=true/\xs.length+ys.length<=sizeLine
    ·replace q:cI K Ew B (ah (.nx (Γ.set i (some (true,.list (xs++ys)))))) D:=by simpa only[Z4 hc] using q
     subst ey
     refine⟨l,b,vs,ws,rfl,rfl,hl1,by rw[hK];exact NU,by rw[hK];exact hb,by rw[am hws];omega,?_⟩
     refine q B _ σ _ (Same.refl B) (r1.chg (d:=.list (xs++ys)) (as:=l :: bs) hli hl1 trivial hv ?_ hnd (λa ha=> .inl (by rw[hφ];exact ha)) trivial)
     have h1:=aA.upd (o':=.lst (vs++ws)) hl1 trivial _ _ _ hnb (aA.same s1 _ _ _ ht)
     have h2:=aA.upd (o':=.lst (vs++ws)) hl1 trivial _ _ _ (show l∉[] by simp) (ax.toT _ _ hc.1 hws)
     have h3:=dF h1 h2
     rw[Xj] at h3
     exact fC ay h3
    ·simp only[Z5 hc] at q
     exact False.elim q
   cases d <;> try (exact False.elim q)
   ·rename_i ys
    match k,hy,q,main with
    | .fr [],hy,q,main=>
     obtain⟨as,h1,h2,h3⟩:=hy
     obtain⟨b,ws,cs,ey,hb,hws,rfl⟩:=cA h1
     refine main b ws ys ey rfl (λz=> ?_) (.inl (fU.of hb)) (aA.toD _ _ _ hws)
     rcases h3 b K9 with⟨_,w,_⟩ | w
     ·cases w
     ·rw[←z,hl] at w;cases w
    | .base,hy,q,main=>
     obtain⟨b,ws,ey,hb,hws⟩:=a8 (show aK K B (.list ys) y from hy)
     refine main b ws ys ey rfl (λz=> ?_) (.inl (r1.bs.seq hb)) (ax.same r1.bs _ _ hws)
     have hB:=(r.nb i l hli).1
     rcases hb with(w | ⟨o,w⟩) | ⟨o,_,_,w,_⟩
     ·rw[←z,hB] at w;cases w
     ·rw[←z,hB] at w;cases w
     ·exact⟨o,w⟩
    | .fr (_ :: _),hy,q,main=>exact False.elim q
    | .any,hy,q,main=>exact False.elim q
   ·rename_i ys
    obtain⟨b,ws,ey,hb,hws⟩:=aL hd
    refine main b ws ys ey rfl (λz=> ?_) (.inr hb) hws
    rcases hb with(w | ⟨o,w⟩) | ⟨o,_,_,w,_⟩
    ·rw[←z,hl1] at w;cases w
    ·rw[←z,hl1] at w;cases w
    ·exact⟨o,w⟩
  | some (.ex c),q=>exact .inr ⟨c,rfl,q⟩
  | none,q=>cases q
end
section
variable {X:Cx}{K:Frag}{Ew:Str->Hp->Prop}{pos pos2 p p2:Pos}{a e o j:Expr}{ta:TE}{fa fe fj:EF}{apos cpos:Pos}
theorem yL (ho:PE X o (mh i))(hj:DE X K Ew j fj)(he:DE X K Ew e fe)
  (ha:∀v,assign (.Subscript o j p) X.env v=(do
   let ov←holding [v] (eval o X.env)
   let iv←holding [v,ov] (eval j X.env)
   standAt p
   holding [v,ov,iv] (setItem ov iv v)
   release [v,ov,iv] []):=by intro _;rfl)
  (hs:swapsWithSole [.Subscript o j p] e pos.line X.env=pure false:=by rfl) (hw:swappedStores [.Subscript o j p] e X.env=pure none:=by rfl)
  (h1:(assignEach [.Subscript o j p] X.env).map (·.2)=[assign (.Subscript o j p) X.env]:=by rfl):DS X K Ew (.Assign [.Subscript o j p] e pos) (CF i fj fe) :=
 (uk he (yo ho hj set_list ha) hs hw h1).imp λD σ H q=>
  gH (g:=λx Γ=>match Γ[i]? with
   | some (some (true,.list xs))=>ao (fj Γ) λy=>match y.2 with
    | .int n=>match Y.sO xs.length n with
     | some m=>if bp x.2 && ar xs then ah (.nx (Γ.set i (some (true,.list (xs.set m x.2))))) else none
     | none=>none
    | _=>none
   | _=>none) q λB φ Γ k d y H1 r av q=>by
   obtain⟨xs,hg,q⟩:=M1 q
   obtain⟨v,hv,hT⟩:=r.own hg
   obtain⟨l,vs,bs,rfl,hl,ht,hφ⟩:=cA hT
   have hli:l∈φ i:=by rw[hφ];exact K9
   refine⟨.ref l,hv,B,φ,Γ,r,?_⟩
   match hm:fj Γ,q with
   | some (.ok (k',d')),q=>
    refine .inl ⟨k',d',rfl,λw H2 s2 hw=> ?_⟩
    have r2:=r.same s2
    cases d' <;> try (exact False.elim q)
    rename_i n
    have:=aJ (hw.toD r2.bs)
    subst this
    replace q:cI K Ew B (match Y.sO xs.length n with
     | some m=>if bp d && ar xs then ah (.nx (Γ.set i (some (true,.list (xs.set m d))))) else none
     | none=>none) D:=q
    match hix:Y.sO xs.length n,q with
    | some m,q=>
     replace q:cI K Ew B (if bp d && ar xs then ah (.nx (Γ.set i (some (true,.list (xs.set m d))))) else none) D:=q
     by_cases hc:(bp d && ar xs)=true
     ·rw[Z4 hc] at q
      have hc':bp d=true/\ar xs=true:=by simpa using hc
      have hlen:=ck ht
      refine⟨l,vs,n,m,rfl,rfl,s2 _ _ hl,by rw[hlen];exact hix,?_⟩
      have hbs:bs=[]:=aA.nil _ _ _ hc'.2 ht
      subst hbs
      have hds:=ax.same s2 _ _ (aA.toD _ _ _ ht)
      have hdd:=aK.same s2 _ _ (av.toD r.bs)
      have hns:ar (xs.set m d)=true:=aF.mpr λx hx=>by
       rcases List.mem_or_eq_of_mem_set hx with z | z
       ·exact aF.mp hc'.2 x z
       ·rw[z];exact hc'.1
      have hnew:=aA.upd (o':=.lst (vs.set m y)) (s2 _ _ hl) trivial _ _ _ (show l∉[] by simp) (ax.toT _ _ hns (v9 m hds hdd))
      exact q B _ σ _ (Same.refl B) (r2.chg (d:=.list (xs.set m d)) (as:=[l]) hli (s2 _ _ hl) trivial hv (fC ay hnew) (KQ.mpr ⟨by simp,X2⟩) (λa ha=> .inl (by rw[K7.mp ha];exact hli)) trivial)
     ·rw[Z5 hc] at q
      exact False.elim q
    | none,q=>cases q
   | some (.ex c),q=>exact .inr ⟨c,rfl,q⟩
   | none,q=>cases q
end
theorem C1 {X:Cx}{K:Frag}{Ew:Str->Hp->Prop}{st:Stmt}:DS X K Ew st CD:=Cj.imp λD σ H q=>by
 obtain⟨B,φ,Γ,r,q⟩:=q
 exact False.elim q
theorem NV {P:Program}{w:World}{K:Frag}{mg:Str->Option Value}{base:Heap}{x qual:Str}{st:Stmt}{f:Addr}{fd:FuncData}{N ps:List Str}(k n m:Nat){fb:SF}(hn:N.length=n)(hm:ps.length=m)(F:EW K x qual st f fd)(S:iZ N ps (aC st))
  (hbody:∀(cdv:Value) (A:Around) (outer:List Env) (s:Shared) (H:Hp) (E:XK),g_ k (A.deeper (envOfC qual (aC st) s.heap.objs.size f cdv))->
   Bb (rY zN P w K mg base N qual (aC st) f cdv A outer s H E).Hb K (λ_ _=>False) (eM st) fb):mG P w K mg base zN (k+1) f fd ps (iW K m (cz n fb)):=by
 subst hn hm
 exact F.PD S hbody
theorem C2 {K:Frag}{H:Hp}{a:Addr}{ns:List Int}{F:FF}(hS:fU K H a (ns.map V.int))(h:∃o,F [.list (!6)]=some (.ok (o,.bool true))):iW K 1 F [.ref a] H (λv _=>v= .bl true) λ_ _ _=>False:=by
 obtain⟨o,h⟩:=h
 refine⟨[.list (!6)],rfl,a_ (uz hS (sU ns)) bn,?_⟩
 rw[h]
 intro v H' s r
 unfold RV at r
 cases o with
 | true=>rw[Z4 rfl] at r;obtain⟨as,h1,_⟩:=r;exact lE (IsT.toD _ _ _ h1)
 | false=>rw[Z5 K3] at r;exact lE r
noncomputable def oD (xs:List V)(lo hi st:Option Int):List V:=(sliceRange (sliceBounds lo hi st xs.length).1 (sliceBounds lo hi st xs.length).2.1 (sliceBounds lo hi st xs.length).2.2).filterMap (xs[·]?)
theorem lI (r:Vals xs us):∀(ks:List Nat),Vals (ks.filterMap (xs[·]?)) (ks.filterMap (us[·]?))
 | []=> .nil
 | k :: ks=>by
  cases e:xs[k]? with
  | none=>
   rw[U6,U6,e,r.none_of e]
   exact lI r ks
  | some x=>
   obtain⟨u,hu,ru⟩:=r.get e
   rw[U6,U6,e,hu]
   exact .cons ru (lI r ks)
section
variable {X:Cx}{e st:Expr}{te:TE}{lo hi:Option Expr}{tl th ts:TO}{pos p2:Pos}
def NW (K:Frag)(te:TE)(tl th ts:TO):TE:=λσ H Q=>te σ H λx H1=>tl σ H1 λl H2=>th σ H2 λu H3=>ts σ H3 λt H4=>∃a xs,x= .ref a/\fU K H4 a xs/\t≠some 0/\∀p,H4 p=none->(oD xs l u t).length<=xs.length->Q (.ref p) (upd H4 p (.lst (oD xs l u t)))
theorem Bi (he:PE X e te)(hl:PO X lo tl)(hu:PO X hi th)(ht:PO X (some st) ts):PE X (.Subscript e (.Slice lo hi (some st) p2) pos) (NW X.K te tl th ts):=by
 intro pins s σ H Q I h
 refine Subscript_ (di (he pins s σ H _ I h) λv s1 ⟨x,H1,I1,r1,q1⟩=> ?_)
 refine wpAny_Slice (di (hl pins s1 σ H1 _ I1 q1) λvl s2 ⟨l,H2,I2,pl,q2⟩=>di (hu pins s2 σ H2 _ I2 q2) λvu s3 ⟨u,H3,I3,pu,q3⟩=>di (ht pins s3 σ H3 _ I3 q3) λvt s4 ⟨t,H4,I4,pt,q4⟩=> ?_)
 obtain⟨a,xs,rfl,hx,hz,q⟩:=q4
 cases r1
 have I5:Inv X pins σ H4 {s4 with heap:=s4.heap.push {cls:=.type "slice",data:=.fields #[vl,vu,vt]}}:=I4.kept (t':=s4.toks) λb ob q=>K4 _ q
 obtain⟨its,r,hpl,hsz⟩:=I5.list hx
 have hlen:=r.length
 have hple:(oD xs l u t).length<=xs.length:=by
  have h1:=slicePick_size_le its.toArray l u t
  have h2:(oD xs l u t).length=(slicePick its.toArray l u t).size:=by
   unfold slicePick oD
   rw[Kz,Kz,hlen]
   exact(lI r _).length.trans (by simp)
  rw[h2,hlen]
  simpa using h1
 show wpAny (!7) X.A (subscriptTail e (.Slice lo hi (some st) p2) (.ref a) (.ref s4.heap.objs.size)) (EP X pins σ Q) X.xe {s4 with heap:=s4.heap.push {cls:=.type "slice",data:=.fields #[vl,vu,vt]}}
 refine tail_any (ops:=[.ref a,.ref s4.heap.objs.size]) hpl.isList.typeIs slot_list_getitem.lookup ?_ (by with_unfolding_all rfl)
 refine wpAny_getItem_list_slice hpl.isList (Heap.IsSliceOf.new ..) pl pu pt hz ?_ (by rw[Kz];omega)
 refine⟨.ref _,_,I5.laid (t':=s4.toks) (o:=.lst (oD xs l u t)) (λb ob q=>K4 _ q) (K0 _) ?_,rfl,q _ (I5.hok.fresh (K0 _)) hple⟩
 refine⟨Kw hple hsz,_,0,?_,Kv _ rfl⟩
 have hv:=lI r (sliceRange (sliceBounds l u t xs.length).1 (sliceBounds l u t xs.length).2.1 (sliceBounds l u t xs.length).2.2)
 have e2:(slicePick its.toArray l u t).toList=(sliceRange (sliceBounds l u t xs.length).1 (sliceBounds l u t xs.length).2.1 (sliceBounds l u t xs.length).2.2).filterMap (its[·]?):=by
  unfold slicePick
  rw[Kz,←hlen]
  simp
 rw[←e2] at hv
 exact hv
end
section
variable {prog:Program}{w:World}{A:Around}{E:Zu}{s:Shared}
theorem l5 {t sl:Addr}{items:Array Value}{vl vu:Value}{lo hi:Option Int}{Q:Zu}(ht:IsTup s.heap t items)(hs:s.heap.IsSliceOf sl vl vu .none)(pl:IsPart vl lo)(pu:IsPart vu hi)
  (hw:HT.dU items.size 0 lo=0/\HT.dU items.size items.size hi=items.size) (h:Q (.ref t) s):wpAny (!4) A (getItem (.ref t) (.ref sl)) Q E s:=by
 obtain⟨os,hos,hcs,hds⟩:=id hs
 have hTs:s.TypeIs (.ref sl) "slice":=⟨os,hos,hcs⟩
 unfold getItem
 try with_reducible refine Z1 ?_
 first | refine Z7 (Z6 ?_) | skip
 refine Z7 (wpAny_sequenceKey ht.typeIs (!8) ?_)
 refine Z7 (wpAny_callSpecial?_slot (name:=Str.ofString "__getitem__") ht.typeIs PyProof.Rows.slot_tuple_getitem
  (Z0 PyProof.Rows.slot_tuple_getitem ht.typeIs entry_tuple_getitem ?_ (args_tuple_getitem _ _)))
 show wpAny _ _ (Builtin.Tuple.tupleItemsOf (.ref t) >>=_) _ _ s
 refine Z7 (tupleItemsOf_ ht ?_)
 refine Z7 (wpAny_typeOf hTs ?_)
 rw[Z4 (!8)]
 refine Z7 (HT.jz hs pl pu ?_)
 have hyes:(((HT.dU items.size 0 lo:Nat):Int)==0 && (1:Int)==1 && (HT.dU items.size items.size hi - HT.dU items.size 0 lo)==items.size)=true:=by
  rw[hw.1,hw.2];simp
 show wpAny _ _ (if (((HT.dU items.size 0 lo:Nat):Int)==0 && (1:Int)==1 && (HT.dU items.size items.size hi - HT.dU items.size 0 lo)==items.size)=true then _ else _) _ _ s
 rw[Z4 hyes]
 unfold Builtin.Tuple.tupleIsExact
 refine Z7 ?_
 first
  | exact Z7 (wpAny_typeOf ht.typeIs (Z6 (Z7 (wpAny_rule (Z6 ⟨_,rfl,Z6 h⟩)))))
  | (
    refine Z7 (wpAny_typeOf ht.typeIs (Z6 ?_))
    rw[Z4 (!8)]
    exact Z7 (wpAny_rule (Z6 ⟨_,rfl,Z6 h⟩)))
end
theorem wo {K:Frag}{H:Hp}{ds:List PyData}{vs:List V}(h:ax K H ds vs)(lo hi:Option Int):ax K H (cutD ds lo hi) (vT vs lo hi):=by
 have e:cutD ds lo hi=(ds.drop (HT.dU ds.length 0 lo)).take (HT.dU ds.length ds.length hi - HT.dU ds.length 0 lo):=rfl
 rw[e]
 unfold vT
 rw[am h]
 exact sS _ (sT _ h)
theorem qe (h:ar ds=true)(lo hi:Option Int):ar (cutD ds lo hi)=true:=aF.mpr λx hx=>aF.mp h x (U9 (U0 hx))
section
variable {X:Cx}{K:Frag}{Ew:Str->Hp->Prop}{pos p2:Pos}{e:Expr}{fe:EF}{lo hi st:Option Expr}{fl fh fs:Option EF}
def NX (K:Frag):V->Option Int->Option Int->Hp->VK->Prop:=λx lo hi H Q=>∃d z,aK K H d x/\IP d lo hi=some z/\∀v H',Same H H'->aP K H H' z v->Q v H'
theorem NY:MY X (NX X.K):=by
 intro pins s σ H x v vl vu lo hi sl Q I rx hs pl pu h
 obtain⟨d,z,hd,hz,q⟩:=h
 cases d <;> simp only[IP] at hz <;> try (cases hz;done)
 ·rename_i ds
  split at hz
  ·rename_i hn
   cases hz
   obtain⟨a,xs,rfl,hx,hi'⟩:=a8 hd
   exact Fg pins s σ H _ v vl vu lo hi sl Q I rx hs pl pu ⟨a,xs,rfl,hx,λp hp=>q _ _ (Same.upd hp) (aP.lst (qe hn lo hi) ay (ax.same (Same.upd hp) _ _ (wo hi' lo hi)) hp)⟩
  ·cases hz
 ·rename_i ds
  split at hz
  ·rename_i hn
   cases hz
   obtain⟨a,xs,rfl,hx,hi'⟩:=aL hd
   by_cases hw:HT.dU xs.length 0 lo=0/\HT.dU xs.length xs.length hi=xs.length
   ·cases rx
    obtain⟨its,r,ht,hz⟩:=I.tuple hx
    have hlen:its.toArray.size=xs.length:=by rw[Kz];exact r.length.symm
    refine⟨"tuple",_,PyProof.Rows.slot_tuple_getitem.lookup,ht.typeIs,?_⟩
    refine l5 ht hs pl pu (by rw[hlen];exact hw) ⟨.ref a,H,I,rfl,q _ H (Same.refl H) (aP.ml (by rw[bp];exact qe hn lo hi) ?_)⟩
    have e:cutD ds lo hi=ds:=by
     have e:cutD ds lo hi=(ds.drop (HT.dU ds.length 0 lo)).take (HT.dU ds.length ds.length hi - HT.dU ds.length 0 lo):=rfl
     rw[e,←am hi',hw.1,hw.2,Y7,Nat.sub_zero]
     exact XJ (by rw[am hi'];exact K0 _)
    rw[e]
    exact hd
   ·exact IB pins s σ H _ v vl vu lo hi sl Q I rx hs pl pu ⟨a,xs,rfl,hx,hw,λp hp=>q _ _ (Same.upd hp) (aP.tup (qe hn lo hi) (eK.of ay) (ax.same (Same.upd hp) _ _ (wo hi' lo hi)))⟩
  ·cases hz
def tO (K:Frag)(Ew:Str->Hp->Prop)(f:Option EF):TO:=λσ H Q=>∃B φ Γ,Rep K B φ Γ σ H/\((∃o,oE f Γ=some (.ok o)/\∀H',Same H H'->Q o H')∨(∃c,oE f Γ=some (.ex c)/\∀H',Same B H'->Ew c H'))
def IW (X:Cx)(K:Frag)(Ew:Str->Hp->Prop)(e:Option Expr)(f:Option EF):Prop:=PO X e (tO K Ew f)
theorem PO.imp {X:Cx}{e:Option Expr}{t t':TO}(h:PO X e t)(i:∀σ H Q,t' σ H Q->t σ H Q):PO X e t':=λpins s σ H Q I q=>h pins s σ H Q I (i σ H Q q)
theorem jJ:IW X K Ew none none:=Fc.imp λσ H Q q=>by
 obtain⟨B,φ,Γ,r,q⟩:=q
 rcases q with⟨o,e,q⟩ | ⟨c,e,_⟩
 ·cases e;exact q H (Same.refl H)
 ·cases e
theorem kO (he:DE X K Ew e fe):IW X K Ew (some e) (some fe):=(Fd he).imp λσ H Q q=>by
 obtain⟨B,φ,Γ,r,q⟩:=q
 refine⟨B,φ,Γ,r,?_⟩
 have e0:oE (some fe) Γ=ao (fe Γ) λx=>oI x.2:=rfl
 rw[e0] at q
 match hm:fe Γ,q with
 | some (.ok (k,d)),q=>
  refine .inl ⟨k,d,rfl,λv H' s hv=> ?_⟩
  cases d <;> try (rcases q with⟨o,e,_⟩ | ⟨c,e,_⟩ <;> cases e;done)
  rename_i n
  have:=aJ (hv.toD (r.bs.trans s))
  subst this
  rcases q with⟨o,e,q⟩ | ⟨c,e,_⟩
  ·cases e;exact⟨n,rfl,q H' s⟩
  ·cases e
 | some (.ex c),q=>
  rcases q with⟨o,e,q⟩ | ⟨c',e,q⟩
  ·cases e
  ·cases e;exact .inr ⟨c,rfl,q⟩
 | none,q=>rcases q with⟨o,e,_⟩ | ⟨c,e,_⟩ <;> cases e
theorem mK {φ:Nat->List Addr}{Γ:bL}{σ:St}{g:Option Int->M (Kd×PyData)}{Q:VK}{R:Option Int->Hp->Prop}(r:Rep K B φ Γ σ H)(h:Runs K Ew B φ H (ao (oE fo Γ) g) Q)
  (i:∀o H1,Same H H1->Rep K B φ Γ σ H1->Runs K Ew B φ H1 (g o) Q->R o H1):tO K Ew fo σ H R:=by
 refine⟨B,φ,Γ,r,?_⟩
 match hm:oE fo Γ,h with
 | some (.ok o),h=>exact .inl ⟨o,rfl,λH1 s=>i o H1 s (r.same s) (Runs.later h s)⟩
 | some (.ex c),h=>
  rcases h with⟨k,d,e,_⟩ | ⟨c',e,h⟩
  ·cases e
  ·cases e;exact .inr ⟨c,rfl,h⟩
 | none,h=>exact(Runs.no h).elim
theorem z0 (he:DE X K Ew e fe)(hl:IW X K Ew lo fl)(hu:IW X K Ew hi fh)(hK:X.K=K:=by rfl):DE X K Ew (.Subscript e (.Slice lo hi none p2) pos) (Fq fe fl fh):=(Cu NY he hl hu).imp λσ H Q q=>by
 obtain⟨B,φ,Γ,r,q⟩:=q
 refine⟨B,φ,Γ,r,(q.bind r).mono λu H1 s1 ⟨k,x,e1,v1,r1,_,q1⟩=> ?_⟩
 refine mK r1 (q1.later s1) λl H2 s2 r2 q2=>mK r2 q2 λh H3 s3 r3 q3=> ?_
 obtain⟨z,ez,q⟩:=fE (kf:=λ_=> .fr []) q3
 rw[hK]
 exact⟨x,z,aK.same (s2.trans s3) _ _ (v1.toD r1.bs),ez,λv H' s f=>q v H' s (VR.fresh.mpr f)⟩
theorem FE (h:ax K H ds vs)(lo hi st:Option Int):ax K H (pZ ds lo hi st) (oD vs lo hi st):=by
 unfold pZ oD
 rw[am h]
 exact nO h _
theorem IX {fs:EF}(he:DE X K Ew e fe)(hl:IW X K Ew lo fl)(hu:IW X K Ew hi fh)(ht:IW X K Ew (some se) (some fs))(hK:X.K=K:=by rfl):DE X K Ew (.Subscript e (.Slice lo hi (some se) p2) pos) (Fs fe fl fh (some fs)):=(Bi he hl hu ht).imp λσ H Q q=>by
 obtain⟨B,φ,Γ,r,q⟩:=q
 refine⟨B,φ,Γ,r,(q.bind r).mono λu H1 s1 ⟨k,x,e1,v1,r1,_,q1⟩=> ?_⟩
 refine mK r1 (q1.later s1) λl H2 s2 r2 q2=>mK r2 q2 λh H3 s3 r3 q3=>mK r3 q3 λt H4 s4 r4 q4=> ?_
 obtain⟨z,ez,q⟩:=fE (kf:=λ_=> .fr []) q4
 cases x <;> simp only[IQ] at ez <;> try (cases ez;done)
 rename_i ds
 split at ez
 ·rename_i hc
  cases ez
  obtain⟨a,vs,rfl,hv,hd⟩:=a8 (aK.same ((s2.trans s3).trans s4) _ _ (v1.toD r1.bs))
  rw[hK]
  refine⟨a,vs,rfl,hv,hc.2,λp hp _=>q _ _ (Same.upd hp) (VR.fresh.mpr (aP.lst ?_ ay (ax.same (Same.upd hp) _ _ (FE hd l h t)) hp))⟩
  refine aF.mpr λy hy=>aF.mp hc.1 y ?_
  unfold pZ at hy
  obtain⟨j,_,ej⟩:=List.mem_filterMap.mp hy
  exact Y3 ej
 ·cases ez
end
theorem z8:Manifest.owners.lookup (String.ofList ['d','e','s','r','e','v','e','r'].reverse)=some Manifest.sig_reversed:=by(kernel_rfl)
theorem en:Slot "reversed" "__next__" "reversed.__next__" :=
 .of (owner:="reversed") (n:="__next__") (by(rw[typeLookup_type,builtinLookup_eq_fast]);kernel_rfl) (!5) (!5) (!5) (by first | exact .inl (!5) | exact .inr (!5)) (by(rw[isSubtype_type]);kernel_rfl)
theorem mL:entryFor table "reversed.__next__" =some Builtin.«reversed.__next__»:=entryFor_of_tree (by(kernel_rfl))
theorem mM (a:Value):argsOk "reversed.__next__" ⟨[a],[]⟩:=by
 unfold argsOk;rw[signature?_of (id:="reversed.__next__") (n:=['_','_','t','x','e','n','_','_']) (o:=['d','e','s','r','e','v','e','r']) (by(kernel_rfl)) z8];(kernel_rfl)
theorem l8:Slot "reversed" "__iter__" "reversed.__iter__" :=
 .of (owner:="reversed") (n:="__iter__") (by(rw[typeLookup_type,builtinLookup_eq_fast]);kernel_rfl) (!5) (!5) (!5) (by first | exact .inl (!5) | exact .inr (!5)) (by(rw[isSubtype_type]);kernel_rfl)
theorem uH (a:Value):argsOk "reversed.__iter__" ⟨[a],[]⟩:=by
 unfold argsOk;rw[signature?_of (id:="reversed.__iter__") (n:=['_','_','r','e','t','i','_','_']) (o:=['d','e','s','r','e','v','e','r']) (by(kernel_rfl)) z8];(kernel_rfl)
theorem uI:entryFor table "reversed.__iter__" =some Builtin.«dict_keyiterator.__iter__» :=
 entryFor_alias (id':="dict_keyiterator.__iter__") (by(kernel_rfl)) (by first | rfl | decide+kernel | (unfold String.splitOn;simp+decide [String.splitOnAux])) (!5) (by(kernel_rfl))
theorem Bj:typeLookup (.type "tuple") "__reversed__" =pure none:=by(rw[typeLookup_type,builtinLookup_eq_fast]);(kernel_rfl)
theorem uJ:isSubtype (.type "tuple") (.type "dict")=pure false:=by(rw[isSubtype_type]);(kernel_rfl)
noncomputable def nQ (t:Addr)(i:Int):Obj:={cls:=.type "reversed",data:=.fields #[.ref t,rawInt i]}
def oF (h:Heap)(a t:Addr)(i:Int):Prop:=h.get? a=some (nQ t i)
section
variable {prog:Program}{w:World}{A:Around}{E:Zu}{s:Shared}
theorem uK (ht:IsTup s.heap t items)(hz:items.size<=sizeLine)
  (h:∀tk,Q1 (.ref s.heap.objs.size) {s with heap:=s.heap.push (nQ t ((items.size:Int) - 1)),toks:=tk}) :
  codeAny (!4) A (.call (.builtin "reversed.__new__") ⟨[.type "reversed",.ref t],[]⟩) (wants Q1 E) s:=by
 refine codeAny_of_tree ?_
 show wpAny _ A.in1 (do checkBuiltinCall "reversed.__new__" ⟨[.type "reversed",.ref t],[]⟩;again (.builtin "reversed.__new__" ⟨[.type "reversed",.ref t],[]⟩)) _ _ s;refine Z7 (wpAny_of_eq (F.newCall_reversed_1 _) (Z6 ⟨plainId_quiet F.plain_reversed_new _,codeAny_builtin F.entry_reversed_new ?_⟩))
 rw[Around.under_plainId F.plain_reversed_new _];unfold Builtin.«reversed.__new__»
 refine Z7 (wpAny_of_eq (newClass_reversed _) ?_)
 try dsimp only
 refine Z7 (wpAny_of_eq (a:=()) (by first | rfl | kernel_rfl) ?_);refine Z7 (wpAny_of_eq (a:=()) (by first | rfl | kernel_rfl) ?_)
 try dsimp only
 refine Z7 (Zx ht.typeIs Bj ?_)
 have hT:=ht.typeIs
 have hd:=uJ
 have hget:=PyProof.Rows.slot_tuple_getitem.lookup
 show wpAny _ _ (_ >>=_) _ _ _
 refine Z7 ?_
 wp_delta
 refine Z7 (wpAny_isInstance hT hd ?_);rw[Z5 K3]
 refine Z7 (Zx hT hget ?_)
 try dsimp only
 rw[Z4 (!5)]
 refine Z6 ?_
 rw[Z5 (!8)]
 have NZ:=kN
 refine Z7 (len_tuple ht (!1) ?_)
 refine Z7 (wpAny_of_eq (a:=some ((items.size:Nat):Int)) (by first | rfl | kernel_rfl) ?_)
 try dsimp only
 refine Z7 ?_
 wp_delta
 exact Zk (Z6 (h _))
theorem mn:TypeCalled "reversed" "reversed.__new__" "object.__init__" :=
 ⟨by decide+kernel,by decide+kernel,⟨_,_,F.mro_reversed⟩,F.made_reversed,by decide+kernel,by(rw[isSubtype_type]);kernel_rfl,.of (owner:="object") (n:="__init__") (by(rw[typeLookup_type,builtinLookup_eq_fast]);kernel_rfl) (!5) (!5) (!5) (by first | exact .inl (!5) | exact .inr (!5)) (by(rw[isSubtype_type]);kernel_rfl)⟩
theorem C3 (ht:IsTup s.heap t items)(hz:items.size<=sizeLine)
  (h:∀tk,Q (.ref s.heap.objs.size) {s with heap:=s.heap.push (nQ t ((items.size:Int) - 1)),toks:=tk}):wpAny (!4) A (call (.type "reversed") [.ref t]) Q E s:=by
 refine callType_codes (Q₁:=λobj s1=>s1.TypeIs obj "reversed" /\Q obj s1) mn (F.typeCall_reversed_1 _) F.entry_object_init (uK ht hz λtk=>⟨⟨_,Kv _ rfl,rfl⟩,h tk⟩) λobj s1 q=> ?_
 exact⟨q.1,F.args_object_init_2 obj _,object_init_meets mn.init.lookup mn.made (!8) prog w A.in1 _ s1 ⟨q.1,rfl,q.2⟩⟩
theorem eX (h:oF s.heap it t i):s.TypeIs (.ref it) "reversed":=⟨_,h,rfl⟩
theorem C4 {it t:Addr}{i:Nat}{items:Array Value}{x:Value}{Q:Option Value->Shared->Prop}(hit:oF s.heap it t (i:Int))(ht:IsTup s.heap t items)(hz:items.size<=sizeLine)(hx:items[i]? =some x)
  (hQ:∀h' tk,oF h' it t ((i:Int) - 1)->Heap.SameBut it s.heap h'->Q (some x) {s with heap:=h',toks:=tk}):wpAny (!4) A (pyNext (.ref it)) Q E s:=by
 unfold pyNext
 refine Z7 (wpAny_attempt (wpAny_callSpecial?_slot (name:=Str.ofString "__next__") (eX hit) en (Z0 en (eX hit) mL ?_ (mM _))))
 unfold Builtin.«reversed.__next__»
 refine Z7 (wpAny_of_eq (a:=(Value.ref it,[])) rfl ?_)
 try dsimp only
 refine Z7 (wpAny_field hit rfl (x:=.ref t) rfl ?_)
 refine Z7 (wpAny_field hit rfl (x:=rawInt (i:Int)) rfl ?_)
 show wpAny _ _ (if (i:Int) < 0 then _ else _) _ _ _
 rw[Z5 (!1)]
 refine Z7 (Zx ht.typeIs PyProof.Rows.slot_tuple_getitem.lookup ?_)
 rw[Z5 (!8)]
 refine Z7 (wpAny_mkInt ?_)
 have hi:i < items.size:=(Array.getElem?_eq_some_iff.mp hx).1
 have NZ:=kN
 have hg:wpAny (!4) A.in1 (getItem (.ref t) (.int (i:Int) s.toks)) (λr s'=>r=x/\s'={s with toks:=s.toks+1}) (λ_ _=>False) {s with toks:=s.toks+1} :=
  getItem_tuple (k:=(i:Int)) (j:=i) ht (!1) (!1) (seqIndex_of (!1) (!1)) hx ⟨rfl,rfl⟩
 refine Z7 (wpAny_attempt (wpAny_mono hg (λr s' q=> ?_) λ_ _ q=>False.elim q))
 obtain⟨rfl,rfl⟩:=q
 refine Z7 (wpAny_field hit rfl (x:=rawInt (i:Int)) rfl ?_)
 show wpAny _ _ (setField (.ref it) 1 (rawInt ((i:Int) - 1)) >>=_) _ _ _
 refine Z7 (wpAny_setField hit rfl (by simp) ?_)
 refine Z6 ⟨_,rfl,Z6 (hQ _ _ ?_ (Heap.SameBut.update ..))⟩
 exact Xv (Obj.mapFields (·.setIfInBounds 1 (rawInt ((i:Int) - 1)))) hit rfl
theorem FG (hh:A.handled=none)(hit:oF s.heap it t (-1))
  (hQ:∀h' tk,Heap.ExtBut it s.heap h'->Q none {s with heap:=h',toks:=tk}):wpAny (!4) A (pyNext (.ref it)) Q E s:=by
 unfold pyNext
 refine Z7 (wpAny_attempt (wpAny_callSpecial?_slot (name:=Str.ofString "__next__") (eX hit) en (Z0 en (eX hit) mL ?_ (mM _))))
 unfold Builtin.«reversed.__next__»
 refine Z7 (wpAny_of_eq (a:=(Value.ref it,[])) rfl ?_)
 try dsimp only
 refine Z7 (wpAny_field hit rfl (x:=.ref t) rfl ?_)
 refine Z7 (wpAny_field hit rfl (x:=rawInt (-1)) rfl ?_)
 show wpAny _ _ (if (-1:Int) < 0 then _ else _) _ _ _
 rw[Z4 (!8)]
 refine Z7 (wpAny_rule ?_)
 refine Z7 ?_
 wp_delta
 refine Z7 (wpAny_setField hit rfl (by simp) ?_)
 have hit2:=Xv (Obj.mapFields (·.setIfInBounds 1 (rawInt (-1)))) hit rfl
 refine wpAny_setField hit2 rfl (by simp) ?_
 refine Z7 ?_
 (first | show wpAny _ _ (newExc (.type "StopIteration") [] >>=_) _ _ _ | (wp_delta;show wpAny _ _ (newExc (.type "StopIteration") [] >>=_) _ _ _))
 refine Z7 ?_;simp only[newExc,newTuple];refine Z7 (Zk ?_ (by size_fits));refine Z7 (m:=firstArgMember _ _) (wpAny_of_eq (a:=Value.none) (by first | rfl | (simp only[firstArgMember];rfl)) ?_);refine Zk ?_ (by size_fits)
 simp only[raiseNew];refine Z7 (wpAny_handled ?_);(first | rw[show A.in1.handled=none from hh] | rw[hh])
 refine Z7 (Z6 (wpAny_throw ?_));refine Z7 (wpAny_isInstance (T:="StopIteration") (b:=true) ⟨_,Kv _ rfl,rfl⟩ isSubtype_stop ?_)
 exact Z6 (hQ _ _ ((((Heap.SameBut.update ..).extBut.trans (Heap.SameBut.update ..).extBut).push _).push _))
theorem wq (hit:oF s.heap it t i)(h:Q (.ref it) s):wpAny (!4) A (pyIter (.ref it)) Q E s:=by
 refine wpAny_pyIter_slot (eX hit) l8 (Z0 l8 (eX hit) uI ?_ (uH _))
 show wpAny _ _ (ret (.ref it)) _ _ s;exact Z6 ⟨_,rfl,"reversed",_,eX hit,en.lookup,h⟩
end
def M3 (K:Frag)(a:Addr)(n:Nat):It :=
 ⟨λi H=>i < n/\∃xs,eK K H a xs/\xs.length=n,λi H x H'=>H'=H/\∀xs,eK K H a xs->xs[n - 1 - i]? =some x,λi _=>n<=i⟩
theorem C5 {P:Program}{w:World}{K:Frag}{tg:Expr}(a it:Addr)(n:Nat):Turn P w K tg (M3 K a n) [it] it (λi h=>i<=n/\oF h it a ((n:Int) - 1 - i)) where
 mem:=by simp
 obj:=λi h st b hb=>by
  have z:b=it:=by simpa using hb
  subst z
  exact⟨_,st.2,λv z=>by cases z⟩
 keep:=λi h h' st k=>⟨st.1,k it (by simp) _ st.2⟩
 item:=by
  intro X hP hw hK hc i pins s σ H E I hf st hg;subst hP hw hK
  obtain⟨hi,xs,hq,hl⟩:=hg
  obtain⟨its,rv,p,hz⟩:=I.tuple hq
  have hx:xs[n - 1 - i]? =some (xs[n - 1 - i]'(!1)):=K5 _
  obtain⟨u,hu,ru⟩:=rv.get hx
  obtain⟨f0,f1,f2,f3,f4,f5⟩:=hf it (by simp)
  have hlen:=rv.length
  have hst:=st.2
  rw[show(n:Int) - 1 - (i:Int)=((n - 1 - i:Nat):Int) by omega] at hst
  refine C4 (i:=n - 1 - i) (x:=u) hst p (by rw[Kz];omega) (by simpa using hu) λh' tk st' sb=> ?_
  have I1:Inv X pins σ H {s with heap:=h',toks:=tk}:=I.turned (t':=tk) (λb o hb e=>(sb.2 b hb).trans e) f0 f1 f3 f4 f5
  rw[show((n - 1 - i:Nat):Int) - 1=(n:Int) - 1 - ((i+1:Nat):Int) by omega] at st'
  exact⟨u,rfl,zE (s:={s with heap:=h',toks:=tk}) st' rfl rfl (!8) ⟨_,H,I1,ru,⟨rfl,λys hy=>by rw[I.nL hy hq];exact hx⟩,⟨by omega,st'⟩,λb hb=>(hf b hb).1⟩⟩
 done:=by
  intro X hP hw hK hc i pins s σ H E I hf st hg;subst hP hw hK
  have hi:n<=i:=hg
  obtain⟨f0,f1,f2,f3,f4,f5⟩:=hf it (by simp)
  have hst:=st.2
  rw[show(n:Int) - 1 - (i:Int)= -1 by have:=st.1;omega] at hst
  exact FG (I.ok.hd hc) hst λh' tk eb=>⟨rfl,I.turned (t':=tk) (λb o hb e=>eb b o hb e) f0 f1 f3 f4 f5⟩
 self:=λA i s Q E st h=>wq st.2 h
section
variable {X:Cx}{K:Frag}{Ew:Str->Hp->Prop}{pos p:Pos}{tg a:Expr}{ta:TE}{fa:EF}
def N0 (K:Frag)(ta:TE):TI:=λσ H R=>ta σ H λx H1=>∃q xs,x= .ref q/\eK K H1 q xs/\R (M3 K q xs.length) H1
theorem IY (hg:Gl X "reversed")(hm:X.mg "reversed" =none)(ha:PE X a ta)(hs:starEach [a] X.env=[(false,eval a X.env)]:=by rfl):PI X tg (.Call (.Name "reversed" p) [a] [] pos) (N0 X.K ta):=by
 intro pins s σ H R I h
 refine Call_ (gO I hg hm PyProof.Rows.boot_reversed (PyProof.Rows.callWith_type1 (di (b_ ha dS hs pos pins s σ H (λvs H1=>match vs with
  | [x]=>∃q xs,x= .ref q/\eK X.K H1 q xs/\R (M3 X.K q xs.length) H1
  | _=>False) I h) λus s1 ⟨vs,H1,I1,r1,q1⟩=> ?_) hs rfl))
 match vs,r1,q1 with
 | [x],r1,q1=>
  obtain⟨q,xs,rfl,hq,fin⟩:=q1
  obtain⟨u,rfl,ru⟩:=r1.one
  cases ru
  obtain⟨its,rv,pl,hz⟩:=I1.tuple hq
  have hl:=rv.length
  refine C3 pl (by rw[Kz];omega) λtk=> ?_
  have I2:Inv X pins σ H1 {s1 with heap:=s1.heap.push (nQ q ((its.toArray.size:Int) - 1)),toks:=tk}:=I1.kept (t':=tk) λb u e=>K4 _ e
  have hit:oF (s1.heap.push (nQ q ((its.toArray.size:Int) - 1))) s1.heap.objs.size q ((its.toArray.size:Int) - 1):=Kv _ rfl
  refine wq hit ⟨s1.heap.objs.size,[s1.heap.objs.size],_,_,H1,rfl,I2,C5 q _ xs.length,⟨Xq _,?_⟩,λb hb=> ?_,fin⟩
  ·have e:((its.toArray.size:Int) - 1)=(xs.length:Int) - 1 - ((0:Nat):Int):=by rw[Kz,←hl];simp
   exact(congrArg (λz=>oF (s1.heap.push (nQ q ((its.toArray.size:Int) - 1))) s1.heap.objs.size q z) e).mp hit
  ·have e:b=s1.heap.objs.size:=by simpa using hb
   subst e
   exact I1.pR (K0 _) I1.fresh
 | [],r1,q1=>exact False.elim q1
 | _ :: _ :: _,r1,q1=>exact False.elim q1
theorem C6 {B:Hp}{a:Addr}{vs:List V}{ds:List PyData}(h:eK K B a vs)(t:ax K B ds vs):wg K B (M3 K a vs.length) ds.reverse where
 go:=λi H hi s=>by
  have hl:=am t
  exact⟨by rw[Xy] at hi;omega,vs,s.mj h,rfl⟩
 yl:=λi H x H' hi s y=>by
  obtain⟨rfl,y⟩:=y
  have hl:=am t
  rw[Xy] at hi
  obtain⟨d,e,hd⟩:=iq t (y vs (s.mj h))
  exact⟨Same.refl _,d,by rw[JZ hi,←hl];exact e,λB2 s2 _=>aK.same s2 _ _ hd⟩
 stop:=λH s=>by
  show vs.length<=_
  rw[Xy,am t];exact K0 _
theorem IZ (hc:X.calm=true)(hg:Gl X "reversed")(hm:X.mg "reversed" =none)(ha:DE X K Ew a fa)(hK:X.K=K:=by rfl)(hs:starEach [a] X.env=[(false,eval a X.env)]:=by rfl):DI X K Ew tg (.Call (.Name "reversed" p) [a] [] pos) (CH fa) :=
 (IY hg hm ha hs).imp λσ H R q=>pE (g:=λx _=>Ft x.1 x.2) q λB φ Γ k d v H1 r s av q=>by
  replace q:yH K Ew B H Γ σ R (Ft k d):=q
  cases d <;> try (exact False.elim q)
  rename_i ds
  obtain⟨B1,ψ,s1,r1,hd⟩:=r.lZ av
  obtain⟨a,vs,rfl,h1,h2⟩:=aL hd
  rw[hK]
  exact⟨a,vs,rfl,r1.bs.mj h1,q _ H1 B1 ψ s s1 r1 (C6 h1 h2)⟩
end
end L2
namespace Y
open PySem
noncomputable def L6 (k:Nat):PyData->Bool
 | .int i=>i==(k:Int)
 | _=>false
noncomputable def in4:PyData->Bool
 | .int i=>decide (0<=i) && decide (i < 4)
 | _=>false
noncomputable def wt (xs:List PyData):List PyData:=(([0,1,2,3]:List Nat).filter λk=>xs.any (L6 k)).map λ(k:Nat)=> .int (k:Int)
noncomputable def kP:PyData->Option PyData
 | .list xs=>if xs.all in4=true then some (.list (wt xs)) else none
 | _=>none
noncomputable def M4:PyData->PyData->Option PyData
 | .int i,.int j=>some (.bool (decide (j<=i)))
 | _,_=>none
theorem z9 (i j:Int):M4 (.int i) (.int j)=some (.bool (decide (j<=i))):=rfl
end Y
namespace L2
open PySem PySem.Spec PyProof.Rows Y
section
variable {K:Frag}{B H:Hp}{φ:Nat->List Addr}{Γ:bL}{σ:St}
end
end L2
namespace L2
open PySem Y
mutual
def wu:PyData->Nat
 | .tuple xs=>uL xs+1
 | _=>1
def uL:List PyData->Nat
 | []=>0
 | d :: ds=>wu d+uL ds
end
mutual
def g8 (h:Heap):PyData->Value->Prop
 | .int i,v=>∃t,v= .int i t
 | .none,v=>v= .none
 | .tuple ds,v=>∃a o items n,v= .ref a/\h.get? a=some o/\o.cls= .type "tuple" /\o.data= .seq items n/\h_ h ds items.toList
 | _,_=>False
def h_ (h:Heap):List PyData->List Value->Prop
 | [],vs=>vs=[]
 | d :: ds,vs=>∃v r,vs=v :: r/\g8 h d v/\h_ h ds r
end
mutual
theorem g8.reads :∀(d:PyData) (v:Value),g8 h d v->Reads h v d []
 | .int i,v,x=>by simp only[g8] at x;obtain⟨t,rfl⟩:=x;exact .int i t
 | .none,v,x=>by simp only[g8] at x;subst x;exact .none
 | .tuple ds,v,x=>by
  simp only[g8] at x
  obtain⟨a,o,items,n,rfl,h1,h2,h3,h4⟩:=x
  exact .tuple h1 h2 h3 (h_.reads ds _ h4)
 | .bool _,v,x=>by simp only[g8] at x
 | .str _,v,x=>by simp only[g8] at x
 | .list _,v,x=>by simp only[g8] at x
 | .dict _,v,x=>by simp only[g8] at x
theorem h_.reads :∀(ds:List PyData) (vs:List Value),h_ h ds vs->ReadsAll h vs ds []
 | [],vs,x=>by simp only[h_] at x;subst x;exact .nil
 | d :: ds,vs,x=>by
  simp only[h_] at x
  obtain⟨v,r,rfl,h1,h2⟩:=x
  exact .cons (g8.reads d v h1) (h_.reads ds r h2)
end
mutual
theorem jK:∀(n:Nat) (d:PyData),nest n d=true->d.canLay0=true
 | _,.int _,_=>rfl
 | _,.none,_=>rfl
 | n+1,.tuple ds,x=>by rw[nest] at x;simp only[PyData.canLay0];exact td n ds x
 | 0,.tuple _,x=>by simp[nest] at x
 | 0,.bool _,x=>by simp[nest] at x
 | 0,.str _,x=>by simp[nest] at x
 | 0,.list _,x=>by simp[nest] at x
 | 0,.dict _,x=>by simp[nest] at x
 | _+1,.bool _,x=>by simp[nest] at x
 | _+1,.str _,x=>by simp[nest] at x
 | _+1,.list _,x=>by simp[nest] at x
 | _+1,.dict _,x=>by simp[nest] at x
theorem td:∀(n:Nat) (ds:List PyData),nests n ds=true->PyData.canLayAll0 ds=true
 | _,[],_=>rfl
 | n,d :: ds,x=>by
  rw[nests,X7] at x
  simp only[PyData.canLayAll0,jK n d x.1,td n ds x.2,XQ]
end
mutual
theorem qf:∀(n:Nat) (d:PyData),nest n d=true->d.depth<=n+1
 | _,.int _,_=>by simp[PyData.depth]
 | _,.none,_=>by simp[PyData.depth]
 | n+1,.tuple ds,x=>by rw[nest] at x;have:=oG n ds x;simp only[PyData.depth];omega
 | 0,.tuple _,x=>by simp[nest] at x
 | 0,.bool _,x=>by simp[nest] at x
 | 0,.str _,x=>by simp[nest] at x
 | 0,.list _,x=>by simp[nest] at x
 | 0,.dict _,x=>by simp[nest] at x
 | _+1,.bool _,x=>by simp[nest] at x
 | _+1,.str _,x=>by simp[nest] at x
 | _+1,.list _,x=>by simp[nest] at x
 | _+1,.dict _,x=>by simp[nest] at x
theorem oG:∀(n:Nat) (ds:List PyData),nests n ds=true->PyData.depthAll ds<=n+1
 | _,[],_=>by simp[PyData.depthAll]
 | n,d :: ds,x=>by
  rw[nests,X7] at x
  have h1:=qf n d x.1
  have h2:=oG n ds x.2
  simp only[PyData.depthAll];omega
end
mutual
theorem qg:∀(n:Nat) (x y:PyData),nest n x=true->nest n y=true->PyData.eqv x y=true->x=y
 | _,.none,.none,_,_,_=>rfl
 | _,.int i,.int j,_,_,h=>by simp[PyData.eqv] at h;rw[h]
 | n+1,.tuple xs,.tuple ys,hx,hy,h=>by
  rw[nest] at hx hy
  simp only[PyData.eqv] at h
  rw[tf n xs ys hx hy h]
 | 0,.tuple _,_,hx,_,_=>by simp[nest] at hx
 | 0,_,.tuple _,_,hy,_=>by simp[nest] at hy
 | _,.none,.int _,_,_,h=>by simp[PyData.eqv] at h
 | _,.none,.tuple _,_,_,h=>by simp[PyData.eqv] at h
 | _,.int _,.none,_,_,h=>by simp[PyData.eqv] at h
 | _,.int _,.tuple _,_,_,h=>by simp[PyData.eqv] at h
 | _,.tuple _,.none,_,_,h=>by simp[PyData.eqv] at h
 | _,.tuple _,.int _,_,_,h=>by simp[PyData.eqv] at h
 | n,.bool _,_,hx,_,_=>by cases n <;> simp[nest] at hx
 | n,.str _,_,hx,_,_=>by cases n <;> simp[nest] at hx
 | n,.list _,_,hx,_,_=>by cases n <;> simp[nest] at hx
 | n,.dict _,_,hx,_,_=>by cases n <;> simp[nest] at hx
 | n,_,.bool _,_,hy,_=>by cases n <;> simp[nest] at hy
 | n,_,.str _,_,hy,_=>by cases n <;> simp[nest] at hy
 | n,_,.list _,_,hy,_=>by cases n <;> simp[nest] at hy
 | n,_,.dict _,_,hy,_=>by cases n <;> simp[nest] at hy
theorem tf:∀(n:Nat) (xs ys:List PyData),nests n xs=true->nests n ys=true->PyData.eqvAll xs ys=true->xs=ys
 | _,[],[],_,_,_=>rfl
 | n,x :: xs,y :: ys,hx,hy,h=>by
  rw[nests,X7] at hx hy
  simp only[PyData.eqvAll,X7] at h
  rw[qg n x y hx.1 hy.1 h.1,tf n xs ys hx.2 hy.2 h.2]
 | _,[],_ :: _,_,_,h=>by simp[PyData.eqvAll] at h
 | _,_ :: _,[],_,_,h=>by simp[PyData.eqvAll] at h
end
section
variable {prog:Program}{w:World}{A:Around}{E:Zu}{s:Shared}
theorem Bk (hu:A.units < cLine)(h:Q v6 {s with toks:=s.toks+1}):wpAny (!4) A (pyHash .none) Q E s:=by
 have hT:=typeIs_none s
 unfold pyHash;unfold pyHashByItsType
 refine Z7 (wpAny_cRoomFor_or (.inr hu) ?_);refine Z7 (Zx hT F.slot_NoneType_hash.lookup ?_)
 rw[Z5 (!8)]
 refine Z7 (Zx hT F.slot_NoneType_hash.lookup ?_)
 show wpAny _ _ (callSpecialIfBoundUnlessNone? .none "__hash__" _ >>=_) Q E s
 refine Z7 (wpAny_callSpecialIfBoundUnlessNone?_slot hT F.slot_NoneType_hash (Z0 F.slot_NoneType_hash hT F.entry_NoneType_hash ?_ (F.args_NoneType_hash_1 _)))
 show wpAny _ _ (retInt 0xFCA86420) _ _ s
 refine wpAny_ret_mkInt ?_
 exact Z6 h
mutual
theorem z_:∀(n:Nat) (d:PyData) {A:Around} {E:Zu} {s:Shared} {v:Value} {Q:Int->Shared->Prop},nest n d=true->g8 s.heap d v->A.units+n < cLine->Q (fQ d) {s with toks:=s.toks+wu d}->wpAny (!4) A (pyHash v) Q E s
 | n,.int i,A,E,s,v,Q,_,x,_,h=>by
  simp only[g8] at x;obtain⟨t,rfl⟩:=x
  exact(intKind prog w).pyHash (k:=i) (by simp[intKind,Value.isInt]) h
 | n,.none,A,E,s,v,Q,_,x,hu,h=>by
  simp only[g8] at x;subst x
  exact Bk (!1) h
 | n+1,.tuple ds,A,E,s,v,Q,hn,x,hu,h=>by
  rw[nest] at hn
  simp only[g8] at x
  obtain⟨a,o,items,m,rfl,ho,hc,hd,hi⟩:=x
  have hT:s.TypeIs (.ref a) "tuple":=⟨o,ho,hc⟩
  unfold pyHash;unfold pyHashByItsType
  refine Z7 (wpAny_cRoomFor_or (.inr (!1)) ?_);refine Z7 (Zx hT F.slot_tuple_hash.lookup ?_)
  rw[Z5 (by rw[beq_builtin_none];decide)]
  refine Z7 (Zx hT F.slot_tuple_hash.lookup ?_)
  show wpAny (!4) A (callSpecialIfBoundUnlessNone? (.ref a) "__hash__" _ >>=_) Q E s
  refine Z7 (wpAny_callSpecialIfBoundUnlessNone?_slot hT F.slot_tuple_hash (Z0 F.slot_tuple_hash hT F.entry_tuple_hash ?_ (F.args_tuple_hash_1 _)))
  show wpAny (!4) A.in1 (Builtin.Tuple.tupleItemsOf (.ref a) >>=_) _ _ s
  refine Z7 (wpAny_tupleItemsOf ho hd ?_);refine Z7 ?_
  rw[←Array.forIn_toList]
  refine tj n ds #[] hn hi (by show A.units+1+n < cLine;omega) λb hb=> ?_
  rw[YU] at hb
  show wpAny (!4) A.in1 (retInt (Builtin.Tuple.tupleHashOf b.toList)) _ _ _
  rw[hb]
  refine wpAny_ret_mkInt ?_
  simp only[fQ,reduceHash,wu] at h
  show wpAny (!4) A (if (decide (-(2:Int)^63<=Builtin.Tuple.tupleHashOf (j0 ds)) && decide (Builtin.Tuple.tupleHashOf (j0 ds) < 2^63))=true then _ else _) Q E _
  by_cases hr:(decide (-(2:Int)^63<=Builtin.Tuple.tupleHashOf (j0 ds)) && decide (Builtin.Tuple.tupleHashOf (j0 ds) < 2^63))=true
  ·rw[Z4 hr];rw[Z4 hr] at h
   exact Z6 (by simpa [Nat.add_assoc] using h)
  ·rw[Z5 hr];rw[Z5 hr] at h
   exact Z7 (wpAny_rule (Z6 (by simpa [Nat.add_assoc] using h)))
 | 0,.tuple _,_,_,_,_,_,hn,_,_,_=>by simp[nest] at hn
 | n,.bool _,_,_,_,_,_,hn,_,_,_=>by cases n <;> simp[nest] at hn
 | n,.str _,_,_,_,_,_,hn,_,_,_=>by cases n <;> simp[nest] at hn
 | n,.list _,_,_,_,_,_,hn,_,_,_=>by cases n <;> simp[nest] at hn
 | n,.dict _,_,_,_,_,_,hn,_,_,_=>by cases n <;> simp[nest] at hn
theorem tj:∀(n:Nat) (ds:List PyData) {A:Around} {E:Zu} {s:Shared} {vs:List Value} {Q:Array Int->Shared->Prop} (b0:Array Int),nests n ds=true->h_ s.heap ds vs->A.units+n < cLine->
  (∀b:Array Int,b.toList=b0.toList++j0 ds->Q b {s with toks:=s.toks+uL ds})->
  wpAny (!4) A (forIn vs b0 λx r=>do let y←pyHash x;pure (ForInStep.yield (r.push y))) Q E s
 | _,[],A,E,s,vs,Q,b0,_,x,_,h=>by
  simp only[h_] at x;subst x
  rw[List.forIn_nil]
  exact Z6 (h b0 (by simp[j0]))
 | n,d :: ds,A,E,s,vs,Q,b0,hn,x,hu,h=>by
  simp only[h_] at x
  obtain⟨v,r,rfl,h1,h2⟩:=x
  rw[nests,X7] at hn
  rw[JU]
  refine Z7 (Z7 (z_ n d hn.1 h1 hu (Z6 ?_)))
  refine tj n ds (s:={s with toks:=s.toks+wu d}) (b0.push (fQ d)) hn.2 h2 hu λb hb=> ?_
  have:=h b (by rw[hb];simp[j0])
  simpa [uL,Nat.add_assoc] using this
end
mutual
theorem wv:∀(n:Nat) (d:PyData) {A:Around} {E:Zu} {s:Shared} {v:Value} {Q:Bool->Shared->Prop},nest n d=true->g8 s.heap d v->Q true s->wpAny (!4) A (eqIsQuiet n v) Q E s
 | n,.int i,A,E,s,v,Q,_,x,h=>by
  simp only[g8] at x;obtain⟨t,rfl⟩:=x
  rw[eqIsQuiet_byValue n rfl];exact Z6 h
 | n,.none,A,E,s,v,Q,_,x,h=>by
  simp only[g8] at x;subst x
  rw[eqIsQuiet_byValue n rfl];exact Z6 h
 | n+1,.tuple ds,A,E,s,v,Q,hn,x,h=>by
  rw[nest] at hn
  simp only[g8] at x
  obtain⟨a,o,items,m,rfl,ho,hc,hd,hi⟩:=x
  have hT:s.TypeIs (.ref a) "tuple":=⟨o,ho,hc⟩
  unfold eqIsQuiet
  refine Z7 (Zx hT F.slot_tuple_eq.lookup ?_);dsimp only
  refine Z7 (wpAny_isInstance hT isSubtype_tuple_tuple ?_)
  simp only[Bool.not_true,XW,if_false]
  refine Z7 (wpAny_seqItems ho hd ?_);refine Z7 ?_
  show wpAny (!4) A (forIn items _ _) _ E s
  rw[←Array.forIn_toList]
  exact tm n ds hn hi (Z6 h)
 | 0,.tuple _,_,_,_,_,_,hn,_,_=>by simp[nest] at hn
 | n,.bool _,_,_,_,_,_,hn,_,_=>by cases n <;> simp[nest] at hn
 | n,.str _,_,_,_,_,_,hn,_,_=>by cases n <;> simp[nest] at hn
 | n,.list _,_,_,_,_,_,hn,_,_=>by cases n <;> simp[nest] at hn
 | n,.dict _,_,_,_,_,_,hn,_,_=>by cases n <;> simp[nest] at hn
theorem tm:∀(n:Nat) (ds:List PyData) {A:Around} {E:Zu} {s:Shared} {vs:List Value} {Q:Option Bool×PUnit->Shared->Prop},nests n ds=true->h_ s.heap ds vs->Q (none,PUnit.unit) s->
  wpAny (!4) A (forIn vs ((none,PUnit.unit):Option Bool×PUnit) λx r=>do let y←eqIsQuiet n x;if (!y)=true then pure (ForInStep.done (some false,PUnit.unit)) else pure (ForInStep.yield (none,PUnit.unit))) Q E s
 | _,[],A,E,s,vs,Q,_,x,h=>by
  simp only[h_] at x;subst x
  rw[List.forIn_nil]
  exact Z6 h
 | n,d :: ds,A,E,s,vs,Q,hn,x,h=>by
  simp only[h_] at x
  obtain⟨v,r,rfl,h1,h2⟩:=x
  rw[nests,X7] at hn
  rw[JU]
  refine Z7 (Z7 (wv n d hn.1 h1 ?_))
  simp only[Bool.not_true,XW,if_false]
  exact Z6 (tm n ds hn.2 h2 h)
end
end
section
variable {prog:Program}{w:World}{K:Type}[DecidableEq K]{knd:HeapKind prog w K}{A:Around}{E:Zu}{s:Shared}
theorem N2 {d a:Addr}{xs:List (K×Addr×Value)}{k:K}{v:Value}{Q:Unit->Shared->Prop}(hu:knd.room A)(hkey:knd.is s.heap k a)(hm:s.heap.DictOfH knd d xs)(hsz:xs.length<=sizeLine)
  (hQ:∀h',h'.DictOfH knd d (storedH xs k a v)->Heap.SameBut d s.heap h'->Q () {s with heap:=h'}):wpAny (!4) A (dictSetHashed d (.ref a) (knd.hash k) v) Q E s:=by
 obtain⟨o,es,ep,ho,hc,hd,he,his,hn⟩:=hm
 have hes:es.size<=sizeLine:=by rw[size_of_entries he];exact hsz
 unfold dictSetHashed
 refine Z1 ?_
 refine Z7 (wpAny_dictFind_heap hu hkey ho hd he his hn (λhno=> ?_) λj p hj=> ?_)
 ·have h1:=storedH_new (atKey_none_of_get hno) a v
  refine Z7 (wpAny_rule (wpAny_updateDictKeys (hz:=hes) ho hd (hQ _ ⟨_,_,ep+1,Xv _ ho (Obj.isFreed_of_dict (Obj.data_mapDictKeys hd _)),hc.mapDictKeys _,Obj.data_mapDictKeys hd _,?_,λx hx=> ?_,?_⟩ (Heap.SameBut.update ..))))
  ·rw[h1];simp[he,entryOfKey]
  ·rw[h1] at hx
   rcases K1.mp hx with hx | hx
   ·exact knd.keeps (his x hx) ho hd (Heap.SameBut.update ..)
   ·rw[K7.mp hx];exact knd.keeps hkey ho hd (Heap.SameBut.update ..)
  ·rw[h1,X4,XZ]
   refine⟨hn,KQ.mpr ⟨by simp,X2⟩,λx hx y hy e=>not_mem_keys_of_get hno ?_⟩
   have hy':y=k:=by simpa using hy
   rw[←hy',←e];exact hx
 ·have h1:=storedH_old (atKey_of_get hn hj) a v
  refine Z7 (wpAny_rule (Z7 (wpAny_updateDict ho hd (wpAny_point (hQ _ ⟨_,_,ep,Xv _ ho (Obj.isFreed_of_dict (Obj.data_mapDict hd _)),hc.mapDict _,Obj.data_mapDict hd _,?_,λx hx=> ?_,?_⟩ (Heap.SameBut.update ..))))))
  ·rw[h1]
   have:=modify_map_putAt (entryOfKey knd) (λe:DictEntry=>{e with val:=v}) k v (λ_ _=>rfl) hn hj
   rw[←he] at this;obtain⟨l⟩:=es;simpa using this
  ·rw[h1] at hx
   obtain⟨y,hy,rfl⟩:=Ku.mp hx
   unfold putAt;split <;> exact knd.keeps (his y hy) ho hd (Heap.SameBut.update ..)
  ·rw[h1,keys_map_putAt];exact hn
noncomputable def fG (xs more:List (K×Addr×Value)):List (K×Addr×Value):=more.foldl (λacc x=>storedH acc x.1 x.2.1 x.2.2) xs
theorem wx (xs:List (K×Addr×Value))(k:K)(a:Addr)(v:Value):(storedH xs k a v).length<=xs.length+1:=by
 unfold storedH;split
 ·rw[K6];omega
 ·rw[K2,X8];exact K0 _
theorem oH:∀(more xs:List (K×Addr×Value)),(fG xs more).length<=xs.length+more.length
 | [],xs=>K0 _
 | x :: more,xs=>by
  have h1:=oH more (storedH xs x.1 x.2.1 x.2.2)
  have h2:=wx xs x.1 x.2.1 x.2.2
  show(fG (storedH xs x.1 x.2.1 x.2.2) more).length<=_
  rw[Kj];omega
theorem uM {xs more:List (K×Addr×Value)}{i:Nat}{x:K×Addr×Value}(h:more[i]? =some x):fG xs (more.take (i+1))=storedH (fG xs (more.take i)) x.1 x.2.1 x.2.2:=by
 unfold fG;rw[Yu,h,List.foldl_append];rfl
theorem I0 {nm:String}{d o:Addr}{xs more:List (K×Addr×Value)}{Q:Unit->Shared->Prop}(hu:knd.room A)(hdo:d≠o)(hoS:(o==sysModules)=false)(hx0:xs≠[])
  (hd:s.heap.DictOfH knd d xs) (ho:s.heap.DictOfH knd o more) (hsz:xs.length+more.length<=sizeLine)
  (hQ:∀h',h'.DictOfH knd d (fG xs more)->Heap.SameBut d s.heap h'->Q () {s with heap:=h'}):wpAny (!4) A (Builtin.Dict.mergeDict nm d o) Q E s:=by
 obtain⟨od,esd,epd,hod,hcd,hdd,hed,N3,hnd⟩:=id hd
 obtain⟨oo,eso,epo,hoo,hco,hdo',heo,I_,hno⟩:=id ho
 have hlen:eso.size=more.length:=size_of_entries heo
 unfold Builtin.Dict.mergeDict
 rw[Z5 (by simpa using hdo)]
 unfold Builtin.Dict.showsAll
 rw[Z5 (by rw[hoS];exact K3)]
 refine Z7 (Z6 ?_);refine Z7 (wpAny_dictEntries hoo hdo' ?_)
 have loop:wpAny (!4) A (do
   let epoch←dictEpoch o;let l←dictEntries o
   forIn [:l.size] PUnit.unit λi (_:PUnit)=>(do
     let l'←dictEntries o
     match l'[i]? with
      | some e=>do
       holding [e.key,e.val] (dictSetHashed d e.key e.hash e.val)
       let ep'←dictEpoch o
       if (
         ep' !=epoch)=true then do
         (unsupported (toString nm++toString ":source-changed-during-callback"):Sem PUnit);pure (ForInStep.yield PUnit.unit)
        else pure (ForInStep.yield PUnit.unit)
      | _=>do
       (unsupported "internal:dict-merge":Sem PUnit);pure (ForInStep.yield PUnit.unit):Sem (ForInStep PUnit))
   pure ()) Q E s:=by
  refine Z7 (wpAny_dictEpoch hoo hdo' ?_);refine Z7 (wpAny_dictEntries hoo hdo' ?_);refine Z7 ?_
  rw[Std.Legacy.Range.forIn_eq_forIn_range'];simp only[Std.Legacy.Range.size,Nat.sub_zero,Nat.add_sub_cancel,Nat.div_one]
  refine wpAny_forIn_list _ (λrest _ s'=>∃h' i,s'={s with heap:=h'}/\rest=List.range' i (eso.size - i)/\i<=eso.size/\h'.DictOfH knd d (fG xs (more.take i))/\h'.get? o=some oo/\Heap.SameBut d s.heap h')
   _ ?_ ?_ _ _ ⟨s.heap,0,rfl,by simp,Xq _,by simpa [fG] using hd,hoo,Heap.SameBut.refl _ _⟩
  ·rintro x rest b s' ⟨h',i,rfl,hr,hi,hd',hoo',hs'⟩
   have hlt:i < eso.size:=Nat.lt_of_not_le λh=>by rw[Nat.sub_eq_zero_of_le h] at hr;simp at hr
   obtain⟨rfl,hrest⟩:x=i/\rest=List.range' (i+1) (eso.size - (i+1)):=by
    rw[show eso.size - i=(eso.size - (i+1))+1 by omega,List.range'_succ] at hr;injection hr with h1 h2;exact⟨h1,h2⟩
   refine Z7 (wpAny_dictEntries hoo' hdo' ?_)
   have O2:x < more.length:=by omega
   have hkv:more[x]? =some more[x]:=K5 O2
   have hen:eso[x]? =some (entryOfKey knd more[x]):=by rw[entry_at heo x,hkv];rfl
   rw[hen]
   have hmx:(fG xs (more.take x)).length<=sizeLine:=by
    have e1:=oH (more.take x) xs
    rw[X0] at e1;omega
   have hkx:knd.is h' more[x].1 more[x].2.1:=knd.keeps (I_ _ (U1 O2)) hod hdd hs'
   refine Z7 (Z1 (N2 (s:={s with heap:=h'}) hu hkx hd' hmx λh'' hd'' hs''=> ?_))
   have hoo'':h''.get? o=some oo:=(hs''.2 o (Ne.symm hdo)).trans hoo'
   refine Z7 (wpAny_dictEpoch hoo'' hdo' ?_)
   rw[Z5 (by simp)]
   exact Z6 ⟨h'',x+1,rfl,hrest,hlt,by rw[uM hkv];exact hd'',hoo'',hs'.trans hs''⟩
  ·rintro b s' ⟨h',i,rfl,hr,hi,hd',hoo',hs'⟩
   have hin:i=eso.size:=Nat.le_antisymm hi (Jw λh=>by
    rw[show eso.size - i=(eso.size - (i+1))+1 by omega,List.range'_succ] at hr;exact nomatch hr)
   refine Z6 (hQ h' ?_ hs')
   rw[hin,hlen,J6] at hd';exact hd'
 dsimp only
 split
 ·refine Z7 (wpAny_dictEntries hod hdd ?_)
  split
  ·rename_i hemp
   have h0:esd= #[]:=Array.isEmpty_iff.mp hemp
   rw[h0] at hed
   exact absurd (by simpa using hed) hx0
  ·exact loop
 ·exact loop
theorem qh {α:Type}(f:α->Int)(c:Int):∀(l:List α),(l.map f).Nodup->(l.filter λx=>f x==c).length<=1
 | [],_=>Xq _
 | x :: l,h=>by
  rw[Kq,KQ] at h
  rw[Y0]
  by_cases hx:(f x==c)=true
  ·rw[Z4 hx,Kj]
   have:l.filter (λx=>f x==c)=[]:=List.filter_eq_nil_iff.mpr λy hy hz=>h.1 (by
    rw[eq_of_beq hx,←eq_of_beq hz];exact YX hy)
   rw[this];exact K0 _
  ·rw[Z5 hx];exact qh f c l h.2
theorem L7 {nm:String}{d o:Addr}{more:List (K×Addr×Value)}{Q:Unit->Shared->Prop}(hdo:d≠o)(hoS:(o==sysModules)=false)(hm0:more≠[])
  (hT:∀x∈more,s.TypeIs (.ref x.2.1) "tuple") (hh:(more.map λx=>knd.hash x.1).Nodup)
  (hd:s.heap.DictOfH knd d []) (ho:s.heap.DictOfH knd o more) (hsz:more.length<=sizeLine)
  (hQ:∀h',h'.DictOfH knd d more->Heap.SameBut d s.heap h'->Q () {s with heap:=h'}):wpAny (!4) A (Builtin.Dict.mergeDict nm d o) Q E s:=by
 obtain⟨od,esd,epd,hod,hcd,hdd,hed,N3,hnd⟩:=id hd
 obtain⟨oo,eso,epo,hoo,hco,hdo',heo,I_,hno⟩:=id ho
 have hlen:eso.size=more.length:=size_of_entries heo
 have h0:esd= #[]:=by obtain⟨l⟩:=esd;simpa using hed
 subst h0
 unfold Builtin.Dict.mergeDict
 rw[Z5 (by simpa using hdo)]
 unfold Builtin.Dict.showsAll
 rw[Z5 (by rw[hoS];exact K3)]
 refine Z7 (Z6 ?_);refine Z7 (wpAny_dictEntries hoo hdo' ?_)
 have few:(eso.all λe=>(keyPart e.key).isSome)=false:=by
  obtain⟨x,r,rfl⟩:=List.exists_cons_of_ne_nil hm0
  obtain⟨l⟩:=eso
  simp only at heo
  subst heo
  simp[entryOfKey,keyPart]
 dsimp only
 rw[few]
 simp only[Bool.and_false,Bool.not_false,if_true]
 refine Z7 (wpAny_dictEntries hod hdd ?_)
 rw[Z4 (show(#[]:Array DictEntry).isEmpty=true from rfl)]
 refine Z7 ?_
 unfold Builtin.Dict.entriesForEmpty
 refine Z7 (wpAny_dictEntries hoo hdo' ?_);refine Z7 ?_
 rw[←Array.forIn_toList]
 refine wpAny_forIn_list _ (λrest _ s'=>s'=s/\∀e∈rest,e∈eso.toList) _ ?_ ?_ _ _ ⟨rfl,λe he=>he⟩
 ·rintro e rest b s' ⟨rfl,hr⟩
  obtain⟨x,hx,rfl⟩:∃x∈more,entryOfKey knd x=e:=by
   have:=hr e K9
   rw[heo] at this
   obtain⟨x,hx,he⟩:=Ku.mp this
   exact⟨x,hx,he⟩
  have hT1:=hT x hx
  have hone:¬ (eso.filter λy=>y.hash==(entryOfKey knd x).hash).size > 1:=by
   have e1:(eso.toList.map DictEntry.hash).Nodup:=by rw[heo,X6];exact hh
   have:=qh DictEntry.hash (entryOfKey knd x).hash eso.toList e1
   rw[←KU,Array.toList_filter];omega
  unfold Builtin.Dict.quietEq
  refine Z7 ?_
  show wpAny (!4) A (specialOf (.ref x.2.1) "__eq__" >>=_) _ E _
  refine Z7 (Zx hT1 F.slot_tuple_eq.lookup (Z6 ?_))
  rw[show((some (Value.builtin "tuple.__eq__")==some (Value.builtin "object.__eq__"))=false) by decide]
  simp only[Bool.not_false,if_true]
  rw[Z5 hone]
  exact Z6 ⟨rfl,λe he=>hr e (K8 _ he)⟩
 ·rintro b s' ⟨rfl,_⟩
  refine Z6 ?_
  have hne:eso.isEmpty=false:=by
   cases hz:eso.isEmpty with
   | false=>rfl
   | true=>rw[Array.isEmpty_iff.mp hz] at hlen;exact absurd (YY.mp hlen.symm) hm0
  rw[hne]
  simp only[Bool.not_false,if_true]
  refine Z7 (wpAny_updateDictKeysTo hod hdd (Z6 (hQ _ ⟨_,_,epd+1,Xv _ hod (Obj.isFreed_of_dict (Obj.data_mapDictKeys hdd _)),hcd.mapDictKeys _,Obj.data_mapDictKeys hdd _,heo,λx hx=>knd.keeps (I_ x hx) hod hdd (Heap.SameBut.update ..),hno⟩ (Heap.SameBut.update ..))) (!1))
end
mutual
theorem g8.keep (k:∀b o items n,h.get? b=some o->o.data= .seq items n->h'.get? b=some o):∀(d:PyData) (v:Value),g8 h d v->g8 h' d v
 | .int i,v,x=>by simp only[g8] at x⊢;exact x
 | .none,v,x=>by simp only[g8] at x⊢;exact x
 | .tuple ds,v,x=>by
  simp only[g8] at x⊢
  obtain⟨a,o,items,n,rfl,h1,h2,h3,h4⟩:=x
  exact⟨a,o,items,n,rfl,k a o items n h1 h3,h2,h3,h_.keep k ds _ h4⟩
 | .bool _,v,x=>by simp only[g8] at x
 | .str _,v,x=>by simp only[g8] at x
 | .list _,v,x=>by simp only[g8] at x
 | .dict _,v,x=>by simp only[g8] at x
theorem h_.keep (k:∀b o items n,h.get? b=some o->o.data= .seq items n->h'.get? b=some o):∀(ds:List PyData) (vs:List Value),h_ h ds vs->h_ h' ds vs
 | [],vs,x=>by simp only[h_] at x⊢;exact x
 | d :: ds,vs,x=>by
  simp only[h_] at x⊢
  obtain⟨v,r,rfl,h1,h2⟩:=x
  exact⟨v,r,rfl,g8.keep k d v h1,h_.keep k ds r h2⟩
end
def NK:={ds:List PyData // nests 7 ds=true}
noncomputable instance:DecidableEq NK:=λ_ _=>Classical.propDecidable _
noncomputable def NK.d (k:NK):PyData:=.tuple k.1
theorem NK.n (k:NK):nest 8 k.d=true:=by rw[NK.d,nest];exact k.2
theorem NK.inj {x y:NK}(h:x.d=y.d):x=y:=Subtype.ext (PyData.tuple.inj h)
noncomputable def bO (prog:Program)(w:World):HeapKind prog w NK where
 is:=λh k a=>g8 h k.d (.ref a)
 hash:=λk=>fQ k.d
 draws:=λk=>wu k.d
 room:=λA=>A.units+10 < cLine
 inj:=λ{h a x y} hx hy=>NK.inj (SeqAt.Reads.unique _ _ _ _ _ (jK 8 _ x.n) (g8.reads _ _ hx) (g8.reads _ _ hy))
 keeps:=λ{h h' k a d o es ep} x ho hd hs=>g8.keep (λb ob items n hb hdb=>(hs.2 b λe=>by subst e;rw[ho] at hb;cases hb;rw[hd] at hdb;cases hdb).trans hb) _ _ x
 pyHash:=λ{A E s k a Q} hu x h=>z_ 8 k.d k.n x (!1) h
 eqBool:=λ{A E s x y a b Q} hu hx hy h=>by
  have h1:=SeqAt.eqAt_reads x.d y.d A s (.ref a) (.ref b) [] [] (g8.reads _ _ hx) (g8.reads _ _ hy) (jK 8 _ x.n) (jK 8 _ y.n) (by
   have:=qf 8 _ x.n
   have:min x.d.depth y.d.depth<=9:=Kw (Nat.min_le_left _ _) this
   omega)
  refine h1 prog w E Q ?_
  have e:PyData.eqv x.d y.d=decide (x=y):=by
   rw[Yx,Z8]
   refine⟨λz=>NK.inj (qg 8 _ _ x.n y.n z),λz=> ?_⟩
   rw[z];exact SeqAt.eqv_refl _ (jK 8 _ y.n)
  rw[e];exact h
 quiet:=λ{A E s k a Q} x h=>wv 8 k.d k.n x h
section
variable {prog:Program}{w:World}{K:Type}[DecidableEq K]{knd:HeapKind prog w K}{A:Around}{E:Zu}{s:Shared}
theorem uN {h h':Heap}{d:Addr}{xs:List (K×Addr×Value)}(hm:h.DictOfH knd d xs)(k:∀b o,h.get? b=some o->h'.get? b=some o)(hi:∀x∈xs,knd.is h' x.1 x.2.1):h'.DictOfH knd d xs:=by
 obtain⟨o,es,ep,ho,hc,hd,he,his,hn⟩:=hm
 exact⟨o,es,ep,k _ _ ho,hc,hd,he,hi,hn⟩
theorem L8 {o:Addr}{more:List (K×Addr×Value)}{Q:Zu}(hoS:(o==sysModules)=false)(ho:s.heap.DictOfH knd o more)(hm0:more≠[])(hsz:more.length<=sizeLine)
  (hT:∀x∈more,s.TypeIs (.ref x.2.1) "tuple") (hh:(more.map λx=>knd.hash x.1).Nodup)
  (hi:∀x∈more,knd.is (s.heap.push {cls:=.type "dict",data:=.dict #[]}) x.1 x.2.1)
  (h:∀h',h'.DictOfH knd s.heap.objs.size more->Heap.SameBut s.heap.objs.size (s.heap.push {cls:=.type "dict",data:=.dict #[]}) h'->Q (.ref s.heap.objs.size) {s with heap:=h'}) :
  wpAny (!4) A (call (.type "dict") [.ref o]) Q E s:=by
 refine callType_codes (Q₁:=λobj s₁=>obj= .ref s.heap.objs.size/\s₁={s with heap:=s.heap.push {cls:=.type "dict",data:=.dict #[]}}) F.kt_called_dict (F.kt_typeCall_dict_1 _) F.entry_dict_init (kt_code_dict_new _ ⟨rfl,rfl⟩) λobj s₁ hs₁=> ?_
 obtain⟨rfl,rfl⟩:=hs₁
 have hk:∀b u,s.heap.get? b=some u->(s.heap.push {cls:=.type "dict",data:=.dict #[]}).get? b=some u:=λb u e=>K4 _ e
 have hnew:(s.heap.push {cls:=.type "dict",data:=.dict #[]}).DictOfH knd s.heap.objs.size []:=Heap.DictOfH.new s.heap
 have ho':=uN ho hk hi
 have hdo:s.heap.objs.size≠o:=by
  obtain⟨_,_,_,hg,_⟩:=ho
  exact λe=>absurd (KJ hg) (by rw[e];exact U2 _)
 have hT1:Shared.TypeIs {s with heap:=s.heap.push {cls:=.type "dict",data:=.dict #[]}} (.ref s.heap.objs.size) "dict":=hnew.typeIs (s:={s with heap:=s.heap.push {cls:=.type "dict",data:=.dict #[]}})
 have hT2:Shared.TypeIs {s with heap:=s.heap.push {cls:=.type "dict",data:=.dict #[]}} (.ref o) "dict":=ho'.typeIs (s:={s with heap:=s.heap.push {cls:=.type "dict",data:=.dict #[]}})
 refine⟨hT1,F.args_dict_init_2 _ _,?_⟩
 unfold Builtin.«dict.__init__»;refine Z7 ?_
 unfold Builtin.Dict.selfAndRest;refine Z7 (wpAny_notOrdered_dict hT1 ?_)
 show wpAny (!4) _ (pure (s.heap.objs.size,[Value.ref o])) _ _ _;refine Z6 ?_
 show wpAny (!4) _ (Builtin.Dict.updateFrom "dict.__init__" s.heap.objs.size (.ref o) [] .none) _ _ _;unfold Builtin.Dict.updateFrom
 refine Z7 (wpAny_typeOf hT2 ?_);rw[Z5 (!8)]
 refine Z7 ?_;unfold Builtin.Dict.merge;refine Z7 ?_;unfold Builtin.Dict.readDirectly
 refine Z7 (wpAny_isInstance hT2 isSubtype_dict_dict ?_);simp only[Bool.not_true,XW,if_false]
 refine Z7 (Zx hT2 F.slot_dict_iter.lookup (Z6 ?_));simp only[beq_self_eq_true,if_true];refine Z7 (Z6 ?_)
 refine L7 (s:={s with heap:=s.heap.push {cls:=.type "dict",data:=.dict #[]}}) hdo hoS hm0 (λx hx=>let ⟨ob,e,c⟩:=hT x hx;⟨ob,hk _ _ e,c⟩) hh hnew ho' hsz λh' hd' hs'=> ?_
 show wpAny (!4) _ (Builtin.Dict.addKeywords s.heap.objs.size [] >>=_) _ _ _
 exact Z7 (Z6 (Z6 ⟨rfl,h h' hd' hs'⟩))
theorem FH (d o:Addr)(hdo:d≠o)(hoS:(o==sysModules)=false) :
  MeetsIn prog w (Builtin.«dict.update» ⟨[.ref d,.ref o],[]⟩) (λA R s=>knd.room A.in1/\∃xs more,xs≠[]/\s.heap.DictOfH knd d xs/\s.heap.DictOfH knd o more/\xs.length+more.length<=sizeLine/\
   ∀h',h'.DictOfH knd d (fG xs more)->Heap.SameBut d s.heap h'->R (.ok (.ret .none)) {s with heap:=h'}) :=
 .of_wp λA R s ⟨hu,xs,more,hx0,hd,ho,hsz,h⟩=>by
  unfold Builtin.«dict.update»;refine Z7 ?_
  unfold Builtin.Dict.selfAndRest;refine Z7 (wpAny_notOrdered_dict hd.typeIs ?_)
  show wpAny (!4) _ (pure (d,[Value.ref o])) _ _ s;refine Z6 ?_
  show wpAny (!4) _ (Builtin.Dict.updateFrom "dict.update" d (.ref o) [] .none) _ _ s;unfold Builtin.Dict.updateFrom
  refine Z7 (wpAny_typeOf ho.typeIs ?_);rw[Z5 (!8)]
  refine Z7 ?_;unfold Builtin.Dict.merge;refine Z7 ?_;unfold Builtin.Dict.readDirectly
  refine Z7 (wpAny_isInstance ho.typeIs isSubtype_dict_dict ?_);simp only[Bool.not_true,XW,if_false]
  refine Z7 (Zx ho.typeIs F.slot_dict_iter.lookup (Z6 ?_));simp only[beq_self_eq_true,if_true];refine Z7 (Z6 ?_)
  refine I0 hu hdo hoS hx0 hd ho hsz λh' hd' hs'=> ?_
  show wpAny (!4) _ (Builtin.Dict.addKeywords d [] >>=_) _ _ _
  exact Z7 (Z6 (Z6 ⟨.none,rfl,h h' hd' hs'⟩))
end
end L2
namespace L2
open PySem PySem.Spec PyProof.Rows Y
section
variable {X:Cx}{pins:List (Addr×Obj)}{σ:St}{H:Hp}{s:Shared}
mutual
theorem aK.C7 (I:Inv X pins σ H s):∀(n:Nat) (d:PyData) (v:V) (u:Value),nest n d=true->aK X.K H d v->RelV v u->g8 s.heap d u
 | n,.int i,v,u,_,h,r=>by
  have:=aJ h
  subst this
  obtain⟨t,rfl⟩:=r
  simp only[g8];exact⟨t,rfl⟩
 | n,.none,v,u,_,h,r=>by
  have:=p5 h
  subst this
  cases r
  simp only[g8]
 | n+1,.tuple ds,v,u,hn,h,r=>by
  rw[Y.nest] at hn
  obtain⟨a,vs,rfl,h1,h2⟩:=aL h
  cases r
  obtain⟨its,rv,⟨o,e,hc,m,hd⟩,_⟩:=I.tuple h1
  simp only[g8]
  exact⟨a,o,its.toArray,m,rfl,e,hc,hd,by simpa using ax.C7 I n ds vs its hn h2 rv⟩
 | 0,.tuple _,_,_,hn,_,_=>by simp[Y.nest] at hn
 | n,.bool _,_,_,hn,_,_=>by cases n <;> simp[Y.nest] at hn
 | n,.str _,_,_,hn,_,_=>by cases n <;> simp[Y.nest] at hn
 | n,.list _,_,_,hn,_,_=>by cases n <;> simp[Y.nest] at hn
 | n,.dict _,_,_,hn,_,_=>by cases n <;> simp[Y.nest] at hn
theorem ax.C7 (I:Inv X pins σ H s):∀(n:Nat) (ds:List PyData) (vs:List V) (us:List Value),nests n ds=true->ax X.K H ds vs->Vals vs us->h_ s.heap ds us
 | n,[],vs,us,_,h,r=>by
  simp only[ax] at h;subst h;cases r;simp only[h_]
 | n,d :: ds,vs,us,hn,h,r=>by
  rw[nests,X7] at hn
  simp only[ax] at h
  obtain⟨v,w,rfl,h1,h2⟩:=h
  cases r with
  | cons r1 r2=>
   simp only[h_]
   exact⟨_,_,rfl,aK.C7 I n d v _ hn.1 h1 r1,ax.C7 I n ds w _ hn.2 h2 r2⟩
end
end
section
variable {K:Frag}{H:Hp}
theorem iu:∀{kvs:List (PyData×PyData)} {ks:List (PyData×V×V)},aW K H kvs ks->ks.map (·.1)=kvs.map (·.1)
 | [],ks,t=>by simp only[aW] at t;subst t;rfl
 | (k,d) :: r,ks,t=>by
  simp only[aW] at t
  obtain⟨kv,v,q,rfl,_,_,h3⟩:=t
  rw[Kq,Kq,iu h3]
end
theorem mN (h:dz k=true):∃ds,k= .tuple ds/\nests 7 ds=true:=by
 cases k <;> first | exact⟨_,rfl,h⟩ | exact absurd h (by simp[dz])
mutual
theorem C8:∀(n:Nat) (d:PyData),nest n d=true->bp d=true
 | _,.int _,_=>rfl
 | _,.none,_=>rfl
 | n+1,.tuple ds,x=>by rw[Y.nest] at x;rw[bp];exact nU n ds x
 | 0,.tuple _,x=>by simp[Y.nest] at x
 | n,.bool _,x=>by cases n <;> simp[Y.nest] at x
 | n,.str _,x=>by cases n <;> simp[Y.nest] at x
 | n,.list _,x=>by cases n <;> simp[Y.nest] at x
 | n,.dict _,x=>by cases n <;> simp[Y.nest] at x
theorem nU:∀(n:Nat) (ds:List PyData),nests n ds=true->ar ds=true
 | _,[],_=>rfl
 | n,d :: ds,x=>by
  rw[nests,X7] at x
  rw[ar,C8 n d x.1,nU n ds x.2];rfl
end
theorem mO (h:dz k=true):bp k=true:=by
 obtain⟨ds,rfl,h⟩:=mN h
 rw[bp];exact nU 7 ds h
theorem yM (x y:NK):PyData.eqv x.d y.d=decide (x=y):=by
 rw[Yx,Z8]
 refine⟨λz=>NK.inj (qg 8 _ _ x.n y.n z),λz=> ?_⟩
 rw[z];exact SeqAt.eqv_refl _ (jK 8 _ y.n)
def Rk (q:PyData×V×V)(x:NK×Addr×Value):Prop:=q.1=x.1.d/\q.2.1= .ref x.2.1/\RelV q.2.2 x.2.2
theorem uO:∀{ks:List (PyData×V×V)} {xs:List (NK×Addr×Value)},Paired Rk ks xs->ks.map (·.1)=xs.map (·.1.d)
 | _,_,.nil=>rfl
 | _,_,.cons r t=>by rw[Kq,Kq,r.1,uO t]
theorem Paired.len {α β:Type}{F:α->β->Prop}:∀{l:List α} {m:List β},Paired F l m->l.length=m.length
 | _,_,.nil=>rfl
 | _,_,.cons _ t=>by rw[Kj,Kj,Paired.len t]
theorem wy (p:Paired Rk ks xs):(ks.map (·.1)).Nodup↔(xs.map (·.1)).Nodup:=by
 rw[uO p]
 have e:xs.map (·.1.d)=(xs.map (·.1)).map NK.d:=by rw[X6];rfl
 rw[e]
 exact⟨λh=>List.Pairwise.of_map _ (λa b hab e=>hab (by rw[e])) h,λh=>List.Pairwise.map _ (λa b hab e=>hab (NK.inj e)) h⟩
section
variable {X:Cx}{pins:List (Addr×Obj)}{σ:St}{H:Hp}{s:Shared}
theorem C9 (I:Inv X pins σ H s):∀{kvs:List (PyData×PyData)} {ks:List (PyData×V×V)} {es:List DictEntry},aW X.K H kvs ks->(∀k∈ks,dz k.1=true)->
  Paired (λ(k:PyData×V×V) (e:DictEntry)=>e.hash=fQ k.1/\RelV k.2.1 e.key/\RelV k.2.2 e.val) ks es->
  ∃xs,Paired Rk ks xs/\es=xs.map (entryOfKey (bO X.prog X.w))/\∀x∈xs,g8 s.heap x.1.d (.ref x.2.1)
 | [],ks,es,t,_,p=>by
  simp only[aW] at t;subst t;cases p
  exact⟨[],.nil,rfl,λx hx=>by cases hx⟩
 | (k,d) :: r,ks,es,t,hk,p=>by
  simp only[aW] at t
  obtain⟨kv,v,q,rfl,h1,h2,h3⟩:=t
  cases p with
  | @cons _ e _ es' hp pt=>
   obtain⟨xs,p1,e1,k1⟩:=C9 I h3 (λx hx=>hk x (K8 _ hx)) pt
   obtain⟨ds,rfl,hn⟩:=mN (hk _ K9)
   obtain⟨b,vs,rfl,g1,g2⟩:=aL h1
   obtain⟨eh,ek,ev⟩:=e
   obtain⟨q1,q2,q3⟩:=hp
   cases(show ek=Value.ref b from q2)
   have PF:eh=fQ (.tuple ds):=q1
   subst PF
   refine⟨(⟨ds,hn⟩,b,ev) :: xs,.cons ⟨rfl,rfl,q3⟩ p1,by rw[e1];rfl,λx hx=> ?_⟩
   rcases Kx.mp hx with rfl | hx
   ·exact aK.C7 I 8 (.tuple ds) (.ref b) (.ref b) (by rw[Y.nest];exact hn) h1 rfl
   ·exact k1 x hx
theorem uP {P:PyData->Bool}(t:aW X.K H kvs ks)(h:(kvs.all λp=>P p.1)=true):∀k∈ks,P k.1=true:=λk hk=>by
 have:k.1∈kvs.map (·.1):=by rw[←iu t];exact YX hk
 obtain⟨p,hp,e⟩:=Ku.mp this
 rw[←e];exact Uz.mp h p hp
theorem j9 (I:Inv X pins σ H s)(e:Rd H a (.dct a ks))(t:aW X.K H kvs ks.1)(ht:f6 kvs=true) :
  ∃xs,s.heap.DictOfH (bO X.prog X.w) a xs/\Paired Rk ks.1 xs/\(a==sysModules)=false/\ks.1.length<=sizeLine/\∀x∈xs,g8 s.heap x.1.d (.ref x.2.1):=by
 obtain⟨⟨hl,hs,hk,hn,o,es,ho,hc,hd,p⟩,_⟩:=(show fu X.prog X.w H s.heap a (.dct a ks) from e.ok I.hok)
 obtain⟨xs,p1,e1,k1⟩:=C9 I t (uP t ht) p
 exact⟨xs,⟨o,es,ks.2,ho,hc,hd,e1,k1,(wy p1).mp hn⟩,p1,hs,hl,k1⟩
theorem Inv.big' (I:Inv X pins σ H s):sysModules < s.heap.objs.size:=by
 have h:mainGlobals < s.heap.objs.size:=(I.mod.glob.keeps I.bk).lt
 exact Nat.lt_trans (!8) h
end
theorem j_ :∀{ks:List (PyData×V×V)} {xs:List (NK×Addr×Value)},ks.length<=sizeLine->(a==sysModules)=false->Paired Rk ks xs->h'.DictOfH (bO P w) a xs->∃ep,p0 a (ks,ep) h':=by
 intro ks xs hl hs p dd
 obtain⟨o,es,ep,ho,hc,hd,he,his,hn⟩:=dd
 have key:∀{ks:List (PyData×V×V)} {xs:List (NK×Addr×Value)},Paired Rk ks xs->(∀k∈ks,dz k.1=true)/\Paired (λ(k:PyData×V×V) (e:DictEntry)=>e.hash=fQ k.1/\RelV k.2.1 e.key/\RelV k.2.2 e.val) ks (xs.map (entryOfKey (bO P w))):=by
  intro ks xs p
  induction p with
  | nil=>exact⟨(λk hk=>by cases hk),.nil⟩
  | @cons q x qs xs r t ih=>
   refine⟨λk hk=> ?_,?_⟩
   ·rcases Kx.mp hk with rfl | hk
    ·rw[r.1];exact x.1.2
    ·exact ih.1 k hk
   ·exact .cons ⟨by rw[r.1];rfl,by rw[r.2.1];rfl,r.2.2⟩ ih.2
 obtain⟨k1,k2⟩:=key p
 exact⟨ep,hl,hs,.inl k1,(wy p).mpr hn,o,es,ho,hc,hd,by rw[he];exact k2⟩
theorem ka (h:p0 a ks h'):fu P w H h' a (.dct a ks):=by
 refine⟨h,?_,λh1 h2 q k=> ?_⟩
 ·obtain⟨_,_,_,_,o,_,ho,_⟩:=h;exact⟨o,ho⟩
 ·obtain⟨a1,a2,a3,a4,o,es,ho,r⟩:=q
  exact⟨a1,a2,a3,a4,o,es,k o ho,r⟩
def rV (q:PyData×V×V)(x:Int×Value):Prop:=q.1= .int x.1/\q.2.1= .int x.1/\RelV q.2.2 x.2
theorem wz:∀{ks:List (PyData×V×V)} {xs:List (Int×Value)},Paired rV ks xs->ks.map (·.1)=xs.map λx=>PyData.int x.1
 | _,_,.nil=>rfl
 | _,_,.cons r t=>by rw[Kq,Kq,r.1,wz t]
theorem tq (p:Paired rV ks xs):(ks.map (·.1)).Nodup↔(xs.map (·.1)).Nodup:=by
 rw[wz p]
 have e:(xs.map λx=>PyData.int x.1)=(xs.map (·.1)).map PyData.int:=by rw[X6];rfl
 rw[e]
 exact⟨λh=>List.Pairwise.of_map _ (λa b hab e=>hab (by rw[e])) h,λh=>List.Pairwise.map _ (λa b hab e=>hab (PyData.int.inj e)) h⟩
theorem qi (h:yE k=true):∃i,k= .int i:=by
 cases k <;> first | exact⟨_,rfl⟩ | exact absurd h (by simp[yE])
section
variable {X:Cx}{pins:List (Addr×Obj)}{σ:St}{H:Hp}{s:Shared}
theorem Aa:∀{kvs:List (PyData×PyData)} {ks:List (PyData×V×V)} {es:List DictEntry},aW X.K H kvs ks->(∀k∈ks,yE k.1=true)->
  Paired (λ(k:PyData×V×V) (e:DictEntry)=>e.hash=fQ k.1/\RelV k.2.1 e.key/\RelV k.2.2 e.val) ks es->
  ∃xs,Paired rV ks xs/\Pairs (intKind X.prog X.w) es xs/\∀e∈es,∃k,(intKind X.prog X.w).is k e.key=true/\e.hash=(intKind X.prog X.w).hash k
 | [],ks,es,t,_,p=>by
  simp only[aW] at t;subst t;cases p
  exact⟨[],.nil,.nil,λe he=>by cases he⟩
 | (k,d) :: r,ks,es,t,hk,p=>by
  simp only[aW] at t
  obtain⟨kv,v,q,rfl,h1,h2,h3⟩:=t
  cases p with
  | @cons _ e _ es' hp pt=>
   obtain⟨xs,p1,e1,k1⟩:=Aa h3 (λx hx=>hk x (K8 _ hx)) pt
   obtain⟨i,rfl⟩:=qi (hk _ K9)
   have:=aJ h1
   subst this
   obtain⟨q1,⟨tk,q2⟩,q3⟩:=hp
   have hi:(intKind X.prog X.w).is i e.key=true:=by rw[q2];simp[intKind,Value.isInt]
   refine⟨(i,e.val) :: xs,.cons ⟨rfl,rfl,q3⟩ p1,.cons hi rfl e1,λx hx=> ?_⟩
   rcases Kx.mp hx with z | z
   ·subst z;exact⟨i,hi,q1⟩
   ·exact k1 x z
theorem i8 (I:Inv X pins σ H s)(e:Rd H a (.dct a ks))(t:aW X.K H kvs ks.1)(ht:allI kvs=true) :
  ∃xs,s.heap.DictOf (intKind X.prog X.w) a xs/\Paired rV ks.1 xs/\(a==sysModules)=false/\ks.1.length<=sizeLine:=by
 obtain⟨⟨hl,hs,hk,hn,o,es,ho,hc,hd,p⟩,_⟩:=(show fu X.prog X.w H s.heap a (.dct a ks) from e.ok I.hok)
 obtain⟨xs,p1,e1,k1⟩:=Aa t (uP t ht) p
 exact⟨xs,⟨o,es,ks.2,ho,hc,hd,λe he=>k1 e (by simpa using he),e1,(tq p1).mp hn⟩,p1,hs,hl⟩
end
theorem qj (hl:ks.length<=sizeLine)(hs:(a==sysModules)=false)(p:Paired rV ks xs)(dd:h'.DictOf (intKind P w) a xs):∃ep,p0 a (ks,ep) h':=by
 obtain⟨o,es,ep,ho,hc,hd,hk,hp,hn⟩:=dd
 have key:∀{ks:List (PyData×V×V)} {xs:List (Int×Value)} {es:List DictEntry},Paired rV ks xs->Pairs (intKind P w) es xs->(∀e∈es,∃k,(intKind P w).is k e.key=true/\e.hash=(intKind P w).hash k)->
   (∀k∈ks,yE k.1=true)/\Paired (λ(k:PyData×V×V) (e:DictEntry)=>e.hash=fQ k.1/\RelV k.2.1 e.key/\RelV k.2.2 e.val) ks es:=by
  intro ks xs es p
  induction p generalizing es with
  | nil=>intro q _;cases q;exact⟨(λk hk=>by cases hk),.nil⟩
  | @cons q x qs xs r t ih=>
   intro pq hk
   cases pq with
   | @cons e _ es' _ h1 h2 h3=>
    obtain⟨i1,i2⟩:=ih h3 λe he=>hk e (K8 _ he)
    obtain⟨k,k1,k2⟩:=hk e K9
    have:k=x.1:=(intKind P w).inj _ _ _ k1 h1
    subst this
    obtain⟨tk,et⟩:=Value.isInt_shape h1
    refine⟨λz hz=> ?_,.cons ⟨by rw[r.1];exact k2,by rw[r.2.1];exact⟨tk,et⟩,by rw[h2];exact r.2.2⟩ i2⟩
    rcases Kx.mp hz with rfl | hz
    ·rw[r.1];rfl
    ·exact i1 z hz
 obtain⟨k1,k2⟩:=key p hp λe he=>hk e (by simpa using he)
 exact⟨ep,hl,hs,.inr k1,(tq p).mpr hn,o,es,ho,hc,hd,k2⟩
noncomputable def mP (ks:List (PyData×V×V))(k:PyData)(kv v:V):List (PyData×V×V):=if (ks.any λp=>PyData.eqv p.1 k)=true then ks.map λp=>if PyData.eqv p.1 k=true then (p.1,p.2.1,v) else p else ks++[(k,kv,v)]
noncomputable def qk (ks ms:List (PyData×V×V)):List (PyData×V×V):=ms.foldl (λacc p=>mP acc p.1 p.2.1 p.2.2) ks
theorem lJ (k:NK):∀{ks:List (PyData×V×V)} {xs:List (NK×Addr×Value)},Paired Rk ks xs->(atKey xs k).isSome=ks.any λq=>PyData.eqv q.1 k.d
 | _,_,.nil=>rfl
 | _,_,.cons (a:=q) (b:=x) r t=>by
  have ih:=lJ k t
  rw[J5,r.1,yM,←ih]
  unfold atKey
  rw[U5]
  cases hd:decide (x.1=k) <;> simp
theorem ql (h:∀q x,Rk q x->Rk (f q) (g x)):∀{ks:List (PyData×V×V)} {xs:List (NK×Addr×Value)},Paired Rk ks xs->Paired Rk (ks.map f) (xs.map g)
 | _,_,.nil=> .nil
 | _,_,.cons r t=> .cons (h _ _ r) (ql h t)
theorem kQ (h:Rk q x):∀{ks:List (PyData×V×V)} {xs:List (NK×Addr×Value)},Paired Rk ks xs->Paired Rk (ks++[q]) (xs++[x])
 | _,_,.nil=> .cons h .nil
 | _,_,.cons r t=> .cons r (kQ h t)
theorem qm (p:Paired Rk ks xs)(k:NK)(a:Addr)(rv:RelV v u):Paired Rk (mP ks k.d (.ref a) v) (storedH xs k a u):=by
 unfold mP storedH
 rw[lJ k p]
 split
 ·refine ql (λq x r=> ?_) p
  unfold putAt
  rw[r.1,yM]
  by_cases hx:x.1=k
  ·rw[Z4 (Z3 hx),Z4 hx];exact⟨rfl,r.2.1,rv⟩
  ·rw[Z5 (by rw[Z2 hx];exact K3),Z5 hx];exact r
 ·exact kQ ⟨rfl,rfl,rv⟩ p
theorem oJ:∀{ms:List (PyData×V×V)} {ys:List (NK×Addr×Value)},Paired Rk ms ys->∀{ks:List (PyData×V×V)} {xs:List (NK×Addr×Value)},Paired Rk ks xs->Paired Rk (qk ks ms) (fG xs ys)
 | _,_,.nil,_,_,p=>p
 | _,_,.cons (a:=q) (b:=y) r t,ks,xs,p=>by
  have h1:=qm p y.1 y.2.1 r.2.2
  rw[←r.1,←r.2.1] at h1
  exact oJ t h1
theorem Ja (i j:Int):PyData.eqv (.int i) (.int j)=decide (i=j):=by
 have:PyData.eqv (.int i) (.int j)=(i==j):=by simp[PyData.eqv]
 rw[this,Yx];simp
theorem mQ (k:Int):∀{ks:List (PyData×V×V)} {xs:List (Int×Value)},Paired rV ks xs->(valueAt xs k).isSome=(ks.any λq=>PyData.eqv q.1 (.int k))/\(xs.any λkv=>decide (kv.1=k))=(ks.any λq=>PyData.eqv q.1 (.int k))
 | _,_,.nil=>⟨rfl,rfl⟩
 | _,_,.cons (a:=q) (b:=x) r t=>by
  obtain⟨h1,h2⟩:=mQ k t
  rw[J5,J5,r.1,Ja,←h2]
  refine⟨?_,rfl⟩
  rw[h2,←h1]
  unfold valueAt
  rw[U5]
  cases hd:decide (x.1=k) <;> simp[hd]
theorem oM (h:∀q x,rV q x->rV (f q) (g x)):∀{ks:List (PyData×V×V)} {xs:List (Int×Value)},Paired rV ks xs->Paired rV (ks.map f) (xs.map g)
 | _,_,.nil=> .nil
 | _,_,.cons r t=> .cons (h _ _ r) (oM h t)
theorem mR (h:rV q x):∀{ks:List (PyData×V×V)} {xs:List (Int×Value)},Paired rV ks xs->Paired rV (ks++[q]) (xs++[x])
 | _,_,.nil=> .cons h .nil
 | _,_,.cons r t=> .cons r (mR h t)
theorem oN (p:Paired rV ks xs)(k:Int)(rv:RelV v u):Paired rV (mP ks (.int k) (.int k) v) (stored xs k u):=by
 unfold mP stored
 rw[(mQ k p).2]
 split
 ·refine oM (λq x r=> ?_) p
  rw[r.1,Ja]
  by_cases hx:x.1=k
  ·rw[Z4 (Z3 hx),Z4 hx];exact⟨rfl,r.2.1,rv⟩
  ·rw[Z5 (by rw[Z2 hx];exact K3),Z5 hx];exact r
 ·exact mR ⟨rfl,rfl,rv⟩ p
theorem mS:∀{ms:List (PyData×V×V)} {ys:List (Int×Value)},Paired rV ms ys->∀{ks:List (PyData×V×V)} {xs:List (Int×Value)},Paired rV ks xs->Paired rV (qk ks ms) (merged xs ys)
 | _,_,.nil,_,_,p=>p
 | _,_,.cons (a:=q) (b:=y) r t,ks,xs,p=>by
  have h1:=oN p y.1 r.2.2
  rw[←r.1,←r.2.1] at h1
  exact mS t h1
theorem qo (ks:List (PyData×V×V))(k:PyData)(kv v:V):(mP ks k kv v).length<=ks.length+1:=by
 unfold mP;split
 ·rw[K6];omega
 ·rw[K2,X8];exact K0 _
theorem tu:∀(ms ks:List (PyData×V×V)),(qk ks ms).length<=ks.length+ms.length
 | [],ks=>K0 _
 | m :: ms,ks=>by
  have h1:=tu ms (mP ks m.1 m.2.1 m.2.2)
  have h2:=qo ks m.1 m.2.1 m.2.2
  show(qk (mP ks m.1 m.2.1 m.2.2) ms).length<=_
  rw[Kj];omega
section
variable {K:Frag}{H:Hp}
theorem jL (t:aW K H kvs ks):ks.length=kvs.length:=by
 have:=congrArg List.length (iu t);simpa using this
theorem kR (t:aW K H kvs ks)(k:PyData):(ks.any λq=>PyData.eqv q.1 k)=eU kvs k:=by
 have h1:∀{α:Type} (l:List (PyData×α)),(l.any λq=>PyData.eqv q.1 k)=(l.map (·.1)).any λx=>PyData.eqv x k:=λl=>by rw[List.any_map];rfl
 unfold eU
 rw[h1,h1,iu t]
theorem qp (hv:aK K H d v):∀{kvs:List (PyData×PyData)} {ks:List (PyData×V×V)},aW K H kvs ks->
  aW K H (kvs.map λp=>if PyData.eqv p.1 k=true then (p.1,d) else p) (ks.map λp=>if PyData.eqv p.1 k=true then (p.1,p.2.1,v) else p)
 | [],ks,t=>by simp only[aW] at t;subst t;simp only[J0,aW]
 | (k',d') :: r,ks,t=>by
  simp only[aW] at t
  obtain⟨kv,v',q,rfl,h1,h2,h3⟩:=t
  rw[Kq,Kq]
  by_cases he:PyData.eqv k' k=true
  ·simp only[Z4 he,aW];exact⟨kv,v,_,rfl,h1,hv,qp hv h3⟩
  ·simp only[Z5 he,aW];exact⟨kv,v',_,rfl,h1,h2,qp hv h3⟩
theorem tv (hk:aK K H k kv)(hv:aK K H d v):∀{kvs:List (PyData×PyData)} {ks:List (PyData×V×V)},aW K H kvs ks->aW K H (kvs++[(k,d)]) (ks++[(k,kv,v)])
 | [],ks,t=>by simp only[aW] at t;subst t;simp only[YU,aW];exact⟨kv,v,[],rfl,hk,hv,rfl⟩
 | (k',d') :: r,ks,t=>by
  simp only[aW] at t
  obtain⟨kv',v',q,rfl,h1,h2,h3⟩:=t
  rw[Uj,Uj]
  simp only[aW]
  exact⟨kv',v',_,rfl,h1,h2,tv hk hv h3⟩
theorem qq (t:aW K H kvs ks)(hk:aK K H k kv)(hv:aK K H d v):aW K H (putK kvs k d) (mP ks k kv v):=by
 unfold putK mP
 rw[kR t]
 split
 ·exact qp hv t
 ·exact tv hk hv t
theorem tw:∀{more:List (PyData×PyData)} {ms:List (PyData×V×V)},aW K H more ms->∀{kvs:List (PyData×PyData)} {ks:List (PyData×V×V)},aW K H kvs ks->aW K H (l7 kvs more) (qk ks ms)
 | [],ms,t,kvs,ks,h=>by simp only[aW] at t;subst t;exact h
 | (k,d) :: r,ms,t,kvs,ks,h=>by
  simp only[aW] at t
  obtain⟨kv,v,q,rfl,h1,h2,h3⟩:=t
  exact tw h3 (qq h h1 h2)
theorem lK:∀{kvs:List (PyData×PyData)} {ks:List (PyData×V×V)},aW K H kvs ks->(∀p∈kvs,bp p.1=true)->dY kvs=true->aN K H kvs ks []
 | [],ks,t,_,_=>by simp only[aW] at t;subst t;simp only[aN];exact⟨trivial,trivial⟩
 | (k,d) :: r,ks,t,hk,hn=>by
  simp only[aW] at t
  obtain⟨kv,v,q,rfl,h1,h2,h3⟩:=t
  have hn':bp d=true/\dY r=true:=by
   unfold dY at hn;rw[Kq,ar,X7] at hn;exact hn
  simp only[aN]
  exact⟨kv,v,q,[],[],rfl,rfl,aK.toT _ _ (hk _ K9) h1,aK.toT _ _ hn'.1 h2,lK h3 (λp hp=>hk p (K8 _ hp)) hn'.2⟩
theorem mT:∀{kvs:List (PyData×PyData)} {ks:List (PyData×V×V)} {as:List Addr},aN K H kvs ks as->dY kvs=true->as=[]
 | [],ks,as,t,_=>by simp only[aN] at t;exact t.2
 | (k,d) :: r,ks,as,t,hn=>by
  simp only[aN] at t
  obtain⟨kv,v,q,a1,a2,rfl,rfl,h1,h2,h3⟩:=t
  have hn':bp d=true/\dY r=true:=by
   unfold dY at hn;rw[Kq,ar,X7] at hn;exact hn
  rw[IsT.nil _ _ _ hn'.1 h2,mT h3 hn'.2];rfl
end
section
variable {K:Frag}{H:Hp}
mutual
theorem IsT.qr:∀(d:PyData) (v:V) (as:List Addr),IsT K H d v as->as=[]->bp d=true
 | .none,_,_,_,_=>rfl
 | .bool _,_,_,_,_=>rfl
 | .int _,_,_,_,_=>rfl
 | .str _,_,_,_,_=>rfl
 | .list xs,v,as,h,e=>by obtain⟨a,vs,bs,_,_,_,z⟩:=cA h;rw[e] at z;cases z
 | .dict xs,v,as,h,e=>by obtain⟨a,vs,bs,_,_,_,z⟩:=dE h;rw[e] at z;cases z
 | .tuple xs,v,as,h,e=>by
  obtain⟨a,vs,_,_,h2⟩:=j6 h
  rw[bp];exact aA.qr xs vs as h2 e
theorem aA.qr:∀(ds:List PyData) (vs:List V) (as:List Addr),aA K H ds vs as->as=[]->ar ds=true
 | [],_,_,_,_=>rfl
 | d :: ds,vs,as,h,e=>by
  simp only[aA] at h
  obtain⟨v,r,a1,a2,rfl,rfl,h1,h2⟩:=h
  have:=List.append_eq_nil_iff.mp e
  rw[ar,IsT.qr d v a1 h1 this.1,aA.qr ds r a2 h2 this.2];rfl
end
theorem pG:∀{kvs:List (PyData×PyData)} {ks:List (PyData×V×V)} {as:List Addr},aN K H kvs ks as->∀p∈kvs,bp p.1=true
 | [],ks,as,t,p,hp=>by cases hp
 | (k,d) :: r,ks,as,t,p,hp=>by
  simp only[aN] at t
  obtain⟨kv,v,q,a1,a2,rfl,rfl,h1,h2,h3⟩:=t
  rcases Kx.mp hp with rfl | hp
  ·exact IsT.qr _ _ _ h1 rfl
  ·exact pG h3 p hp
end
theorem qt {kvs:List (PyData×PyData)}{k d:PyData}(h:dY kvs=true)(hd:bp d=true):dY (putK kvs k d)=true:=by
 unfold dY at h⊢
 rw[aF] at h⊢
 intro x hx
 unfold putK at hx
 split at hx
 ·rw[X6] at hx
  obtain⟨p,hp,rfl⟩:=Ku.mp hx
  simp only[Function.comp]
  split
  ·exact hd
  ·exact h _ (YX hp)
 ·rw[X4] at hx
  rcases K1.mp hx with hx | hx
  ·exact h x hx
  ·have:x=d:=by simpa using hx
   rw[this];exact hd
theorem tx:∀{more kvs:List (PyData×PyData)},dY more=true->dY kvs=true->dY (l7 kvs more)=true
 | [],kvs,_,h=>h
 | (k,d) :: r,kvs,hm,h=>by
  have hn':bp d=true/\dY r=true:=by
   unfold dY at hm;rw[Kq,ar,X7] at hm;exact hm
  exact tx (kvs:=putK kvs k d) hn'.2 (qt h hn'.1)
end L2
namespace L2
open PySem PySem.Spec PyProof.Rows Y
section
variable {X:Cx}{K:Frag}{Ew:Str->Hp->Prop}
theorem iy (h:cH kvs x=true):(∃ds,x= .tuple ds/\nests 7 ds=true/\f6 kvs=true)∨(∃i,x= .int i/\allI kvs=true):=by
 unfold cH at h
 rw[Bool.or_eq_true,X7,X7] at h
 rcases h with⟨a,b⟩ | ⟨a,b⟩
 ·obtain⟨ds,e,n⟩:=mN a;exact .inl ⟨ds,e,n,b⟩
 ·obtain⟨i,e⟩:=qi a;exact .inr ⟨i,e,b⟩
theorem Jb (hu:X.A.units+80 < cLine){pins:List (Addr×Obj)}{s:Shared}{σ:St}{H:Hp}{x:PyData}{kvs:j3}{u v:V}{a b:Value}{Q:VK}(I:Inv X pins σ H s)(hk:cH kvs x=true)(hx:aK X.K H x u)(hy:aK X.K H (.dict kvs) v)(ru:RelV u a)(rv:RelV v b)
  (q:∀w H',Same H H'->aP X.K H H' (.bool (eU kvs x)) w->Q w H'):wpAny (!7) X.A (compareOp .In a b) (EP X pins σ Q) X.xe s:=by
 obtain⟨ad,ks,rfl,hr,t⟩:=dD hy
 cases(show b=Value.ref ad from rv)
 rcases iy hk with⟨ds,rfl,hn,ht⟩ | ⟨i,rfl,ht⟩
 ·obtain⟨xs,dd,p,hs,hl,_⟩:=j9 I hr t ht
  obtain⟨bk,vs,rfl,g1,g2⟩:=aL hx
  cases(show a=Value.ref bk from ru)
  obtain⟨kk,hkk⟩:∃kk:NK,kk.d= .tuple ds:=⟨⟨ds,hn⟩,rfl⟩
  have uQ:g8 s.heap kk.d (.ref bk):=by rw[hkk];exact aK.C7 I 8 (.tuple ds) (.ref bk) (.ref bk) (by rw[Y.nest];exact hn) hx rfl
  refine wpAny_in_heap (knd:=bO X.prog X.w) (k:=kk) (show X.A.units+1+10 < cLine by omega) uQ hs dd ?_
  rw[lJ _ p,kR t,hkk]
  exact⟨.bl _,H,I.tok _,rfl,q _ H (Same.refl H) (aP.ml rfl dq)⟩
 ·obtain⟨xs,dd,p,hs,hl⟩:=i8 I hr t ht
  have:=aJ hx
  subst this
  obtain⟨tk,rfl⟩:=ru
  refine wpAny_in_of (knd:=intKind X.prog X.w) (k:=i) (by simp[intKind,Value.isInt]) hs dd.mapOf ?_
  rw[(mQ i p).1,kR t]
  exact⟨.bl _,H,I.tok _,rfl,q _ H (Same.refl H) (aP.ml rfl dq)⟩
theorem Bl (hu:X.A.units+80 < cLine){pins:List (Addr×Obj)}{s:Shared}{σ:St}{H:Hp}{x:PyData}{kvs:j3}{u v:V}{a b:Value}{Q:VK}(I:Inv X pins σ H s)(hk:cH kvs x=true)(hx:aK X.K H x u)(hy:aK X.K H (.dict kvs) v)(ru:RelV u a)(rv:RelV v b)
  (q:∀w H',Same H H'->aP X.K H H' (.bool (!eU kvs x)) w->Q w H'):wpAny (!7) X.A (compareOp .NotIn a b) (EP X pins σ Q) X.xe s:=by
 obtain⟨ad,ks,rfl,hr,t⟩:=dD hy
 cases(show b=Value.ref ad from rv)
 rcases iy hk with⟨ds,rfl,hn,ht⟩ | ⟨i,rfl,ht⟩
 ·obtain⟨xs,dd,p,hs,hl,_⟩:=j9 I hr t ht
  obtain⟨bk,vs,rfl,g1,g2⟩:=aL hx
  cases(show a=Value.ref bk from ru)
  obtain⟨kk,hkk⟩:∃kk:NK,kk.d= .tuple ds:=⟨⟨ds,hn⟩,rfl⟩
  have uQ:g8 s.heap kk.d (.ref bk):=by rw[hkk];exact aK.C7 I 8 (.tuple ds) (.ref bk) (.ref bk) (by rw[Y.nest];exact hn) hx rfl
  refine wpAny_notIn_heap (knd:=bO X.prog X.w) (k:=kk) (show X.A.units+1+10 < cLine by omega) uQ hs dd ?_
  rw[lJ _ p,kR t,hkk]
  exact⟨.bl _,H,I.tok _,rfl,q _ H (Same.refl H) (aP.ml rfl dq)⟩
 ·obtain⟨xs,dd,p,hs,hl⟩:=i8 I hr t ht
  have:=aJ hx
  subst this
  obtain⟨tk,rfl⟩:=ru
  refine wpAny_notIn_of (knd:=intKind X.prog X.w) (k:=i) (by simp[intKind,Value.isInt]) hs dd.mapOf ?_
  rw[(mQ i p).1,kR t]
  exact⟨.bl _,H,I.tok _,rfl,q _ H (Same.refl H) (aP.ml rfl dq)⟩
theorem mU (hu:X.A.units+80 < cLine):jh X (compareOp .In) l4:=jh.of λpins s σ H x y z u v a b Q I e hx hy ru rv q=>by
 cases y with
 | dict kvs=>
  simp only[l4] at e
  split at e
  ·rename_i hk
   cases e
   exact Jb hu I hk hx hy ru rv q
  ·cases e
 | _=>
  obtain⟨r,op,lift⟩:=yF (X:=X) hu
  refine op pins s σ H u v a b Q I ru rv (lift x _ z u v H Q ?_ hx hy q)
  exact e
theorem iF (hu:X.A.units+80 < cLine):jh X (compareOp .NotIn) cC:=jh.of λpins s σ H x y z u v a b Q I e hx hy ru rv q=>by
 cases y with
 | dict kvs=>
  simp only[cC] at e
  split at e
  ·rename_i hk
   cases e
   exact Bl hu I hk hx hy ru rv q
  ·cases e
 | _=>
  obtain⟨r,op,lift⟩:=f7 (X:=X) hu
  refine op pins s σ H u v a b Q I ru rv (lift x _ z u v H Q ?_ hx hy q)
  exact e
theorem wA:iY X (.type "dict") (λus H Q=>∃a kvs ks,us=[.ref a]/\Rd H a (.dct a ks)/\aW X.K H kvs ks.1/\f6 kvs=true/\kvs.isEmpty=false/\(kvs.map λp=>fQ p.1).Nodup/\∀l ep,H l=none->Q (.ref l) (upd H l (.dct l (ks.1,ep)))):=by
 intro pins s σ H us vs Q I r h
 obtain⟨a,kvs,ks,rfl,hr,t,hat,h0,hh,q⟩:=h
 obtain⟨u,rfl,rx⟩:=vals1 r
 cases(show u=Value.ref a from rx)
 obtain⟨xs,dd,p,hs,hl,hk⟩:=j9 I hr t hat
 have hpl:=Paired.len p
 have hkl:=jL t
 have hx0:xs≠[]:=λz=>by
  rw[z] at hpl
  have:kvs.length=0:=by rw[←hkl,hpl];rfl
  rw[YY.mp this] at h0;cases h0
 refine L8 (knd:=bO X.prog X.w) hs dd hx0 (!1) (λx hx=> ?_) ?_ (λx hx=> ?_) λh' tz sb=> ?_
 ·have:=hk x hx
  simp only[NK.d,g8] at this
  obtain⟨b,o,items,n,e,h1,h2,_⟩:=this
  cases e
  exact⟨o,h1,h2⟩
 ·have e1:(xs.map λx=>(bO X.prog X.w).hash x.1)=(ks.1.map (·.1)).map fQ:=by rw[uO p,X6];rfl
  rw[e1,iu t,X6];exact hh
 ·exact g8.keep (λb o items n hb _=>K4 _ hb) _ _ (hk x hx)
 ·obtain⟨ep,ph⟩:=j_ hl (beq_eq_false_iff_ne.mpr (Ne.symm (Xk I.big'))) p tz
  refine⟨.ref s.heap.objs.size,_,I.laid (a:=s.heap.objs.size) (o:=.dct s.heap.objs.size (ks.1,ep)) (t':=s.toks) (λb u hb=> ?_) (K0 _) (ka ph),rfl,q _ ep I.fresh⟩
  exact(sb.2 b (Xk (KJ hb))).trans (K4 _ hb)
theorem FJ (t:aW K H kvs ks)(hk:∀k∈ks,dz k.1=true):∀p∈kvs,bp p.1=true:=λp hp=>by
 have:p.1∈ks.map (·.1):=by rw[iu t];exact YX hp
 obtain⟨k,hk1,e⟩:=Ku.mp this
 rw[←e];exact mO (hk k hk1)
theorem yN:CallD X (.type "dict") pC:=⟨_,wA,
 λxs z us H Q e h q=>by
  match xs,e,h with
  | [.dict kvs],e,h=>
   simp only[pC] at e
   split at e
   ·rename_i hc
    cases e
    obtain⟨u,rfl,hu⟩:=d_ h
    obtain⟨a,ks,rfl,hr,t⟩:=dD hu
    have hk:=uP (X:=X) t hc.2.1
    exact⟨a,kvs,ks,rfl,hr,t,hc.2.1,hc.1,hc.2.2.2,λl ep hl=>q _ _ (Same.upd hl) ⟨[l],hU ay (lK (aW.same (Same.upd hl) _ _ t) (FJ t hk) hc.2.2.1),KQ.mpr ⟨by simp,X2⟩,λb hb=>by rw[K7.mp hb];exact hl⟩⟩
   ·cases e⟩
end
section
variable {X:Cx}{K:Frag}{Ew:Str->Hp->Prop}{pos pos2 p p2:Pos}{a e o j:Expr}{ta:TE}{fa fe fj:EF}{apos cpos:Pos}
def L9 (K:Frag):V->V->V->Hp->(Hp->Prop)->Prop:=λo i v H Q=>∃a ks kvs k,o= .ref a/\H a=some (.dct a ks)/\aW K H kvs ks.1/\aK K H k i/\cH kvs k=true/\ks.1.length < sizeLine/\∀ep,Q (upd H a (.dct a (mP ks.1 k i v,ep)))
theorem Ab (hu:X.A.units+80 < cLine):Ic X (L9 X.K):=by
 intro pins s σ H o i v ov iv u Q I ro ri rv h
 obtain⟨a,ks,kvs,k,rfl,hH,t,hk,hkt,hl,q⟩:=h
 cases(show ov=Value.ref a from ro)
 rcases iy hkt with⟨ds,rfl,hn,ht⟩ | ⟨n,rfl,ht⟩
 ·obtain⟨b,vs,rfl,_,_⟩:=aL hk
  cases(show iv=Value.ref b from ri)
  obtain⟨xs,dd,p,hs,hl0,_⟩:=j9 I (.inl hH) t ht
  have hpl:=Paired.len p
  obtain⟨kk,hkk⟩:∃kk:NK,kk.d= .tuple ds:=⟨⟨ds,hn⟩,rfl⟩
  have uQ:g8 s.heap kk.d (.ref b):=by rw[hkk];exact aK.C7 I 8 (.tuple ds) (.ref b) (.ref b) (by rw[Y.nest];exact hn) hk rfl
  refine wpAny_setItem_heap (knd:=bO X.prog X.w) (k:=kk) (hsz:=by omega) (show X.A.units+1+10 < cLine by omega) uQ dd λh' tz sb=> ?_
  have hp:=qm p kk b rv
  rw[hkk] at hp
  have hlen:=qo ks.1 (.tuple ds) (.ref b) v
  obtain⟨ep,ph⟩:=j_ (!1) hs hp tz
  refine⟨_,I.write (x:=a) (e:=a) (by rw[hH];trivial) (.inl rfl) (λc w hc hw=>(sb.2 c hc).trans hw) ?_ (ka ph),q ep⟩
  obtain⟨ob,_,_,ho,_⟩:=tz
  exact⟨ob,ho⟩
 ·have:=aJ hk
  subst this
  obtain⟨tk,rfl⟩:=ri
  obtain⟨xs,dd,p,hs,hl0⟩:=i8 I (.inl hH) t ht
  have hpl:=Paired.len p
  refine wpAny_setItem_pairs (knd:=intKind X.prog X.w) (k:=n) (hsz:=by omega) (by simp[intKind,Value.isInt]) dd λh' tz sb=> ?_
  have hp:=oN p n rv
  have hlen:=qo ks.1 (.int n) (.int n) v
  obtain⟨ep,ph⟩:=qj (!1) hs hp tz
  refine⟨_,I.write (x:=a) (e:=a) (by rw[hH];trivial) (.inl rfl) (λc w hc hw=>(sb.2 c hc).trans hw) ?_ (ka ph),q ep⟩
  obtain⟨ob,_,_,ho,_⟩:=tz
  exact⟨ob,ho⟩
theorem uR (h:cH kvs x=true):bp x=true:=by
 rcases iy h with⟨ds,rfl,hn,_⟩ | ⟨i,rfl,_⟩
 ·exact mO hn
 ·rfl
theorem FK (hu:X.A.units+80 < cLine)(ho:PE X o (mh i))(hj:DE X K Ew j fj)(he:DE X K Ew e fe)(hK:X.K=K:=by rfl)
  (ha:∀v,assign (.Subscript o j p) X.env v=(do
   let ov←holding [v] (eval o X.env)
   let iv←holding [v,ov] (eval j X.env)
   standAt p
   holding [v,ov,iv] (setItem ov iv v)
   release [v,ov,iv] []):=by intro _;rfl)
  (hs:swapsWithSole [.Subscript o j p] e pos.line X.env=pure false:=by rfl) (hw:swappedStores [.Subscript o j p] e X.env=pure none:=by rfl)
  (h1:(assignEach [.Subscript o j p] X.env).map (·.2)=[assign (.Subscript o j p) X.env]:=by rfl):DS X K Ew (.Assign [.Subscript o j p] e pos) (oA i fj fe) :=
 (uk he (yo ho hj (Ab hu) ha) hs hw h1).imp λD σ H q=>
  gH (g:=λx Γ=>match Γ[i]? with
   | some (some (true,.dict kvs))=>ao (fj Γ) λy=>if cH kvs y.2=true/\bp x.2=true/\dY kvs=true/\kvs.length < sizeLine then ah (.nx (Γ.set i (some (true,.dict (putK kvs y.2 x.2))))) else none
   | _=>none) q λB φ Γ k d y H1 r av q=>by
   subst hK
   obtain⟨kvs,hg,q⟩:=LZ q
   obtain⟨v,hv,hT⟩:=r.own hg
   obtain⟨l,ks,bs,rfl,hl,ht,hφ⟩:=dE hT
   have hli:l∈φ i:=by rw[hφ];exact K9
   refine⟨.ref l,hv,B,φ,Γ,r,?_⟩
   match hm:fj Γ,q with
   | some (.ok (k',d')),q=>
    refine .inl ⟨k',d',rfl,λw H2 s2 hw=> ?_⟩
    have r2:=r.same s2
    replace q:cI X.K Ew B (if cH kvs d'=true/\bp d=true/\dY kvs=true/\kvs.length < sizeLine then ah (.nx (Γ.set i (some (true,.dict (putK kvs d' d))))) else none) D:=q
    by_cases hc:cH kvs d'=true/\bp d=true/\dY kvs=true/\kvs.length < sizeLine
    ·rw[Z4 hc] at q
     obtain⟨c1,c2,c3,c4⟩:=hc
     have hbs:bs=[]:=mT ht c3
     subst hbs
     have hdk:=aW.same s2 _ _ (aN.toD _ _ _ ht)
     have hkd:=hw.toD r2.bs
     have hdd:=aK.same s2 _ _ (av.toD r.bs)
     refine⟨l,ks,kvs,d',rfl,s2 _ _ hl,hdk,hkd,c1,by rw[jL hdk];exact c4,λep=> ?_⟩
     have hkn:∀p∈kvs,bp p.1=true:=λp hp=>by
      have:=ht
      exact pG ht p hp
     have Jc:=qq hdk hkd hdd
     have hn2:∀p∈putK kvs d' d,bp p.1=true:=λp hp=>by
      unfold putK at hp
      split at hp
      ·obtain⟨q',hq',rfl⟩:=Ku.mp hp
       split
       ·exact hkn q' hq'
       ·exact hkn q' hq'
      ·rcases K1.mp hp with hp | hp
       ·exact hkn p hp
       ·rw[K7.mp hp];exact uR c1
     have hnew:=aN.upd (o':=.dct l (mP ks.1 d' w y,ep)) (s2 _ _ hl) trivial _ _ _ (show l∉[] by simp) (lK Jc hn2 (qt c3 c2))
     exact q B _ σ _ (Same.refl B) (r2.chg (d:=.dict (putK kvs d' d)) (as:=[l]) hli (s2 _ _ hl) trivial hv (hU ay hnew) (KQ.mpr ⟨by simp,X2⟩) (λa ha=> .inl (by rw[K7.mp ha];exact hli)) trivial)
    ·rw[Z5 hc] at q
     exact False.elim q
   | some (.ex c),q=>exact .inr ⟨c,rfl,q⟩
   | none,q=>cases q
end
section
variable {X:Cx}{K:Frag}{Ew:Str->Hp->Prop}{pos pos2 p p2:Pos}{a e o j:Expr}{ta:TE}{fa fe fj:EF}{apos cpos:Pos}
theorem DS.or {st:Stmt}{f f1 f2:SF}(h1:DS X K Ew st f1)(h2:DS X K Ew st f2)(hf:∀Γ,f Γ=f1 Γ∨f Γ=f2 Γ):DS X K Ew st f:=λpins s σ H D I q=>by
 obtain⟨B,φ,Γ,r,q⟩:=q
 rcases hf Γ with z | z
 ·exact h1 pins s σ H D I ⟨B,φ,Γ,r,by rw[←z];exact q⟩
 ·exact h2 pins s σ H D I ⟨B,φ,Γ,r,by rw[←z];exact q⟩
theorem uS (hu:X.A.units+80 < cLine)(ho:PE X o (mh i))(hj:DE X K Ew j fj)(he:DE X K Ew e fe)(hK:X.K=K:=by rfl)
  (ha:∀v,assign (.Subscript o j p) X.env v=(do
   let ov←holding [v] (eval o X.env)
   let iv←holding [v,ov] (eval j X.env)
   standAt p
   holding [v,ov,iv] (setItem ov iv v)
   release [v,ov,iv] []):=by intro _;rfl)
  (hs:swapsWithSole [.Subscript o j p] e pos.line X.env=pure false:=by rfl) (hw:swappedStores [.Subscript o j p] e X.env=pure none:=by rfl)
  (h1:(assignEach [.Subscript o j p] X.env).map (·.2)=[assign (.Subscript o j p) X.env]:=by rfl):DS X K Ew (.Assign [.Subscript o j p] e pos) (oB i fj fe):=by
 refine DS.or (FK hu ho hj he hK ha hs hw h1) (yL ho hj he ha hs hw h1) λΓ=> ?_
 unfold oB
 match hg:Γ[i]? with
 | some (some (true,.dict kvs))=>exact .inl rfl
 | some (some (true,.none))=>exact .inr rfl
 | some (some (true,.bool _))=>exact .inr rfl
 | some (some (true,.int _))=>exact .inr rfl
 | some (some (true,.str _))=>exact .inr rfl
 | some (some (true,.tuple _))=>exact .inr rfl
 | some (some (true,.list _))=>exact .inr rfl
 | some (some (false,_))=>exact .inr rfl
 | some none=>exact .inr rfl
 | none=>exact .inr rfl
theorem FL {kvs:List (PyData×PyData)}{k d:PyData}(h:∀p∈kvs,bp p.1=true)(hk:bp k=true):∀p∈putK kvs k d,bp p.1=true:=λp hp=>by
 unfold putK at hp
 split at hp
 ·obtain⟨q',hq',rfl⟩:=Ku.mp hp
  split
  ·exact h q' hq'
  ·exact h q' hq'
 ·rcases K1.mp hp with hp | hp
  ·exact h p hp
  ·rw[K7.mp hp];exact hk
theorem wB:∀{more kvs:List (PyData×PyData)},(∀p∈more,bp p.1=true)->(∀p∈kvs,bp p.1=true)->∀p∈l7 kvs more,bp p.1=true
 | [],kvs,_,h=>h
 | (k,d) :: r,kvs,hm,h=>wB (kvs:=putK kvs k d) (λp hp=>hm p (K8 _ hp)) (FL h (hm _ K9))
def O3 (H:Hp)(x:V):Prop:=∃a ks,x= .ref a/\Rd H a (.dct a ks)
theorem Jd {pins:List (Addr×Obj)}{σ:St}{H:Hp}{s:Shared}{x:V}{v:Value}(I:Inv X pins σ H s)(r:RelV x v)(t:O3 H x):s.TypeIs v "dict" /\∀b,v= .ref b->∃ob,s.heap.get? b=some ob/\ob.dict=none:=by
 obtain⟨a,ks,rfl,hr⟩:=t
 cases(show v=Value.ref a from r)
 obtain⟨⟨_,_,_,_,o,es,ho,hc,_⟩,_⟩:=(show fu X.prog X.w H s.heap a (.dct a ks) from hr.ok I.hok)
 refine⟨⟨o,ho,hc.1⟩,λb e=> ?_⟩
 cases e
 exact⟨o,ho,hc.2.1⟩
def PH (r:V->List V->Hp->VK->Prop)(to:TE)(t:TA):TE:=λσ H Q=>to σ H λx H1=>O3 H1 x/\t σ H1 λxs H2=>r x xs H2 Q
theorem Hn {es:List Expr}{to:TE}{t:TA}{name:Str}{id:String}{r:V->List V->Hp->VK->Prop}(slot:Slot "dict" name id)(hty:typeOf (.builtin id)=pure (.type "method_descriptor"))(hm:NJ X id r)(ho:PE X o to)(ha:PA X (e :: es) t)
  (hbase:attributeBase o name X.env (eval o X.env)=eval o X.env)
  (hfew:((backTo cpos (starEach (e :: es) X.env)).all (λx=> !x.1) && (backToKw cpos (keywordEach [] X.env)).all (λx=>x.1.isSome)
   && decide ((e :: es).length+([]:List Keyword).length+(if ([]:List Keyword).isEmpty then 0 else 1) < 30))=true)
  (hline:(apos.endLine==cpos.line)=true) (hs:starEach (e :: es) X.env=(false,eval e X.env) :: starEach es X.env) (hplain:(backTo cpos (starEach es X.env)).any (·.1)=false) :
  PE X (.Call (.Attribute o name apos) (e :: es) [] cpos) (PH r to t):=by
 intro pins s σ H Q I h
 refine wpAny_Call_method_late hbase hfew hline rfl (di (ho pins s σ H _ I h) λv s1 ⟨x,H1,I1,r1,ty,q1⟩=> ?_)
 obtain⟨h1,h2⟩:=Jd I1 r1 ty
 refine⟨"dict",id,PySem.F.plainAttrs_dict,slot,hty,h1,h2,?_⟩
 have hA:=ha cpos pins s1 σ H1 _ I1 q1
 rw[hs] at hA⊢
 refine Calls.callWith_builtin (by show(false || (backTo cpos (starEach es X.env)).any (·.1))=false;rw[hplain] <;> rfl) (Calls.evalArgs_plain ?_)
 exact di hA λus s2 ⟨vs,H2,I2,r2,q2⟩=>hm pins s2 σ H2 x vs v us Q I2 r1 r2 q2
def L_ (kvs more:j3):Prop:=(kvs.isEmpty=false/\f6 kvs=true/\f6 more=true)∨(allI kvs=true/\allI more=true)
def N4 (K:Frag):V->List V->Hp->VK->Prop:=λx vs H Q=>∃a b kvs ks more ms,x= .ref a/\vs=[.ref b]/\a≠b/\H a=some (.dct a ks)/\aW K H kvs ks.1/\Rd H b (.dct b ms)/\aW K H more ms.1/\L_ kvs more/\kvs.length+more.length<=sizeLine/\∀ep,Q .non (upd H a (.dct a (qk ks.1 ms.1,ep)))
theorem Je (hu:X.A.units+80 < cLine):MZ X "dict.update" (N4 X.K):=by
 intro pins s σ H x vs v us Q I rx rv h
 obtain⟨a,b,kvs,ks,more,ms,rfl,rfl,hab,hH,t,hr,t2,hok,hz,q⟩:=h
 cases(show v=Value.ref a from rx)
 obtain⟨u,rfl,ru⟩:=rv.one
 cases(show u=Value.ref b from ru)
 have e3:=jL t
 have e4:=jL t2
 have hlen:=tu ms.1 ks.1
 rcases hok with⟨h0,at1,at2⟩ | ⟨PJ,PL⟩
 ·obtain⟨xs,dd,p,hs,hl,_⟩:=j9 I (.inl hH) t at1
  obtain⟨ys,dd2,p2,hs2,hl2,_⟩:=j9 I hr t2 at2
  have e1:=Paired.len p
  have e2:=Paired.len p2
  have hx0:xs≠[]:=λz=>by
   rw[z] at e1
   have:kvs.length=0:=by rw[←e3,e1];rfl
   rw[YY.mp this] at h0;cases h0
  refine call_meetsIn PySem.F.slot_dict_update dd.typeIs PySem.F.entry_dict_update (PySem.F.args_dict_update_2 _ _) (FH (knd:=bO X.prog X.w) a b hab hs2) ⟨show X.A.units+1+10 < cLine by omega,xs,ys,hx0,dd,dd2,by omega,λh' tz sb=> ?_⟩
  obtain⟨ep,ph⟩:=j_ (!1) hs (oJ p2 p) tz
  refine⟨.non,_,I.write (x:=a) (e:=a) (t':=s.toks) (by rw[hH];trivial) (.inl rfl) (λc w hc hw=>(sb.2 c hc).trans hw) ?_ (ka ph),rfl,q ep⟩
  obtain⟨ob,_,_,ho,_⟩:=tz
  exact⟨ob,ho⟩
 ·obtain⟨xs,dd,p,hs,hl⟩:=i8 I (.inl hH) t PJ
  obtain⟨ys,dd2,p2,hs2,hl2⟩:=i8 I hr t2 PL
  have e1:=Paired.len p
  have e2:=Paired.len p2
  refine call_meetsIn PySem.F.slot_dict_update dd.typeIs PySem.F.entry_dict_update (PySem.F.args_dict_update_2 _ _) (meets_dict_update (intKind X.prog X.w) a b hab hs2) ⟨xs,ys,dd,dd2,by omega,λh' tz _ sb=> ?_⟩
  obtain⟨ep,ph⟩:=qj (!1) hs (mS p2 p) tz
  refine⟨.non,_,I.write (x:=a) (e:=a) (t':=s.toks) (by rw[hH];trivial) (.inl rfl) (λc w hc hw=>(sb.2 c hc).trans hw) ?_ (ka ph),rfl,q ep⟩
  obtain⟨ob,_,_,ho,_⟩:=tz
  exact⟨ob,ho⟩
theorem C_ (hu:X.A.units+80 < cLine)(ho:PE X o (mh i))(he:DE X K Ew e fe)(hK:X.K=K:=by rfl)
  (hbase:attributeBase o "update" X.env (eval o X.env)=eval o X.env:=by rfl)
  (hfew:((backTo cpos (starEach [e] X.env)).all (λx=> !x.1) && (backToKw cpos (keywordEach [] X.env)).all (λx=>x.1.isSome)
   && decide (([e]:List Expr).length+([]:List Keyword).length+(if ([]:List Keyword).isEmpty then 0 else 1) < 30))=true:=by rfl)
  (hline:(apos.endLine==cpos.line)=true:=by rfl) (hs:starEach [e] X.env=(false,eval e X.env) :: starEach [] X.env:=by rfl) (hplain:(backTo cpos (starEach [] X.env)).any (·.1)=false:=by rfl)
  (hsw:swapsWith (.Call (.Attribute o "update" apos) [e] [] cpos) none pos.line X.env=pure false:=by rfl) :
  DS X K Ew (.Expr (.Call (.Attribute o "update" apos) [e] [] cpos) pos) (sR i fe) :=
 (mE (Hn PySem.F.slot_dict_update PySem.F.type_dict_update (Je hu) ho (b_ he dS hs) hbase hfew hline hs hplain) hsw).imp λD σ H q=>by
  subst hK
  obtain⟨B,φ,Γ,r,q⟩:=q
  unfold sR at q
  obtain⟨kvs,hg,q⟩:=LZ q
  obtain⟨v,hv,hT⟩:=r.own hg
  obtain⟨l,ks,bs,rfl,hl,ht,hφ⟩:=dE hT
  have hli:l∈φ i:=by rw[hφ];exact K9
  refine⟨.ref l,hv,⟨l,ks,rfl,.inl hl⟩,B,φ,Γ,r,?_⟩
  match hm:fe Γ,q with
  | some (.ok (k,d)),q=>
   refine .inl ⟨k,d,rfl,λy H1 s1 hy=> ?_⟩
   have r1:=r.same s1
   have hl1:=s1 _ _ hl
   replace q:cI X.K Ew B (match v8 i k kvs d with
    | some kvs'=>ah (.nx (Γ.set i (some (true,.dict kvs'))))
    | none=>none) D:=q
   cases d <;> try (exact False.elim q)
   rename_i more
   by_cases hc:Fv i k=true/\((kvs.isEmpty=false/\f6 kvs=true/\f6 more=true)∨(allI kvs=true/\allI more=true))/\dY kvs=true/\dY more=true/\kvs.length+more.length<=sizeLine
   ·simp only[v8,Z4 hc] at q
    obtain⟨c1,c2,c3,c4,c5⟩:=hc
    have hd:=hy.toD r1.bs
    obtain⟨b,ms,rfl,hr,t2⟩:=dD hd
    have hbs:bs=[]:=mT ht c3
    subst hbs
    have hdk:=aW.same s1 _ _ (aN.toD _ _ _ ht)
    have hlb:l≠b:=λz=>by
     subst z
     cases k with
     | fr js=>
      obtain⟨as,h1,h2,h3⟩:=hy
      obtain⟨a',ks',bs',e1,e2,e3,e4⟩:=dE h1
      cases e1
      rcases h3 l (by rw[e4];exact K9) with⟨jj,hj1,hj2⟩ | z
      ·by_cases hji:jj=i
       ·subst hji
        simp only[Fv,Bool.not_eq_true',List.contains_eq_mem,decide_eq_false_iff_not] at c1
        exact c1 hj1
       ·exact r.dj jj i hji l hj2 hli
      ·rw[hl] at z;cases z
     | base=>
      have hb:aK X.K B (.dict more) (.ref l):=hy
      obtain⟨a',ks',e1,e2,_⟩:=dD hb
      cases e1
      have hn:=(r.nb i l hli).1
      rcases e2 with e2 | ⟨_,e2⟩ <;> (rw[hn] at e2;cases e2)
     | any=>simp[Fv] at c1
    have hkn:=pG ht
    have htn:∀p∈l7 kvs more,bp p.1=true:=wB (λp hp=>by
     rcases c2 with⟨_,_,z⟩ | ⟨_,z⟩
     ·exact mO (Uz.mp z p hp)
     ·obtain⟨i,e⟩:=qi (Uz.mp z p hp);rw[e];rfl) hkn
    refine⟨l,b,kvs,ks,more,ms,rfl,rfl,hlb,hl1,hdk,hr,t2,c2,c5,λep=> ?_⟩
    have hnew:=aN.upd (o':=.dct l (qk ks.1 ms.1,ep)) hl1 trivial _ _ _ (show l∉[] by simp) (lK (tw t2 hdk) htn (tx c4 c3))
    exact q B _ σ _ (Same.refl B) (r1.chg (d:=.dict (l7 kvs more)) (as:=[l]) hli hl1 trivial hv (hU ay hnew) (KQ.mpr ⟨by simp,X2⟩) (λa ha=> .inl (by rw[K7.mp ha];exact hli)) trivial)
   ·simp only[v8,Z5 hc] at q
    exact False.elim q
  | some (.ex c),q=>exact .inr ⟨c,rfl,q⟩
  | none,q=>cases q
end
section
variable {X:Cx}{K:Frag}{Ew:Str->Hp->Prop}{pos:Pos}{ke ve:Expr}{fk fv:EF}
theorem Dc         
  (h:wpAny (!4) A (eval ke env) (λkv s₁=>wpAny (!4) A (eval ve env) (λvv s₂=>wpAny (!4) A (dictSet s.heap.objs.size kv vv) (λ_ s₃=>Q (.ref s.heap.objs.size) s₃) E s₂) E s₁) E
   {s with heap:=s.heap.push {cls:=.type "dict",data:=.dict #[]}}):wpAny (!4) A (eval (.Dict [some ke] [ve] pos) env) Q E s:=by
 rw[arm_eval_Dict]
 have hsh:(evalEachOpt [some ke] env).zip ((evalEach [ve] env).map λv=>do let x←v;standAt pos;pure x)=[(eval ke env,do let x←eval ve env;standAt pos;pure x)].map λp=>(some p.1,p.2):=rfl
 rw[hsh,dictDisplay_pairs _ (by simp) (by simp)]
 refine Z7 (wpAny_standAt ?_);refine Z7 ?_
 unfold subDict
 refine Z7 (wpAny_alloc ?_);refine Z7 (Z1 ?_)
 rw[Z4 (by simp)]
 refine Z7 (evalPairs_cons (wpAny_mono h (λkv s₁ h₁=>Z7 (wpAny_mono h₁ (λvv s₂ h₂=> ?_) λ_ _ e=>e)) λ_ _ e=>e))
 refine Z7 (wpAny_standAt (Z6 (evalPairs_nil (Z1 ?_))))
 rw[JU]
 refine Z7 (Z7 (Z7 (wpAny_mono h₂ (λ_ s₃ h₃=>Z6 ?_) λ_ _ e=>e)))
 dsimp only;rw[List.forIn_nil]
 exact Z6 (Z6 (Z6 (Z6 h₃)))
theorem pH (hK:X.K=K:=by rfl):DE X K Ew (.Dict [] [] pos) oz:=by
 subst hK
 intro pins s σ H Q I q
 obtain⟨B,φ,Γ,r,q⟩:=q
 have hp:H s.heap.objs.size=none:=I.fresh
 have hd0:(s.heap.push {cls:=.type "dict",data:=.dict #[]}).DictOfH (bO X.prog X.w) s.heap.objs.size []:=Heap.DictOfH.new s.heap
 have hs0:(s.heap.objs.size==sysModules)=false:=beq_eq_false_iff_ne.mpr (Ne.symm (Xk I.big'))
 obtain⟨Ho,N5⟩:=j_ (ks:=[]) (Xq _) hs0 .nil hd0
 have I1:Inv X pins σ (upd H s.heap.objs.size (.dct s.heap.objs.size ([],Ho))) {s with heap:=s.heap.push {cls:=.type "dict",data:=.dict #[]},toks:=s.toks} :=
  I.laid (λ_ _ e=>K4 _ e) (K0 _) (ka N5)
 rcases q with⟨_,_,e,q⟩ | ⟨_,e,_⟩
 ·cases e
  refine wpAny_Dict_empty ⟨.ref s.heap.objs.size,_,I1,rfl,q _ _ (Same.upd hp) (VR.fresh.mpr ⟨[s.heap.objs.size],hU ay (by simp only[aN];exact⟨trivial,trivial⟩),KQ.mpr ⟨by simp,X2⟩,λa ha=>by rw[K7.mp ha];exact hp⟩)⟩
 ·cases e
theorem Ac (hu:X.A.units+80 < cLine)(hk:DE X K Ew ke fk)(hv:DE X K Ew ve fv)(hK:X.K=K:=by rfl):DE X K Ew (.Dict [some ke] [ve] pos) (v7 fk fv):=by
 subst hK
 intro pins s σ H Q I q
 obtain⟨B,φ,Γ,r,q⟩:=q
 have hp:H s.heap.objs.size=none:=I.fresh
 have hd0:(s.heap.push {cls:=.type "dict",data:=.dict #[]}).DictOfH (bO X.prog X.w) s.heap.objs.size []:=Heap.DictOfH.new s.heap
 have hs0:(s.heap.objs.size==sysModules)=false:=beq_eq_false_iff_ne.mpr (Ne.symm (Xk I.big'))
 obtain⟨Ho,N5⟩:=j_ (ks:=[]) (Xq _) hs0 .nil hd0
 have I1:Inv X pins σ (upd H s.heap.objs.size (.dct s.heap.objs.size ([],Ho))) {s with heap:=s.heap.push {cls:=.type "dict",data:=.dict #[]},toks:=s.toks} :=
  I.laid (λ_ _ e=>K4 _ e) (K0 _) (ka N5)
 generalize hP:s.heap.objs.size=P at*
 have s1:Same H (upd H P (.dct P ([],Ho))):=Same.upd hp
 have r1:=r.same s1
 have q:Runs X.K Ew B φ H (ao (fk Γ) λx=>ao (fv Γ) λy=>if cH [] x.2=true/\bp y.2=true then ah (.fr [],.dict [(x.2,y.2)]) else none) Q:=q
 have hroom:(bO X.prog X.w).room X.A:=show X.A.units+10 < cLine by omega
 match hm:fk Γ,q with
 | some (.ok (k,d)),q=>
  replace q:Runs X.K Ew B φ H (ao (fv Γ) λy=>if cH [] d=true/\bp y.2=true then ah (.fr [],.dict [(d,y.2)]) else none) Q:=q
  match hm2:fv Γ,q with
  | some (.ok (k2,d2)),q=>
   replace q:Runs X.K Ew B φ H (if cH [] d=true/\bp d2=true then ah (.fr [],.dict [(d,d2)]) else none) Q:=q
   by_cases hc:cH [] d=true/\bp d2=true
   ·rw[Z4 hc] at q
    obtain⟨c1,c2⟩:=hc
    rcases q with⟨_,_,e,q⟩ | ⟨c,e,_⟩
    ·cases e
     subst hP
     refine Dc (di (hk pins _ σ _ (λv H2=>Same (upd H s.heap.objs.size (.dct s.heap.objs.size ([],Ho))) H2/\VR X.K B φ (upd H s.heap.objs.size (.dct s.heap.objs.size ([],Ho))) H2 k d v) I1 ⟨B,φ,Γ,r1,.inl ⟨k,d,hm,λv H2 s2 hv2=>⟨s2,hv2⟩⟩⟩) λu st1 ⟨x,H2,I2,rx,s12,vx⟩=> ?_)
     have r2:=r1.same s12
     refine di (hv pins _ σ _ (λv H3=>Same H2 H3/\VR X.K B φ H2 H3 k2 d2 v) I2 ⟨B,φ,Γ,r2,.inl ⟨k2,d2,hm2,λv H3 s3 Hq=>⟨s3,Hq⟩⟩⟩) λu2 st2 ⟨y,H3,I3,ry,M5,vy⟩=> ?_
     have r3:=r2.same M5
     have hkd:=aK.same M5 _ _ (vx.toD r2.bs)
     have PM:=vy.toD r3.bs
     have hp3:H3 s.heap.objs.size=some (.dct s.heap.objs.size ([],Ho)):=M5 _ _ (s12 _ _ ay)
     have fin:∀(h':Heap) (t':Nat),Heap.SameBut s.heap.objs.size st2.heap h'->(∃ep,p0 s.heap.objs.size ([(d,x,y)],ep) h')->EP X pins σ Q (.ref s.heap.objs.size) {st2 with heap:=h',toks:=t'}:=λh' t' sb ⟨ep,ph⟩=>by
      refine⟨.ref s.heap.objs.size,_,I3.write (x:=s.heap.objs.size) (e:=s.heap.objs.size) (t':=t') (by rw[hp3];trivial) (.inl rfl) (λc w hc hw=>(sb.2 c hc).trans hw) ?_ (ka ph),rfl,?_⟩
      ·obtain⟨_,_,_,_,ob,_,ho,_⟩:=ph;exact⟨ob,ho⟩
      ·have sA:Same H H3:=s1.trans (s12.trans M5)
       refine q _ _ (sA.IS hp) (VR.fresh.mpr ⟨[s.heap.objs.size],hU ay ?_,KQ.mpr ⟨by simp,X2⟩,λa ha=>by rw[K7.mp ha];exact hp⟩)
       have hdk:aW X.K H3 [(d,d2)] [(d,x,y)]:=by simp only[aW];exact⟨_,_,_,rfl,hkd,PM,rfl⟩
       have htk:=lK hdk (λp hp=>by rw[K7.mp hp];exact uR c1) (show dY [(d,d2)]=true by unfold dY;rw[Kq,J0,ar,ar,c2];rfl)
       exact aN.upd hp3 trivial _ _ _ (show s.heap.objs.size∉[] by simp) htk
     rcases iy c1 with⟨ds,rfl,hn,_⟩ | ⟨n,rfl,_⟩
     ·obtain⟨b,vs,rfl,_,_⟩:=aL hkd
      cases(show u=Value.ref b from rx)
      obtain⟨xs,dd,p,hs,hl,_⟩:=j9 I3 (.inl hp3) (show aW X.K H3 [] [] by simp only[aW]) rfl
      cases p
      obtain⟨kk,hkk⟩:∃kk:NK,kk.d= .tuple ds:=⟨⟨ds,hn⟩,rfl⟩
      refine wpAny_dictSet_heap (knd:=bO X.prog X.w) (k:=kk) (hsz:=Xq _) hroom (by show g8 _ kk.d _;rw[hkk];exact aK.C7 I3 8 (.tuple ds) (.ref b) (.ref b) (by rw[Y.nest];exact hn) hkd rfl) dd λh' tz sb=>fin h' _ sb ?_
      have hpr:Paired Rk [(PyData.tuple ds,V.ref b,y)] [(kk,b,u2)]:=.cons ⟨hkk.symm,rfl,ry⟩ .nil
      exact j_ (ks:=[(PyData.tuple ds,V.ref b,y)]) (show 1<=sizeLine by decide) hs0 hpr tz
     ·have:=aJ hkd
      subst this
      obtain⟨tk,rfl⟩:=rx
      obtain⟨xs,dd,p,hs,hl⟩:=i8 I3 (.inl hp3) (show aW X.K H3 [] [] by simp only[aW]) rfl
      cases p
      refine wpAny_dictSet_pairs (knd:=intKind X.prog X.w) (k:=n) (hsz:=Xq _) (by simp[intKind,Value.isInt]) dd λh' tz sb=>fin h' _ sb ?_
      have hpr:Paired rV [(PyData.int n,V.int n,y)] [(n,u2)]:=.cons ⟨rfl,rfl,ry⟩ .nil
      exact qj (ks:=[(PyData.int n,V.int n,y)]) (show 1<=sizeLine by decide) hs0 hpr tz
    ·cases e
   ·rw[Z5 hc] at q
    rcases q with⟨_,_,e,_⟩ | ⟨_,e,_⟩ <;> cases e
  | some (.ex c),q=>
   rcases q with⟨_,_,e,_⟩ | ⟨c',e,q⟩
   ·cases e
   ·cases e
    subst hP
    refine Dc (di (hk pins _ σ _ (λv H2=>Same (upd H s.heap.objs.size (.dct s.heap.objs.size ([],Ho))) H2) I1 ⟨B,φ,Γ,r1,.inl ⟨k,d,hm,λv H2 s2 hv2=>s2⟩⟩) λu st1 ⟨x,H2,I2,rx,s12⟩=> ?_)
    exact di (hv pins _ σ _ (λv H3=>False) I2 ⟨B,φ,Γ,r1.same s12,.inr ⟨c,hm2,q⟩⟩) λu2 st2 ⟨_,_,_,_,z⟩=>False.elim z
  | none,q=>rcases q with⟨_,_,e,_⟩ | ⟨_,e,_⟩ <;> cases e
 | some (.ex c),q=>
  rcases q with⟨_,_,e,_⟩ | ⟨c',e,q⟩
  ·cases e
  ·cases e
   subst hP
   exact Dc (di (hk pins _ σ _ (λv H2=>False) I1 ⟨B,φ,Γ,r1,.inr ⟨c,hm,q⟩⟩) λu st1 ⟨_,_,_,_,z⟩=>False.elim z)
 | none,q=>rcases q with⟨_,_,e,_⟩ | ⟨_,e,_⟩ <;> cases e
end
end L2
namespace Y
open PySem
def Dd (i:Nat)(fk:EF)(j:Nat):SF:=λΓ=>match Γ[i]? with
 | some (some (true,.dict kvs))=>ao (fk Γ) λx=>match Γ[j]? with
  | some (some (_,.int n))=>if dz x.2=true/\f6 kvs=true/\kvs.length < sizeLine then (match zP kvs x.2 (.int n) with
   | some kvs'=>ah (.nx (Γ.set i (some (true,.dict kvs'))))
   | none=>none) else none
  | _=>none
 | _=>none
noncomputable def insI (x:Int):List Int->List Int
 | []=> [x]
 | y :: l=>if x<=y then x :: y :: l else y :: insI x l
noncomputable def wC (l:List Int):List Int:=l.foldr insI []
end Y
namespace L2
open PySem PySem.Spec PyProof.Rows Y
noncomputable def jk (ks:List (PyData×V×V))(k:PyData):Option V:=(ks.find? λp=>PyData.eqv p.1 k).map (·.2.2)
theorem uT (k:NK):∀{ks:List (PyData×V×V)} {xs:List (NK×Addr×Value)},Paired Rk ks xs->(∀w,jk ks k.d=some w->∃p,atKey xs k=some p/\RelV w p.2)/\(jk ks k.d=none->atKey xs k=none)
 | _,_,.nil=>⟨λw h=>by simp[jk] at h,λ_=>rfl⟩
 | _,_,.cons (a:=q) (b:=x) r t=>by
  obtain⟨h1,h2⟩:=uT k t
  unfold jk atKey at*
  rw[U5,U5,r.1,yM]
  cases hd:decide (x.1=k) with
  | true=>
   refine⟨λw h=> ?_,λh=>by simp at h⟩
   simp only[UK,Option.some.injEq] at h⊢
   subst h
   exact⟨_,rfl,r.2.2⟩
  | false=>exact⟨h1,h2⟩
theorem wD (k:Int):∀{ks:List (PyData×V×V)} {xs:List (Int×Value)},Paired rV ks xs->∀w,jk ks (.int k)=some w->∃u,valueAt xs k=some u/\RelV w u
 | _,_,.nil=>λw h=>by simp[jk] at h
 | _,_,.cons (a:=q) (b:=x) r t=>by
  have h1:=wD k t
  unfold jk valueAt at*
  rw[U5,U5,r.1,Ja]
  cases hd:decide (x.1=k) with
  | true=>
   intro w h
   simp only[UK,Option.some.injEq] at h⊢
   subst h
   exact⟨_,rfl,r.2.2⟩
  | false=>exact h1
theorem lM {K:Frag}{H:Hp}{k:PyData}:∀{kvs:j3} {ks:List (PyData×V×V)},aW K H kvs ks->∀z,d6 kvs k=some z->∃w,jk ks k=some w/\aK K H z w
 | [],ks,t,z,h=>by simp[d6] at h
 | (k',d') :: r,ks,t,z,h=>by
  simp only[aW] at t
  obtain⟨kv,v',q,rfl,h1,h2,h3⟩:=t
  unfold d6 jk at*
  rw[U5] at h⊢
  simp only at h⊢
  cases he:PyData.eqv k' k with
  | true=>
   rw[he] at h
   simp only[UK,Option.some.injEq] at h⊢
   subst h
   exact⟨_,rfl,h2⟩
  | false=>
   rw[he] at h
   exact lM h3 z h
theorem tF {K:Frag}{H:Hp}{k:PyData}:∀{kvs:j3} {ks:List (PyData×V×V)} {as:List Addr},aN K H kvs ks as->∀z,d6 kvs k=some z->∃w bs,jk ks k=some w/\IsT K H z w bs/\bs.Sublist as
 | [],ks,as,t,z,h=>by simp[d6] at h
 | (k',d') :: r,ks,as,t,z,h=>by
  simp only[aN] at t
  obtain⟨kv,v',q,a1,a2,rfl,rfl,h1,h2,h3⟩:=t
  unfold d6 jk at*
  rw[U5] at h⊢
  simp only at h⊢
  cases he:PyData.eqv k' k with
  | true=>
   rw[he] at h
   simp only[UK,Option.some.injEq] at h⊢
   subst h
   exact⟨_,a1,rfl,h2,List.sublist_append_left _ _⟩
  | false=>
   rw[he] at h
   obtain⟨w,bs,g1,g2,g3⟩:=tF h3 z h
   exact⟨w,bs,g1,g2,g3.trans (List.sublist_append_right _ _)⟩
section
variable {X:Cx}{K:Frag}{Ew:Str->Hp->Prop}
def Ma (K:Frag):R2:=λx y H Q=>∃a ks kvs k w,x= .ref a/\Rd H a (.dct a ks)/\aW K H kvs ks.1/\aK K H k y/\cH kvs k=true/\jk ks.1 k=some w/\Q w H
theorem Jf (hu:X.A.units+80 < cLine):Cv X (Ma X.K):=by
 intro value slice pins s σ H x y v u Q I rx ry h hs
 obtain⟨a,ks,kvs,k,w,rfl,hr,t,hk,hom,hg,q⟩:=h
 cases(show v=Value.ref a from rx)
 rcases iy hom with⟨ds,rfl,hn,ht⟩ | ⟨i,rfl,ht⟩
 ·obtain⟨xs,dd,p,N6,hl,_⟩:=j9 I hr t ht
  obtain⟨bk,vs,rfl,g1,g2⟩:=aL hk
  cases(show u=Value.ref bk from ry)
  obtain⟨kk,hkk⟩:∃kk:NK,kk.d= .tuple ds:=⟨⟨ds,hn⟩,rfl⟩
  have uQ:g8 s.heap kk.d (.ref bk):=by rw[hkk];exact aK.C7 I 8 (.tuple ds) (.ref bk) (.ref bk) (by rw[Y.nest];exact hn) hk rfl
  rw[←hkk] at hg
  obtain⟨pp,hpp,Cw⟩:=(uT kk p).1 w hg
  exact subscriptTail_builtinR (x:=pp.2) dd.typeIs PySem.F.slot_dict_getitem.lookup (wpAny_getItem_heap (knd:=bO X.prog X.w) (k:=kk) (show X.A.units+1+10 < cLine by omega) uQ dd hpp ⟨rfl,w,H,I.tok _,Cw,q⟩) hs
 ·obtain⟨xs,dd,p,N6,hl⟩:=i8 I hr t ht
  have:=aJ hk
  subst this
  obtain⟨tk,rfl⟩:=ry
  obtain⟨uu,PN,Cw⟩:=wD i p w hg
  exact subscriptTail_builtinR (x:=uu) dd.typeIs PySem.F.slot_dict_getitem.lookup (wpAny_getItem_of (knd:=intKind X.prog X.w) (k:=i) (by simp[intKind,Value.isInt]) dd.mapOf PN ⟨rfl,w,H,I.tok _,Cw,q⟩) hs
theorem Bm (hu:X.A.units+80 < cLine):NS X mi:=by
 obtain⟨r,hr,lift⟩:=g7 (X:=X)
 refine⟨_,(Jf hu).or hr,λB φ H0 k x y z u v H Q s e hx hy q=> ?_⟩
 cases x with
 | dict kvs=>
  simp only[mi] at e
  split at e
  ·rename_i hom
   refine .inl ?_
   cases k with
   | fr l=>
    obtain⟨as,h1,h2,h3⟩:=hx
    obtain⟨a,ks,bs,rfl,e1,e2,rfl⟩:=dE h1
    obtain⟨w,cs,g1,g2,g3⟩:=tF e2 z e
    refine⟨a,ks,kvs,y,w,rfl,.inl e1,aN.toD _ _ _ e2,hy,hom,g1,q w ?_⟩
    have hsub:cs.Sublist (a :: bs):=g3.trans (List.sublist_cons_self _ _)
    have hv:VR X.K B φ H0 H (.fr l) z w:=⟨cs,g2,h2.sublist hsub,λb hb=>h3 b (hsub.subset hb)⟩
    exact hv.cQ s
   | base=>
    have hb:aK X.K B (.dict kvs) u:=hx
    obtain⟨a,ks,rfl,e1,e2⟩:=dD hb
    obtain⟨w,g1,g2⟩:=lM e2 z e
    have hv:VR X.K B φ H0 H .base z w:=g2
    exact⟨a,ks,kvs,y,w,rfl,s.rd e1,aW.same s _ _ e2,hy,hom,g1,q w (hv.cQ s)⟩
   | any=>
    have hb:aK X.K H (.dict kvs) u:=hx
    obtain⟨a,ks,rfl,e1,e2⟩:=dD hb
    obtain⟨w,g1,g2⟩:=lM e2 z e
    have hv:VR X.K B φ H0 H .any z w:=g2
    exact⟨a,ks,kvs,y,w,rfl,e1,e2,hy,hom,g1,q w (hv.cQ s)⟩
  ·cases e
 | _=>
  refine .inr (lift B φ H0 k _ y z u v H Q s ?_ hx hy q)
  exact e
end
section
variable {prog:Program}{w:World}{K:Type}[DecidableEq K]{knd:HeapKind prog w K}{A:Around}{E:Zu}{s:Shared}
theorem N7 {d a:Addr}{xs:List (K×Addr×Value)}{k:K}{v:Value}{Q:Zu}(hu:knd.room A)(hkey:knd.is s.heap k a)(hm:s.heap.DictOfH knd d xs)(hsz:xs.length<=sizeLine)
  (h1:∀p,atKey xs k=some p->Q p.2 {s with toks:=s.toks+knd.draws k})
  (h2:atKey xs k=none->∀h',h'.DictOfH knd d (xs++[(k,a,v)])->Heap.SameBut d s.heap h'->Q v {s with heap:=h',toks:=s.toks+knd.draws k}):wpAny (!4) A (dictSetDefault d (.ref a) v) Q E s:=by
 obtain⟨o,es,ep,ho,hc,hd,he,his,hn⟩:=hm
 have hes:es.size<=sizeLine:=by rw[size_of_entries he];exact hsz
 unfold dictSetDefault
 refine Z1 ?_
 refine Z7 (knd.pyHash hu hkey ?_)
 refine Z7 (wpAny_dictFind_heap (s:={s with toks:=s.toks+knd.draws k}) hu hkey ho hd he his hn (λhno=> ?_) λj p hj=> ?_)
 ·refine Z7 (wpAny_rule ?_)
  refine Z7 (wpAny_updateDictKeys (hz:=hes) (s:={s with toks:=s.toks+knd.draws k}) ho hd (Z6 (h2 (atKey_none_of_get hno) _ ⟨_,_,ep+1,Xv _ ho (Obj.isFreed_of_dict (Obj.data_mapDictKeys hd _)),hc.mapDictKeys _,Obj.data_mapDictKeys hd _,?_,λx hx=> ?_,?_⟩ (Heap.SameBut.update ..))))
  ·simp[he,entryOfKey]
  ·rcases K1.mp hx with hx | hx
   ·exact knd.keeps (his x hx) ho hd (Heap.SameBut.update ..)
   ·rw[K7.mp hx];exact knd.keeps hkey ho hd (Heap.SameBut.update ..)
  ·rw[X4,XZ]
   refine⟨hn,KQ.mpr ⟨by simp,X2⟩,λx hx y hy e=>not_mem_keys_of_get hno ?_⟩
   have hy':y=k:=by simpa using hy
   rw[←hy',←e];exact hx
 ·refine Z7 (wpAny_dictEntries (s:={s with toks:=s.toks+knd.draws k}) ho hd ?_)
  rw[entry_at he j,hj]
  exact Z7 (wpAny_rule (Z6 (h1 p (atKey_of_get hn hj))))
theorem De (d a:Addr)(v:Value)(hd:(d==sysModules)=false) :
  MeetsIn prog w (Builtin.«dict.setdefault» ⟨[.ref d,.ref a,v],[]⟩) (λA R s=>knd.room A.in1/\∃k xs,knd.is s.heap k a/\s.heap.DictOfH knd d xs/\xs.length<=sizeLine/\
   (∀p,atKey xs k=some p->R (.ok (.ret p.2)) {s with toks:=s.toks+knd.draws k})/\
   (atKey xs k=none->∀h',h'.DictOfH knd d (xs++[(k,a,v)])->Heap.SameBut d s.heap h'->R (.ok (.ret v)) {s with heap:=h',toks:=s.toks+knd.draws k})) :=
 .of_wp λA R s ⟨hu,k,xs,hk,hm,hsz,h1,h2⟩=>by
  unfold Builtin.«dict.setdefault»;refine Z7 ?_
  unfold Builtin.Dict.keyAndDefault;refine Z7 (wpAny_notOrdered_dict hm.typeIs ?_)
  show wpAny (!4) _ (pure (d,Value.ref a,some v)) _ _ s;refine Z6 ?_
  show wpAny (!4) _ (if (d==sysModules)=true then _ else (dictSetDefault d (.ref a) v >>=_)) _ _ s
  rw[Z5 (by rw[hd];exact K3)]
  exact Z7 (N7 hu hk hm hsz (λp hp=>Z6 ⟨p.2,rfl,h1 p hp⟩) λhn h' hm' hs'=>Z6 ⟨v,rfl,h2 hn h' hm' hs'⟩)
end
section
variable {X:Cx}
def PQ (K:Frag):V->List V->Hp->VK->Prop:=λx vs H Q=>∃a kvs ks k kv lv,x= .ref a/\vs=[kv,lv]/\H a=some (.dct a ks)/\aW K H kvs ks.1/\aK K H k kv/\dz k=true/\f6 kvs=true/\ks.1.length < sizeLine/\
 (∀w,jk ks.1 k=some w->Q w H)/\(jk ks.1 k=none->∀ep,Q lv (upd H a (.dct a (ks.1++[(k,kv,lv)],ep))))
theorem Mb (hu:X.A.units+80 < cLine):MZ X "dict.setdefault" (PQ X.K):=by
 intro pins s σ H x vs v us Q I rx rv h
 obtain⟨a,kvs,ks,k,kv,lv,rfl,rfl,hH,t,hk,hkt,hat,hz,q1,q2⟩:=h
 cases(show v=Value.ref a from rx)
 cases rv with
 | cons r1 r2=>
  obtain⟨u2,rfl,r3⟩:=(show Vals [lv] _ from r2).one
  obtain⟨ds,rfl,hn⟩:=mN hkt
  obtain⟨bk,zs,rfl,g1,g2⟩:=aL hk
  rename_i u1
  cases(show u1=Value.ref bk from r1)
  obtain⟨xs,dd,p,hs,hl,_⟩:=j9 I (.inl hH) t hat
  have e1:=Paired.len p
  obtain⟨kk,hkk⟩:∃kk:NK,kk.d= .tuple ds:=⟨⟨ds,hn⟩,rfl⟩
  have uQ:g8 s.heap kk.d (.ref bk):=by rw[hkk];exact aK.C7 I 8 (.tuple ds) (.ref bk) (.ref bk) (by rw[Y.nest];exact hn) hk rfl
  rw[←hkk] at q1 q2
  obtain⟨ga,gb⟩:=uT kk p
  refine call_meetsIn PySem.F.slot_dict_setdefault dd.typeIs PySem.F.entry_dict_setdefault (PySem.F.args_dict_setdefault_3 _ _ _) (De (knd:=bO X.prog X.w) a bk u2 hs) ⟨show X.A.units+1+10 < cLine by omega,kk,xs,uQ,dd,by omega,λpp hpp=> ?_,λhno h' tz sb=> ?_⟩
  ·cases hg:jk ks.1 kk.d with
   | none=>rw[gb hg] at hpp;cases hpp
   | some w=>
    obtain⟨p',hp',Cw⟩:=ga w hg
    rw[hpp] at hp'
    cases hp'
    exact⟨w,H,I.tok _,Cw,q1 w hg⟩
  ·have hg:jk ks.1 kk.d=none:=by
    cases hg:jk ks.1 kk.d with
    | none=>rfl
    | some w=>obtain⟨p',hp',_⟩:=ga w hg;rw[hno] at hp';cases hp'
   have hpr:Paired Rk (ks.1++[(kk.d,V.ref bk,lv)]) (xs++[(kk,bk,u2)]):=kQ ⟨rfl,rfl,r3⟩ p
   obtain⟨ep,ph⟩:=j_ (by rw[K2,X8];omega) hs hpr tz
   refine⟨lv,_,I.write (x:=a) (e:=a) (by rw[hH];trivial) (.inl rfl) (λc w hc hw=>(sb.2 c hc).trans hw) ?_ (ka ph),r3,q2 hg ep⟩
   obtain⟨ob,_,_,ho,_⟩:=tz
   exact⟨ob,ho⟩
end
def N8 (n:PyData):PyData->Option PyData
 | .list xs=>if ar xs=true/\xs.length < sizeLine then some (.list (xs++[n])) else none
 | _=>none
theorem wF (k' v:PyData)(r:j3)(k n:PyData):zP ((k',v) :: r) k n=if PyData.eqv k' k=true then (N8 n v).map λz=>(k',z) :: r else (zP r k n).map ((k',v) :: ·):=by
 cases v <;> simp only[zP,N8] <;> split <;> try rfl
 split <;> rfl
theorem wG :∀{kvs:j3},d6 kvs k=none->zP kvs k n=some (kvs++[(k,.list [n])])
 | [],_=>rfl
 | (k',v) :: r,h=>by
  unfold d6 at h
  rw[U5] at h
  simp only at h
  cases he:PyData.eqv k' k with
  | true=>rw[he] at h;cases h
  | false=>
   rw[he] at h
   rw[wF,Z5 (by rw[he];exact K3),wG (kvs:=r) h];rfl
section
variable {K:Frag}{H:Hp}
theorem wH :∀{kvs kvs':j3} {ks:List (PyData×V×V)} {bs:List Addr} {z:PyData},aN K H kvs ks bs->bs.Nodup->d6 kvs k=some z->zP kvs k (.int n)=some kvs'->
  ∃l vs,jk ks k=some (.ref l)/\H l=some (.lst vs)/\l∈bs/\vs.length < sizeLine/\aN K (upd H l (.lst (vs++[.int n]))) kvs' ks bs
 | [],kvs',ks,bs,z,t,_,g,_=>by simp[d6] at g
 | (k',d') :: r,kvs',ks,bs,z,t,hnd,g,e=>by
  simp only[aN] at t
  obtain⟨kv,v',q,a1,a2,rfl,rfl,h1,h2,h3⟩:=t
  rw[XZ] at hnd
  obtain⟨n1,n2,n3⟩:=hnd
  unfold d6 at g
  rw[U5] at g
  simp only at g
  rw[wF] at e
  unfold jk
  rw[U5]
  simp only
  cases he:PyData.eqv k' k with
  | true=>
   rw[he] at g
   rw[Z4 he] at e
   cases d' <;> simp only[N8] at e <;> try (cases e;done)
   rename_i xs
   by_cases hc:ar xs=true/\xs.length < sizeLine
   ·rw[Z4 hc] at e
    cases e
    obtain⟨l,vs,cs,rfl,hl,ht,rfl⟩:=cA h2
    have hcs:cs=[]:=aA.nil _ _ _ hc.1 ht
    subst hcs
    have hlen:=ck ht
    refine⟨l,vs,rfl,hl,by simp,by omega,?_⟩
    simp only[aN]
    refine⟨kv,.ref l,q,[l],a2,rfl,rfl,IsT.upd hl trivial _ _ _ (by simp) h1,?_,?_⟩
    ·have h4:=aA.upd (o':=.lst (vs++[.int n])) hl trivial _ _ _ (show l∉[] by simp) ht
     have h5:aA K (upd H l (.lst (vs++[.int n]))) [PyData.int n] [V.int n] []:=ax.toT _ _ rfl (a_ bP bn)
     exact fC ay (dF h4 h5)
    ·exact aN.upd hl trivial _ _ _ (λz=>n3 l (by simp) l z rfl) h3
   ·rw[Z5 hc] at e;cases e
  | false=>
   rw[he] at g
   rw[Z5 (by rw[he];exact K3)] at e
   cases hs:zP r k (.int n) with
   | none=>rw[hs] at e;cases e
   | some r'=>
    rw[hs] at e
    cases e
    obtain⟨l,vs,i1,i2,i3,i4,i5⟩:=wH h3 n2 g hs
    refine⟨l,vs,i1,i2,Kk _ i3,i4,?_⟩
    simp only[aN]
    exact⟨kv,v',q,a1,a2,rfl,rfl,IsT.upd i2 trivial _ _ _ (by simp) h1,IsT.upd i2 trivial _ _ _ (λz=>n3 l z l i3 rfl) h2,i5⟩
theorem nV (hk:IsT K H k kv [])(hv:IsT K H d v cs):∀{kvs:j3} {ks:List (PyData×V×V)} {bs:List Addr},aN K H kvs ks bs->aN K H (kvs++[(k,d)]) (ks++[(k,kv,v)]) (bs++cs)
 | [],ks,bs,t=>by
  simp only[aN] at t
  obtain⟨rfl,rfl⟩:=t
  simp only[YU,aN]
  exact⟨kv,v,[],cs,[],rfl,by simp,hk,hv,rfl,rfl⟩
 | (k',d') :: r,ks,bs,t=>by
  simp only[aN] at t
  obtain⟨kv',v',q,a1,a2,rfl,rfl,h1,h2,h3⟩:=t
  rw[Uj,Uj]
  simp only[aN]
  exact⟨kv',v',_,a1,a2++cs,rfl,by rw[X5],h1,h2,nV hk hv h3⟩
theorem tH :∀{kvs:j3} {ks:List (PyData×V×V)},aW K H kvs ks->d6 kvs k=none->jk ks k=none
 | [],ks,t,h=>by simp only[aW] at t;subst t;rfl
 | (k',d') :: r,ks,t,h=>by
  simp only[aW] at t
  obtain⟨kv,v',q,rfl,h1,h2,h3⟩:=t
  unfold d6 jk at*
  rw[U5] at h⊢
  simp only at h⊢
  cases he:PyData.eqv k' k with
  | true=>rw[he] at h;cases h
  | false=>rw[he] at h;exact tH h3 h
end
section
variable {X:Cx}{K:Frag}{Ew:Str->Hp->Prop}{pos lp p1:Pos}{ke o ne:Expr}{fk:EF}{Lb FN N9 Lc:Pos}
theorem Mc (hu:X.A.units+80 < cLine)(ho:PE X o (mh i))(hk:DE X K Ew ke fk)(hn:PE X ne (mh j))(hK:X.K=K:=by rfl)
  (hb1:attributeBase o "setdefault" X.env (eval o X.env)=eval o X.env:=by rfl)
  (hf1:((backTo FN (starEach [ke,.List [] lp] X.env)).all (λx=> !x.1) && (backToKw FN (keywordEach [] X.env)).all (λx=>x.1.isSome)
   && decide (([ke,.List [] lp]:List Expr).length+([]:List Keyword).length+(if ([]:List Keyword).isEmpty then 0 else 1) < 30))=true:=by rfl)
  (hl1:(Lb.endLine==FN.line)=true:=by rfl) (hs1:starEach [ke,.List [] lp] X.env=(false,eval ke X.env) :: starEach [.List [] lp] X.env:=by rfl) (hp1:(backTo FN (starEach [.List [] lp] X.env)).any (·.1)=false:=by rfl)
  (hs0:starEach [.List [] lp] X.env=(false,eval (.List [] lp) X.env) :: starEach [] X.env:=by rfl)
  (hb2:attributeBase (.Call (.Attribute o "setdefault" Lb) [ke,.List [] lp] [] FN) "append" X.env (eval (.Call (.Attribute o "setdefault" Lb) [ke,.List [] lp] [] FN) X.env)=eval (.Call (.Attribute o "setdefault" Lb) [ke,.List [] lp] [] FN) X.env:=by rfl)
  (hf2:((backTo Lc (starEach [ne] X.env)).all (λx=> !x.1) && (backToKw Lc (keywordEach [] X.env)).all (λx=>x.1.isSome)
   && decide (([ne]:List Expr).length+([]:List Keyword).length+(if ([]:List Keyword).isEmpty then 0 else 1) < 30))=true:=by rfl)
  (hl2:(N9.endLine==Lc.line)=true:=by rfl) (hs2:starEach [ne] X.env=(false,eval ne X.env) :: starEach [] X.env:=by rfl) (hp2:(backTo Lc (starEach [] X.env)).any (·.1)=false:=by rfl)
  (hsw:swapsWith (.Call (.Attribute (.Call (.Attribute o "setdefault" Lb) [ke,.List [] lp] [] FN) "append" N9) [ne] [] Lc) none pos.line X.env=pure false:=by rfl) :
  DS X K Ew (.Expr (.Call (.Attribute (.Call (.Attribute o "setdefault" Lb) [ke,.List [] lp] [] FN) "append" N9) [ne] [] Lc) pos) (Dd i fk j) :=
 (mE (zL PySem.F.plainAttrs_list PySem.F.slot_list_append PySem.F.type_list_append nM
  (Hn PySem.F.slot_dict_setdefault PySem.F.type_dict_setdefault (Mb hu) ho (b_ hk (b_ (Cp dS) dS hs0) hs1) hb1 hf1 hl1 hs1 hp1) (b_ hn dS hs2) hb2 hf2 hl2 hs2 hp2) hsw).imp λD σ H q=>by
  subst hK
  obtain⟨B,φ,Γ,r,q⟩:=q
  unfold Dd at q
  obtain⟨kvs,hg,q⟩:=LZ q
  obtain⟨v,hv,hT⟩:=r.own hg
  obtain⟨l,ks,bs,rfl,hl,ht,hφ⟩:=dE hT
  have hli:l∈φ i:=by rw[hφ];exact K9
  have hnd:=r.nd i
  rw[hφ,KQ] at hnd
  refine⟨.ref l,hv,⟨l,ks,rfl,.inl hl⟩,B,φ,Γ,r,?_⟩
  match hm:fk Γ,q with
  | some (.ok (k,d)),q=>
   refine .inl ⟨k,d,rfl,λy H1 s1 hy=> ?_⟩
   have r1:=r.same s1
   have hl1:=s1 _ _ hl
   have ht1:=aN.same s1 _ _ _ ht
   have hkd:=hy.toD r1.bs
   replace q:cI X.K Ew B (match Γ[j]? with
    | some (some (_,.int n))=>if dz d=true/\f6 kvs=true/\kvs.length < sizeLine then (match zP kvs d (.int n) with
     | some kvs'=>ah (.nx (Γ.set i (some (true,.dict kvs'))))
     | none=>none) else none
    | _=>none) D:=q
   match hj:Γ[j]?,q with
   | some (some (ob,.int n)),q=>
    obtain⟨vj,hvj,M6⟩:=r1.sl j ob (.int n) hj
    have hvn:vj= .int n:=by
     cases ob with
     | true=>rw[Z4 rfl] at M6;exact aJ (IsT.toD _ _ _ M6)
     | false=>rw[Z5 K3] at M6;exact aJ M6
    subst hvn
    replace q:cI X.K Ew B (if dz d=true/\f6 kvs=true/\kvs.length < sizeLine then (match zP kvs d (.int n) with
     | some kvs'=>ah (.nx (Γ.set i (some (true,.dict kvs'))))
     | none=>none) else none) D:=q
    by_cases hc:dz d=true/\f6 kvs=true/\kvs.length < sizeLine
    ·rw[Z4 hc] at q
     obtain⟨c1,c2,c3⟩:=hc
     refine⟨Xq _,λp hp=> ?_⟩
     have s2:Same H1 (upd H1 p (.lst [])):=Same.upd hp
     have r2:=r1.same s2
     have Df:=aN.same s2 _ _ _ ht1
     have FO:=aN.toD _ _ _ Df
     have hpl:p≠l:=λz=>by rw[z,hl1] at hp;cases hp
     have hl2:upd H1 p (.lst []) l=some (.dct l ks):=by rw[aY (Ne.symm hpl)];exact hl1
     have Md:=aK.same s2 _ _ hkd
     refine⟨l,kvs,ks,d,y,.ref p,rfl,rfl,hl2,FO,Md,c1,c2,by rw[jL FO];exact c3,λw hw=> ?_,λhw ep=> ?_⟩
     ·cases Ld:d6 kvs d with
      | none=>rw[tH FO Ld] at hw;cases hw
      | some z=>
       cases hsd:zP kvs d (.int n) with
       | none=>rw[hsd] at q;exact False.elim q
       | some kvs'=>
        rw[hsd] at q
        obtain⟨m,vs,i1,i2,i3,i4,i5⟩:=wH Df hnd.2 Ld hsd
        rw[hw] at i1
        cases i1
        have hmi:m∈φ i:=by rw[hφ];exact K8 _ i3
        have hml:m≠l:=λz=>hnd.1 (z ▸ i3)
        refine⟨.inl ⟨rfl,vs,fU.of i2⟩,.int n,hvj,m,vs,.int n,rfl,rfl,i2,i4,?_⟩
        refine q B _ σ _ (Same.refl B) (r2.chg (d:=.dict kvs') (as:=l :: bs) hmi i2 trivial hv (hU (by rw[aY (Ne.symm hml)];exact hl2) i5) (KQ.mpr hnd) (λa ha=> .inl (by rw[hφ];exact ha)) trivial)
     ·have Ld:d6 kvs d=none:=by
       cases Ld:d6 kvs d with
       | none=>rfl
       | some z=>obtain⟨w,g1,_⟩:=lM FO z Ld;rw[hw] at g1;cases g1
      rw[wG Ld] at q
      have hp3:upd (upd H1 p (.lst [])) l (.dct l (ks.1++[(d,y,.ref p)],ep)) p=some (.lst []):=by rw[aY hpl,ay]
      refine⟨.inl ⟨rfl,[],fU.of hp3⟩,.int n,hvj,p,[],.int n,rfl,rfl,hp3,by decide,?_⟩
      have O4:IsT X.K (upd H1 p (.lst [])) d y []:=aK.toT _ _ (mO c1) Md
      have PR:B p=none:=r1.bs.free hp
      have hpφ:∀j,p∉φ j:=λj z=>by obtain⟨_,o,ho,_⟩:=r1.nb j p z;rw[hp] at ho;cases ho
      have hpb:p∉bs:=λz=>hpφ i (by rw[hφ];exact K8 _ z)
      have FP:(l :: (bs++[p])).Nodup:=by
       rw[KQ,XZ]
       refine⟨λz=> ?_,hnd.2,KQ.mpr ⟨by simp,X2⟩,λa ha b hb e=>hpb ?_⟩
       ·rcases K1.mp z with z | z
        ·exact hnd.1 z
        ·exact hpl (K7.mp z).symm
       ·rw[←K7.mp hb,←e];exact ha
      have mid:aN X.K (upd H1 p (.lst [])) (kvs++[(d,.list [])]) (ks.1++[(d,y,.ref p)]) (bs++[p]):=nV O4 (fC ay jC) Df
      have r3:=r2.chg (o':=.dct l (ks.1++[(d,y,.ref p)],ep)) (d:=.dict (kvs++[(d,.list [])])) (as:=l :: (bs++[p])) hli hl2 trivial hv (hU ay (aN.upd hl2 trivial _ _ _ (λz=>by rw[KQ] at FP;exact FP.1 z) mid)) FP (λa ha=>by
       rcases Kx.mp ha with z | z
       ·rw[z];exact .inl hli
       ·rcases K1.mp z with z | z
        ·exact .inl (by rw[hφ];exact K8 _ z)
        ·rw[K7.mp z];exact .inr ⟨PR,hpφ⟩) trivial
      have hpi:p∈(λj'=>if j'=i then l :: (bs++[p]) else φ j') i:=by simp
      have N_:aN X.K (upd (upd H1 p (.lst [])) l (.dct l (ks.1++[(d,y,.ref p)],ep))) kvs ks.1 bs:=aN.upd hl2 trivial _ _ _ hnd.1 Df
      have Oa:=aN.upd (o':=.lst ([]++[.int n])) hp3 trivial _ _ _ hpb N_
      have Ob:IsT X.K (upd (upd (upd H1 p (.lst [])) l (.dct l (ks.1++[(d,y,.ref p)],ep))) p (.lst ([]++[.int n]))) d y []:=IsT.upd hp3 trivial _ _ _ (by simp) (IsT.upd hl2 trivial _ _ _ (by simp) O4)
      have h5:aA X.K (upd (upd (upd H1 p (.lst [])) l (.dct l (ks.1++[(d,y,.ref p)],ep))) p (.lst ([]++[.int n]))) [PyData.int n] [V.int n] []:=ax.toT _ _ rfl (a_ bP bn)
      have fin2:=nV Ob (fC (a:=p) (vs:=[V.int n]) ay h5) Oa
      have r4:=r3.chg (o':=.lst ([]++[.int n])) (d:=.dict (kvs++[(d,.list [.int n])])) (as:=l :: (bs++[p])) hpi hp3 trivial hv (hU (by rw[aY (Ne.symm hpl),ay]) fin2) FP (λa ha=> .inl (by simpa using ha)) trivial
      rw[List.set_set] at r4
      exact q B _ σ _ (Same.refl B) r4
    ·rw[Z5 hc] at q
     exact False.elim q
   | some (some (_,.none)),q|some (some (_,.bool _)),q|some (some (_,.str _)),q|some (some (_,.list _)),q|some (some (_,.tuple _)),q|some (some (_,.dict _)),q|some none,q|none,q=>cases q
  | some (.ex c),q=>exact .inr ⟨c,rfl,q⟩
  | none,q=>cases q
end
end L2
namespace Y
open PySem
def wI:PyData->Option PyData
 | .list xs=>if ar xs then some (.list xs.reverse) else none
 | _=>none
noncomputable def kS (n:Nat)(ds:List PyData)(w:PyData):bL:=ds.map (λd=>some (false,d))++some (true,w) :: List.replicate (n - (ds.length+1)) none
noncomputable def runIO (n ir:Nat)(f:SF):List PyData->PyData->M (PyData×PyData):=λds w=>ao (f (kS n ds w)) λo=>match o with
 | .nx Γ=>(match Γ[ir]?,Γ[ds.length]? with
  | some (some (true,.list xs)),some (some (true,.dict kvs))=>ah (.list xs,.dict kvs)
  | _,_=>none)
 | _=>none
noncomputable def mq:Kd->Bool
 | .base=>true
 | _=>false
noncomputable def Ad (iw:Nat)(F:List PyData->PyData->M (PyData×PyData))(f1 f2:EF)(g:GF)(b:SF):SF:=λΓ=>match Γ[iw]? with
 | some (some (true,.dict kvs))=>ao (f1 Γ) λx=>ao (f2 Γ) λy=>if mq x.1=true/\mq y.1=true then (match F [x.2,y.2] (.dict kvs) with
  | some (.ok (.list ds,.dict kvs'))=>bw g b ds (Γ.set iw (some (true,.dict kvs')))
  | _=>none) else none
 | _=>none
end Y
namespace L2
open PySem PySem.Spec PyProof.Rows Y
section
variable {K:Frag}{H H':Hp}
theorem eK.via (e:∀a o,H a=some o->¬ fm o->H' a=some o)(h:eK K H a xs):eK K H' a xs:=by
 rcases h with(h | ⟨o,h⟩) | h
 ·exact .inl (.inl (e _ _ h (λz=>z)))
 ·exact .inl (.inr ⟨o,e _ _ h (λz=>z)⟩)
 ·exact .inr h
mutual
theorem IsT.via (e:∀a o,H a=some o->¬ fm o->H' a=some o):∀(d:PyData) (v:V) (as:List Addr),(∀a∈as,∀o,H a=some o->H' a=some o)->IsT K H d v as->IsT K H' d v as
 | .none,v,as,_,h=>by simpa only[IsT] using h
 | .bool b,v,as,_,h=>by simpa only[IsT] using h
 | .int i,v,as,_,h=>by simpa only[IsT] using h
 | .str x,v,as,_,h=>by simpa only[IsT] using h
 | .list xs,v,as,n,h=>by
  simp only[IsT] at h⊢
  obtain⟨a,vs,bs,e1,h1,h2,rfl⟩:=h
  exact⟨a,vs,bs,e1,n a K9 _ h1,aA.via e xs vs bs (λb hb=>n b (K8 _ hb)) h2,rfl⟩
 | .tuple xs,v,as,n,h=>by
  simp only[IsT] at h⊢
  obtain⟨a,vs,e1,h1,h2⟩:=h
  exact⟨a,vs,e1,h1.via e,aA.via e xs vs as n h2⟩
 | .dict kvs,v,as,n,h=>by
  simp only[IsT] at h⊢
  obtain⟨a,ks,bs,e1,h1,h2,rfl⟩:=h
  exact⟨a,ks,bs,e1,n a K9 _ h1,aN.via e kvs ks.1 bs (λb hb=>n b (K8 _ hb)) h2,rfl⟩
theorem aA.via (e:∀a o,H a=some o->¬ fm o->H' a=some o):∀(ds:List PyData) (vs:List V) (as:List Addr),(∀a∈as,∀o,H a=some o->H' a=some o)->aA K H ds vs as->aA K H' ds vs as
 | [],vs,as,_,h=>by simpa only[aA] using h
 | d :: ds,vs,as,n,h=>by
  simp only[aA] at h⊢
  obtain⟨v,r,a1,a2,e1,rfl,h1,h2⟩:=h
  exact⟨v,r,a1,a2,e1,rfl,IsT.via e d v a1 (λb hb=>n b (KY _ hb)) h1,aA.via e ds r a2 (λb hb=>n b (Kk _ hb)) h2⟩
theorem aN.via (e:∀a o,H a=some o->¬ fm o->H' a=some o):∀(ds:List (PyData×PyData)) (ks:List (PyData×V×V)) (as:List Addr),(∀a∈as,∀o,H a=some o->H' a=some o)->aN K H ds ks as->aN K H' ds ks as
 | [],ks,as,_,h=>by simpa only[aN] using h
 | (k,d) :: r,ks,as,n,h=>by
  simp only[aN] at h⊢
  obtain⟨kv,v,q,a1,a2,e1,rfl,h1,h2,h3⟩:=h
  exact⟨kv,v,q,a1,a2,e1,rfl,IsT.via e k kv [] (λb hb=>by cases hb) h1,IsT.via e d v a1 (λb hb=>n b (KY _ hb)) h2,aN.via e r q a2 (λb hb=>n b (Kk _ hb)) h3⟩
end
end
section
variable {X:Cx}{K:Frag}{Ew:Str->Hp->Prop}{iw:Nat}{a:Addr}{pos p:Pos}{st:Stmt}{rest ss:List Stmt}{f g:SF}{t:TF}{o j e:Expr}{fe fj:EF}{apos cpos:Pos}
def Hold (iw:Nat)(a:Addr)(σ:St):Prop:=σ[iw]? =some (some (.ref a))
theorem Hold.set (h:Hold iw a σ)(hi:i≠iw):Hold iw a (σ.set i v):=by
 unfold Hold
 rw[U7 hi];exact h
theorem Hold.sets:∀{is:List Nat} {vs:List V} {σ:St},(∀i∈is,i≠iw)->Hold iw a σ->Hold iw a (qb σ is vs)
 | [],vs,σ,_,h=>by cases vs <;> exact h
 | i :: is,[],σ,_,h=>h
 | i :: is,v :: vs,σ,n,h=>Hold.sets (is:=is) (vs:=vs) (λj hj=>n j (K8 _ hj)) (h.set (n i K9))
noncomputable def Jg (iw:Nat)(a:Addr)(D:Ends):Ends:={nx:=λσ H=>Hold iw a σ->D.nx σ H,rt:=D.rt,bk:=λσ H=>Hold iw a σ->D.bk σ H,ct:=λσ H=>Hold iw a σ->D.ct σ H}
def tZ (K:Frag)(Ew:Str->Hp->Prop)(iw:Nat)(a:Addr)(f:SF):TS:=λD σ H=>Hold iw a σ/\LY K Ew f (Jg iw a D) σ H
def ZS (X:Cx)(K:Frag)(Ew:Str->Hp->Prop)(iw:Nat)(a:Addr)(s:Stmt)(f:SF):Prop:=PS X s (tZ K Ew iw a f)
def Jh (X:Cx)(K:Frag)(Ew:Str->Hp->Prop)(iw:Nat)(a:Addr)(s:List Stmt)(f:SF):Prop:=rR X s (tZ K Ew iw a f)
theorem FQ:Jh X K Ew iw a [] cc:=zD.imp λD σ H q=>by
 obtain⟨z,B,φ,Γ,r,q⟩:=q
 exact q B φ σ H (Same.refl B) r z
theorem Ae (h:ZS X K Ew iw a st f):Jh X K Ew iw a [st] f:=uj h
theorem Dg (h1:ZS X K Ew iw a st f)(h2:Jh X K Ew iw a rest g):Jh X K Ew iw a (st :: rest) (aw f g):=(pO h1 h2).imp λD σ H q=>by
 obtain⟨z,B,φ,Γ,r,q⟩:=q
 refine⟨z,B,φ,Γ,r,?_⟩
 unfold aw at q
 match hm:f Γ,q with
 | some (.ok (.nx Γ')),q=>exact λB' φ' σ' H' s' r' z'=>⟨z',B',φ',Γ',r',cI.base s' q⟩
 | some (.ok (.bk Γ')),q=>exact q
 | some (.ok (.ct Γ')),q=>exact q
 | some (.ok (.rt o d)),q=>exact q
 | some (.ex c),q=>exact q
 | none,q=>cases q
theorem Me (hc:DT X K Ew c t)(hx:Jh X K Ew iw a x f)(hy:Jh X K Ew iw a y g):ZS X K Ew iw a (.If c x y pos) (hJ t f g):=(Hd hc hx hy).imp λD σ H q=>by
 obtain⟨z,B,φ,Γ,r,q⟩:=q
 refine⟨B,φ,Γ,r,?_⟩
 unfold hJ at q
 match hm:t Γ,q with
 | some (.ok true),q=>exact .inl ⟨true,rfl,λH1 s=>by show(if true=true then _ else _);rw[Z4 rfl];exact⟨z,B,φ,Γ,r.same s,q⟩⟩
 | some (.ok false),q=>exact .inl ⟨false,rfl,λH1 s=>by show(if false=true then _ else _);rw[Z5 K3];exact⟨z,B,φ,Γ,r.same s,q⟩⟩
 | some (.ex c),q=>exact .inr ⟨c,rfl,q⟩
 | none,q=>cases q
theorem Ji {i:Nat}{x:Str}{pos':Pos}(hN:X.N.Nodup)(hi:X.N[i]? =some x)(hx:Loc X.env.scope x)(he:DE X K Ew e fe)(hw:i≠iw:=by decide)(hs:swapsWith e (some (.Name x pos')) pos.line X.env=pure false:=by rfl)(hf:X.fn x=true∨X.env.scope.names.lookup x=some .local:=by first | exact .inl rfl | exact .inr rfl | assumption) :
  ZS X K Ew iw a (.Assign [.Name x pos'] e pos) (aB i fe):=(yp (i:=i) hN hi hx he hs hf).imp λD σ H q=>
 gH (g:=λx Γ=>ah (.nx (jg Γ i x.1 x.2))) q.2 λB φ Γ k d v H1 r a q'=>by
  obtain⟨B',φ',s',r'⟩:=j7 r i a
  exact q' B' φ' _ H1 s' r' (q.1.set hw)
def O5 (K:Frag)(iw:Nat)(a:Addr)(g:GF):TG:=λv σ H Q=>Hold iw a σ/\tG K g v σ H (λσ' H'=>Hold iw a σ'->Q σ' H')
theorem Mf {es:List Expr}{k:Nat}{is:List Nat}(hc:X.calm=true)(hg:KS X es (uD is))(hw:∀i∈is,i≠iw:=by decide)(hn:(assignEach es X.env).length=is.length:=by rfl)(hst:(assignEach es X.env).findIdx? (·.1)=none:=by rfl)(hK:X.K=K:=by rfl) :
  PG X (.Tuple es k pos) (O5 K iw a (kI is)):=(Ck (n:=is.length) hc hg hn hst).imp λv σ H Q q=>by
 obtain⟨z,B,φ,Γ,k,d,Γ',r,av,e,q⟩:=q
 cases d <;> simp only[kI] at e <;> try (cases e;done)
 rename_i ds
 split at e
 ·rename_i hl
  cases e
  obtain⟨a',vs,rfl,hq,av,hlen⟩:=av.tup r.bs
  refine⟨a',vs,rfl,by rw[hK];exact hq,by omega,mm _ _ _ _ _ (!1) ?_⟩
  obtain⟨B',φ',s',r'⟩:=jF (wd k) is ds vs hl r av
  exact q B' φ' _ s' r' (z.sets hw)
 ·cases e
theorem Jl {it:IF}{g:GF}{fb:SF}(hp:PassesOwn (!7) X.A X.env X.xe)(hc:X.calm=true)(hi:DI X K Ew tg iter it)(hg:PG X tg (O5 K iw a g))(hb:Jh X K Ew iw a body fb)
  (hs:∀x,foldedSetIterable iter X.env x=pure x:=by intro _;rfl):ZS X K Ew iw a (.For tg iter body [] pos) (bD it g fb):=(yt hp hc hi hg hb hs).imp λD σ H q=>by
 obtain⟨z,B,φ,Γ,r,q⟩:=q
 refine⟨B,φ,Γ,r,?_⟩
 unfold bD at q
 match hm:it Γ,q with
 | some (.ok (k,ds)),q=>
  intro J H1 B1 ψ s0 s1 r1 io
  have q:cI K Ew B1 (bw g fb ds (lZ k Γ)) (Jg iw a D):=cI.base s1 q
  refine⟨λi m σ H=>m=ds.length - i/\i<=ds.length/\Hold iw a σ/\∃B2 φ2 Γ2,Same B1 B2/\Rep K B2 φ2 Γ2 σ H/\cI K Ew B1 (bw g fb (ds.drop i) Γ2) (Jg iw a D),⟨ds.length,by simp,Xq _,z,B1,ψ,_,Same.refl B1,r1,by simpa using q⟩,?_⟩
  rintro i m σ2 H2 ⟨rfl,hi2,z2,B2,φ2,Γ2,s2,r2,q2⟩
  by_cases hlt:i < ds.length
  ·refine .inr ⟨io.go i H2 hlt (s2.trans r2.bs),λσ' H'=>Hold iw a σ'/\∃B3 φ3 Γ3,Same B1 B3/\Rep K B3 φ3 Γ3 σ' H'/\cI K Ew B1 (bw g fb (ds.drop (i+1)) Γ3) (Jg iw a D),λσ' H' h'=>⟨ds.length - (i+1),by omega,rfl,hlt,h'⟩,λx H' y=> ?_⟩
   obtain⟨s3,d,e,hd⟩:=io.yl i H2 x H' hlt (s2.trans r2.bs) y
   have r3:=r2.same s3
   have CT:aK K (gQ φ2 H') d x:=hd _ (s2.trans r3.uC) λb o e1 e2=>by
    rw[dr]
    ·exact e2
    ·intro j hj
     obtain⟨o',e',_⟩:=(r2.nb j b hj).2
     rw[e1] at e';cases e'
   have ed:ds.drop i=d :: ds.drop (i+1):=by
    rw[U3 hlt]
    congr 1
    rw[K5 hlt] at e
    exact Option.some.inj e
   rw[ed] at q2
   have q3:=q2
   simp only[bw] at q3
   cases CU:g (cQ .base d) d Γ2 with
   | none=>simp only[CU] at q3;exact False.elim q3
   | some Γ3=>
    simp only[CU,fx,aG] at q3
    refine⟨z2,gQ φ2 H',φ2,Γ2,cQ .base d,d,Γ3,r3.cut,VR.av r3.cut (VR.cQ (jE _ _) (show VR K _ φ2 H' H' .base d x from CT)),CU,λB4 φ4 σ4 s4 r4 z4=> ?_⟩
    have sB:Same B1 B4:=(s2.trans r3.uC).trans s4
    refine⟨z4,B4,φ4,Γ3,r4,?_⟩
    match hbm:fb Γ3,q3 with
    | some (.ok (.nx Γ')),q3=>exact λB' φ' σ' kx s' r' z'=>⟨z',B',φ',Γ',sB.trans s',r',q3⟩
    | some (.ok (.ct Γ')),q3=>exact λB' φ' σ' kx s' r' z'=>⟨z',B',φ',Γ',sB.trans s',r',q3⟩
    | some (.ok (.bk Γ')),q3=>exact λB' φ' σ' kx s' r' z'=>q3 B' φ' σ' kx (sB.trans s') r' z'
    | some (.ok (.rt o d)),q3=>exact λv kx s' rv=>q3 v kx (sB.trans s') (rv.base sB)
    | some (.ex c),q3=>exact λkx s'=>q3 kx (sB.trans s')
    | none,q3=>exact False.elim q3
  ·have e:i=ds.length:=by omega
   subst e
   rw[List.drop_length] at q2
   exact .inl ⟨io.stop H2 (s2.trans r2.bs),q2 B2 φ2 σ2 H2 s2 r2 z2⟩
 | some (.ex c),q=>exact q
 | none,q=>cases q
end
end L2
namespace L2
open PySem PySem.Spec PyProof.Rows Y
section
variable {X:Cx}{K:Frag}{Ew:Str->Hp->Prop}{iw:Nat}{a:Addr}{pos p pos':Pos}{st:Stmt}{rest ss:List Stmt}{f g:SF}{o j e:Expr}{fe fj:EF}{apos cpos:Pos}
theorem FR (hu:X.A.units+80 < cLine)(ho:PE X o (mh i))(hj:DE X K Ew j fj)(he:DE X K Ew e fe)(hK:X.K=K:=by rfl)
  (ha:∀v,assign (.Subscript o j p) X.env v=(do
   let ov←holding [v] (eval o X.env)
   let iv←holding [v,ov] (eval j X.env)
   standAt p
   holding [v,ov,iv] (setItem ov iv v)
   release [v,ov,iv] []):=by intro _;rfl)
  (hs:swapsWithSole [.Subscript o j p] e pos.line X.env=pure false:=by rfl) (hw:swappedStores [.Subscript o j p] e X.env=pure none:=by rfl)
  (h1:(assignEach [.Subscript o j p] X.env).map (·.2)=[assign (.Subscript o j p) X.env]:=by rfl):ZS X K Ew iw a (.Assign [.Subscript o j p] e pos) (oA i fj fe) :=
 (uk he (yo ho hj (Ab hu) ha) hs hw h1).imp λD σ H q=>
  gH (g:=λx Γ=>match Γ[i]? with
   | some (some (true,.dict kvs))=>ao (fj Γ) λy=>if cH kvs y.2=true/\bp x.2=true/\dY kvs=true/\kvs.length < sizeLine then ah (.nx (Γ.set i (some (true,.dict (putK kvs y.2 x.2))))) else none
   | _=>none) q.2 λB φ Γ k d y H1 r av q'=>by
   have z:=q.1
   replace q:=q'
   clear q'
   subst hK
   obtain⟨kvs,hg,q⟩:=LZ q
   obtain⟨v,hv,hT⟩:=r.own hg
   obtain⟨l,ks,bs,rfl,hl,ht,hφ⟩:=dE hT
   have hli:l∈φ i:=by rw[hφ];exact K9
   refine⟨.ref l,hv,B,φ,Γ,r,?_⟩
   match hm:fj Γ,q with
   | some (.ok (k',d')),q=>
    refine .inl ⟨k',d',rfl,λw H2 s2 hw=> ?_⟩
    have r2:=r.same s2
    replace q:cI X.K Ew B (if cH kvs d'=true/\bp d=true/\dY kvs=true/\kvs.length < sizeLine then ah (.nx (Γ.set i (some (true,.dict (putK kvs d' d))))) else none) (Jg iw a D):=q
    by_cases hc:cH kvs d'=true/\bp d=true/\dY kvs=true/\kvs.length < sizeLine
    ·rw[Z4 hc] at q
     obtain⟨c1,c2,c3,c4⟩:=hc
     have hbs:bs=[]:=mT ht c3
     subst hbs
     have hdk:=aW.same s2 _ _ (aN.toD _ _ _ ht)
     have hkd:=hw.toD r2.bs
     have hdd:=aK.same s2 _ _ (av.toD r.bs)
     refine⟨l,ks,kvs,d',rfl,s2 _ _ hl,hdk,hkd,c1,by rw[jL hdk];exact c4,λep=> ?_⟩
     have hkn:∀p∈kvs,bp p.1=true:=λp hp=>by
      have:=ht
      exact pG ht p hp
     have Jc:=qq hdk hkd hdd
     have hn2:∀p∈putK kvs d' d,bp p.1=true:=λp hp=>by
      unfold putK at hp
      split at hp
      ·obtain⟨q',hq',rfl⟩:=Ku.mp hp
       split
       ·exact hkn q' hq'
       ·exact hkn q' hq'
      ·rcases K1.mp hp with hp | hp
       ·exact hkn p hp
       ·rw[K7.mp hp];exact uR c1
     have hnew:=aN.upd (o':=.dct l (mP ks.1 d' w y,ep)) (s2 _ _ hl) trivial _ _ _ (show l∉[] by simp) (lK Jc hn2 (qt c3 c2))
     exact q B _ σ _ (Same.refl B) (r2.chg (d:=.dict (putK kvs d' d)) (as:=[l]) hli (s2 _ _ hl) trivial hv (hU ay hnew) (KQ.mpr ⟨by simp,X2⟩) (λb ha=> .inl (by rw[K7.mp ha];exact hli)) trivial) z
    ·rw[Z5 hc] at q
     exact False.elim q
   | some (.ex c),q=>exact .inr ⟨c,rfl,q⟩
   | none,q=>cases q
theorem Jm (ho:PE X o (mh i))(he:DE X K Ew e fe)(hK:X.K=K:=by rfl)
  (hbase:attributeBase o "extend" X.env (eval o X.env)=eval o X.env:=by rfl)
  (hfew:((backTo cpos (starEach [e] X.env)).all (λx=> !x.1) && (backToKw cpos (keywordEach [] X.env)).all (λx=>x.1.isSome)
   && decide (([e]:List Expr).length+([]:List Keyword).length+(if ([]:List Keyword).isEmpty then 0 else 1) < 30))=true:=by rfl)
  (hline:(apos.endLine==cpos.line)=true:=by rfl) (hs:starEach [e] X.env=(false,eval e X.env) :: starEach [] X.env:=by rfl) (hplain:(backTo cpos (starEach [] X.env)).any (·.1)=false:=by rfl)
  (hsw:swapsWith (.Call (.Attribute o "extend" apos) [e] [] cpos) none pos.line X.env=pure false:=by rfl) :
  ZS X K Ew iw a (.Expr (.Call (.Attribute o "extend" apos) [e] [] cpos) pos) (v4 i fe) :=
 (mE (zL PySem.F.plainAttrs_list PySem.F.slot_list_extend PySem.F.type_list_extend zZ ho (b_ he dS hs) hbase hfew hline hs hplain) hsw).imp λD σ H q=>by
  obtain⟨z,B,φ,Γ,r,q⟩:=q
  unfold v4 at q
  obtain⟨xs,hg,q⟩:=M1 q
  obtain⟨v,hv,hT⟩:=r.own hg
  obtain⟨l,vs,bs,rfl,hl,ht,hφ⟩:=cA hT
  refine⟨.ref l,hv,.inl ⟨rfl,vs,fU.of hl⟩,B,φ,Γ,r,?_⟩
  match hm:fe Γ,q with
  | some (.ok (k,d)),q=>
   refine .inl ⟨k,d,rfl,λy H1 s1 hy=> ?_⟩
   have r1:=r.same s1
   have hl1:=s1 _ _ hl
   have hlen:vs.length=xs.length:=ck ht
   have hli:l∈φ i:=by rw[hφ];exact K9
   replace q:cI K Ew B (match yD k d with
    | some ys=>if ar ys=true/\xs.length+ys.length<=sizeLine then ah (.nx (Γ.set i (some (true,.list (xs++ys))))) else none
    | none=>none) (Jg iw a D):=q
   have hd:=hy.toD r1.bs
   have hnd:=r.nd i
   rw[hφ] at hnd
   have hnb:l∉bs:=(KQ.mp hnd).1
   have main:∀(b:Addr) (ws:List V) (ys:List PyData),y= .ref b->yD k d=some ys->(l=b->∃o,K.lookup b=some o)->(fU K H1 b ws∨eK K H1 b ws)->ax K H1 ys ws->CZ X.K (.ref l) [y] H1 λ_ H1=>D.nx σ H1:=λb ws ys ey ei NU hb hws=>by
    rw[ei] at q
    by_cases hc:ar ys=true/\xs.length+ys.length<=sizeLine
    ·replace q:cI K Ew B (ah (.nx (Γ.set i (some (true,.list (xs++ys)))))) (Jg iw a D):=by simpa only[Z4 hc] using q
     subst ey
     refine⟨l,b,vs,ws,rfl,rfl,hl1,by rw[hK];exact NU,by rw[hK];exact hb,by rw[am hws];omega,?_⟩
     refine q B _ σ _ (Same.refl B) (r1.chg (d:=.list (xs++ys)) (as:=l :: bs) hli hl1 trivial hv ?_ hnd (λa ha=> .inl (by rw[hφ];exact ha)) trivial) z
     have h1:=aA.upd (o':=.lst (vs++ws)) hl1 trivial _ _ _ hnb (aA.same s1 _ _ _ ht)
     have h2:=aA.upd (o':=.lst (vs++ws)) hl1 trivial _ _ _ (show l∉[] by simp) (ax.toT _ _ hc.1 hws)
     have h3:=dF h1 h2
     rw[Xj] at h3
     exact fC ay h3
    ·simp only[Z5 hc] at q
     exact False.elim q
   cases d <;> try (exact False.elim q)
   ·rename_i ys
    match k,hy,q,main with
    | .fr [],hy,q,main=>
     obtain⟨as,h1,h2,h3⟩:=hy
     obtain⟨b,ws,cs,ey,hb,hws,rfl⟩:=cA h1
     refine main b ws ys ey rfl (λz=> ?_) (.inl (fU.of hb)) (aA.toD _ _ _ hws)
     rcases h3 b K9 with⟨_,w,_⟩ | w
     ·cases w
     ·rw[←z,hl] at w;cases w
    | .base,hy,q,main=>
     obtain⟨b,ws,ey,hb,hws⟩:=a8 (show aK K B (.list ys) y from hy)
     refine main b ws ys ey rfl (λz=> ?_) (.inl (r1.bs.seq hb)) (ax.same r1.bs _ _ hws)
     have hB:=(r.nb i l hli).1
     rcases hb with(w | ⟨o,w⟩) | ⟨o,_,_,w,_⟩
     ·rw[←z,hB] at w;cases w
     ·rw[←z,hB] at w;cases w
     ·exact⟨o,w⟩
    | .fr (_ :: _),hy,q,main=>exact False.elim q
    | .any,hy,q,main=>exact False.elim q
   ·rename_i ys
    obtain⟨b,ws,ey,hb,hws⟩:=aL hd
    refine main b ws ys ey rfl (λz=> ?_) (.inr hb) hws
    rcases hb with(w | ⟨o,w⟩) | ⟨o,_,_,w,_⟩
    ·rw[←z,hl1] at w;cases w
    ·rw[←z,hl1] at w;cases w
    ·exact⟨o,w⟩
  | some (.ex c),q=>exact .inr ⟨c,rfl,q⟩
  | none,q=>cases q
def M7 (K:Frag)(Ew:Str->Hp->Prop)(iw:Nat)(a:Addr)(ir:Nat)(f:SF):TS:=λD σ H=>Hold iw a σ/\∃B φ Γ,Rep K B φ Γ σ H/\match f Γ with
 | some (.ok (.nx Γ'))=>(∃o d,Γ'[ir]? =some (some (o,d)))/\∀B' φ' σ' H' v,Same B B'->Rep K B' φ' Γ' σ' H'->Hold iw a σ'->σ'[ir]? =some (some v)->D.rt v H'
 | _=>False
theorem Dh (he:PE X e (mh ir)):rR X [.Return (some e) pos] (M7 K Ew iw a ir cc):=(uj (Ci he)).imp λD σ H q=>by
 obtain⟨z,B,φ,Γ,r,⟨o,d,e⟩,q⟩:=q
 obtain⟨v,hv,_⟩:=r.sl ir o d e
 exact⟨v,hv,q B φ σ H v (Same.refl B) r z hv⟩
theorem wJ (h1:ZS X K Ew iw a st f)(h2:rR X rest (M7 K Ew iw a ir g))(hE:∀c H,¬ Ew c H:=by exact λ_ _ h=>h):rR X (st :: rest) (M7 K Ew iw a ir (aw f g)):=(pO h1 h2).imp λD σ H q=>by
 obtain⟨z,B,φ,Γ,r,q⟩:=q
 refine⟨z,B,φ,Γ,r,?_⟩
 unfold aw at q
 match hm:f Γ,q with
 | some (.ok (.nx Γ')),q=>
  refine λB' φ' σ' H' s' r' z'=>⟨z',B',φ',Γ',r',?_⟩
  have q:match g Γ' with
   | some (.ok (.nx Γ'))=>(∃o d,Γ'[ir]? =some (some (o,d)))/\∀B' φ' σ' H' v,Same B B'->Rep K B' φ' Γ' σ' H'->Hold iw a σ'->σ'[ir]? =some (some v)->D.rt v H'
   | _=>False:=q
  match hm2:g Γ',q with
  | some (.ok (.nx Γ2)),q=>exact⟨q.1,λB2 φ2 σ2 H2 v s2=>q.2 B2 φ2 σ2 H2 v (s'.trans s2)⟩
  | some (.ok (.bk Γ2)),q|some (.ok (.ct Γ2)),q|some (.ok (.rt o d)),q|some (.ex c),q|none,q=>cases q
 | some (.ok (.bk Γ')),q|some (.ok (.ct Γ')),q|some (.ok (.rt o d)),q|some (.ex c),q|none,q=>cases q
end
def Jn (K:Frag)(n:Nat)(F:List PyData->PyData->M (PyData×PyData)):Sp:=λvs H Q _=>∃(B:Hp) (ds:List PyData) (kvs:j3) (ws:List V) (a:Addr) (as:List Addr),ds.length=n/\vs=ws++[.ref a]/\Same B H/\ax K B ds ws/\IsT K H (.dict kvs) (.ref a) as/\as.Nodup/\(∀x∈as,B x=none/\∃o,H x=some o/\fm o)/\match F ds (.dict kvs) with
 | some (.ok (.list xs,.dict kvs'))=>∀v H' a1 a2,Same B H'->IsT K H' (.list xs) v a1->IsT K H' (.dict kvs') (.ref a) a2->a1.Nodup->a2.Nodup->(∀x∈a1,x∉a2)->(∀x,x∈a1∨x∈a2->B x=none/\∃o,H' x=some o/\fm o)->Q v H'
 | _=>False
theorem yO (h:(kS n ds w)[i]? =some (some (o,d))):(i < ds.length/\ds[i]? =some d/\o=false)∨(i=ds.length/\d=w/\o=true):=by
 unfold kS at h
 by_cases hi:i < ds.length
 ·rw[Xx (by simpa using hi),KZ] at h
  cases hd:ds[i]? with
  | none=>rw[hd] at h;cases h
  | some d'=>rw[hd] at h;cases h;exact .inl ⟨hi,rfl,rfl⟩
 ·rw[Xu (by simpa using hi),K6] at h
  by_cases h0:i=ds.length
  ·subst h0
   rw[Nat.sub_self] at h
   cases h
   exact .inr ⟨rfl,rfl,rfl⟩
  ·obtain⟨m,hm⟩:∃m,i - ds.length=m+1:=⟨i - ds.length - 1,by omega⟩
   rw[hm,Jv,YJ] at h
   split at h <;> cases h
theorem yP {K:Frag}{B H:Hp}{ds:List PyData}{w:PyData}{ws:List V}{v:V}{as:List Addr}(N:List Str)(hN:ds.length+1<=N.length)(s:Same B H)(h:ax K B ds ws)(ht:IsT K H w v as)(hnd:as.Nodup)(hb:∀x∈as,B x=none/\∃o,H x=some o/\fm o) :
  Rep K B (λi=>if i=ds.length then as else []) (kS N.length ds w) (start N (ws++[v])) H:=by
 have hl:=am h
 exact {
  bs:=s
  len:=by
   unfold kS start
   simp only[K2,K6,Kj,Uq,Y6,hl]
   omega
  sl:=λi o d e=>by
   rcases yO e with⟨h1,h2,rfl⟩ | ⟨rfl,rfl,rfl⟩
   ·obtain⟨u,h3,h4⟩:=fB h h2
    refine⟨u,?_,by rw[Z5 K3];exact h4⟩
    unfold start
    rw[Xx (by rw[K6,K2,hl];omega),KZ,Xx (!1),h3];rfl
   ·refine⟨v,?_,by rw[Z4 rfl,Z4 rfl];exact ht⟩
    unfold start
    rw[Xx (by rw[K6,K2,hl,X8];omega),KZ,Xu (!1),hl,Nat.sub_self];rfl
  nd:=λi=>by
   show(if i=ds.length then as else []).Nodup
   split
   ·exact hnd
   ·exact X2
  nb:=λi x hx=>by
   replace hx:x∈(if i=ds.length then as else []):=hx
   split at hx
   ·exact hb x hx
   ·cases hx
  dj:=λi k hik x hx hx'=>by
   replace hx:x∈(if i=ds.length then as else []):=hx
   replace hx':x∈(if k=ds.length then as else []):=hx'
   split at hx
   ·split at hx'
    ·omega
    ·cases hx'
   ·cases hx}
theorem Oc {P:Program}{w:World}{K:Frag}{mg:Str->Option Value}{base:Heap}{x qual:Str}{st:Stmt}{f:Addr}{fd:FuncData}{N ps:List Str}(k n m ir:Nat){fb:SF}(hn:N.length=n)(hm:ps.length=m+1)(F:EW K x qual st f fd)(S:iZ N ps (aC st))(PU:ir≠m)(hmn:m+1<=n)
  (hbody:∀(cdv:Value) (A:Around) (outer:List Env) (s:Shared) (H:Hp) (E:XK) (a:Addr),g_ k (A.deeper (envOfC qual (aC st) s.heap.objs.size f cdv))->
   rR (rY zN P w K mg base N qual (aC st) f cdv A outer s H E).Hb (eM st) (M7 K (λ_ _=>False) m a ir fb)):mG P w K mg base zN (k+1) f fd ps (Jn K m (runIO n ir fb)):=by
 subst hn
 refine F.ok S (λvs H Q E h=> ?_) λcdv A outer s H vs Q E hr h=> ?_
 ·obtain⟨B,ds,kvs,ws,a,as,h1,rfl,_,h2,_⟩:=h
  rw[K2,am h2,h1,hm];rfl
 ·obtain⟨B,ds,kvs,ws,a,as,h1,rfl,h3,h4,h5,h6,h7,h8⟩:=h
  subst h1
  refine⟨_,hbody cdv A outer s H E a hr,?_,B,_,_,yP N hmn h3 h4 h5 h6 h7,?_⟩
  ·unfold Hold start
   have hl:=am h4
   rw[Xx (by rw[K6,K2,hl,X8];omega),KZ,Xu (!1),hl,Nat.sub_self];rfl
  ·unfold runIO at h8
   match hf:fb (kS N.length ds (.dict kvs)),h8 with
   | some (.ok (.nx Γ)),h8=>
    simp only[ao] at h8
    match e1:Γ[ir]?,e2:Γ[ds.length]?,h8 with
    | some (some (true,.list xs)),some (some (true,.dict kvs')),h8=>
     refine⟨⟨true,.list xs,e1⟩,λB' φ' σ' H' v s' r' z' hv=> ?_⟩
     obtain⟨v1,g1,g2⟩:=r'.own e1
     obtain⟨v2,g3,g4⟩:=r'.own e2
     rw[hv] at g1
     cases g1
     rw[show σ'[ds.length]? =some (some (V.ref a)) from z'] at g3
     cases g3
     refine h8 v H' _ _ (s'.trans r'.bs) g2 g4 (r'.nd ir) (r'.nd _) (λy hy=>r'.dj ir _ PU y hy) λy hy=> ?_
     have nb:B' y=none/\∃o,H' y=some o/\fm o:=by
      rcases hy with hy | hy
      ·exact r'.nb ir y hy
      ·exact r'.nb _ y hy
     exact⟨s'.free nb.1,nb.2⟩
   | some (.ok (.bk Γ)),h8=>exact False.elim h8
   | some (.ok (.ct Γ)),h8=>exact False.elim h8
   | some (.ok (.rt o d)),h8=>exact False.elim h8
   | some (.ex c),h8=>exact False.elim h8
   | none,h8=>exact False.elim h8
section
variable {X:Cx}{K:Frag}{Ew:Str->Hp->Prop}{pos pos' p:Pos}
theorem Bn (r1:Rep K B1 ψ Γ1 σ H1)(io:wg K B1 J ds)(q:cI K Ew B1 (bw g fb ds Γ1) D) :
  ∃W:Nat->Nat->St->Hp->Prop,(∃m,W 0 m σ H1)/\∀i m σ H,W i m σ H->(J.stop i H/\D.nx σ H)∨(J.go i H/\∃N:St->Hp->Prop,(∀σ' H',N σ' H'->∃m',m' < m/\W (i+1) m' σ' H')/\∀x H',J.Lx i H x H'->tG K g x σ H' λσ2 H2=>LY K Ew fb {D with nx:=N,ct:=N,bk:=D.nx} σ2 H2):=by
 refine⟨λi m σ H=>m=ds.length - i/\i<=ds.length/\∃B2 φ2 Γ2,Same B1 B2/\Rep K B2 φ2 Γ2 σ H/\cI K Ew B1 (bw g fb (ds.drop i) Γ2) D,⟨ds.length,by simp,Xq _,B1,ψ,_,Same.refl B1,r1,by simpa using q⟩,?_⟩
 rintro i m σ2 H2 ⟨rfl,hi2,B2,φ2,Γ2,s2,r2,q2⟩
 by_cases hlt:i < ds.length
 ·refine .inr ⟨io.go i H2 hlt (s2.trans r2.bs),λσ' H'=>∃B3 φ3 Γ3,Same B1 B3/\Rep K B3 φ3 Γ3 σ' H'/\cI K Ew B1 (bw g fb (ds.drop (i+1)) Γ3) D,λσ' H' h'=>⟨ds.length - (i+1),by omega,rfl,hlt,h'⟩,λx H' y=> ?_⟩
  obtain⟨s3,d,e,hd⟩:=io.yl i H2 x H' hlt (s2.trans r2.bs) y
  have r3:=r2.same s3
  have CT:aK K (gQ φ2 H') d x:=hd _ (s2.trans r3.uC) λa o e1 e2=>by
   rw[dr]
   ·exact e2
   ·intro j hj
    obtain⟨o',e',_⟩:=(r2.nb j a hj).2
    rw[e1] at e';cases e'
  have ed:ds.drop i=d :: ds.drop (i+1):=by
   rw[U3 hlt]
   congr 1
   rw[K5 hlt] at e
   exact Option.some.inj e
  rw[ed] at q2
  have q3:=q2
  simp only[bw] at q3
  cases CU:g (cQ .base d) d Γ2 with
  | none=>simp only[CU] at q3;exact False.elim q3
  | some Γ3=>
   simp only[CU,fx,aG] at q3
   refine⟨gQ φ2 H',φ2,Γ2,cQ .base d,d,Γ3,r3.cut,VR.av r3.cut (VR.cQ (jE _ _) (show VR K _ φ2 H' H' .base d x from CT)),CU,λB4 φ4 σ4 s4 r4=> ?_⟩
   have sB:Same B1 B4:=(s2.trans r3.uC).trans s4
   refine⟨B4,φ4,Γ3,r4,?_⟩
   match hbm:fb Γ3,q3 with
   | some (.ok (.nx Γ')),q3=>exact λB' φ' σ' kx s' r'=>⟨B',φ',Γ',sB.trans s',r',q3⟩
   | some (.ok (.ct Γ')),q3=>exact λB' φ' σ' kx s' r'=>⟨B',φ',Γ',sB.trans s',r',q3⟩
   | some (.ok (.bk Γ')),q3=>exact λB' φ' σ' kx s' r'=>q3 B' φ' σ' kx (sB.trans s') r'
   | some (.ok (.rt o d)),q3=>exact λv kx s' rv=>q3 v kx (sB.trans s') (rv.base sB)
   | some (.ex c),q3=>exact λkx s'=>q3 kx (sB.trans s')
   | none,q3=>exact False.elim q3
 ·have e:i=ds.length:=by omega
  subst e
  rw[List.drop_length] at q2
  exact .inl ⟨io.stop H2 (s2.trans r2.bs),q2 B2 φ2 σ2 H2 s2 r2⟩
noncomputable def hide (as:List Addr)(H:Hp):Hp:=λb=>if b∈as then none else H b
theorem Af (h:b∈as):hide as H b=none:=Z4 h
theorem iG (h:b∉as):hide as H b=H b:=Z5 h
theorem Bo (as:List Addr)(H:Hp):Same (hide as H) H:=λb o e=>by
 by_cases h:b∈as
 ·rw[Af h] at e;cases e
 ·rwa [iG h] at e
theorem Rep.swap (r:Rep K B φ Γ σ H)(hv:σ[iw]? =some (some (.ref a)))(s:Same (hide (φ iw) H) H')(ht:IsT K H' d (.ref a) as)(hn:as.Nodup)(hb:∀x∈as,hide (φ iw) H x=none/\∃o,H' x=some o/\fm o) :
  Rep K B (λj=>if j=iw then as else φ j) (Γ.set iw (some (true,d))) σ H':=by
 have sB:Same B (hide (φ iw) H):=λb o e=>by
  by_cases h:b∈φ iw
  ·rw[(r.nb iw b h).1] at e;cases e
  ·rw[iG h];exact r.bs b o e
 have mu:∀b o,H b=some o->¬ fm o->H' b=some o:=λb o e n=>s b o (by
  rw[iG]
  ·exact e
  ·intro h
   obtain⟨o',e',m⟩:=(r.nb iw b h).2
   rw[e] at e';cases e'
   exact n m)
 have ot:∀j,j≠iw->∀b∈φ j,∀o,H b=some o->H' b=some o:=λj hj b hb o e=>s b o (by
  rw[iG (r.dj j iw hj b hb)];exact e)
 exact {
  bs:=sB.trans s
  len:=by rw[Uu];exact r.len
  sl:=λj o d' e=>by
   by_cases hj:j=iw
   ·subst hj
    by_cases hlt:j < Γ.length
    ·rw[U8 hlt] at e
     cases e
     exact⟨.ref a,hv,by rw[Z4 rfl,Z4 rfl];exact ht⟩
    ·rw[XY (by rw[Uu];omega)] at e;cases e
   ·rw[U7 (Ne.symm hj)] at e
    obtain⟨v,h1,h2⟩:=r.sl j o d' e
    refine⟨v,h1,?_⟩
    cases o with
    | true=>
     rw[Z4 rfl] at h2⊢
     rw[Z5 hj]
     exact IsT.via mu _ _ _ (ot j hj) h2
    | false=>rwa [Z5 K3] at h2⊢
  nd:=λj=>by
   show(if j=iw then as else φ j).Nodup
   split
   ·exact hn
   ·exact r.nd j
  nb:=λj x hx=>by
   replace hx:x∈(if j=iw then as else φ j):=hx
   split at hx
   ·exact⟨sB.free (hb x hx).1,(hb x hx).2⟩
   ·rename_i hj
    obtain⟨h1,o,h2,h3⟩:=r.nb j x hx
    exact⟨h1,o,ot j hj x hx o h2,h3⟩
  dj:=λi j hij x hx hx'=>by
   replace hx:x∈(if i=iw then as else φ i):=hx
   replace hx':x∈(if j=iw then as else φ j):=hx'
   have key:∀m,m≠iw->x∈φ m->x∈as->False:=λm hm h1 h2=>by
    obtain⟨_,o,e,_⟩:=r.nb m x h1
    have:=(hb x h2).1
    rw[iG (r.dj m iw hm x h1),e] at this
    cases this
   split at hx
   ·split at hx'
    ·omega
    ·rename_i hj;exact key j hj hx' hx
   ·split at hx'
    ·rename_i hi _;exact key i hi hx hx'
    ·exact r.dj i j hij x hx hx'}
theorem FT              
  (hp:PassesOwn (!7) X.A X.env X.xe) (hc:X.calm=true) (G:mG X.prog X.w X.K X.mg X.base CX k f fd ps (Jn K 2 F)) (hr:g_ k X.A) (PV:Gl X x) (hm:X.mg x=some (.ref f)) (hk:keepIn X.K (.ref f)=true) (hb:Binds X.K fd ps []) (hx:Passes CX X E)
  (h1:DE X K Ew e1 f1) (h2:DE X K Ew e2 f2) (hw:PE X ew (mh iw)) (hg:DG X K tg g) (hbd:Bb X K Ew body fb) (hK:X.K=K:=by rfl) (hdb:(x==("__debug__":Str))=false:=by decide)
  (s1:starEach [e1,e2,ew] X.env=(false,eval e1 X.env) :: starEach [e2,ew] X.env:=by rfl) (s2:starEach [e2,ew] X.env=(false,eval e2 X.env) :: starEach [ew] X.env:=by rfl) (s3:starEach [ew] X.env=(false,eval ew X.env) :: starEach [] X.env:=by rfl)
  (hpl:(backTo pos (starEach [e2,ew] X.env)).any (·.1)=false:=by rfl) (hs:∀y,foldedSetIterable (.Call (.Name x p) [e1,e2,ew] [] pos) X.env y=pure y:=by intro _;rfl) :
  DS X K Ew (.For tg (.Call (.Name x p) [e1,e2,ew] [] pos) body [] pos') (Ad iw F f1 f2 g fb) :=
 (yt hp hc (zF (zG G hr PV hm hk hb .nil hx (b_ h1 (b_ h2 (b_ hw dS s3) s2) s1) hdb s1 hpl)) hg hbd hs).imp λD σ H q=>by
  subst hK
  obtain⟨B,φ,Γ,r,q⟩:=q
  unfold Ad at q
  obtain⟨kvs,hgw,q⟩:=LZ q
  obtain⟨v3,Hq,hT⟩:=r.own hgw
  obtain⟨a,ks,bs,rfl,hl,ht,hφ⟩:=dE hT
  refine⟨B,φ,Γ,r,?_⟩
  match hm1:f1 Γ,q with
  | none,q=>cases q
  | some (.ex c),q=>exact .inr ⟨c,rfl,q⟩
  | some (.ok (k1,d1)),q=>
   refine .inl ⟨k1,d1,rfl,λv1 H1 t1 hv1=>⟨B,φ,Γ,r.same t1,?_⟩⟩
   match hm2:f2 Γ,q with
   | none,q=>cases q
   | some (.ex c),q=>exact .inr ⟨c,rfl,q⟩
   | some (.ok (k2,d2)),q=>
    refine .inl ⟨k2,d2,rfl,λv2 H2 t2 hv2=>⟨.ref a,Hq,?_⟩⟩
    have q5:cI X.K Ew B (if mq k1=true/\mq k2=true then (match F [d1,d2] (.dict kvs) with
     | some (.ok (.list ds,.dict kvs'))=>bw g fb ds (Γ.set iw (some (true,.dict kvs')))
     | _=>none) else none) D:=q
    by_cases hbb:mq k1=true/\mq k2=true
    ·rw[Z4 hbb] at q5
     obtain⟨b1,b2⟩:=hbb
     cases k1 <;> first | (cases b1;done) | skip
     cases k2 <;> first | (cases b2;done) | skip
     have r2:=(r.same t1).same t2
     have sB:Same B (hide (φ iw) H2):=λb o e=>by
      by_cases h:b∈φ iw
      ·rw[(r2.nb iw b h).1] at e;cases e
      ·rw[iG h];exact r2.bs b o e
     have w1:aK X.K (hide (φ iw) H2) d1 v1:=aK.same sB _ _ (show aK X.K B d1 v1 from hv1)
     have w2:aK X.K (hide (φ iw) H2) d2 v2:=aK.same sB _ _ (show aK X.K B d2 v2 from hv2)
     refine⟨hide (φ iw) H2,[d1,d2],kvs,[v1,v2],a,φ iw,rfl,rfl,Bo _ _,a_ w1 (a_ w2 bn),IsT.same t2 _ _ _ (IsT.same t1 _ _ _ hT),r.nd iw,λy hy=>⟨Af hy,(r2.nb iw y hy).2⟩,?_⟩
     match hF:F [d1,d2] (.dict kvs),q5 with
     | some (.ok (.list ds,.dict kvs')),q5=>
      intro v H3 a1 a2 z1 z2 z3 z4 z5 z6 z7
      have r3:=r2.swap Hq z1 z3 z5 λy hy=>z7 y (.inr hy)
      have av:Av X.K B (λj=>if j=iw then a2 else φ j) H3 (.fr []) (.list ds) v:=⟨a1,z2,z4,λy hy=> .inr ⟨sB.free (z7 y (.inl hy)).1,λj hj=>by
       replace hj:y∈(if j=iw then a2 else φ j):=hj
       split at hj
       ·exact z6 y hy hj
       ·rename_i hji
        obtain⟨_,o,e,_⟩:=r2.nb j y hj
        have:=(z7 y (.inl hy)).1
        rw[iG (r2.dj j iw hji y hj),e] at this
        cases this⟩⟩
      obtain⟨B1,ψ,PX,r4,hD⟩:=r3.lZ av
      obtain⟨al,vs,rfl,hq,hds⟩:=a8 hD
      exact⟨al,rfl,⟨vs,r4.bs.seq hq⟩,Bn r4 (sV hq hds) (cI.base PX q5)⟩
     | some (.ok (.list ds,.none)),q5=>exact False.elim q5
     | some (.ok (.list ds,.bool _)),q5=>exact False.elim q5
     | some (.ok (.list ds,.int _)),q5=>exact False.elim q5
     | some (.ok (.list ds,.str _)),q5=>exact False.elim q5
     | some (.ok (.list ds,.tuple _)),q5=>exact False.elim q5
     | some (.ok (.list ds,.list _)),q5=>exact False.elim q5
     | some (.ok (.none,_)),q5=>exact False.elim q5
     | some (.ok (.bool _,_)),q5=>exact False.elim q5
     | some (.ok (.int _,_)),q5=>exact False.elim q5
     | some (.ok (.str _,_)),q5=>exact False.elim q5
     | some (.ok (.tuple _,_)),q5=>exact False.elim q5
     | some (.ok (.dict _,_)),q5=>exact False.elim q5
     | some (.ex c),q5=>exact False.elim q5
     | none,q5=>exact False.elim q5
    ·rw[Z5 hbb] at q5
     exact False.elim q5
end
section
variable {prog:Program}{w:World}{A:Around}{E:Zu}{s:Shared}{I:Addr}{fp wr:List Addr}{G:Array GenState->Array GenState->Prop}{n:Nat}{P:Nat->Value->Prop}{St:Nat->Shared->Prop}
theorem FU {R:Result->Shared->Prop}(W:WalksS prog w A.in1 I fp wr G n P St)(hT:∀i s,St i s->s.TypeIs (.ref I) "list_reverseiterator")(S:Addr)(st0:St 0 s)(nS:S∉fp)(hI:I∈fp)(hn:n<=sizeLine)(hS:s.heap.get? S=some {cls:=.type "list",data:=.seq #[]})
  (hR:∀s' acc' c',Moved (S :: wr) G s s'->s'.heap.get? S=some {cls:=.type "list",dict:=none,data:=.seq acc' c',slots:=#[]}->ItemsOf P acc' n->R (.ok (.ret .none)) s') :
  wpAny (!4) A.in1 (Builtin.«list.__init__» ⟨[.ref S,.ref I],[]⟩) (λfin s'=>match fin with | .done f=>R (.ok f) s' | .again c'=>c'.quiet=true/\codeAny (!4) A c' R s') (λe s'=>R (.error e) s') s:=by
 have nI:S≠I:=λe=>nS (e ▸ hI)
 show wpAny _ A.in1 (do let old←Builtin.List.listItems (.ref S);(Builtin.List.listUpdate (.ref S) (λ_=> #[]));(letGo old.toList.reverse);Builtin.List.listExtendWith (.ref S) (.ref I) .none) _ _ s
 refine Z7 ?_;unfold Builtin.List.listItems;refine Z7 (wpAny_seqItems hS rfl ((Z6 ?_)))
 show wpAny _ A.in1 (updateSeq S (λ_=> #[]) >>=λ_=>(letGo (#[]:Array Value).toList.reverse >>=λ_=>Builtin.List.listExtendWith (.ref S) (.ref I) .none)) _ _ s;refine Z7 (wpAny_updateSeq hS rfl ?_)
 have hS2:=(Xv (Obj.mapSeq (λ_=>(#[]:Array Value))) hS rfl)
 have keep:∀b o,b≠S->s.heap.get? b=some o->(s.heap.update S (Obj.mapSeq (λ_=>(#[]:Array Value)))).get? b=some o:=λb o hb e=>((J8 _ _ (Ne.symm hb)).trans e)
 have st1:=W.frame 0 s (s.heap.update S (Obj.mapSeq (λ_=>(#[]:Array Value)))) s.toks st0 (Nat.le_of_eq (by simp[Heap.update])) (λb hb o e=>keep b o (λz=>nS (z ▸ hb)) e)
 have h1:Builtin.List.listSameRef (.ref S) (.ref I)=false:=by(simp[Builtin.List.listSameRef,nI])
 refine Z7 (wpAny_letGo ?_);unfold Builtin.List.listExtendWith
 refine Z7 (wpAny_typeOf (hT 0 _ st1) ?_);rw[Z5 (by rw[h1];decide)];refine Z7 (W.self 0 _ _ _ st1 ?_);refine Z7 (Z1 ?_);unfold Builtin.List.listLengthHint
 refine Z7 (Zx (hT 0 _ st1) wm ?_)
 show wpAny _ A.in1 (specialOf (Value.ref I) (Str.ofString "__length_hint__") >>=_) _ _ _;refine Z7 (Zx (hT 0 _ st1) zY ?_)
 generalize hid:("list_reverseiterator.__length_hint__":String)=id0
 wp_delta
 rw[show splitId id0=some ("list_reverseiterator","__length_hint__") from by subst hid;decide+kernel]
 subst hid
 refine Z7 (wpAny_isInstance (b:=true) (hT 0 _ st1) (by rw[isSubtype_type];kernel_rfl) ?_);refine Z6 ?_;rw[Z5 (!8)]
 refine Z6 ⟨plainId_quiet F.plain_extend_loop _,codeAny_extend_loopS W hn _ nS _ n 0 _ _ _ rfl (Xq _) st1 hS2 (ItemsOf.nil P) λs' acc' c' hm hS' hacc=> ?_⟩
 exact hR s' acc' c' (Moved.trans W.gtrans ((Moved.refl W.grefl).then_heap (Nat.le_of_eq (by simp[Heap.update])) λb o hb e=>keep b o (λz=>hb (z ▸ K9)) e) hm) hS' hacc
theorem wK (W:WalksS prog w A.in1.in1 I fp wr G n P St)(hT:∀i s,St i s->s.TypeIs (.ref I) "list_reverseiterator")(st0:St 0 s)(hfp:∀b∈fp,b < s.heap.objs.size)(hI:I∈fp)(hn:n<=sizeLine)
  (hQ:∀s' acc' c',Moved (s.heap.objs.size :: wr) G {s with heap:=s.heap.push {cls:=.type "list",data:=.seq #[]}} s'->s'.heap.get? s.heap.objs.size=some {cls:=.type "list",dict:=none,data:=.seq acc' c',slots:=#[]}->ItemsOf P acc' n->Q (.ref s.heap.objs.size) s') :
  wpAny (!4) A (call (.type "list") [.ref I]) Q E s:=by
 have nS:s.heap.objs.size∉fp:=λhm=>(U2 _ (hfp _ hm))
 refine callType_codes (Q₁:=λobj s₁=>obj= .ref s.heap.objs.size/\s₁={s with heap:=s.heap.push {cls:=.type "list",data:=.seq #[]}}) F.called_list (F.typeCall_list_1 _) F.entry_list_init (code_list_new _ ⟨rfl,rfl⟩) λobj s₁ h₁=> ?_
 obtain⟨rfl,rfl⟩:=h₁
 have hS:(s.heap.push {cls:=.type "list",data:=.seq #[]}).get? s.heap.objs.size=some {cls:=.type "list",data:=.seq #[]}:=(Kv _ rfl)
 refine⟨⟨_,hS,rfl⟩,F.args_list_init_2 _ _,FU W hT _ (W.frame 0 s _ s.toks st0 (K0 _) λb _ o e=>K4 _ e) nS hI hn hS λs' acc' c' hm hS' hacc=>⟨rfl,hQ s' acc' c' hm hS' hacc⟩⟩
end
section
variable {X:Cx}{K:Frag}{Ew:Str->Hp->Prop}{pos pos2 p p2:Pos}{a:Expr}{ta:TE}{fa:EF}
def Di (K:Frag)(ta:TE):TE:=λσ H Q=>ta σ H λx H1=>∃q ys,x= .ref q/\fU K H1 q ys/\∀t,H1 t=none->Q (.ref t) (upd H1 t (.lst ys.reverse))
theorem yQ (hc:X.calm=true)(hg:Gl X "list")(hm:X.mg "list" =none)(hg2:Gl X "reversed")(hm2:X.mg "reversed" =none)(ha:PE X a ta)
  (hs:starEach [a] X.env=(false,eval a X.env) :: starEach [] X.env:=by rfl) (hpl:(backTo pos2 (starEach [] X.env)).any (·.1)=false:=by rfl)
  (hs2:starEach [.Call (.Name "reversed" p2) [a] [] pos2] X.env=(false,eval (.Call (.Name "reversed" p2) [a] [] pos2) X.env) :: starEach [] X.env:=by rfl) (qd:(backTo pos (starEach [] X.env)).any (·.1)=false:=by rfl)
  (hnil:backTo pos (starEach [] X.env)=[]:=by rfl) :
  PE X (.Call (.Name "list" p) [.Call (.Name "reversed" p2) [a] [] pos2] [] pos) (Di X.K ta):=by
 intro pins s σ H Q I h
 refine wpAny_Call_Name_kw (gO I hg hm PyProof.Rows.boot_list ?_)
 refine PyProof.Rows.callWith_type1 ?_ hs2 qd
 rw[hs2]
 show wpAny _ _ (spliced ((false,eval (.Call (.Name "reversed" p2) [a] [] pos2) X.env) :: backTo pos (starEach [] X.env))) _ _ s
 refine Calls.spliced_cons ?_
 refine wpAny_Call_Name_kw (gO I hg2 hm2 PyProof.Rows.boot_reversed ?_)
 refine PyProof.Rows.callWith_type1 (di (b_ ha dS hs pos2 pins s σ H (λvs H1=>match vs with
  | [x]=>∃q ys,x= .ref q/\fU X.K H1 q ys/\∀t,H1 t=none->Q (.ref t) (upd H1 t (.lst ys.reverse))
  | _=>False) I h) λus s1 ⟨vs,H1,I1,r1,q1⟩=> ?_) hs hpl
 match vs,r1,q1 with
 | [x],r1,q1=>
  obtain⟨q,ys,rfl,hq,fin⟩:=q1
  obtain⟨u,rfl,ru⟩:=r1.one
  cases ru
  obtain⟨its,rv,pl,hz⟩:=I1.list hq
  refine call_reversed_list pl.isList ?_
  rw[hnil]
  refine Calls.spliced_nil ?_
  have hit:(s1.heap.push (revObj q ((its.toArray.size:Int) - 1))).IsRevIter s1.heap.objs.size q ((its.toArray.size:Int) - 1):=⟨_,Kv _ rfl,rfl,rfl⟩
  have NT:(s1.heap.push (revObj q ((its.toArray.size:Int) - 1))).IsList q its.toArray:=pl.isList.at λo e=>K4 _ e
  have hq1:q < s1.heap.objs.size:=let ⟨o,_,e,_⟩:=pl;KJ e
  have hne:q≠s1.heap.objs.size:=Xk hq1
  have hh:X.A.in1.in1.handled=none:=I1.ok.hd hc
  have hl:=rv.length
  refine wK (Walks.toS (Walks.listRev (prog:=X.prog) (w:=X.w) hh s1.heap.objs.size q hne its.toArray)) (λi s st=>st.2.1.typeIs) ⟨Xq _,by simpa using hit,NT⟩ (λb hb=> ?_) (by simp) (by rw[Kz];omega) λs' acc c hm hS' hacc=> ?_
  ·have:b=s1.heap.objs.size∨b=q:=by simpa using hb
   show b < (s1.heap.push _).objs.size
   rw[Uk]
   rcases this with z | z
   ·rw[z];exact Y9 _
   ·rw[z];exact UZ hq1
  ·rw[sZ hacc] at hS'
   obtain⟨h',g',d',t',os'⟩:=s'
   obtain rfl:g'=s1.gens:=hm.gens
   obtain rfl:d'=s1.drawn:=hm.drawn
   obtain rfl:os'=s1.os:=hm.os
   have hsz:(s1.heap.push (revObj q ((its.toArray.size:Int) - 1))).objs.size=s1.heap.objs.size+1:=Uk ..
   refine⟨.ref _,_,I1.laid (h':=h') (t':=t') (a:=(s1.heap.push (revObj q ((its.toArray.size:Int) - 1))).objs.size) (o:=.lst ys.reverse) (λb u e=>hm.heap b u (λz=> ?_) (K4 _ (K4 _ e))) (by rw[hsz];exact Yy _) ⟨by rw[Xy];exact hz,its.reverse,c,rv.reverse,hS'⟩,rfl,fin _ (I1.hok.fresh (by rw[hsz];exact Yy _))⟩
   have hb:=KJ e
   have:b=(s1.heap.push (revObj q ((its.toArray.size:Int) - 1))).objs.size∨b=s1.heap.objs.size:=by simpa using z
   rw[hsz] at this
   rcases this with z | z
   ·rw[z] at hb;exact absurd hb (Nat.not_lt.mpr (Yy _))
   ·rw[z] at hb;exact absurd hb (U2 _)
 | [],r1,q1=>exact False.elim q1
 | _ :: _ :: _,r1,q1=>exact False.elim q1
theorem yR (hc:X.calm=true)(hg:Gl X "list")(hm:X.mg "list" =none)(hg2:Gl X "reversed")(hm2:X.mg "reversed" =none)(ha:DE X K Ew a fa)(hK:X.K=K:=by rfl)
  (hs:starEach [a] X.env=(false,eval a X.env) :: starEach [] X.env:=by rfl) (hpl:(backTo pos2 (starEach [] X.env)).any (·.1)=false:=by rfl)
  (hs2:starEach [.Call (.Name "reversed" p2) [a] [] pos2] X.env=(false,eval (.Call (.Name "reversed" p2) [a] [] pos2) X.env) :: starEach [] X.env:=by rfl) (qd:(backTo pos (starEach [] X.env)).any (·.1)=false:=by rfl)
  (hnil:backTo pos (starEach [] X.env)=[]:=by rfl) :
  DE X K Ew (.Call (.Name "list" p) [.Call (.Name "reversed" p2) [a] [] pos2] [] pos) (B_ wI fa):=(yQ hc hg hm hg2 hm2 ha hs hpl hs2 qd hnil).imp λσ H Q q=>by
 obtain⟨B,φ,Γ,r0,q⟩:=q
 refine⟨B,φ,Γ,r0,(q.bind r0).mono λu H1 s1 ⟨k,x,e1,v1,r1,_,q1⟩=> ?_⟩
 obtain⟨z,e,q⟩:=fE (kf:=λ_=> .fr []) q1
 cases x <;> simp only[wI] at e <;> try (cases e;done)
 split at e
 ·rename_i xs hn
  cases e
  obtain⟨p,vs,rfl,h1,h2⟩:=a8 (v1.toD r1.bs)
  rw[hK]
  refine⟨p,vs,rfl,h1,λt ht=>q _ _ (s1.trans (Same.upd ht)) (VR.fresh.mpr (aP.lst ?_ ay (ax.same (Same.upd ht) _ _ (j5 h2)) (s1.free ht)))⟩
  exact aF.mpr λx hx=>aF.mp hn x (Uy.mp hx)
 ·cases e
end
end L2
namespace L2
open PySem PyProof.Rows
section
variable {prog:Program}{w:World}{A:Around}{E:Zu}{s:Shared}
theorem FV (hit:IsTupIter s.heap it t i)(ht:IsTup s.heap t items)(hx:items[i]? =some x)
  (hQ:∀h',IsTupIter h' it t (i+1)->Heap.SameBut it s.heap h'->Q x {s with heap:=h'}):wpAny (!4) A (Builtin.SmallTypes.nextOf (.ref it)) Q E s:=by
 obtain⟨o,ho,hc,hd⟩:=id hit
 obtain⟨ol,hol,_,nl,hdl⟩:=ht
 unfold Builtin.SmallTypes.nextOf
 refine Z7 (wpAny_callSpecial?_slot (name:=Str.ofString "__next__") hit.typeIs slot_tupleiter_next (Z0 slot_tupleiter_next hit.typeIs entry_tupleiter_next ?_ (args_tupleiter_next _)))
 show wpAny (!4) _ (field (.ref it) 0 >>=_) _ _ s;refine Z7 (wpAny_field ho hd (x:=.ref t) rfl ?_)
 show wpAny (!4) _ (if (Value.ref t==Value.none)=true then _ else _) _ _ s;rw[Z5 (λz:(Value.ref t==Value.none)=true=>K3 z)]
 show wpAny (!4) _ (field (.ref it) 1 >>=_) _ _ s;refine Z7 (wpAny_field ho hd (x:=.int i 0) rfl ?_)
 show wpAny (!4) _ (seqItems? (.ref t) >>=_) _ _ s;refine Z7 (wpAny_seqItems hol hdl ?_)
 simp only[Ky,hx];refine Z7 (wpAny_setField ho hd (by simp) (Z6 ⟨x,rfl,Z6 (hQ _ ?_ (Heap.SameBut.update ..))⟩))
 exact⟨_,Xv _ ho (Obj.isFreed_of_fields (Obj.data_mapFields hd _)),(Obj.cls_mapFields ..).trans hc,by(rw[Obj.data_mapFields hd]);simp[rawInt]⟩
theorem FW (hh:A.handled=none)(hit:IsTupIter s.heap it t i)(ht:IsTup s.heap t items)(hx:items[i]? =none)
  (hE:∀h' e,Heap.ExtBut it s.heap h'->(∃o,h'.get? e=some o/\o.cls= .type "StopIteration")->E (.ref e) {s with heap:=h'}):wpAny (!4) A (Builtin.SmallTypes.nextOf (.ref it)) Q E s:=by
 obtain⟨o,ho,hc,hd⟩:=id hit
 obtain⟨ol,hol,_,nl,hdl⟩:=ht
 unfold Builtin.SmallTypes.nextOf
 refine Z7 (wpAny_callSpecial?_slot (name:=Str.ofString "__next__") hit.typeIs slot_tupleiter_next (Z0 slot_tupleiter_next hit.typeIs entry_tupleiter_next ?_ (args_tupleiter_next _)))
 show wpAny (!4) _ (field (.ref it) 0 >>=_) _ _ s;refine Z7 (wpAny_field ho hd (x:=.ref t) rfl ?_)
 show wpAny (!4) _ (if (Value.ref t==Value.none)=true then _ else _) _ _ s;rw[Z5 (λz:(Value.ref t==Value.none)=true=>K3 z)]
 show wpAny (!4) _ (field (.ref it) 1 >>=_) _ _ s;refine Z7 (wpAny_field ho hd (x:=.int i 0) rfl ?_)
 show wpAny (!4) _ (seqItems? (.ref t) >>=_) _ _ s;refine Z7 (wpAny_seqItems hol hdl ?_)
 simp only[Ky,hx];refine Z7 (wpAny_rule (Z7 (wpAny_setField ho hd (by simp) ?_)))
 show wpAny (!4) _ (newExc (.type "StopIteration") [] >>=_) _ _ _
 refine Z7 ?_;simp only[newExc,newTuple];refine Z7 (Zk ?_ (by size_fits));refine Z7 (m:=firstArgMember _ _) (wpAny_of_eq (a:=Value.none) (by first | rfl | (simp only[firstArgMember];rfl)) ?_);refine Zk ?_ (by size_fits)
 simp only[raiseNew];refine Z7 (wpAny_handled ?_);(first | rw[show A.in1.handled=none from hh] | rw[hh])
 refine Z7 (Z6 (wpAny_throw ?_));exact hE _ _ (((Heap.SameBut.update ..).extBut.push _).push _) ⟨_,Kv _ rfl,rfl⟩
end
theorem tJ (hh:A.handled=none)(it l:Addr)(hne:l≠it)(items:Array Value):Draws prog w A it [it,l] items.size (λi v=>items[i]? =some v) (λi h=>IsTupIter h it l i/\IsTup h l items) where
 live:=λ_ _ st=>let ⟨o,ho,_⟩:=st.1;⟨o,ho⟩
 frame:=λ_ _ _ st hk=>⟨let ⟨o,ho,r⟩:=st.1;⟨o,hk it (by simp) o ho,r⟩,let ⟨o,ho,r⟩:=st.2;⟨o,hk l (by simp) o ho,r⟩⟩
 item:=λi s Q E hi st hQ=>by
  refine FV st.1 st.2 (x:=items[i]) (by simp[hi]) λh' hit' hs'=>hQ _ h' s.toks (by simp[hi]) ⟨hit',st.2.extBut hs'.extBut hne⟩ hs'
 done:=λs Q E st hE=>FW hh st.1 st.2 (by simp) hE
open AutoSeq1 (wpAny_loadPart') in
theorem FY (l:Addr)(items:Array Value)(n:Nat)(dct:Option Addr)(sl:Array (Option Value)) :
  Meets (Builtin.«enumerate.__new__» ⟨[.type "enumerate",.ref l],[]⟩) (λ_ R s=>s.heap.get? l=some {cls:=.type "tuple",dict:=dct,data:=.seq items n,slots:=sl}/\
   R (.ok (.ret (.ref (s.heap.push {cls:=.type "tuple_iterator",data:=.fields #[.ref l,.int 0 0]}).objs.size)))
    {s with heap:=(s.heap.push {cls:=.type "tuple_iterator",data:=.fields #[.ref l,.int 0 0]}).push {cls:=.type "enumerate",data:=.fields #[.none,.bool false,.ref s.heap.objs.size,rawInt 0,.none,.none]}}) :=
 .of_wp λprog w A R s h=>by
  obtain⟨hp,g,d,tk,os⟩:=s;obtain⟨hl,h⟩:=h;have hsub:=sub_enumerate
  have hL:IsTup (Shared.heap ⟨hp,g,d,tk,os⟩) l items:=⟨_,hl,rfl,n,rfl⟩
  wp_walk using wpAny_loadPart' hl
  refine wpAny_stack_any λst=>Z6 ?_
  split
  ·rename_i c _ _ _ _ _
   cases(c==Value.type "enumerate") <;> (wp_walk using wpAny_loadPart' hl,iter_tuple hL;exact⟨_,rfl,h⟩)
  ·(wp_walk using wpAny_loadPart' hl,iter_tuple hL;exact⟨_,rfl,h⟩)
section
variable {prog:Program}{w:World}{A:Around}{E:Zu}{s:Shared}
theorem Bp (hL:IsTup s.heap l items)
  (h:∀h',IsEnum h' (s.heap.objs.size+1) s.heap.objs.size 0 .none->IsTupIter h' s.heap.objs.size l 0->(∀b o,s.heap.get? b=some o->h'.get? b=some o)->Q (.ref (s.heap.objs.size+1)) {s with heap:=h'}) :
  wpAny (!4) A (call (.type "enumerate") [.ref l]) Q E s:=by
 obtain⟨⟨c,dct,dt,sl⟩,hl,hc,n,hd⟩:=hL
 replace hc:c= .type "tuple":=hc
 replace hd:dt= .seq items n:=hd
 subst hc hd
 refine callType_new F.called_enumerate (!8) (F.typeCall_enumerate_1 _) (F.newCall_enumerate_1 _) (λobj=>F.args_object_init_2 obj _) F.entry_enumerate_new (FY l items n dct sl) ⟨hl,?_⟩
 have hz:(s.heap.push {cls:=.type "tuple_iterator",data:=.fields #[.ref l,.int 0 0]}).objs.size=s.heap.objs.size+1:=Uk ..
 show _/\_;rw[hz]
 have he:IsEnum ((s.heap.push {cls:=.type "tuple_iterator",data:=.fields #[.ref l,.int 0 0]}).push {cls:=.type "enumerate",data:=.fields #[.none,.bool false,.ref s.heap.objs.size,rawInt 0,.none,.none]}) (s.heap.objs.size+1) s.heap.objs.size 0 .none:=by
  have:=Kv (s.heap.push {cls:=.type "tuple_iterator",data:=.fields #[.ref l,.int 0 0]}) (o:={cls:=.type "enumerate",data:=.fields #[.none,.bool false,.ref s.heap.objs.size,rawInt 0,.none,.none]}) rfl
  rw[hz] at this;exact this
 exact⟨⟨_,he,rfl⟩,h _ he ⟨_,K4 _ (Kv _ rfl),rfl,rfl⟩ λb o x=>K4 _ (K4 _ x)⟩
theorem lN (he:IsEnum s.heap e it i old)(h:Q (.ref e) s):wpAny (!4) A (pyIter (.ref e)) Q E s:=by
 have hT:s.TypeIs (.ref e) "enumerate":=⟨_,he,rfl⟩
 refine wpAny_pyIter_slot hT F.slot_enumerate_iter (Z0 F.slot_enumerate_iter hT F.entry_enumerate_iter ?_ (F.args_enumerate_iter_1 _))
 show wpAny (!4) _ (ret (.ref e)) _ _ s
 exact Z6 ⟨_,rfl,"enumerate",_,hT,F.slot_enumerate_next.lookup,h⟩
end
end L2
namespace L2
open PySem PySem.Spec PyProof.Rows Y
section
variable {X:Cx}{pins:List (Addr×Obj)}{σ:St}{H:Hp}{s:Shared}{h':Heap}
theorem Inv.Ah {fp:List Addr}{a:Addr}{o:HO}{t':Nat}(I:Inv X pins σ H s)(ha:s.heap.objs.size<=a)(k:∀b u,b∉fp->s.heap.get? b=some u->h'.get? b=some u)(hf:∀b∈fp,pQ X pins H b)
  (new:fu X.prog X.w (upd H a o) h' a o):Inv X pins σ (upd H a o) {s with heap:=h',toks:=t'}:=by
 have hn:H a=none:=I.hok.fresh ha
 have PY:∀b u,s.heap.get? b=some u->b≠a:=λb u e z=>by rw[z] at e;exact absurd (KJ e) (Nat.not_lt.mpr ha)
 have O6:∀b u,H b=some u->b∉fp:=λb u e z=>by rw[(hf b z).1] at e;cases e
 have hna:∀b u,H b=some u->b≠a:=λb u e z=>by rw[z,hn] at e;cases e
 refine I.step (g':=s.gens) (d':=s.drawn) (ch:=fp) (λb hb=> ?_) (λb u _ _ hc e _=>k b u hc e) (λb u _ _ hc e _=>⟨u.slots,k b u hc e⟩) (λb u _ e n=> ?_)
  (λb u hc e=>⟨u,k b u hc e⟩) (λb xs e=> ?_) (λb ob u e=> ?_) (λb ps e=>⟨#[],?_⟩) (λm hm=> ?_) (λb u e=> ?_) I.bare
 ·obtain⟨_,f1,_,f3,f4,f5⟩:=hf b hb
  exact⟨f3,f1,f4,f5⟩
 ·rw[aY (PY b u e)];exact n
 ·rw[aY (hna b _ e)];exact e
 ·rw[aY (hna b _ e)];exact e
 ·rw[aY (hna b _ e),e];simp
 ·obtain⟨ob,es,ep,ho,r⟩:=hm
  exact⟨ob,es,ep,k _ ob (λz=>(hf _ z).2.1 rfl) ho,r⟩
 ·by_cases hb:b=a
  ·subst hb
   rw[ay] at e
   cases e
   exact new
  ·rw[aY hb] at e
   refine(I.hok b u e).stay (λc v hc q=>k c v ?_ q) (λc q=> ?_) λc xs q=> ?_
   ·rcases hc with z | z
    ·rw[z];exact O6 b u e
    ·exact O6 c _ z
   ·rw[aY (hna c _ q)];exact q
   ·rw[aY (hna c _ q)];exact q
end
def Ite (K:Frag)(a:Addr)(n:Nat):It :=
 ⟨λi H=>i < n/\∃xs,eK K H a xs/\xs.length=n,λi H x H'=>∃t y,x= .ref t/\H t=none/\H'=upd H t (.tup [.int (i:Int),y])/\∀xs,eK K H a xs->xs[i]? =some y,λi H=>n<=i/\∃xs,eK K H a xs/\xs.length=n⟩
theorem Bq {P:Program}{w:World}{K:Frag}{elts:List Expr}{x1:Nat}{tp:Pos}(a e it:Addr)(n:Nat)(hei:e≠it) :
  Turn P w K (.Tuple elts x1 tp) (Ite K a n) [e,it] e (λi h=>i<=n/\(∃old,IsEnum h e it (i:Int) old)/\IsTupIter h it a i) where
 mem:=by simp
 obj:=λi h st b hb=>by
  obtain⟨_,⟨old,h1⟩,o,h2,_,h3⟩:=st
  rcases Kx.mp hb with z | z
  ·rw[z];exact⟨_,h1,λv z=>by cases z⟩
  ·rw[K7.mp z];exact⟨_,h2,λv z=>by rw[h3] at z;cases z⟩
 keep:=λi h h' st k=>by
  obtain⟨h0,⟨old,h1⟩,o,h2,h3⟩:=st
  exact⟨h0,⟨old,k e (by simp) _ h1⟩,o,k it (by simp) _ h2,h3⟩
 item:=by
  intro X hP hw hK hc i pins s σ H E I hf st hg;subst hP hw hK
  obtain⟨hi,xs,hq,hl⟩:=hg
  obtain⟨its,rv,pt,hz⟩:=I.tuple hq
  obtain⟨h0,⟨old,he⟩,hit⟩:=st
  have hlen:=rv.length
  obtain⟨ot,hot,hct,_⟩:=id pt
  have Od:e≠a:=λz=>by
   rw[z] at he
   have:=Option.some.inj (he.symm.trans hot)
   rw[←this] at hct;simp at hct
  have hai:a≠it:=λz=>by
   obtain⟨oi,hoi,Dj,_⟩:=hit
   rw[z] at hot
   have:=Option.some.inj (hot.symm.trans hoi)
   rw[←this,hct] at Dj;simp at Dj
  have hsz:its.toArray.size=n:=by rw[Kz];omega
  have D:=tJ (prog:=X.prog) (w:=X.w) (A:=X.A.in1) (I.ok.hd hc) it a hai its.toArray
  rw[hsz] at D
  refine wpAny_pyNext_enum_itemD (fp:=[it,a]) D he ⟨hit,pt⟩ hi hei (by simp[hei,Od]) λx h1 tk hx heo hst ht hz1 hk=> ?_
  refine⟨_,rfl,wpAny_letOwnedTupleGo_enum heo λh2 he2 hs2=> ?_⟩
  have hx':its[i]? =some x:=by simpa using hx
  obtain⟨y,hy,ry⟩:∃y,xs[i]? =some y/\RelV y x:=by
   have hy:xs[i]? =some (xs[i]'(!1)):=K5 _
   obtain⟨u,hu,ru⟩:=rv.get hy
   rw[hx'] at hu;cases hu
   exact⟨_,hy,ru⟩
  have hel:e < s.heap.objs.size:=KJ he
  have Df:h2.get? s.heap.objs.size=some {cls:=.type "tuple",data:=.seq #[.int (i:Int) tk,x]}:=(hs2.2 _ (Y5 hel)).trans ht
  have hk2:∀b o,b∉[e,it]->s.heap.get? b=some o->h2.get? b=some o:=λb o hb hbo=>by
   have hbe:b≠e:=λz=>hb (by simp[z])
   have hbi:b≠it:=λz=>hb (by simp[z])
   exact(hs2.2 b hbe).trans (hk b o hbe hbi hbo)
  refine⟨.ref s.heap.objs.size,upd H s.heap.objs.size (.tup [.int (i:Int),y]),I.Ah (fp:=[e,it]) (t':=tk+1) (K0 _) hk2 hf ⟨show 2<=sizeLine by decide,[.int (i:Int) tk,x],.cons ⟨tk,rfl⟩ (.cons ry .nil),_,Df,rfl,_,rfl⟩,rfl,
   ⟨s.heap.objs.size,y,rfl,I.fresh,rfl,λys hy'=>by rw[I.nL hy' hq];exact hy⟩,⟨by omega,⟨x,by simpa using he2⟩,?_⟩,λb hb=> ?_⟩
  ·obtain⟨oi,hoi,r⟩:=hst.1
   exact⟨oi,(hs2.2 it (Ne.symm hei)).trans hoi,r⟩
  ·have hb0:=(hf b hb).1
   have hbn:b≠s.heap.objs.size:=λz=>by
    rcases Kx.mp hb with q | q
    ·rw[←q,z] at hel;exact absurd hel (U2 _)
    ·obtain⟨oi,hoi,_⟩:=hit
     rw[←K7.mp q,z] at hoi
     exact absurd (KJ hoi) (U2 _)
   rw[aY hbn];exact hb0
 done:=by
  intro X hP hw hK hc i pins s σ H E I hf st hg;subst hP hw hK
  obtain⟨h0,⟨old,he⟩,hit⟩:=st
  obtain⟨hg,xs,hq,hl⟩:=hg
  have hi:i=n:=Nat.le_antisymm h0 hg
  subst hi
  obtain⟨its,rv,pt,hz⟩:=I.tuple hq
  have hlen:=rv.length
  obtain⟨ot,hot,hct,_⟩:=id pt
  have hai:a≠it:=λz=>by
   obtain⟨oi,hoi,Dj,_⟩:=hit
   rw[z] at hot
   have:=Option.some.inj (hot.symm.trans hoi)
   rw[←this,hct] at Dj;simp at Dj
  have hsz:its.toArray.size=i:=by rw[Kz];omega
  have D:=tJ (prog:=X.prog) (w:=X.w) (A:=X.A.in1) (I.ok.hd hc) it a hai its.toArray
  rw[hsz] at D
  obtain⟨f0,f1,f2,f3,f4,f5⟩:=hf it (by simp)
  exact wpAny_pyNext_enum_endD (fp:=[it,a]) D he ⟨hit,pt⟩ λh' eb=>⟨rfl,I.turned (t':=s.toks) (λb o hb q=>eb b o hb q) f0 f1 f3 f4 f5⟩
 self:=λA i s Q E st h=>by
  obtain⟨_,⟨old,he⟩,_⟩:=st
  exact lN he h
section
variable {X:Cx}{K:Frag}{Ew:Str->Hp->Prop}{pos p tp:Pos}{elts:List Expr}{x1:Nat}{a:Expr}{ta:TE}{fa:EF}
def Oe (K:Frag)(ta:TE):TI:=λσ H R=>ta σ H λx H1=>∃q xs,x= .ref q/\eK K H1 q xs/\R (Ite K q xs.length) H1
theorem FZ (hg:Gl X "enumerate")(hm:X.mg "enumerate" =none)(ha:PE X a ta)(hs:starEach [a] X.env=[(false,eval a X.env)]:=by rfl):PI X (.Tuple elts x1 tp) (.Call (.Name "enumerate" p) [a] [] pos) (Oe X.K ta):=by
 intro pins s σ H R I h
 refine Call_ (gO I hg hm PyProof.Rows.boot_enumerate (PyProof.Rows.callWith_type1 (di (b_ ha dS hs pos pins s σ H (λvs H1=>match vs with
  | [x]=>∃q xs,x= .ref q/\eK X.K H1 q xs/\R (Ite X.K q xs.length) H1
  | _=>False) I h) λus s1 ⟨vs,H1,I1,r1,q1⟩=> ?_) hs rfl))
 match vs,r1,q1 with
 | [x],r1,q1=>
  obtain⟨q,xs,rfl,hq,fin⟩:=q1
  obtain⟨u,rfl,ru⟩:=r1.one
  cases ru
  obtain⟨its,rv,pl,hz⟩:=I1.tuple hq
  refine Bp pl λh' he hit hk=> ?_
  have I2:Inv X pins σ H1 {s1 with heap:=h',toks:=s1.toks}:=I1.kept (t':=s1.toks) hk
  refine lN he ⟨s1.heap.objs.size+1,[s1.heap.objs.size+1,s1.heap.objs.size],_,_,H1,rfl,I2,Bq q (s1.heap.objs.size+1) s1.heap.objs.size xs.length (Y5 (Y9 _)),⟨Xq _,⟨.none,he⟩,hit⟩,λb hb=> ?_,fin⟩
  rcases Kx.mp hb with z | z
  ·rw[z];exact I1.pR (Yy _) (I1.hok.fresh (Yy _))
  ·rw[K7.mp z];exact I1.pR (K0 _) I1.fresh
 | [],r1,q1=>exact False.elim q1
 | _ :: _ :: _,r1,q1=>exact False.elim q1
theorem jM:∀(n:Nat) (ds:List PyData) (i:Nat),(dC n ds)[i]? =(ds[i]?).map λd=>PyData.tuple [.int ((n+i:Nat):Int),d]
 | n,[],i=>by simp[dC]
 | n,d :: ds,0=>by simp[dC]
 | n,d :: ds,i+1=>by
  rw[dC,Jv,Jv,jM (n+1) ds i]
  rw[show n+1+i=n+(i+1) by omega]
theorem c_:∀(n:Nat) (ds:List PyData),(dC n ds).length=ds.length
 | n,[]=>rfl
 | n,d :: ds=>by rw[dC,Kj,c_,Kj]
theorem Br {B:Hp}{a:Addr}{vs:List V}{ds:List PyData}(h:eK K B a vs)(t:ax K B ds vs):wg K B (Ite K a vs.length) (dC 0 ds) where
 go:=λi H hi s=>by
  have hl:=am t
  rw[c_] at hi
  exact⟨by omega,vs,s.mj h,rfl⟩
 yl:=λi H x H' hi s y=>by
  obtain⟨tt,y,rfl,hn,rfl,hy⟩:=y
  have hl:=am t
  rw[c_] at hi
  obtain⟨d,e,hd⟩:=iq t (hy vs (s.mj h))
  refine⟨Same.upd hn,.tuple [.int (i:Int),d],by rw[jM,e,JK];rfl,λB2 s2 hb=> ?_⟩
  exact uy (eK.of (hb tt _ hn ay)) (a_ bP (a_ (aK.same s2 _ _ hd) bn))
 stop:=λH s=>by
  refine⟨?_,vs,s.mj h,rfl⟩
  rw[c_,am t];exact K0 _
theorem Ai (hg:Gl X "enumerate")(hm:X.mg "enumerate" =none)(ha:DE X K Ew a fa)(hK:X.K=K:=by rfl)(hs:starEach [a] X.env=[(false,eval a X.env)]:=by rfl):DI X K Ew (.Tuple elts x1 tp) (.Call (.Name "enumerate" p) [a] [] pos) (uw fa) :=
 (FZ hg hm ha hs).imp λσ H R q=>pE (g:=λx _=>Fy x.1 x.2) q λB φ Γ k d v H1 r s av q=>by
  replace q:yH K Ew B H Γ σ R (Fy k d):=q
  cases d <;> try (exact False.elim q)
  rename_i ds
  obtain⟨B1,ψ,s1,r1,hd⟩:=r.lZ av
  obtain⟨a,vs,rfl,h1,h2⟩:=aL hd
  rw[hK]
  exact⟨a,vs,rfl,r1.bs.mj h1,q _ H1 B1 ψ s s1 r1 (Br h1 h2)⟩
end
end L2
namespace Y
open PySem
def Jo (k:Kd):PyData->M (Kd×List PyData)
 | .list ds=>ah (k,dC 0 ds)
 | _=>none
def ic (e:EF):IF:=λΓ=>ao (e Γ) λx=>Jo x.1 x.2
end Y
namespace L2
open PySem PySem.Spec PyProof.Rows Y
open AutoSeq1 (wpAny_loadPart') in
theorem Dk (l:Addr)(items:Array Value)(n:Nat)(dct:Option Addr)(sl:Array (Option Value)) :
  Meets (Builtin.«enumerate.__new__» ⟨[.type "enumerate",.ref l],[]⟩) (λ_ R s=>s.heap.get? l=some {cls:=.type "list",dict:=dct,data:=.seq items n,slots:=sl}/\
   R (.ok (.ret (.ref (s.heap.push {cls:=.type "list_iterator",data:=.fields #[.ref l,.int 0 0]}).objs.size)))
    {s with heap:=(s.heap.push {cls:=.type "list_iterator",data:=.fields #[.ref l,.int 0 0]}).push {cls:=.type "enumerate",data:=.fields #[.none,.bool false,.ref s.heap.objs.size,rawInt 0,.none,.none]}}) :=
 .of_wp λprog w A R s h=>by
  obtain⟨hp,g,d,tk,os⟩:=s;obtain⟨hl,h⟩:=h;have hsub:=sub_enumerate
  have hL:Heap.IsList (Shared.heap ⟨hp,g,d,tk,os⟩) l items:=⟨_,hl,rfl,n,rfl⟩
  wp_walk using wpAny_loadPart' hl
  refine wpAny_stack_any λst=>Z6 ?_
  split
  ·rename_i c _ _ _ _ _
   cases(c==Value.type "enumerate") <;> (wp_walk using wpAny_loadPart' hl,wpAny_pyIter_list hL;exact⟨_,rfl,h⟩)
  ·(wp_walk using wpAny_loadPart' hl,wpAny_pyIter_list hL;exact⟨_,rfl,h⟩)
section
variable {prog:Program}{w:World}{A:Around}{E:Zu}{s:Shared}
theorem yS (hL:s.heap.IsList l items)
  (h:∀h',IsEnum h' (s.heap.objs.size+1) s.heap.objs.size 0 .none->h'.IsListIter s.heap.objs.size l 0->(∀b o,s.heap.get? b=some o->h'.get? b=some o)->Q (.ref (s.heap.objs.size+1)) {s with heap:=h'}) :
  wpAny (!4) A (call (.type "enumerate") [.ref l]) Q E s:=by
 obtain⟨⟨c,dct,dt,sl⟩,hl,hc,n,hd⟩:=hL
 replace hc:c= .type "list":=hc
 replace hd:dt= .seq items n:=hd
 subst hc hd
 refine callType_new F.called_enumerate (!8) (F.typeCall_enumerate_1 _) (F.newCall_enumerate_1 _) (λobj=>F.args_object_init_2 obj _) F.entry_enumerate_new (Dk l items n dct sl) ⟨hl,?_⟩
 have hz:(s.heap.push {cls:=.type "list_iterator",data:=.fields #[.ref l,.int 0 0]}).objs.size=s.heap.objs.size+1:=Uk ..
 show _/\_;rw[hz]
 have he:IsEnum ((s.heap.push {cls:=.type "list_iterator",data:=.fields #[.ref l,.int 0 0]}).push {cls:=.type "enumerate",data:=.fields #[.none,.bool false,.ref s.heap.objs.size,rawInt 0,.none,.none]}) (s.heap.objs.size+1) s.heap.objs.size 0 .none:=by
  have:=Kv (s.heap.push {cls:=.type "list_iterator",data:=.fields #[.ref l,.int 0 0]}) (o:={cls:=.type "enumerate",data:=.fields #[.none,.bool false,.ref s.heap.objs.size,rawInt 0,.none,.none]}) rfl
  rw[hz] at this;exact this
 exact⟨⟨_,he,rfl⟩,h _ he ⟨_,K4 _ (Kv _ rfl),rfl,rfl⟩ λb o x=>K4 _ (K4 _ x)⟩
end
noncomputable def F0 (K:Frag)(a:Addr)(n:Nat):It :=
 ⟨λi H=>i < n/\∃xs,fU K H a xs/\xs.length=n,λi H x H'=>∃t y,x= .ref t/\H t=none/\H'=upd H t (.tup [.int (i:Int),y])/\∀xs,fU K H a xs->xs[i]? =some y,λi H=>n<=i/\∃xs,fU K H a xs/\xs.length=n⟩
theorem yT {P:Program}{w:World}{K:Frag}{elts:List Expr}{x1:Nat}{tp:Pos}(a e it:Addr)(n:Nat)(hei:e≠it) :
  Turn P w K (.Tuple elts x1 tp) (F0 K a n) [e,it] e (λi h=>i<=n/\(∃old,IsEnum h e it (i:Int) old)/\h.IsListIter it a i) where
 mem:=by simp
 obj:=λi h st b hb=>by
  obtain⟨_,⟨old,h1⟩,o,h2,_,h3⟩:=st
  rcases Kx.mp hb with z | z
  ·rw[z];exact⟨_,h1,λv z=>by cases z⟩
  ·rw[K7.mp z];exact⟨_,h2,λv z=>by rw[h3] at z;cases z⟩
 keep:=λi h h' st k=>by
  obtain⟨h0,⟨old,h1⟩,o,h2,h3⟩:=st
  exact⟨h0,⟨old,k e (by simp) _ h1⟩,o,k it (by simp) _ h2,h3⟩
 item:=by
  intro X hP hw hK hc i pins s σ H E I hf st hg;subst hP hw hK
  obtain⟨hi,xs,hq,hl⟩:=hg
  obtain⟨its,rv,Of,hz⟩:=I.list hq
  have pt:=Of.isList
  obtain⟨h0,⟨old,he⟩,hit⟩:=st
  have hlen:=rv.length
  obtain⟨ot,hot,hct,_⟩:=id pt
  have Od:e≠a:=λz=>by
   rw[z] at he
   have:=Option.some.inj (he.symm.trans hot)
   rw[←this] at hct;simp at hct
  have hai:a≠it:=λz=>by
   obtain⟨oi,hoi,Dj,_⟩:=hit
   rw[z] at hot
   have:=Option.some.inj (hot.symm.trans hoi)
   rw[←this,hct] at Dj;simp at Dj
  have hsz:its.toArray.size=n:=by rw[Kz];omega
  have D:=Draws.list (prog:=X.prog) (w:=X.w) (A:=X.A.in1) (I.ok.hd hc) it a hai its.toArray
  rw[hsz] at D
  refine wpAny_pyNext_enum_itemD (fp:=[it,a]) D he ⟨hit,pt⟩ hi hei (by simp[hei,Od]) λx h1 tk hx heo hst ht hz1 hk=> ?_
  refine⟨_,rfl,wpAny_letOwnedTupleGo_enum heo λh2 he2 hs2=> ?_⟩
  have hx':its[i]? =some x:=by simpa using hx
  obtain⟨y,hy,ry⟩:∃y,xs[i]? =some y/\RelV y x:=by
   have hy:xs[i]? =some (xs[i]'(!1)):=K5 _
   obtain⟨u,hu,ru⟩:=rv.get hy
   rw[hx'] at hu;cases hu
   exact⟨_,hy,ru⟩
  have hel:e < s.heap.objs.size:=KJ he
  have Df:h2.get? s.heap.objs.size=some {cls:=.type "tuple",data:=.seq #[.int (i:Int) tk,x]}:=(hs2.2 _ (Y5 hel)).trans ht
  have hk2:∀b o,b∉[e,it]->s.heap.get? b=some o->h2.get? b=some o:=λb o hb hbo=>by
   have hbe:b≠e:=λz=>hb (by simp[z])
   have hbi:b≠it:=λz=>hb (by simp[z])
   exact(hs2.2 b hbe).trans (hk b o hbe hbi hbo)
  refine⟨.ref s.heap.objs.size,upd H s.heap.objs.size (.tup [.int (i:Int),y]),I.Ah (fp:=[e,it]) (t':=tk+1) (K0 _) hk2 hf ⟨show 2<=sizeLine by decide,[.int (i:Int) tk,x],.cons ⟨tk,rfl⟩ (.cons ry .nil),_,Df,rfl,_,rfl⟩,rfl,
   ⟨s.heap.objs.size,y,rfl,I.fresh,rfl,λys hy'=>by rw[I.vR hy' hq];exact hy⟩,⟨by omega,⟨x,by simpa using he2⟩,?_⟩,λb hb=> ?_⟩
  ·obtain⟨oi,hoi,r⟩:=hst.1
   exact⟨oi,(hs2.2 it (Ne.symm hei)).trans hoi,r⟩
  ·have hb0:=(hf b hb).1
   have hbn:b≠s.heap.objs.size:=λz=>by
    rcases Kx.mp hb with q | q
    ·rw[←q,z] at hel;exact absurd hel (U2 _)
    ·obtain⟨oi,hoi,_⟩:=hit
     rw[←K7.mp q,z] at hoi
     exact absurd (KJ hoi) (U2 _)
   rw[aY hbn];exact hb0
 done:=by
  intro X hP hw hK hc i pins s σ H E I hf st hg;subst hP hw hK
  obtain⟨h0,⟨old,he⟩,hit⟩:=st
  obtain⟨hg,xs,hq,hl⟩:=hg
  have hi:i=n:=Nat.le_antisymm h0 hg
  subst hi
  obtain⟨its,rv,Of,hz⟩:=I.list hq
  have pt:=Of.isList
  have hlen:=rv.length
  obtain⟨ot,hot,hct,_⟩:=id pt
  have hai:a≠it:=λz=>by
   obtain⟨oi,hoi,Dj,_⟩:=hit
   rw[z] at hot
   have:=Option.some.inj (hot.symm.trans hoi)
   rw[←this,hct] at Dj;simp at Dj
  have hsz:its.toArray.size=i:=by rw[Kz];omega
  have D:=Draws.list (prog:=X.prog) (w:=X.w) (A:=X.A.in1) (I.ok.hd hc) it a hai its.toArray
  rw[hsz] at D
  obtain⟨f0,f1,f2,f3,f4,f5⟩:=hf it (by simp)
  exact wpAny_pyNext_enum_endD (fp:=[it,a]) D he ⟨hit,pt⟩ λh' eb=>⟨rfl,I.turned (t':=s.toks) (λb o hb q=>eb b o hb q) f0 f1 f3 f4 f5⟩
 self:=λA i s Q E st h=>by
  obtain⟨_,⟨old,he⟩,_⟩:=st
  exact lN he h
section
variable {X:Cx}{K:Frag}{Ew:Str->Hp->Prop}{pos p tp:Pos}{elts:List Expr}{x1:Nat}{a:Expr}{ta:TE}{fa:EF}
def Mh (K:Frag)(ta:TE):TI:=λσ H R=>ta σ H λx H1=>∃q xs,x= .ref q/\fU K H1 q xs/\R (F0 K q xs.length) H1
theorem Dl (hg:Gl X "enumerate")(hm:X.mg "enumerate" =none)(ha:PE X a ta)(hs:starEach [a] X.env=[(false,eval a X.env)]:=by rfl):PI X (.Tuple elts x1 tp) (.Call (.Name "enumerate" p) [a] [] pos) (Mh X.K ta):=by
 intro pins s σ H R I h
 refine Call_ (gO I hg hm PyProof.Rows.boot_enumerate (PyProof.Rows.callWith_type1 (di (b_ ha dS hs pos pins s σ H (λvs H1=>match vs with
  | [x]=>∃q xs,x= .ref q/\fU X.K H1 q xs/\R (F0 X.K q xs.length) H1
  | _=>False) I h) λus s1 ⟨vs,H1,I1,r1,q1⟩=> ?_) hs rfl))
 match vs,r1,q1 with
 | [x],r1,q1=>
  obtain⟨q,xs,rfl,hq,fin⟩:=q1
  obtain⟨u,rfl,ru⟩:=r1.one
  cases ru
  obtain⟨its,rv,PZ,hz⟩:=I1.list hq
  have pl:=PZ.isList
  refine yS pl λh' he hit hk=> ?_
  have I2:Inv X pins σ H1 {s1 with heap:=h',toks:=s1.toks}:=I1.kept (t':=s1.toks) hk
  refine lN he ⟨s1.heap.objs.size+1,[s1.heap.objs.size+1,s1.heap.objs.size],_,_,H1,rfl,I2,yT q (s1.heap.objs.size+1) s1.heap.objs.size xs.length (Y5 (Y9 _)),⟨Xq _,⟨.none,he⟩,hit⟩,λb hb=> ?_,fin⟩
  rcases Kx.mp hb with z | z
  ·rw[z];exact I1.pR (Yy _) (I1.hok.fresh (Yy _))
  ·rw[K7.mp z];exact I1.pR (K0 _) I1.fresh
 | [],r1,q1=>exact False.elim q1
 | _ :: _ :: _,r1,q1=>exact False.elim q1
theorem yU {B:Hp}{a:Addr}{vs:List V}{ds:List PyData}(h:fU K B a vs)(t:ax K B ds vs):wg K B (F0 K a vs.length) (dC 0 ds) where
 go:=λi H hi s=>by
  have hl:=am t
  rw[c_] at hi
  exact⟨by omega,vs,s.seq h,rfl⟩
 yl:=λi H x H' hi s y=>by
  obtain⟨tt,y,rfl,hn,rfl,hy⟩:=y
  have hl:=am t
  rw[c_] at hi
  obtain⟨d,e,hd⟩:=iq t (hy vs (s.seq h))
  refine⟨Same.upd hn,.tuple [.int (i:Int),d],by rw[jM,e,JK];rfl,λB2 s2 hb=> ?_⟩
  exact uy (eK.of (hb tt _ hn ay)) (a_ bP (a_ (aK.same s2 _ _ hd) bn))
 stop:=λH s=>by
  refine⟨?_,vs,s.seq h,rfl⟩
  rw[c_,am t];exact K0 _
theorem mV (hg:Gl X "enumerate")(hm:X.mg "enumerate" =none)(ha:DE X K Ew a fa)(hK:X.K=K:=by rfl)(hs:starEach [a] X.env=[(false,eval a X.env)]:=by rfl):DI X K Ew (.Tuple elts x1 tp) (.Call (.Name "enumerate" p) [a] [] pos) (ic fa) :=
 (Dl hg hm ha hs).imp λσ H R q=>pE (g:=λx _=>Jo x.1 x.2) q λB φ Γ k d v H1 r s av q=>by
  replace q:yH K Ew B H Γ σ R (Jo k d):=q
  cases d <;> try (exact False.elim q)
  rename_i ds
  obtain⟨B1,ψ,s1,r1,hd⟩:=r.lZ av
  obtain⟨a,vs,rfl,h1,h2⟩:=a8 hd
  rw[hK]
  exact⟨a,vs,rfl,r1.bs.seq h1,q _ H1 B1 ψ s s1 r1 (yU h1 h2)⟩
end
noncomputable def L4 (m:Nat):List Nat:=[0,1,2,3].filter λk=>m.testBit k
noncomputable def kT (led:Bool)(m:Nat):SetTable:={mask:=7,place:=(L4 m).toArray,dummies:=#[],finger:=0,led:=led,moves:=0,plain:=true}
noncomputable def jl (f:Nat->Nat)(m:Nat):List (Int×Value):=(L4 m).map λ(k:Nat)=>((k:Int),Value.int (k:Int) (f k))
def qu (led:Bool)(h:Heap)(a:Addr)(m:Nat):Prop:=m < 16/\∃o ep f,h.get? a=some o/\o.ExactSet/\o.data= .set (jl f m).toArray ep (kT led m)
theorem c16:∀m,m < 16->m=0∨m=1∨m=2∨m=3∨m=4∨m=5∨m=6∨m=7∨m=8∨m=9∨m=10∨m=11∨m=12∨m=13∨m=14∨m=15:=by decide
theorem Bs (led:Bool):∀m < 16,∀(k:Nat),k < 4->m.testBit k=false->(kT led m).freeSlot (k:Int)=some (k,false):=by cases led <;> decide+kernel
theorem Dm (led:Bool):∀m < 16,∀k < 4,m.testBit k=false->(kT led m).put k=(kT led (m ||| 2^k),((L4 m).filter (· < k)).length):=by cases led <;> decide+kernel
theorem nY (led:Bool):∀m < 16,(kT led m).fits (L4 m).length=true:=by cases led <;> decide+kernel
theorem Dn (led:Bool):∀m < 16,(kT led m).tooFull=false:=by cases led <;> decide+kernel
theorem O7:∀m < 16,∀k < 4,m ||| 2^k < 16:=by decide+kernel
theorem Jp:∀m < 16,∀k < 4,m.testBit k=true->m ||| 2^k=m:=by decide+kernel
theorem Hr:∀(k:Nat),k < 4->hashInt ((k:Nat):Int)=(k:Int):=by decide+kernel
theorem Mi (h:k∈L4 m):k < 4:=by
 have:=(Ux.mp h).1
 simp only[Kx,List.not_mem_nil,or_false] at this
 omega
theorem Og (f:Nat->Nat)(m k t:Nat)(hm:m < 16)(hk:k < 4)(h:m.testBit k=false) :
  SetTable.insertAt (jl f m).toArray ((L4 m).filter (· < k)).length ((k:Int),Value.int (k:Int) t)=(jl (λj=>if j=k then t else f j) (m ||| 2^k)).toArray:=by
 have hm':=c16 m hm
 have hk':k=0∨k=1∨k=2∨k=3:=by omega
 rcases hk' with rfl | rfl | rfl | rfl <;> rcases hm' with rfl | rfl | rfl | rfl | rfl | rfl | rfl | rfl | rfl | rfl | rfl | rfl | rfl | rfl | rfl | rfl <;> first | exact absurd h (!8) | rfl
section
variable {prog:Program}{w:World}{A:Around}{E:Zu}{s:Shared}{led:Bool}{a:Addr}{m:Nat}
theorem Bt (f:Nat->Nat)(hm:m < 16):ElemsOf (intKind prog w) (jl f m):=λe he=>by
 obtain⟨k,hk,rfl⟩:=Ku.mp he
 exact⟨⟨(k:Int),intKind_is _ _ _ _,(Hr k (Mi hk)).symm⟩,rfl⟩
theorem Oh {k t:Nat}{Q:Bool->Shared->Prop}(hk:k < 4)(hS:qu led s.heap a m)
  (h:∀h',Heap.SameBut a s.heap h'->qu led h' a (m ||| 2^k)->∀b,Q b {s with heap:=h'}):wpAny (!4) A (setAddHashed a (.int (k:Int) t) (hashInt (k:Int))) Q E s:=by
 obtain⟨hm,o,ep,f,ho,hex,hd⟩:=hS
 have hel:ElemsOf (intKind prog w) (jl f m).toArray.toList:=Bt f hm
 have hlen:(jl f m).toArray.size=(L4 m).length:=by simp[jl]
 have h4:(L4 m).length<=4:=Xw _ _
 have hf:(kT led m).fits (jl f m).toArray.size=true:=by rw[hlen];exact nY led m hm
 have hsc:(Value.int (k:Int) t).scannable=true:=rfl
 have hb:(jl f m).toArray.size < scanBound:=by rw[hlen];exact XX h4 (!8)
 unfold setAddHashed setAddHashedIn
 refine Z1 (Z7 (wpAny_setState_of ho hd hf ?_));dsimp only
 rw[byScan_of (knd:=intKind prog w) hsc hb hel,Z4 rfl]
 unfold setAddByScan
 refine Z7 (Z7 (wpAny_rule (Z7 (wpAny_setScan_of (knd:=intKind prog w) (k:=(k:Int)) (intKind_is _ _ _ _) ho hd hf hel ?_))))
 have hfi:(jl f m).toArray.toList.findIdx? (λe=>(intKind prog w).is (k:Int) e.2)=if m.testBit k=true then some ((L4 m).findIdx (· ==k)) else none:=by
  have hm':=c16 m hm
  have hk':k=0∨k=1∨k=2∨k=3:=by omega
  clear h hd hf hb hel hlen h4
  rcases hk' with rfl | rfl | rfl | rfl <;> rcases hm' with rfl | rfl | rfl | rfl | rfl | rfl | rfl | rfl | rfl | rfl | rfl | rfl | rfl | rfl | rfl | rfl <;> rfl
 rw[hfi]
 cases hb:m.testBit k with
 | true=>
  simp only[if_true]
  refine Z6 (Z6 ?_)
  have:=h s.heap (Heap.SameBut.refl a s.heap) (by rw[Jp m hm k hk hb];exact⟨hm,o,ep,f,ho,hex,hd⟩) false
  exact this
 | false=>
  simp only[XW,if_false]
  rw[Hr k hk]
  have hlay:layNew (kT led m) (jl f m).toArray (k:Int) (.int (k:Int) t)=((jl (λj=>if j=k then t else f j) (m ||| 2^k)).toArray,kT led (m ||| 2^k),false,false):=by
   have hfit:=nY led (m ||| 2^k) (O7 m hm k hk)
   have hl2:(jl (λj=>if j=k then t else f j) (m ||| 2^k)).toArray.size=(L4 (m ||| 2^k)).length:=by simp[jl]
   unfold layNew
   rw[Bs led m hm k hk hb]
   dsimp only
   rw[Dm led m hm k hk hb]
   dsimp only
   rw[Og f m k t hm hk hb,SetTable.orStandIn,hl2,hfit]
   rfl
  rw[hlay]
  dsimp only
  have hm2:=O7 m hm k hk
  have hfew:=Dn led (m ||| 2^k) hm2
  have hl2:(jl (λj=>if j=k then t else f j) (m ||| 2^k)).toArray.size<=sizeLine:=by
   refine Kw (show _<=4 from ?_) (!8)
   simp only[jl,Kz,K6]
   exact Xw _ _
  have hpl:(kT led (m ||| 2^k)).plain=true:=rfl
  rw[Z4 hpl,hashByValue_scannable 8 hsc]
  refine Z7 (Z6 (Z7 (Z6 ?_)))
  show wpAny _ A (storeSet a _ (kT led (m ||| 2^k)) >>=_) _ _ _
  refine Z7 (wpAny_storeSet_of ho hd ?_ hl2)
  show wpAny _ A (if (!false && (kT led (m ||| 2^k)).tooFull)=true then _ else _) _ _ _
  rw[hfew]
  refine Z6 (Z6 ?_)
  refine h _ (Heap.SameBut.update s.heap a _) ⟨hm2,{o with data:=.set (jl (λj=>if j=k then t else f j) (m ||| 2^k)).toArray (ep+1) (kT led (m ||| 2^k))},ep+1,λj=>if j=k then t else f j,?_,hex,rfl⟩ true
  have hu:=Xv (Obj.putSet (jl (λj=>if j=k then t else f j) (m ||| 2^k)).toArray (kT led (m ||| 2^k))) ho (by rw[putSet_of _ _ hd];rfl)
  rw[putSet_of _ _ hd] at hu
  exact hu
end
noncomputable def o0 (val:Nat->Nat):Nat->Nat->Nat->Nat
 | 0,_,m=>m
 | c+1,i,m=>o0 val c (i+1) (m ||| 2^val i)
section
variable {prog:Program}{w:World}{A:Around}{E:Zu}{s:Shared}{R:Result->Shared->Prop}{I:Addr}{fp wr:List Addr}{G:Array GenState->Array GenState->Prop}{n:Nat}{P:Nat->Value->Prop}{St:Nat->Shared->Prop}{led:Bool}
theorem qu.kept (hS:qu led h a m)(k:∀o,h.get? a=some o->h'.get? a=some o):qu led h' a m:=by
 obtain⟨hm,o,ep,f,ho,r⟩:=hS
 exact⟨hm,o,ep,f,k o ho,r⟩
theorem Mj (W:WalksS prog w A.in1 I fp wr G n P St)(S:Addr)(hSf:S∉fp)(val:Nat->Nat)(hval:∀i v,P i v->val i < 4/\∃t,v= .int (val i:Int) t) :
  ∀(c i m:Nat) (s:Shared),n - i=c->i<=n->St i s->qu led s.heap S m->(∀s',Moved (S :: wr) G s s'->qu led s'.heap S (o0 val c i m)->R (.ok (.ret .none)) s')->
   codeAny (!4) A (.builtin "set.update.loop" ⟨[.ref S,.ref I],[]⟩) R s:=by
 have hSw:S∉wr:=λh=>hSf (W.sub _ h)
 have up:∀b∈wr,b∈S :: wr:=λb hb=>K8 _ hb
 intro c;induction c with
 | zero=>
  intro i m s hc hi hst hS hR
  obtain rfl:i=n:=by omega
  refine codeAny_builtin F.entry_set_update_loop ?_;rw[Around.under_plainId F.plain_set_update_loop _]
  refine Z7 (m:=pyNext (.ref I)) (W.done s _ _ hst λs' hm=> ?_)
  exact Z6 (hR s' (hm.mono up) (hS.kept λo e=>hm.heap S o hSw e))
 | succ c ih=>
  intro i m s hc hi hst hS hR
  refine codeAny_builtin F.entry_set_update_loop ?_;rw[Around.under_plainId F.plain_set_update_loop _]
  refine Z7 (m:=pyNext (.ref I)) (W.item i s _ _ (!1) hst λv s' hP hst' hm=> ?_)
  obtain⟨hlt,t,rfl⟩:=hval i v hP
  have hS':=hS.kept (h':=s'.heap) λo e=>hm.heap S o hSw e
  refine Z7 (m:=holding [Value.int (val i:Int) t] (setAdd S (.int (val i:Int) t))) (Z1 ?_)
  unfold setAdd
  refine Z1 (Z7 ((intKind prog w).pyHash (k:=(val i:Int)) (intKind_is _ _ _ _) ?_))
  refine Oh (s:={s' with toks:=s'.toks+1}) hlt hS' λh' sb hS2 b=> ?_
  refine Z6 ⟨plainId_quiet F.plain_set_update_loop _,ih (i+1) _ _ (!1) (!1) (W.frame _ s' _ _ hst' (Yy _) λb hb o e=> ?_) hS2 λs'' hm'' hS''=> ?_⟩
  ·rw[sb.2 b (λz:b=S=>hSf (z ▸ hb))];exact e
  ·refine hR s'' (Moved.trans W.gtrans ((hm.mono up).then_heap (Yy _) λb o hb e=> ?_) hm'') hS''
   rw[sb.2 b (λz:b=S=>hb (z ▸ K9))];exact e
noncomputable def qv (w:World):Bool:=!w.params.followText "set-order"
noncomputable def qw (w:World):Obj:={cls:=.type "set",dict:=none,data:=.set #[] 0 (.fresh 0 0 (qv w))}
theorem Jr (e:h.get? a=some (qw w)):qu (qv w) h a 0:=⟨by decide,qw w,0,λ_=>0,e,⟨rfl,rfl,rfl⟩,rfl⟩
theorem Js (a:Value)(h:Q₁ (.ref s.heap.objs.size) {s with heap:=s.heap.push (qw w)}) :
  codeAny (!4) A (.call (.builtin "set.__new__") ⟨[.type "set",a],[]⟩) (wants Q₁ E) s:=by
 refine codeAny_of_tree ?_
 show wpAny _ A.in1 (checkBuiltinCall "set.__new__" ⟨[.type "set",a],[]⟩ >>=λ_=>again (.builtin "set.__new__" ⟨[.type "set",a],[]⟩)) _ _ s
 refine Z7 (wpAny_of_eq (PySem.F.newCall_set_1 a) (Z6 ⟨plainId_quiet PySem.F.plain_set_new _,codeAny_builtin PySem.F.entry_set_new ?_⟩));rw[Around.under_plainId PySem.F.plain_set_new _]
 unfold Builtin.«set.__new__» Builtin.Frozenset.newClass
 have hsub:=sub_set_self
 obtain⟨hp,g,d,tk,os⟩:=s;dsimp only at h⊢;wp_walk
 refine wpAny_askSetting (Z6 ?_);dsimp only;simp only[newObj]
 exact Z7 (wpAny_alloc (Z6 (Z6 h)))
theorem Bu (hh:A.handled=none)(hl:s.heap.IsList l items)(hval:∀i v,items[i]? =some v->val i < 4/\∃t,v= .int (val i:Int) t)
  (h:∀(h':Heap) (tk:Nat),qu (qv w) h' s.heap.objs.size (o0 val items.size 0 0)->(∀b o,b < s.heap.objs.size->s.heap.get? b=some o->h'.get? b=some o)->Q (.ref s.heap.objs.size) {s with heap:=h',toks:=tk}) :
  wpAny (!4) A (call (.type "set") [.ref l]) Q E s:=by
 obtain⟨c,tl,hmro⟩:=PySem.F.called_set.mro;have hmade:=PySem.F.called_set.made;have hsub:=PySem.F.called_set.sub
 refine wpAny_call (codeAny_of_tree ?_)
 show wpAny _ _ (callAny (.type "set") _) _ _ _
 refine Z6 ⟨Code.quiet_builtin _ (!5),codeAny_builtin F.entry_type_call ?_⟩;rw[Around.under_plain (weight_type_call_type "set" [.ref l] []) rfl]
 have h1:=PySem.F.called_set.notType;have h2:=PySem.F.called_set.canCreate;have hct:=PySem.F.typeCall_set_1 (.ref l)
 (repeat (any_goals (first | assumption | wp_step)))
 refine codeAny_mono (Js (.ref l) (E:=E) (Q₁:=λobj s₁=>obj= .ref s.heap.objs.size/\s₁={s with heap:=s.heap.push (qw w)}) ⟨rfl,rfl⟩) λr s₁ hr=> ?_
 cases r with
 | error e=>exact hr
 | ok fl=>
  cases fl with
  | ret obj=>
   obtain⟨rfl,rfl⟩:=hr
   have hS:(s.heap.push (qw w)).get? s.heap.objs.size=some (qw w):=Kv _ rfl
   have hT:Shared.TypeIs {s with heap:=s.heap.push (qw w)} (.ref s.heap.objs.size) "set":=⟨_,hS,rfl⟩
   have hli:=PySem.F.called_set.init.lookup;have hbi:=PySem.F.called_set.init.bind (.ref s.heap.objs.size)
   (repeat (any_goals (first | assumption | wp_step)))
   refine codeAny_mono (codeAny_call_builtin (R:=wants (λr s₂=>r= .none/\∃h' tk,s₂={s with heap:=h',toks:=tk}/\qu (qv w) h' s.heap.objs.size (o0 val items.size 0 0)/\(∀b o,b < s.heap.objs.size->s.heap.get? b=some o->h'.get? b=some o)) E) PySem.F.called_set.init.plain PySem.F.entry_set_init (check_set_init_1 hT ?_)) λr₂ s₂ hr₂=> ?_
   ·have hl1:(s.heap.push (qw w)).IsList l items:=hl.push _
    obtain⟨ol,hol,hcl,nl,hdl⟩:=hl
    obtain⟨ocls,odict,odata,oslots⟩:=ol
    simp only at hcl hdl;subst hcl hdl
    have hol':(s.heap.push (qw w)).get? l=some {cls:=.type "list",dict:=odict,data:=.seq items nl,slots:=oslots}:=K4 _ hol
    have hsls:=PySem.F.sub_list_set;have hslf:=PySem.F.sub_list_frozenset
    have hne:(Value.type "list" ==Value.type "dict")=false:=by decide
    unfold Builtin.«set.__init__» noKeywords Builtin.Frozenset.updateFrom
    generalize hPI:pyIter=PI;wp_walk;subst hPI
    refine wpAny_pyIter_list hl1 (Z7 (wpAny_runValue ?_))
    have hlS:l < s.heap.objs.size:=KJ hol
    have hh3:A.in1.in1.in1.handled=none:=by simp[hh]
    have hneI:l≠(s.heap.push (qw w)).objs.size:=by rw[Uk];exact Xk (UZ hlS)
    have hSf:s.heap.objs.size∉[(s.heap.push (qw w)).objs.size,l]:=by
     rw[Uk];intro z;rcases Kx.mp z with z | z
     ·exact Xk (Y9 _) z
     ·exact Y5 hlS (K7.mp z)
    refine Mj ((Walks.list hh3 _ l hneI items).toS) s.heap.objs.size hSf val hval items.size 0 0 _ rfl (Xq _) ⟨⟨_,Kv _ rfl,rfl,rfl⟩,(hl1.push _)⟩ (Jr (K4 _ hS)) λs' hm hS'=> ?_
    obtain⟨h',g',d',tk',os'⟩:=s'
    obtain rfl:g'=s.gens:=hm.gens
    obtain rfl:d'=s.drawn:=hm.drawn
    obtain rfl:os'=s.os:=hm.os
    refine Z6 (Z6 ⟨rfl,h',tk',rfl,hS',λb o hb e=> ?_⟩)
    refine hm.heap b o (λz=> ?_) (K4 _ (K4 _ e))
    rcases Kx.mp z with z | z
    ·exact Xk hb z
    ·rw[Uk] at z;exact Xk (UZ hb) (K7.mp z)
   ·cases r₂ with
    | error e=>exact hr₂
    | ok fl₂=>
     cases fl₂ with
     | ret r=>
      obtain⟨rfl,h',tk,rfl,hS',hk'⟩:=hr₂
      (repeat (any_goals (first | assumption | wp_step)))
      exact h _ _ hS' hk'
     | _=>exact hr₂.elim
  | _=>exact hr.elim
end
theorem da:Slot "set_iterator" "__next__" "set_iterator.__next__" :=
 .of (owner:="set_iterator") (n:="__next__") (by(rw[typeLookup_type,builtinLookup_eq_fast]);kernel_rfl) (!5) (!5) (!5) (by first | exact .inl (!5) | exact .inr (!5)) (by(rw[isSubtype_type]);kernel_rfl)
theorem mW:entryFor table "set_iterator.__next__" =some Builtin.«set_iterator.__next__»:=entryFor_of_tree (by(kernel_rfl))
theorem Aj:Manifest.owners.lookup (String.ofList ['r','o','t','a','r','e','t','i','_','t','e','s'].reverse)=some Manifest.sig_set_iterator:=by(kernel_rfl)
theorem mX (a:Value):argsOk "set_iterator.__next__" ⟨[a],[]⟩:=by
 unfold argsOk;rw[signature?_of (id:="set_iterator.__next__") (n:=['_','_','t','x','e','n','_','_']) (o:=['r','o','t','a','r','e','t','i','_','t','e','s']) (by(kernel_rfl)) Aj];(kernel_rfl)
theorem l9:Slot "set_iterator" "__iter__" "set_iterator.__iter__" :=
 .of (owner:="set_iterator") (n:="__iter__") (by(rw[typeLookup_type,builtinLookup_eq_fast]);kernel_rfl) (!5) (!5) (!5) (by first | exact .inl (!5) | exact .inr (!5)) (by(rw[isSubtype_type]);kernel_rfl)
theorem uU (a:Value):argsOk "set_iterator.__iter__" ⟨[a],[]⟩:=by
 unfold argsOk;rw[signature?_of (id:="set_iterator.__iter__") (n:=['_','_','r','e','t','i','_','_']) (o:=['r','o','t','a','r','e','t','i','_','t','e','s']) (by(kernel_rfl)) Aj];(kernel_rfl)
theorem uV:entryFor table "set_iterator.__iter__" =some Builtin.«dict_keyiterator.__iter__» :=
 entryFor_alias (id':="dict_keyiterator.__iter__") (by(kernel_rfl)) (by first | rfl | decide+kernel | (unfold String.splitOn;simp+decide [String.splitOnAux])) (!5) (by(kernel_rfl))
theorem slot_set_iter:Slot "set" "__iter__" "set.__iter__" :=
 .of (owner:="set") (n:="__iter__") (by(rw[typeLookup_type,builtinLookup_eq_fast]);kernel_rfl) (!5) (!5) (!5) (by first | exact .inl (!5) | exact .inr (!5)) (by(rw[isSubtype_type]);kernel_rfl)
theorem F1:Manifest.owners.lookup (String.ofList ['t','e','s'].reverse)=some Manifest.sig_set:=by(kernel_rfl)
theorem uW (a:Value):argsOk "set.__iter__" ⟨[a],[]⟩:=by
 unfold argsOk;rw[signature?_of (id:="set.__iter__") (n:=['_','_','r','e','t','i','_','_']) (o:=['t','e','s']) (by(kernel_rfl)) F1];(kernel_rfl)
theorem uX:entryFor table "set.__iter__" =some Builtin.«frozenset.__iter__» :=
 entryFor_alias (id':="frozenset.__iter__") (by(kernel_rfl)) (by first | rfl | decide+kernel | (unfold String.splitOn;simp+decide [String.splitOnAux])) (!5) (by(kernel_rfl))
theorem uY:typeLookup (.type "set") "__len__" =pure (some (.builtin "set.__len__")):=by(rw[typeLookup_type,builtinLookup_eq_fast]);(kernel_rfl)
noncomputable def sg (w:World)(f:Nat->Nat)(m ep:Nat):Obj:={cls:=.type "set",dict:=none,data:=.set (jl f m).toArray ep (kT (qv w) m)}
noncomputable def mr (S:Addr)(slot i n ep:Nat):Obj:={cls:=.type "set_iterator",data:=.fields #[rawInt (slot:Int),rawInt (i:Int),.ref S,rawInt (n:Int),rawInt (ep:Int)]}
noncomputable def jN (w:World)(S:Addr)(f:Nat->Nat)(m ep:Nat):List (Int×Value):=if w.params.followText "set-order" =true then (pickOrder (w.params.setOrder S ep) (jl f m).toArray).toList else jl f m
noncomputable def slotAt (m:Nat):Nat->Nat
 | 0=>0
 | i+1=>(L4 m).getD i 0+1
noncomputable def fR (w:World)(m i:Nat):Nat:=if w.params.followText "set-order" =true then 0 else slotAt m i
theorem Jt:∀m < 16,∀i < 5,i<=(L4 m).length->SetTable.below (L4 m).toArray (slotAt m i)=i:=by decide+kernel
theorem qx {α:Type}:∀{l:List α} {i:Nat} (h:i < l.length),List.Perm (l[i] :: l.eraseIdx i) l
 | a :: l,0,_=>List.Perm.refl _
 | a :: l,i+1,h=>by
  rw[List.getElem_cons_succ,List.eraseIdx_cons_succ]
  exact(List.Perm.swap _ _ _).trans ((qx (by simpa using h)).cons a)
theorem Ak {α:Type}(next:Nat->Nat):∀(fuel k:Nat) (left:List α) (out:Array α),left.length=fuel->List.Perm (pickOrder.go next fuel k left out).toList (out.toList++left)
 | 0,k,left,out,h=>by
  have:left=[]:=YY.mp h
  subst this;simp[pickOrder.go]
 | fuel+1,k,left,out,h=>by
  have hlt:next k % left.length < left.length:=Nat.mod_lt _ (!1)
  have e:left[next k % left.length]? =some (left[next k % left.length]):=K5 hlt
  simp only[pickOrder.go,e]
  refine(Ak next fuel (k+1) _ _ (by rw[List.length_eraseIdx];simp[hlt];omega)).trans ?_
  rw[J7,X5]
  refine List.Perm.append_left _ ?_
  exact qx hlt
theorem lO (w:World)(S:Addr)(f:Nat->Nat)(m ep:Nat):List.Perm (jN w S f m ep) (jl f m):=by
 unfold jN;split
 ·have:=Ak (w.params.setOrder S ep) (jl f m).toArray.size 0 (jl f m).toArray.toList #[] (by simp)
  simpa [pickOrder] using this
 ·exact List.Perm.refl _
section
variable {prog:Program}{w:World}{A:Around}{E:Zu}{s:Shared}{S it:Addr}{f:Nat->Nat}{m ep i:Nat}
theorem lQ (hS:s.heap.get? S=some (sg w f m ep)):s.TypeIs (.ref S) "set":=⟨_,hS,rfl⟩
theorem iH (h:s.heap.get? it=some (mr S slot i n ep)):s.TypeIs (.ref it) "set_iterator":=⟨_,h,rfl⟩
theorem iI (hm:m < 16):(kT (qv w) m).fits (jl f m).toArray.size=true:=by
 have:(jl f m).toArray.size=(L4 m).length:=by simp[jl]
 rw[this];exact nY _ m hm
theorem Mk (hm:m < 16)(hS:s.heap.get? S=some (sg w f m ep))(h:Q (.ref s.heap.objs.size) {s with heap:=s.heap.push (mr S 0 0 (L4 m).length ep)}) :
  wpAny (!4) A (pyIter (.ref S)) Q E s:=by
 refine wpAny_pyIter_slot (lQ hS) slot_set_iter (Z0 slot_set_iter (lQ hS) uX ?_ (uW _))
 unfold Builtin.«frozenset.__iter__»
 refine Z7 (wpAny_of_eq (a:=S) rfl ?_)
 unfold Builtin.Frozenset.sizeOf setEntries
 refine Z7 (Z7 (Z7 (wpAny_setState_of hS rfl (iI hm) (Z6 (Z6 ?_)))))
 unfold setDrawn setsByText
 refine Z7 (Z7 (wpAny_setState_of hS rfl (iI hm) ?_));dsimp only
 refine Z7 (Z7 (wpAny_askSetting (Z6 (Z6 ?_))))
 split
 ·rename_i hc;exact(K3 ((Bool.and_false (!w.params.followText "set-order")).symm.trans hc)).elim
 refine Z7 (Z6 (Z7 (wpAny_setEpoch_of hS rfl (iI hm) ?_)))
 have hsz:(jl f m).toArray.size=(L4 m).length:=by simp[jl]
 rw[hsz]
 exact Z7 (Zk (Z6 ⟨_,rfl,"set_iterator",_,⟨_,Kv _ rfl,rfl⟩,da.lookup,h⟩))
theorem Dp (hit:s.heap.get? it=some (mr S slot i n ep))(h:Q (.ref it) s):wpAny (!4) A (pyIter (.ref it)) Q E s:=by
 refine wpAny_pyIter_slot (iH hit) l9 (Z0 l9 (iH hit) uV ?_ (uU _))
 show wpAny _ _ (ret (.ref it)) _ _ s;exact Z6 ⟨_,rfl,"set_iterator",_,iH hit,da.lookup,h⟩
theorem Hs (hm:m < 16)(hS:s.heap.get? S=some (sg w f m ep))(hi:i<=(L4 m).length)
  (h:Q (((jN w S f m ep)[i]?).map λe=>(e.2,fR w m (i+1))) s):wpAny (!4) A (setNext S (fR w m i) i ep) Q E s:=by
 unfold setNext
 refine Z7 (wpAny_setState_of hS rfl (iI hm) ?_);dsimp only
 unfold setsByText
 refine Z7 (Z7 (wpAny_askSetting (Z6 ?_)))
 cases hw:w.params.followText "set-order" with
 | true=>
  split
  ·split
   ·rename_i hc;exact absurd hc (by simp)
   ·unfold setWalk setsByText
    refine Z7 (Z7 (wpAny_setState_of hS rfl (iI hm) ?_));dsimp only
    refine Z7 (Z7 (wpAny_askSetting (Z6 ?_)))
    split
    ·refine Z7 (wpAny_askSetting (Z6 (Z6 ?_)))
     have e1:fR w m (i+1)=fR w m i:=by unfold fR;rw[Z4 hw,Z4 hw]
     rw[e1] at h;unfold jN at h;rw[Z4 hw,UJ] at h
     exact h
    ·rename_i hc;exact absurd hw hc
  ·rename_i hc;exact absurd hw hc
 | false=>
  split
  ·rename_i hc;exact absurd (hw.symm.trans hc) K3
  ·split
   ·rename_i hc;exact(K3 hc).elim
   ·refine Z7 ?_
    show wpAny _ _ (if (!(qv w) && _)=true then _ else _) _ _ _
    have hl:qv w=true:=by unfold qv;rw[hw];rfl
    split
    ·rename_i hc;rw[hl] at hc;exact(K3 hc).elim
    ·refine Z6 (Z6 ?_)
     have e0:fR w m i=slotAt m i:=by unfold fR;rw[Z5 (by rw[hw];exact K3)]
     have e1:fR w m (i+1)=slotAt m (i+1):=by unfold fR;rw[Z5 (by rw[hw];exact K3)]
     have h4:(L4 m).length<=4:=Xw _ _
     have eb:SetTable.below (kT (qv w) m).place (slotAt m i)=i:=Jt m hm i (!1) hi
     unfold jN at h;rw[Z5 (by rw[hw];exact K3),e1] at h
     rw[e0,eb]
     show Q (match (jl f m).toArray[i]?,(L4 m).toArray[i]? with
      | some (_,x),some j=>some (x,j+1)
      | _,_=>none) s
     rw[List.getElem?_toArray,List.getElem?_toArray]
     by_cases hlt:i < (L4 m).length
     ·have g1:(jl f m)[i]? =some (((L4 m)[i]:Int),Value.int ((L4 m)[i]:Int) (f (L4 m)[i])):=by
       unfold jl;rw[KZ,K5 hlt];rfl
      rw[g1] at h⊢
      rw[K5 hlt]
      have g2:slotAt m (i+1)=(L4 m)[i]+1:=by show(L4 m).getD i 0+1=_;rw[KW,K5 hlt];rfl
      rw[g2] at h
      exact h
     ·have g1:(jl f m)[i]? =none:=XY (by unfold jl;rw[K6];omega)
      rw[g1] at h⊢
      exact h
theorem Dq (hm:m < 16)(hn:n=(L4 m).length)(hne:it≠S)(hit:s.heap.get? it=some (mr S (fR w m i) i n ep))(hS:s.heap.get? S=some (sg w f m ep))(he:(jN w S f m ep)[i]? =some e)(hi:i<=n)
  (hQ:∀h',h'.get? it=some (mr S (fR w m (i+1)) (i+1) n ep)->Heap.SameBut it s.heap h'->Q (some e.2) {s with heap:=h'}):wpAny (!4) A (pyNext (.ref it)) Q E s:=by
 unfold pyNext
 refine Z7 (wpAny_attempt (wpAny_callSpecial?_slot (name:=Str.ofString "__next__") (iH hit) da (Z0 da (iH hit) mW ?_ (mX _))))
 unfold Builtin.«set_iterator.__next__»
 refine Z7 (wpAny_of_eq (a:=(Value.ref it,[])) rfl ?_);dsimp only
 refine Z7 (wpAny_fieldsOf hit rfl ?_)
 unfold setEntries
 refine Z7 (Z7 (wpAny_setState_of hS rfl (iI hm) (Z6 ?_)))
 have hsz:(jl f m).toArray.size=n:=by rw[hn];simp[jl]
 split
 ·rename_i hc;exact absurd hc (by simp[hsz])
 show wpAny _ _ (setNext S ((fR w m i:Nat):Int).toNat ((i:Nat):Int).toNat ((ep:Nat):Int).toNat >>=_) _ _ _
 rw[Ky,Ky,Ky]
 refine Z7 (Hs hm hS (hn ▸ hi) ?_);rw[he]
 refine Z7 (wpAny_setField hit rfl (by simp) ?_)
 have hit1:=Xv (Obj.mapFields (·.setIfInBounds 0 (rawInt ((fR w m (i+1):Nat):Int)))) hit rfl
 refine Z7 (wpAny_setField hit1 rfl (by simp) ?_)
 refine Z6 ⟨_,rfl,Z6 (hQ _ ?_ ((Heap.SameBut.update ..).trans (Heap.SameBut.update ..)))⟩
 exact Xv (Obj.mapFields (·.setIfInBounds 1 (rawInt ((i:Int)+1)))) hit1 rfl
theorem F2 (hh:A.handled=none)(hm:m < 16)(hn:n=(L4 m).length)(hit:s.heap.get? it=some (mr S (fR w m n) n n ep))(hS:s.heap.get? S=some (sg w f m ep))
  (hQ:∀h' tk,Heap.ExtBut it s.heap h'->Q none {s with heap:=h',toks:=tk}):wpAny (!4) A (pyNext (.ref it)) Q E s:=by
 unfold pyNext
 refine Z7 (wpAny_attempt (wpAny_callSpecial?_slot (name:=Str.ofString "__next__") (iH hit) da (Z0 da (iH hit) mW ?_ (mX _))))
 unfold Builtin.«set_iterator.__next__»
 refine Z7 (wpAny_of_eq (a:=(Value.ref it,[])) rfl ?_);dsimp only
 refine Z7 (wpAny_fieldsOf hit rfl ?_)
 unfold setEntries
 refine Z7 (Z7 (wpAny_setState_of hS rfl (iI hm) (Z6 ?_)))
 have hsz:(jl f m).toArray.size=n:=by rw[hn];simp[jl]
 split
 ·rename_i hc;exact absurd hc (by simp[hsz])
 show wpAny _ _ (setNext S ((fR w m n:Nat):Int).toNat ((n:Nat):Int).toNat ((ep:Nat):Int).toNat >>=_) _ _ _
 rw[Ky,Ky,Ky]
 have he:(jN w S f m ep)[n]? =none:=XY (by rw[(lO w S f m ep).length_eq,hn];simp[jl])
 refine Z7 (Hs hm hS (Nat.le_of_eq hn) ?_);rw[he]
 refine Z7 (wpAny_setField hit rfl (by simp) ?_)
 (first | show wpAny _ _ (newExc (.type "StopIteration") [] >>=_) _ _ _ | (wp_delta;show wpAny _ _ (newExc (.type "StopIteration") [] >>=_) _ _ _))
 refine Z7 ?_;simp only[newExc,newTuple];refine Z7 (Zk ?_ (by size_fits));refine Z7 (m:=firstArgMember _ _) (wpAny_of_eq (a:=Value.none) (by first | rfl | (simp only[firstArgMember];rfl)) ?_);refine Zk ?_ (by size_fits)
 simp only[raiseNew];refine Z7 (wpAny_handled ?_);(first | rw[show A.in1.handled=none from hh] | rw[hh])
 refine Z7 (Z6 (wpAny_throw ?_));refine Z7 (wpAny_isInstance (T:="StopIteration") (b:=true) ⟨_,Kv _ rfl,rfl⟩ isSubtype_stop ?_)
 exact Z6 (hQ _ _ (((Heap.SameBut.update ..).extBut.push _).push _))
theorem Ml (hh:A.handled=none)(hm:m < 16)(hne:it≠S):Walks prog w A it [it,S] [it] (L4 m).length (λi v=>∃e,(jN w S f m ep)[i]? =some e/\v=e.2)
  (λi h=>i<=(L4 m).length/\h.get? it=some (mr S (fR w m i) i (L4 m).length ep)/\h.get? S=some (sg w f m ep)) where
 sub:=λb hb=>by simp at hb;simp[hb]
 frame:=λ_ _ _ st hk=>⟨st.1,hk it (by simp) _ st.2.1,hk S (by simp) _ st.2.2⟩
 item:=λi s Q E hi st hQ=>by
  have hlt:i < (jN w S f m ep).length:=by rw[(lO w S f m ep).length_eq];simpa [jl] using hi
  have he:(jN w S f m ep)[i]? =some (jN w S f m ep)[i]:=K5 hlt
  refine Dq hm rfl hne st.2.1 st.2.2 he st.1 λh' hit' hs'=> ?_
  exact hQ _ h' s.toks ⟨_,he,rfl⟩ ⟨hi,hit',by rw[hs'.2 S (Ne.symm hne)];exact st.2.2⟩ λb o hb e=>hs'.extBut b o (λh=>hb (by simp[h])) e
 done:=λs Q E st hQ=>F2 hh hm rfl st.2.1 st.2.2 λh' tk he'=>hQ h' tk λb o hb e=>he' b o (λh=>hb (by simp[h])) e
 self:=λ_ _ _ _ st hQ=>Dp st.2.1 hQ
end
section
variable {prog:Program}{w:World}{A:Around}{E:Zu}{s:Shared}{S:Addr}{f:Nat->Nat}{m ep:Nat}
noncomputable def kb:Obj:={cls:=.type "list",data:=.seq ([]:List Value).toArray}
theorem yV (hh:A.handled=none)(hm:m < 16)(hS:s.heap.get? S=some (sg w f m ep))
  (hQ:∀h' tk,s.heap.objs.size < h'.objs.size->(∀b o,b < s.heap.objs.size->s.heap.get? b=some o->h'.get? b=some o)->Q ((jN w S f m ep).map Prod.snd) {s with heap:=h',toks:=tk}):wpAny (!4) A (collect (.ref S)) Q E s:=by
 have hSlt:S < s.heap.objs.size:=KJ hS
 have nI:s.heap.objs.size≠S:=Y5 hSlt
 unfold collect
 refine Z7 (wpAny_runValue (codeAny_builtin F.entry_proto_collect ?_));rw[Around.under_plainId F.plain_proto_collect _]
 show wpAny _ A.in1 (newList [] >>=λl=>again (.builtin "list.__iadd__" ⟨[l,.ref S],[]⟩)) _ _ s
 refine Z7 (Zk ?_);refine Z6 ⟨plainId_quiet F.plain_list_iadd _,codeAny_builtin F.entry_list_iadd ?_⟩;rw[Around.under_plainId F.plain_list_iadd _]
 have new1:(s.heap.push kb).get? s.heap.objs.size=some kb:=(Kv _ rfl)
 have hS1:(s.heap.push kb).get? S=some (sg w f m ep):=K4 _ hS
 have h1:Builtin.List.listSameRef (.ref s.heap.objs.size) (.ref S)=false:=by(simp[Builtin.List.listSameRef,nI])
 show wpAny _ A.in1 (Builtin.List.listExtendWith (.ref s.heap.objs.size) (.ref S) (.ref s.heap.objs.size)) _ _ {s with heap:=s.heap.push kb};unfold Builtin.List.listExtendWith
 have hT:Shared.TypeIs {s with heap:=s.heap.push kb} (.ref S) "set":=lQ (w:=w) (f:=f) (m:=m) (ep:=ep) (s:={s with heap:=s.heap.push kb}) hS1
 refine Z7 (wpAny_typeOf hT ?_)
 rw[Z5 (by rw[h1];decide)]
 refine Z7 (Mk (s:={s with heap:=s.heap.push kb}) hm hS1 ?_)
 have hS2:((s.heap.push kb).push (mr S 0 0 (L4 m).length ep)).get? S=some (sg w f m ep):=K4 _ hS1
 have hT2:Shared.TypeIs {s with heap:=(s.heap.push kb).push (mr S 0 0 (L4 m).length ep)} (.ref S) "set":=lQ (w:=w) (f:=f) (m:=m) (ep:=ep) (s:={s with heap:=(s.heap.push kb).push (mr S 0 0 (L4 m).length ep)}) hS2
 refine Z7 (Z1 ?_)
 unfold Builtin.List.listLengthHint
 refine Z7 (Zx hT2 uY ?_)
 generalize hid:("set.__len__":String)=id0
 wp_delta
 rw[show splitId id0=some ("set","__len__") from by subst hid;decide+kernel]
 subst hid
 refine Z7 (wpAny_isInstance (b:=true) hT2 (by rw[isSubtype_type];kernel_rfl) ?_)
 rw[Z5 (!8),Z4 (!5)]
 refine Z7 (wpAny_typeOf hT2 (Z6 ?_))
 rw[Z4 (!5)]
 refine Z7 (wpAny_rule (Z7 ?_))
 have new2:((s.heap.push kb).push (mr S 0 0 (L4 m).length ep)).get? s.heap.objs.size=some kb:=K4 _ new1
 show wpAny _ A.in1 (updateSeq s.heap.objs.size (·.push .none) >>=λ_=>updateSeq s.heap.objs.size (·.pop)) _ _ _
 refine Z7 (wpAny_updateSeq new2 rfl ?_)
 have Mn:=Xv (Obj.mapSeq (·.push Value.none)) new2 rfl
 refine wpAny_updateSeq Mn rfl ?_
 have Js:=Xv (Obj.mapSeq (·.pop)) Mn rfl
 have O8:s.heap.objs.size≠(s.heap.push kb).objs.size:=by rw[Uk];exact Xk (Y9 _)
 have P0:(s.heap.push kb).objs.size≠S:=by rw[Uk];exact Y5 (UZ hSlt)
 have P1:((s.heap.push kb).push (mr S 0 0 (L4 m).length ep)).get? (s.heap.push kb).objs.size=some (mr S 0 0 (L4 m).length ep):=Kv _ rfl
 have oth:∀b o,b≠s.heap.objs.size->((s.heap.push kb).push (mr S 0 0 (L4 m).length ep)).get? b=some o->((((s.heap.push kb).push (mr S 0 0 (L4 m).length ep)).update s.heap.objs.size (Obj.mapSeq (·.push Value.none))).update s.heap.objs.size (Obj.mapSeq (·.pop))).get? b=some o :=
  λb o hb e=>(J8 _ _ (Ne.symm hb)).trans ((J8 _ _ (Ne.symm hb)).trans e)
 have s0:fR w m 0=0:=by unfold fR slotAt;split <;> rfl
 have P4:(L4 m).length<=sizeLine:=Kw (Xw _ _) (!8)
 have nS:s.heap.objs.size∉[(s.heap.push kb).objs.size,S]:=λz=>by
  rcases Kx.mp z with z | z
  ·exact O8 z
  ·exact nI (K7.mp z)
 refine Z6 ⟨plainId_quiet F.plain_extend_loop _,codeAny_extend_loopS ((Ml (f:=f) (ep:=ep) (show A.in1.handled=none by simp[hh]) hm P0).toS) P4 _ nS _ (L4 m).length 0 _ _ _ rfl (Xq _) ⟨Xq _,by rw[s0];exact oth _ _ (Ne.symm O8) P1,oth _ _ (Ne.symm nI) hS2⟩ Js (ItemsOf.nil _) λs' acc' c' M8 hS' hacc=> ?_⟩
 show wpAny _ A (load s.heap.objs.size >>=_) _ _ s';refine Z7 (wpAny_load hS' ?_)
 obtain⟨h',g',d',tk',os'⟩:=s'
 obtain rfl:g'=s.gens:=M8.gens
 obtain rfl:d'=s.drawn:=M8.drawn
 obtain rfl:os'=s.os:=M8.os
 have Oi:acc'.toList=(jN w S f m ep).map Prod.snd:=by
  have hlo:(jN w S f m ep).length=(L4 m).length:=by rw[(lO w S f m ep).length_eq];simp[jl]
  refine List.ext_getElem? λj=> ?_
  rw[UJ,KZ]
  by_cases hj:j < (L4 m).length
  ·have e1:acc'[j]? =some (acc'[j]'(by rw[hacc.1];exact hj)):=YK _
   obtain⟨e,he,hv⟩:=hacc.2 j _ e1
   rw[e1,he,hv];rfl
  ·rw[Array.getElem?_eq_none (by rw[hacc.1];omega),XY (!1)];rfl
 refine Z6 ?_
 rw[Oi]
 refine hQ h' tk' (KJ hS') λb o hb e=> ?_
 have hb1:b≠s.heap.objs.size:=Xk hb
 refine M8.heap b o (λz=> ?_) (oth b o hb1 (K4 _ (K4 _ e)))
 rcases Kx.mp z with z | z
 ·exact hb1 z
 ·have z':=K7.mp z
  rw[Uk] at z';exact Xk (UZ hb) z'
end
theorem Bv (m:Nat):((L4 m).map λ(k:Nat)=>(k:Int)).Pairwise (· <= ·):=by
 refine List.pairwise_map.mpr ?_
 have:([0,1,2,3]:List Nat).Pairwise (λ(a b:Nat)=>(a:Int)<=(b:Int)):=by decide
 exact this.sublist (List.filter_sublist)
theorem wL:∀(l:List (Int×Value)),(∀e∈l,∃t,e.2= .int e.1 t)->IntsAre (l.map Prod.snd) (l.map Prod.fst)
 | [],_=> .nil
 | (i,v) :: l,h=>by
  obtain⟨t,e⟩:=h (i,v) K9
  have e':v= .int i t:=e
  subst e'
  exact .cons i t (wL l λe he=>h e (K8 _ he))
section
variable {prog:Program}{w:World}{A:Around}{E:Zu}{s:Shared}{S:Addr}{m:Nat}
theorem Bw (hh:A.handled=none)(hS:qu (qv w) s.heap S m)
  (hQ:∀h' tk a (out:List Value) c,s.heap.objs.size<=a->h'.get? a=some {cls:=.type "list",data:=.seq out.toArray c}->IntsAre out ((L4 m).map λ(k:Nat)=>(k:Int))->(∀b o,b < s.heap.objs.size->s.heap.get? b=some o->h'.get? b=some o)->Q (.ref a) {s with heap:=h',toks:=tk}) :
  wpAny (!4) A (call (.builtin "sorted") [.ref S]) Q E s:=by
 obtain⟨hm,o,ep,f,ho,hex,hd⟩:=hS
 have hS:s.heap.get? S=some (sg w f m ep):=by
  rw[ho];obtain⟨h1,h2,h3⟩:=hex;cases o;simp only at h1 h2 h3 hd;subst h1 h2 h3 hd;rfl
 refine Calls.call_function_entry kind_sorted plain_sorted entry_sorted (args_sorted1 _) ?_
 unfold Builtin.«sorted»
 refine Z7 (m:=checkCount "sorted" 1 1 _) (Z6 ?_);refine Z7 (yV (show A.in1.handled=none by simp[hh]) hm hS λh1 tk hlt1 hk=> ?_)
 have hp:=lO w S f m ep
 have P5:(jN w S f m ep).length<=4:=by rw[hp.length_eq];simp only[jl,K6];exact Xw _ _
 refine Z7 (wpAny_newList ?_ (Kw (by rw[K6];exact P5) (!8)))
 have hI:IntsAre ((jN w S f m ep).map Prod.snd) ((jN w S f m ep).map Prod.fst):=wL _ λe he=>by
  obtain⟨k,_,rfl⟩:=Ku.mp (hp.mem_iff.mp he)
  exact⟨_,rfl⟩
 have hoL:(h1.push {cls:=.type "list",data:=.seq ((jN w S f m ep).map Prod.snd).toArray}).get? h1.objs.size=some (seqObj "list" ((jN w S f m ep).map Prod.snd).toArray 0):=Kv _ rfl
 refine Z7 (Z1 (Z0 slot_list_sort ⟨_,hoL,rfl⟩ entry_list_sort (list_sort_tree (s:={s with heap:=h1.push {cls:=.type "list",data:=.seq ((jN w S f m ep).map Prod.snd).toArray},toks:=tk}) hoL hI (by rw[K6];omega) λout ns' a1 a2 a3=>⟨_,rfl,?_⟩) (args_list_sort _)))
 obtain⟨c,hc⟩:=sortedHeap_at (out:=out) hoL
 have hge:s.heap.objs.size<=h1.objs.size:=J1 hlt1
 have hns:ns'=(L4 m).map λ(k:Nat)=>(k:Int):=by
  refine PySem.W.ksm_same (a2.trans ((hp.map Prod.fst).trans ?_)) a3 (Bv m)
  unfold jl;rw[X6];exact List.Perm.refl _
 subst hns
 refine Z6 ⟨_,rfl,hQ _ tk _ out.toList c hge (by simpa using hc) a1 λb o hb e=> ?_⟩
 have hb1:=hk b o hb e
 have hlt:=KJ hb1
 rw[sortedHeap_old (Xk hlt) (by rw[Uk];exact UZ hlt)]
 exact K4 _ hb1
end
theorem wM (val:Nat->Nat)(k:Nat):∀(c i m:Nat),(o0 val c i m).testBit k=(m.testBit k || (List.range c).any λj=>val (i+j)==k)
 | 0,i,m=>by simp[o0]
 | c+1,i,m=>by
  rw[o0,wM val k c (i+1),Nat.testBit_or,Nat.testBit_two_pow,List.range_succ_eq_map,J5,List.any_map,Bool.or_assoc]
  congr 1
  have e:(decide (val i=k))=(val (i+0)==k):=by rw[Nat.add_zero];rfl
  rw[e]
  congr 1
  congr 1
  funext j
  show(val (i+1+j)==k)=(val (i+(j+1))==k)
  rw[show i+1+j=i+(j+1) by omega]
theorem tK (h:IntsAre vs ns):Vals (ns.map V.int) vs:=by
 induction h with
 | nil=>exact .nil
 | cons n t _ ih=>exact .cons ⟨t,rfl⟩ ih
theorem Dr:∀{xs:List PyData},xs.all in4=true->∃ys:List Nat,xs=ys.map (λ(k:Nat)=>PyData.int (k:Int))/\∀k∈ys,k < 4
 | [],_=>⟨[],rfl,λk hk=>by cases hk⟩
 | x :: xs,h=>by
  rw[List.all_cons,X7] at h
  obtain⟨ys,rfl,h2⟩:=Dr h.2
  obtain⟨i,rfl,h0,h4⟩:∃i:Int,x= .int i/\0<=i/\i < 4:=by
   cases x <;> first | (rename_i i;exact⟨i,rfl,by simpa [in4] using h.1⟩) | (exact absurd h.1 (by simp[in4]))
  obtain⟨k,rfl⟩:=YZ h0
  exact⟨k :: ys,rfl,λj hj=>by
   rcases Kx.mp hj with z | z
   ·rw[z];omega
   ·exact h2 j z⟩
theorem tM {K:Frag}{H:Hp}:∀{ys:List Nat} {vs:List V},ax K H (ys.map λ(k:Nat)=>PyData.int (k:Int)) vs->vs=ys.map λ(k:Nat)=>V.int (k:Int)
 | [],vs,h=>by simpa [ax] using h
 | y :: ys,vs,h=>by
  simp only[Kq,ax,aK] at h
  obtain⟨v,r,rfl,rfl,h2⟩:=h
  rw[tM h2];rfl
theorem tP {K:Frag}{H:Hp}:∀(ys:List Nat),ax K H (ys.map λ(k:Nat)=>PyData.int (k:Int)) (ys.map λ(k:Nat)=>V.int (k:Int))
 | []=>bn
 | y :: ys=>by
  simp only[Kq,ax]
  exact⟨_,_,rfl,bP,tP ys⟩
theorem Ds (ys:List Nat):wt (ys.map λ(k:Nat)=>PyData.int (k:Int))=(L4 (o0 (λi=>ys.getD i 0) ys.length 0 0)).map λ(k:Nat)=>PyData.int (k:Int):=by
 unfold wt L4
 congr 1
 refine List.filter_congr λk _=> ?_
 rw[wM,Nat.zero_testBit,Bool.false_or,List.any_map]
 rw[Yx,Y8,Y8]
 constructor
 ·rintro⟨y,hy,hk⟩
  obtain⟨i,hi,rfl⟩:=List.getElem_of_mem hy
  have hk2:((ys[i]:Nat):Int)=(k:Int):=by simpa [L6] using hk
  have hk':ys[i]=k:=by omega
  exact⟨i,X1.mpr hi,by simp[KW,K5 hi,hk']⟩
 ·rintro⟨i,hi,hk⟩
  have hi':=X1.mp hi
  refine⟨ys[i],U1 hi',?_⟩
  have hk':ys[i]=k:=by simpa [KW,K5 hi'] using hk
  simp[L6,hk']
section
variable {X:Cx}{K:Frag}{Ew:Str->Hp->Prop}{pos pos2 p p2:Pos}{a:Expr}{ta:TE}{fa:EF}
def Dt (K:Frag)(ta:TE):TE:=λσ H Q=>ta σ H λx H1=>∃q,∃ys:List Nat,x= .ref q/\fU K H1 q (ys.map λ(k:Nat)=>V.int (k:Int))/\(∀k∈ys,k < 4)/\∀t,H1 t=none->Q (.ref t) (upd H1 t (.lst ((L4 (o0 (λi=>ys.getD i 0) ys.length 0 0)).map λ(k:Nat)=>V.int (k:Int))))
theorem yW (hc:X.calm=true)(hg:Gl X "sorted")(hm:X.mg "sorted" =none)(hg2:Gl X "set")(hm2:X.mg "set" =none)(ha:PE X a ta)
  (hs:starEach [a] X.env=(false,eval a X.env) :: starEach [] X.env:=by rfl) (hpl:(backTo pos2 (starEach [] X.env)).any (·.1)=false:=by rfl)
  (hs2:starEach [.Call (.Name "set" p2) [a] [] pos2] X.env=(false,eval (.Call (.Name "set" p2) [a] [] pos2) X.env) :: starEach [] X.env:=by rfl) (qd:(backTo pos (starEach [] X.env)).any (·.1)=false:=by rfl)
  (hnil:backTo pos (starEach [] X.env)=[]:=by rfl) :
  PE X (.Call (.Name "sorted" p) [.Call (.Name "set" p2) [a] [] pos2] [] pos) (Dt X.K ta):=by
 intro pins s σ H Q I h
 refine wpAny_Call_Name_kw (gO I hg hm PyProof.Rows.boot_sorted ?_)
 refine PyProof.Rows.callWith_builtin1 ?_ hs2 qd
 rw[hs2]
 show wpAny _ _ (spliced ((false,eval (.Call (.Name "set" p2) [a] [] pos2) X.env) :: backTo pos (starEach [] X.env))) _ _ s
 refine Calls.spliced_cons (wpAny_Call_Name_kw (gO I hg2 hm2 PyProof.Rows.boot_set ?_))
 refine PyProof.Rows.callWith_type1 (di (b_ ha dS hs pos2 pins s σ H (λvs H1=>match vs with
  | [x]=>∃q,∃ys:List Nat,x= .ref q/\fU X.K H1 q (ys.map λ(k:Nat)=>V.int (k:Int))/\(∀k∈ys,k < 4)/\∀t,H1 t=none->Q (.ref t) (upd H1 t (.lst ((L4 (o0 (λi=>ys.getD i 0) ys.length 0 0)).map λ(k:Nat)=>V.int (k:Int))))
  | _=>False) I h) λus s1 ⟨vs,H1,I1,r1,q1⟩=> ?_) hs hpl
 match vs,r1,q1 with
 | [x],r1,q1=>
  obtain⟨q,ys,rfl,hq,h4,fin⟩:=q1
  obtain⟨u,rfl,ru⟩:=r1.one
  cases ru
  obtain⟨its,rv,pl,hz⟩:=I1.list hq
  have hh:X.A.handled=none:=I1.ok.hd hc
  have hl:=rv.length
  rw[K6] at hl
  refine Bu (w:=X.w) hh pl.isList (val:=λi=>ys.getD i 0) (λi v e=> ?_) λh' tk hM hk=> ?_
  ·rw[List.getElem?_toArray] at e
   have hi:i < ys.length:=by have:=(Xz.mp e).1;omega
   have e1:(ys.map λ(k:Nat)=>V.int (k:Int))[i]? =some (.int ((ys.getD i 0:Nat):Int)):=by
    rw[KZ,KW,K5 hi];rfl
   obtain⟨u,hu,ru⟩:=rv.get e1
   rw[hu] at e;cases e
   exact⟨h4 _ (by rw[KW,K5 hi];exact U1 hi),ru⟩
  ·rw[hnil]
   refine Calls.spliced_nil ?_
   have P6:its.toArray.size=ys.length:=by rw[Kz];exact hl.symm
   rw[P6] at hM
   have hfr:=I1.fresh
   have I2:Inv X pins σ H1 {s1 with heap:=h',toks:=tk}:=I1.kept (t':=tk) λb u e=>hk b u (KJ e) e
   refine Bw hh hM λh2 tk2 a out c hge hat hints hk2=> ?_
   refine⟨.ref a,_,I2.laid (t':=tk2) (a:=a) (o:=.lst ((L4 (o0 (λi=>ys.getD i 0) ys.length 0 0)).map λ(k:Nat)=>V.int (k:Int))) (λb u e=>hk2 b u (KJ e) e) hge ⟨?_,out,c,?_,hat⟩,rfl,fin _ (I2.hok.fresh hge)⟩
   ·rw[K6];exact Kw (Xw _ _) (!8)
   ·have:=tK hints;rw[X6] at this;exact this
 | [],r1,q1=>exact False.elim q1
 | _ :: _ :: _,r1,q1=>exact False.elim q1
theorem yX (hc:X.calm=true)(hg:Gl X "sorted")(hm:X.mg "sorted" =none)(hg2:Gl X "set")(hm2:X.mg "set" =none)(ha:DE X K Ew a fa)(hK:X.K=K:=by rfl)
  (hs:starEach [a] X.env=(false,eval a X.env) :: starEach [] X.env:=by rfl) (hpl:(backTo pos2 (starEach [] X.env)).any (·.1)=false:=by rfl)
  (hs2:starEach [.Call (.Name "set" p2) [a] [] pos2] X.env=(false,eval (.Call (.Name "set" p2) [a] [] pos2) X.env) :: starEach [] X.env:=by rfl) (qd:(backTo pos (starEach [] X.env)).any (·.1)=false:=by rfl)
  (hnil:backTo pos (starEach [] X.env)=[]:=by rfl) :
  DE X K Ew (.Call (.Name "sorted" p) [.Call (.Name "set" p2) [a] [] pos2] [] pos) (B_ kP fa):=(yW hc hg hm hg2 hm2 ha hs hpl hs2 qd hnil).imp λσ H Q q=>by
 obtain⟨B,φ,Γ,r0,q⟩:=q
 refine⟨B,φ,Γ,r0,(q.bind r0).mono λu H1 s1 ⟨k,x,e1,v1,r1,_,q1⟩=> ?_⟩
 obtain⟨z,e,q⟩:=fE (kf:=λ_=> .fr []) q1
 cases x <;> simp only[kP] at e <;> try (cases e;done)
 split at e
 ·rename_i xs hn
  cases e
  obtain⟨ys,rfl,h4⟩:=Dr hn
  obtain⟨p,vs,rfl,h1,h2⟩:=a8 (v1.toD r1.bs)
  have e2:=tM h2
  subst e2
  rw[hK]
  refine⟨p,ys,rfl,h1,h4,λt ht=>q _ _ (s1.trans (Same.upd ht)) (VR.fresh.mpr ?_)⟩
  rw[Ds]
  refine aP.lst (a9 _ (λ_=>rfl) _) ay ?_ (s1.free ht)
  generalize L4 (o0 (λi=>ys.getD i 0) ys.length 0 0)=l
  exact tP l
 ·cases e
end
section
variable {X:Cx}
theorem JA:jh X (compareOp .GtE) M4:=jh.zT LG λx y z e=>by
 cases x <;> cases y <;> simp only[M4] at e <;> cases e
 exact⟨_,_,rfl,rfl,rfl,λ_ _=>dq⟩
end
end L2
namespace Y
open PySem
end Y
namespace L2
open PySem PySem.Spec PyProof.Rows Y
open AutoSeq1 (wpAny_loadPart')
end L2
namespace Y
open PySem
theorem mY (i:Int):bp (.int i)=true:=rfl
theorem F3:bp .none=true:=rfl
theorem JB (b:Bool):bp (.bool b)=true:=rfl
theorem F4 (b:Str):bp (.str b)=true:=rfl
theorem pI (xs:List PyData):bp (.list xs)=false:=rfl
theorem cS (xs:List PyData):bp (.tuple xs)=ar xs:=rfl
theorem bt (h:bp d=true):cQ k d= .fr []:=by unfold cQ;rw[Z4 h]
theorem l_ (h:bp d=false):cQ k d=k:=by unfold cQ;rw[Z5 (by rw[h];exact K3)]
theorem mZ (k:Kd)(i:Int):cQ k (.int i)= .fr []:=rfl
theorem JC (k:Kd)(i:Bool):cQ k (.bool i)= .fr []:=rfl
theorem F5 (k:Kd)(i:Str):cQ k (.str i)= .fr []:=rfl
theorem F6 (k:Kd):cQ k .none= .fr []:=rfl
theorem F7 (k:Kd)(xs:List PyData):cQ k (.list xs)=k:=rfl
theorem F8 (k:Kd)(xs:List (PyData×PyData)):cQ k (.dict xs)=k:=rfl
theorem aq (h:ar xs=true):cQ k (.tuple xs)= .fr []:=bt h
theorem bG (l:List Int):ar (l.map PyData.int)=true:=a9 _ (λ_=>rfl) l
theorem Bx (l:List Int):lays n (l.map PyData.int)=true:=iB _ (λ_=>by cases n <;> rfl) l
theorem Du (i j:Int):fY (.int i) (.int j)=some (.int (i+j)):=rfl
theorem Dv (i j:Int):rW (.int i) (.int j)=some (.int (i - j)):=rfl
theorem Dw (h:(-(2^64) < i/\i < 2^64)∨(-(2^64) < j/\j < 2^64)):sd (.int i) (.int j)=some (.int (i*j)):=Z4 h
theorem By (h:0 < j/\j < 2^64):fy (.int i) (.int j)=some (.int (i / j)):=Z4 h
theorem Dx (h:0 < j):fX (.int i) (.int j)=some (.int (i % j)):=Z4 h
theorem Dy (h:0<=j/\j<=1000000/\i.natAbs < 2^64):yy (.int i) (.int j)=some (.int (i^j.toNat)):=Z4 h
theorem F9 (i j:Int):La (.int i) (.int j)=some (.bool (decide (i < j))):=rfl
theorem F_ (i j:Int):Pz (.int i) (.int j)=some (.bool (decide (i<=j))):=rfl
theorem Ga (i j:Int):Fo (.int i) (.int j)=some (.bool (decide (j < i))):=rfl
theorem Dz (i:Int):A9 (.int i)=some (.int (-i)):=rfl
theorem Gb (i j:Int):oY (.int i) (.int j)=some (.bool (i==j)):=rfl
theorem Gc (i j:Int):A8 (.int i) (.int j)=some (.bool (!(i==j))):=rfl
theorem Gd (x:PyData):Py x .none=some (.bool (i6 x)):=rfl
theorem yY (x:PyData):jY x .none=some (.bool (!i6 x)):=rfl
theorem tQ (xs:List PyData):iC [.list xs]=some (.int xs.length):=rfl
theorem wN (xs:List PyData):iC [.tuple xs]=some (.int xs.length):=rfl
theorem DB (xs:List PyData)(i:Int):cb (.list xs) (.int i)=jZ xs i:=rfl
theorem Ge (xs:List PyData)(i:Int):cb (.tuple xs) (.int i)=jZ xs i:=rfl
theorem bN {α:Type}{xs:List α}{j:Nat}{v:α}(h:xs[j]? =some v):jZ xs (j:Int)=some v:=by
 have hj:j < xs.length:=(Xz.mp h).1
 have e:sO xs.length (j:Int)=some j:=by
  unfold sO
  rw[Z4 (!1),Z4 (!1)];simp
 unfold jZ;rw[e];exact h
theorem Gf {α:Type}{xs:List α}{i:Int}{v:α}(h0:0<=i)(h:xs[i.toNat]? =some v):jZ xs i=some v:=by
 obtain⟨j,rfl⟩:=YZ h0
 exact bN (by simpa using h)
theorem Al (hx:lay 60 x=true)(hy:lay 60 y=true):oY x y=some (.bool (PyData.eqv x y)):=by unfold oY;rw[hx,hy];rfl
theorem Ht (hx:lay 60 x=true)(hy:lay 60 y=true):A8 x y=some (.bool (!PyData.eqv x y)):=by unfold A8;rw[hx,hy];rfl
theorem wO (hx:lay 60 x=true)(hy:lays 60 ys=true):Fm x (.list ys)=some (.bool (cP ys x)):=by simp only[Fm,hx,hy,XQ,if_true]
theorem Am (hx:lay 60 x=true)(hy:lays 60 ys=true):Fm x (.tuple ys)=some (.bool (cP ys x)):=by simp only[Fm,hx,hy,XQ,if_true]
theorem wQ (hx:lay 60 x=true)(hy:lays 60 ys=true):dm x (.list ys)=some (.bool (!cP ys x)):=by simp only[dm,hx,hy,XQ,if_true]
theorem kc (hx:lay 60 x=true)(hy:lays 60 ys=true):dm x (.tuple ys)=some (.bool (!cP ys x)):=by simp only[dm,hx,hy,XQ,if_true]
theorem yZ (h:ar xs=true):vY [.list xs]=some (.list xs):=Z4 h
theorem cq (h:ar xs=true):fz [.list xs]=some (.tuple xs):=Z4 h
theorem qy (h:ar xs=true):v5 (.list xs)=some (.tuple xs.reverse):=Z4 h
theorem DC (h:-(2^62)<=n/\n < 2^62):A_ (.int n)=ah (.fr [],(List.range n.toNat).map λ(i:Nat)=>PyData.int (i:Int)):=Z4 h
theorem f9 (l:List Int)(x:Int):cP (l.map PyData.int) (.int x)=decide (x∈l):=by
 unfold cP
 induction l with
 | nil=>rfl
 | cons y l ih=>
  rw[Kq,J5,ih]
  have e:PyData.eqv (.int y) (.int x)=(y==x):=by simp[PyData.eqv]
  rw[e]
  by_cases h:y=x
  ·subst h;simp
  ·have h':¬ x=y:=λz=>h z.symm
   simp[h,h']
theorem bA (P:Nat->bL->Prop)(h0:P 0 Γ)
  (hs:∀(i:Nat) (d:PyData) (Γ:bL),ds[i]? =some d->P i Γ->∃Γ1 Γ2,g (cQ .base d) d Γ=some Γ1/\(b Γ1=ah (.nx Γ2)∨b Γ1=ah (.ct Γ2))/\P (i+1) Γ2) :
  ∃Γ',bw g b ds Γ=ah (.nx Γ')/\P ds.length Γ':=by
 induction ds generalizing Γ P with
 | nil=>exact⟨Γ,rfl,h0⟩
 | cons d ds ih=>
  obtain⟨Γ1,Γ2,h1,h2,h3⟩:=hs 0 d Γ rfl h0
  obtain⟨Γ',h4,h5⟩:=ih (Γ:=Γ2) (λi=>P (i+1)) h3 λi d' Γ' hd hp=>hs (i+1) d' Γ' (by simpa using hd) hp
  refine⟨Γ',?_,by simpa using h5⟩
  simp only[bw,h1,fx,aG]
  rcases h2 with h2 | h2 <;> (rw[h2];exact h4)
theorem ce (h:((List.range n).map λ(i:Nat)=>PyData.int (i:Int))[i]? =some d):d= .int (i:Int)/\i < n:=by
 rw[KZ] at h
 by_cases hi:i < n
 ·rw[Y1 hi] at h
  exact⟨(Option.some.inj h).symm,hi⟩
 ·rw[XY (by simpa using hi)] at h
  cases h
theorem jO (ds:List PyData)(f:PyData->Kd×PyData)(h:∀d∈ds,fe (some (false,d) :: cap)=ah (f d)):bW cW fe cap ds=some (ds.map f):=by
 induction ds with
 | nil=>rfl
 | cons d ds ih=>
  have h1:=h d K9
  simp only[bW,cW,ah] at h1⊢
  rw[h1,ih λx hx=>h x (K8 _ hx)]
  rfl
theorem uZ (ds:List PyData)(p:PyData->Bool)(f:PyData->Kd×PyData)(ht:∀d∈ds,ft (some (false,d) :: cap)=ah (p d))(h:∀d∈ds,p d=true->fe (some (false,d) :: cap)=ah (f d)):bW ft fe cap ds=some ((ds.filter p).map f):=by
 induction ds with
 | nil=>rfl
 | cons d ds ih=>
  have h0:=ht d K9
  have ih':=ih (λx hx=>ht x (K8 _ hx)) λx hx=>h x (K8 _ hx)
  simp only[bW,ah] at h0⊢
  rw[h0]
  cases hp:p d with
  | false=>simp only[ih',Y0,hp,XW,if_false]
  | true=>
   have h1:=h d K9 hp
   simp only[ah] at h1
   simp only[h1,ih',Y0,hp,if_true,Kq,UK]
theorem eN {α:Type}(l:List α)(f:α->PyData):fZ (l.map λa=>(Kd.fr [],f a))=some (.fr []):=by
 induction l with
 | nil=>rfl
 | cons a l ih=>simp only[Kq,fZ,ih]
end Y
namespace L2
open PySem PySem.Spec PyProof.Rows Y
end L2
namespace Y
end Y
namespace L2
open PySem PySem.Spec PyProof.Rows Y
end L2
namespace L2
open PySem PySem.Spec PyProof.Rows Y PySem.Calls Builtin Builtin.ObjectAttr Builtin.Getset_descriptor
end L2
namespace Y
end Y
namespace L2
open PySem PySem.Spec PyProof.Rows Y
section
variable {X:Cx}{pins:List (Addr×Obj)}{σ:St}{H:Hp}{s:Shared}
end
section
variable {es elts:List Expr}{env:Env}{pos:Pos}{k:Nat}
theorem JD:starEach (.Tuple elts k pos :: es) env=(false,eval (.Tuple elts k pos) env) :: starEach es env:=by rfl
theorem bo :starEach (.Constant c k pos :: es) env=(false,eval (.Constant c k pos) env) :: starEach es env:=by rfl
theorem ag :starEach (.Name x pos :: es) env=(false,eval (.Name x pos) env) :: starEach es env:=by rfl
theorem jm :starEach (.Subscript a b pos :: es) env=(false,eval (.Subscript a b pos) env) :: starEach es env:=by rfl
end
end L2
namespace Ts
open PySem PyProof.Rows
noncomputable abbrev eL:Array Keyed->Nat->StateT SortSt Sem Keyed:=sortPriv% PySem.Builtin.elem
noncomputable abbrev lT:Keyed->Keyed->StateT SortSt Sem (Option Bool):=sortPriv% PySem.Builtin.lt
noncomputable abbrev gal:Bool->Keyed->Array Keyed->Nat->Nat->Nat->StateT SortSt Sem (Option Nat):=sortPriv% PySem.Builtin.gallop
noncomputable abbrev P7:Array Keyed->Array Keyed->StateT SortSt Sem (Array Keyed):=sortPriv% PySem.Builtin.mergeLo
noncomputable abbrev P8:Array Keyed->Array Keyed->StateT SortSt Sem (Array Keyed):=sortPriv% PySem.Builtin.mergeHi
noncomputable abbrev P9:Nat->StateT SortSt Sem Unit:=sortPriv% PySem.Builtin.setMinGallop
noncomputable def kz (x:Keyed):Int:=numOf x.1
def IK (x:Keyed):Prop:=∃n t,x.1= .int n t
section
variable {prog:Program}{w:World}{A:Around}{E:Zu}{s:Shared}
theorem bb {M:Model}{arr:Array Keyed}{i:Nat}{x:Keyed}{Q:Keyed->SortSt->Prop}{st:SortSt}(h:arr[i]? =some x)(hq:Q x st):wpS M A E s (eL arr i) Q st:=by
 show wpS M A E s (elem' arr i) Q st
 rw[elem'_eq,h];exact JV hq
theorem qz {x y:Keyed}{Q:Option Bool->SortSt->Prop}{st:SortSt}(hk:kindOf st=oneType')(hx:IK x)(hy:IK y)(hq:Q (some (decide (kz x < kz y))) st):wpS (!4) A E s (lT x y) Q st:=by
 obtain⟨a,t,ea⟩:=hx
 obtain⟨b,u,eb⟩:=hy
 show wpS (!4) A E s (lt' x y) Q st
 unfold kz at hq
 rw[ea,eb] at hq
 rw[lt'_eq]
 refine JW (JQ ?_)
 rw[hk,keyLt'_oneType,ea,eb]
 exact JW (wpS_lift (wpAny_attempt (oneLt_int ⟨rfl,JV hq⟩)))
theorem Bz (h:arr[i]? =some x):K arr i=kz x:=by unfold K;rw[h];rfl
noncomputable def y0 (left:Bool)(key:Keyed)(arr:Array Keyed)(base i:Nat):Bool:=if left=true then decide (K arr (base+i) < kz key) else !decide (kz key < K arr (base+i))
theorem m5 {left:Bool}{key:Keyed}{arr:Array Keyed}{base n i:Nat}{Q:Option Bool->SortSt->Prop}{st:SortSt}(hk:kindOf st=oneType')(hkey:IK key)(ha:∀x∈arr.toList,IK x)(hb:base+n<=arr.size)(hi:i < n)
  (hq:Q (some (y0 left key arr base i)) st) :
  wpS (!4) A E s (do let x←eL arr (base+i);if left=true then lT x key else do let r←lT key x;pure (Option.map (λx=> !x) r)) Q st:=by
 have hlt:base+i < arr.size:=by omega
 have hg:arr[base+i]? =some arr[base+i]:=YK hlt
 have hx:IK arr[base+i]:=ha _ (by simp)
 refine JW (bb hg ?_)
 unfold y0 at hq
 rw[Bz hg] at hq
 cases left with
 | true=>rw[Z4 rfl];exact qz hk hx hkey hq
 | false=>rw[Z5 K3];exact JW (qz hk hkey hx (JV hq))
theorem Gg {left:Bool}{key:Keyed}{arr:Array Keyed}{base n hint:Nat}{Q:Option Nat->SortSt->Prop}{st:SortSt}(hk:kindOf st=oneType')(hkey:IK key)(ha:∀x∈arr.toList,IK x)(hb:base+n<=arr.size)(hh:hint < n)
  (mono:∀i j,i<=j->j < n->y0 left key arr base j=true->y0 left key arr base i=true)
  (hq:∀k,k<=n->(∀i,i < k->y0 left key arr base i=true)->(∀i,k<=i->i < n->y0 left key arr base i=false)->Q (some k) st):wpS (!4) A E s (gal left key arr base n hint) Q st:=by
 obtain⟨B,hB⟩:∃B,y0 left key arr base=B:=⟨_,rfl⟩
 rw[hB] at mono hq
 refine JW (m5 hk hkey ha hb hh ?_)
 dsimp only
 cases h0:y0 left key arr base hint with
 | true=>
  rw[hB] at h0
  rw[Z4 rfl]
  refine JW (wpS_mono (wpS_forRange (I:=λx c st'=>st'=st/\∃l o,c=(none,l,o)/\l < o/\x+1<=o/\l < n - hint/\B (hint+l)=true)
   (Q:=λc st'=>st'=st/\∃l o,c=(none,l,o)/\l < o/\l < n - hint/\B (hint+l)=true/\(n - hint<=o∨(o < n - hint/\B (hint+o)=false))) ?_ ?_ ⟨rfl,0,1,rfl,by omega,by omega,by omega,h0⟩) ?_)
  ·rintro x c st' _ hx ⟨rfl,l,o,rfl,a1,a2,a3,a4⟩
   dsimp only
   by_cases hge:o≥n - hint
   ·rw[Z4 hge]
    exact JV ⟨rfl,l,o,rfl,a1,a3,a4,.inl hge⟩
   ·rw[Z5 hge]
    refine JW (m5 hk hkey ha hb (show hint+o < n by omega) ?_)
    dsimp only
    cases hc:y0 left key arr base (hint+o) with
    | true=>exact JV ⟨rfl,o,2*o+1,rfl,by omega,by omega,by omega,by rw[←hB];exact hc⟩
    | false=>exact JV ⟨rfl,l,o,rfl,a1,a3,a4,.inr ⟨by omega,by rw[←hB];exact hc⟩⟩
  ·rintro c st' ⟨rfl,l,o,rfl,a1,a2,a3,a4⟩
   exact⟨rfl,l,o,rfl,a1,a3,a4,.inl (!1)⟩
  ·rintro c st' ⟨est,l,o,rfl,a1,a3,a4,a5⟩
   rw[est]
   dsimp only
   have b1:hint+l+1<=hint+min o (n - hint):=by omega
   have b2:hint+min o (n - hint)<=n:=by omega
   have b3:∀i,i < hint+l+1->B i=true:=λi hi=>mono i (hint+l) (!1) (!1) a4
   have b4:∀i,hint+min o (n - hint)<=i->i < n->B i=false:=λi h1 h2=>by
    rcases a5 with a5 | ⟨a5,a6⟩
    ·omega
    ·cases hz:B i with
     | false=>rfl
     | true=>have:=mono (hint+o) i (!1) h2 hz;rw[a6] at this;cases this
   refine JW (wpS_mono (wpS_forRange (I:=λx c st'=>st'=st/\∃l r,c=(none,l,r)/\l<=r/\r<=n/\r - l<=n - x/\(∀i,i < l->B i=true)/\∀i,r<=i->i < n->B i=false)
    (Q:=λc st'=>st'=st/\∃l r,c=(none,l,r)/\r<=n/\(∀i,i < r->B i=true)/\∀i,r<=i->i < n->B i=false) ?_ ?_ ⟨rfl,_,_,rfl,b1,b2,by omega,b3,b4⟩) ?_)
   ·rintro x c st' _ hx ⟨rfl,l,r,rfl,a1,a2,a3,a4,a5⟩
    dsimp only
    by_cases hge:l≥r
    ·rw[Z4 hge]
     obtain rfl:l=r:=by omega
     exact JV ⟨rfl,l,l,rfl,a2,a4,a5⟩
    ·rw[Z5 hge]
     refine JW (m5 hk hkey ha hb (show l+(r - l) / 2 < n by omega) ?_)
     dsimp only
     cases hc:y0 left key arr base (l+(r - l) / 2) with
     | true=>
      rw[Z4 rfl]
      exact JV ⟨rfl,l+(r - l) / 2+1,r,rfl,by omega,a2,by omega,λi hi=>mono i (l+(r - l) / 2) (!1) (!1) (hB ▸ hc),a5⟩
     | false=>
      rw[Z5 K3]
      refine JV ⟨rfl,l,l+(r - l) / 2,rfl,by omega,by omega,by omega,a4,λi h1 h2=> ?_⟩
      cases hz:B i with
      | false=>rfl
      | true=>have:=mono _ i h1 h2 hz;rw[←hB,hc] at this;cases this
   ·rintro c st' ⟨rfl,l,r,rfl,a1,a2,a3,a4,a5⟩
    obtain rfl:l=r:=by omega
    exact⟨rfl,l,l,rfl,a2,a4,a5⟩
   ·rintro c st' ⟨rfl,l,r,rfl,a2,a4,a5⟩
    exact JV (hq r a2 a4 a5)
 | false=>
  rw[hB] at h0
  rw[Z5 K3]
  refine JW (wpS_mono (wpS_forRange (I:=λx c st'=>st'=st/\∃l o,c=(none,l,o)/\l < o/\x+1<=o/\l < hint+1/\B (hint - l)=false)
   (Q:=λc st'=>st'=st/\∃l o,c=(none,l,o)/\l < o/\l < hint+1/\B (hint - l)=false/\(hint+1<=o∨(o < hint+1/\B (hint - o)=true))) ?_ ?_ ⟨rfl,0,1,rfl,by omega,by omega,by omega,h0⟩) ?_)
  ·rintro x c st' _ hx ⟨rfl,l,o,rfl,a1,a2,a3,a4⟩
   dsimp only
   by_cases hge:o≥hint+1
   ·rw[Z4 hge]
    exact JV ⟨rfl,l,o,rfl,a1,a3,a4,.inl hge⟩
   ·rw[Z5 hge]
    refine JW (m5 hk hkey ha hb (show hint - o < n by omega) ?_)
    dsimp only
    cases hc:y0 left key arr base (hint - o) with
    | true=>exact JV ⟨rfl,l,o,rfl,a1,a3,a4,.inr ⟨by omega,by rw[←hB];exact hc⟩⟩
    | false=>exact JV ⟨rfl,o,2*o+1,rfl,by omega,by omega,by omega,by rw[←hB];exact hc⟩
  ·rintro c st' ⟨rfl,l,o,rfl,a1,a2,a3,a4⟩
   exact⟨rfl,l,o,rfl,a1,a3,a4,.inl (!1)⟩
  ·rintro c st' ⟨est,l,o,rfl,a1,a3,a4,a5⟩
   rw[est]
   dsimp only
   have b1:hint+1 - min o (hint+1)<=hint - l:=by omega
   have b2:hint - l<=n:=by omega
   have b3:∀i,i < hint+1 - min o (hint+1)->B i=true:=λi hi=>by
    rcases a5 with a5 | ⟨a5,a6⟩
    ·omega
    ·exact mono i (hint - o) (!1) (!1) a6
   have b4:∀i,hint - l<=i->i < n->B i=false:=λi h1 h2=>by
    cases hz:B i with
    | false=>rfl
    | true=>have:=mono (hint - l) i (!1) h2 hz;rw[a4] at this;cases this
   refine JW (wpS_mono (wpS_forRange (I:=λx c st'=>st'=st/\∃l r,c=(none,l,r)/\l<=r/\r<=n/\r - l<=n - x/\(∀i,i < l->B i=true)/\∀i,r<=i->i < n->B i=false)
    (Q:=λc st'=>st'=st/\∃l r,c=(none,l,r)/\r<=n/\(∀i,i < r->B i=true)/\∀i,r<=i->i < n->B i=false) ?_ ?_ ⟨rfl,_,_,rfl,b1,b2,by omega,b3,b4⟩) ?_)
   ·rintro x c st' _ hx ⟨rfl,l,r,rfl,a1,a2,a3,a4,a5⟩
    dsimp only
    by_cases hge:l≥r
    ·rw[Z4 hge]
     obtain rfl:l=r:=by omega
     exact JV ⟨rfl,l,l,rfl,a2,a4,a5⟩
    ·rw[Z5 hge]
     refine JW (m5 hk hkey ha hb (show l+(r - l) / 2 < n by omega) ?_)
     dsimp only
     cases hc:y0 left key arr base (l+(r - l) / 2) with
     | true=>
      rw[Z4 rfl]
      exact JV ⟨rfl,l+(r - l) / 2+1,r,rfl,by omega,a2,by omega,λi hi=>mono i (l+(r - l) / 2) (!1) (!1) (hB ▸ hc),a5⟩
     | false=>
      rw[Z5 K3]
      refine JV ⟨rfl,l,l+(r - l) / 2,rfl,by omega,by omega,by omega,a4,λi h1 h2=> ?_⟩
      cases hz:B i with
      | false=>rfl
      | true=>have:=mono _ i h1 h2 hz;rw[←hB,hc] at this;cases this
   ·rintro c st' ⟨rfl,l,r,rfl,a1,a2,a3,a4,a5⟩
    obtain rfl:l=r:=by omega
    exact⟨rfl,l,l,rfl,a2,a4,a5⟩
   ·rintro c st' ⟨rfl,l,r,rfl,a2,a4,a5⟩
    exact JV (hq r a2 a4 a5)
end
abbrev jP (f:Keyed->Int)(l:List Keyed):Prop:=l.Pairwise λx y=>f x<=f y
structure MIL (f:Keyed->Int)(A B O:List Keyed)(i j:Nat):Prop where
 p:O.Perm (A.take i++B.take j)
 s:jP f O
 a:∀x∈O,∀y∈A.drop i,f x<=f y
 b:∀x∈O,∀y∈B.drop j,f x<=f y
section
variable {f:Keyed->Int}{A B O:List Keyed}{i j:Nat}
theorem MIL.symm (m:MIL f A B O i j):MIL f B A O j i:=⟨m.p.trans JJ,m.s,m.b,m.a⟩
theorem MIL.run (m:MIL f A B O i j)(sB:jP f B)(k:Nat)(h:∀x∈(B.drop j).take k,∀y∈A.drop i,f x<=f y):MIL f A B (O++(B.drop j).take k) i (j+k):=by
 have hs:jP f (B.drop j):=sB.sublist (YQ _ _)
 have hs2:jP f ((B.drop j).take k++(B.drop j).drop k):=by rw[Uv];exact hs
 refine⟨?_,?_,?_,?_⟩
 ·rw[List.take_add,←X5];exact m.p.append_right _
 ·refine Y4.mpr ⟨m.s,(Y4.mp hs2).1,λx hx y hy=>m.b x hx y (U0 hy)⟩
 ·intro x hx y hy
  rcases K1.mp hx with z | z
  ·exact m.a x z y hy
  ·exact h x z y hy
 ·intro x hx y hy
  rw[←Ju] at hy
  rcases K1.mp hx with z | z
  ·exact m.b x z y (U9 hy)
  ·exact(Y4.mp hs2).2.2 x z y hy
theorem take1 {l:List Keyed}{j:Nat}(h:j < l.length):(l.drop j).take 1=[l[j]]:=by
 rw[U3 h];rfl
theorem MIL.push (m:MIL f A B O i j)(sB:jP f B)(hj:j < B.length)(h:∀y∈A.drop i,f B[j]<=f y):MIL f A B (O++[B[j]]) i (j+1):=by
 have:=m.run sB 1 (by rw[take1 hj];intro x hx;rw[K7.mp hx];exact h)
 rwa [take1 hj] at this
theorem MIL.fin (m:MIL f A B O i j)(hi:A.length<=i)(hj:B.length<=j):O.Perm (A++B)/\jP f O:=by
 have:=m.p
 rw[XJ hi,XJ hj] at this
 exact⟨this,m.s⟩
theorem MIL.nil (f:Keyed->Int)(A B:List Keyed):MIL f A B [] 0 0:=⟨by simp,List.Pairwise.nil,(λx hx=>by cases hx),(λx hx=>by cases hx)⟩
theorem MIL.both (m:MIL f A B O i j)(sA:jP f A)(sB:jP f B)(h:∀x∈B.drop j,∀y∈A.drop i,f x<=f y):(O++B.drop j++A.drop i).Perm (A++B)/\jP f (O++B.drop j++A.drop i):=by
 have m1:=m.run sB (B.length - j) (by rw[XJ (by rw[XU];omega)];exact h)
 rw[XJ (by rw[XU];omega)] at m1
 have m2:=m1.symm.run sA (A.length - i) (by
  intro x hx y hy
  rw[JX (!1)] at hy;cases hy)
 rw[XJ (by rw[XU];omega)] at m2
 obtain⟨q1,q2⟩:=m2.fin (!1) (!1)
 exact⟨q1.trans JJ,q2⟩
end
def MI (a b out:Array Keyed)(ia ib:Nat):Prop:=MIL kz a.toList b.toList out.toList ia ib
def Fn (a b r:Array Keyed):Prop:=r.toList.Perm (a.toList++b.toList)/\jP kz r.toList
theorem iJ (a:Array Keyed)(i j:Nat):(a.extract i j).toList=(a.toList.drop i).take (j - i):=by
 rw[Array.toList_extract,List.extract_eq_take_drop]
theorem m6 (a:Array Keyed)(i:Nat):(a.extract i).toList=a.toList.drop i:=by
 rw[iJ,XJ (by rw[XU,KU];exact K0 _)]
section
variable {a b out:Array Keyed}{ia ib:Nat}
theorem qA (sl:jP kz l)(hi:i < l.length)(hy:y∈l.drop i):kz l[i]<=kz y:=by
 rw[U3 hi] at hy
 rcases Kx.mp hy with rfl | hy
 ·exact Int.le_refl _
 ·have:jP kz (l[i] :: l.drop (i+1)):=by rw[←U3 hi];exact sl.sublist (YQ _ _)
  exact(List.pairwise_cons.mp this).1 y hy
theorem MI.tR (m:MI a b out ia ib)(sB:jP kz b.toList)(h:ib < b.size)(hx:∀y∈a.toList.drop ia,kz b[ib]<=kz y):MI a b (out.push b[ib]) ia (ib+1):=by
 unfold MI;rw[J7];exact MIL.push m sB (by simpa using h) (by simpa using hx)
theorem MI.qB (m:MI a b out ia ib)(sA:jP kz a.toList)(h:ia < a.size)(hx:∀y∈b.toList.drop ib,kz a[ia]<=kz y):MI a b (out.push a[ia]) (ia+1) ib:=by
 unfold MI;rw[J7];exact(MIL.push (MIL.symm m) sA (by simpa using h) (by simpa using hx)).symm
theorem MI.JE (m:MI a b out ia ib)(sB:jP kz b.toList)(k:Nat)(hx:∀x∈(b.toList.drop ib).take k,∀y∈a.toList.drop ia,kz x<=kz y):MI a b (out++b.extract ib (ib+k)) ia (ib+k):=by
 unfold MI;rw[UQ,iJ,Nat.add_sub_cancel_left];exact MIL.run m sB k hx
theorem MI.y4 (m:MI a b out ia ib)(sA:jP kz a.toList)(k:Nat)(hx:∀x∈(a.toList.drop ia).take k,∀y∈b.toList.drop ib,kz x<=kz y):MI a b (out++a.extract ia (ia+k)) (ia+k) ib:=by
 unfold MI;rw[UQ,iJ,Nat.add_sub_cancel_left];exact(MIL.run (MIL.symm m) sA k hx).symm
theorem MI.done (m:MI a b out ia ib)(sA:jP kz a.toList)(sB:jP kz b.toList)(h:a.size<=ia∨b.size<=ib):Fn a b (out++a.extract ia++b.extract ib):=by
 unfold Fn
 rw[UQ,UQ,m6,m6]
 have:=MIL.both (MIL.symm m) sB sA (λx hx y hy=>by
  rcases h with h | h
  ·rw[JX (by rw[KU];exact h)] at hx;cases hx
  ·rw[JX (by rw[KU];exact h)] at hy;cases hy)
 exact⟨this.1.trans JJ,this.2⟩
theorem MI.last (m:MI a b out ia ib)(sA:jP kz a.toList)(sB:jP kz b.toList)(h:∀x∈b.toList.drop ib,∀y∈a.toList.drop ia,kz x<=kz y):Fn a b (out++b.extract ib++a.extract ia):=by
 unfold Fn
 rw[UQ,UQ,m6,m6]
 exact MIL.both m sA sB h
end
def MH (a b out:Array Keyed)(na nb:Nat):Prop:=MIL (λx=> -kz x) a.toList.reverse b.toList.reverse out.toList (a.size - na) (b.size - nb)
theorem Gh (h:jP kz l):jP (λx=> -kz x) l.reverse:=List.pairwise_reverse.mpr (h.imp λh=>by dsimp only at h⊢;omega)
theorem DD (h:jP (λx=> -kz x) l):jP kz l.reverse:=List.pairwise_reverse.mpr (h.imp λh=>by dsimp only at h⊢;omega)
theorem wR {l:List Keyed}{n:Nat}:l.reverse.drop (l.length - n)=(l.take n).reverse:=by rw[List.reverse_take]
section
variable {a b out:Array Keyed}{na nb:Nat}
theorem MH.symm (m:MH a b out na nb):MH b a out nb na:=MIL.symm m
theorem MH.y4 (m:MH a b out na nb)(sA:jP kz a.toList)(at_:Nat)(h1:at_<=na)(h2:na<=a.size)(hx:∀x∈(a.toList.take na).drop at_,∀y∈b.toList.take nb,kz y<=kz x):MH a b (out++(a.extract at_ na).reverse) at_ nb:=by
 have el:a.toList.length=a.size:=KU
 have eb:b.toList.length=b.size:=KU
 have e1:(a.toList.reverse.drop (a.size - na)).take (na - at_)=((a.toList.take na).drop at_).reverse:=by
  rw[←el,wR,List.reverse_drop,X0,el,J4 h2]
 have:=MIL.run (MIL.symm m) (Gh sA) (na - at_) (by
  rw[e1,←eb,wR]
  intro x hx' y hy
  have:=hx x (Uy.mp hx') y (Uy.mp hy)
  show -kz x<= -kz y
  omega)
 rw[e1,show a.size - na+(na - at_)=a.size - at_ by omega] at this
 unfold MH
 rw[UQ,Array.toList_reverse,iJ,←List.drop_take]
 exact this.symm
theorem MH.qB (m:MH a b out na nb)(sA:jP kz a.toList)(h1:1<=na)(h2:na<=a.size)(hx:∀y∈b.toList.take nb,kz y<=kz (a[na - 1]'(!1))):MH a b (out.push (a[na - 1]'(!1))) (na - 1) nb:=by
 have e:(a.toList.take na).drop (na - 1)=[a[na - 1]'(!1)]:=by
  rw[List.drop_take,show na - (na - 1)=1 by omega,take1 (by rw[KU];omega)];simp
 have:=m.y4 sA (na - 1) (!1) h2 (by rw[e];intro x hx';rw[K7.mp hx'];exact hx)
 unfold MH at this⊢
 rw[UQ,Array.toList_reverse,iJ,←List.drop_take,e] at this
 rw[J7];exact this
theorem MH.fin (m:MH a b out 0 0):Fn a b out.reverse:=by
 obtain⟨p,s⟩:=MIL.fin m (by simp) (by simp)
 unfold Fn
 rw[Array.toList_reverse]
 exact⟨((List.reverse_perm _).trans p).trans ((List.reverse_perm _).append (List.reverse_perm _)),DD s⟩
theorem MH.both (m:MH a b out na nb)(sA:jP kz a.toList)(sB:jP kz b.toList)(h2:na<=a.size)(h3:nb<=b.size)(hx:∀x∈a.toList.take na,∀y∈b.toList.take nb,kz y<=kz x):Fn a b (b.extract 0 nb++a.extract 0 na++out.reverse):=by
 have m1:=m.y4 sA 0 (!1) h2 (by rw[Y7];exact hx)
 have m2:=(m1.symm.y4 sB 0 (!1) h3 (by intro x _ y hy;rw[Jx] at hy;cases hy)).symm
 have:=m2.fin
 rwa [Array.reverse_append,Array.reverse_append,Array.reverse_reverse,Array.reverse_reverse,←Array.append_assoc] at this
theorem MH.done (m:MH a b out na nb)(sA:jP kz a.toList)(sB:jP kz b.toList)(h2:na<=a.size)(h3:nb<=b.size)(h:na=0∨nb=0):Fn a b (a.extract 0 na++b.extract 0 nb++out.reverse):=by
 have:=MH.both (MH.symm m) sB sA h3 h2 (λx hx y hy=>by
  rcases h with h | h
  ·rw[h,Jx] at hy;cases hy
  ·rw[h,Jx] at hx;cases hx)
 exact⟨this.1.trans JJ,this.2⟩
theorem MH.nil (a b:Array Keyed):MH a b #[] a.size b.size:=by
 unfold MH;rw[Nat.sub_self,Nat.sub_self];exact MIL.nil _ _ _
theorem qC (sl:jP kz l)(hn:1<=n)(hi:n<=l.length)(hy:y∈l.take n):kz y<=kz (l[n - 1]'(!1)):=by
 obtain⟨i,hi',rfl⟩:=List.mem_iff_getElem.mp hy
 rw[X0] at hi'
 rw[YV]
 by_cases e:i=n - 1
 ·subst e;exact Int.le_refl _
 ·exact Yq.mp sl i (n - 1) (!1) (!1) (!1)
end
section
variable {prog:Program}{w:World}{A:Around}{E:Zu}{s:Shared}
theorem oO (hb:base+n<=arr.size)(hi:i < n):∃h:i < ((arr.toList.drop base).take n).length,K arr (base+i)=kz (((arr.toList.drop base).take n)[i]'h):=by
 have hl:((arr.toList.drop base).take n).length=n:=by rw[X0,XU,KU];omega
 refine⟨by omega,?_⟩
 rw[YV,Jj]
 have hlt:base+i < arr.size:=by omega
 rw[Bz (YK hlt)];simp
theorem wU {left:Bool}{key:Keyed}{arr:Array Keyed}{base n hint:Nat}{Q:Option Nat->SortSt->Prop}{st:SortSt}(hk:kindOf st=oneType')(hkey:IK key)(ha:∀x∈arr.toList,IK x)(hb:base+n<=arr.size)(hh:hint < n)
  (hs:jP kz ((arr.toList.drop base).take n))
  (hq:∀k,k<=n->(∀x∈((arr.toList.drop base).take n).take k,if left=true then kz x < kz key else kz x<=kz key)->(∀x∈((arr.toList.drop base).take n).drop k,if left=true then kz key<=kz x else kz key < kz x)->Q (some k) st):wpS (!4) A E s (gal left key arr base n hint) Q st:=by
 have hl:((arr.toList.drop base).take n).length=n:=by rw[X0,XU,KU];omega
 refine Gg hk hkey ha hb hh (λi j hij hj h=> ?_) λk hk1 h1 h2=>hq k hk1 (λx hx=> ?_) λx hx=> ?_
 ·obtain⟨u1,e1⟩:=oO (i:=i) hb (!1)
  obtain⟨u2,e2⟩:=oO (i:=j) hb hj
  have hle:K arr (base+i)<=K arr (base+j):=by
   rw[e1,e2]
   by_cases e:i=j
   ·subst e;exact Int.le_refl _
   ·exact Yq.mp hs i j u1 u2 (!1)
  unfold y0 at h⊢
  cases left with
  | true=>simp only[if_true,Z8] at h⊢;omega
  | false=>simp only[XW,if_false,Bool.not_eq_true',decide_eq_false_iff_not] at h⊢;omega
 ·obtain⟨i,hi,rfl⟩:=List.mem_iff_getElem.mp hx
  rw[X0,hl] at hi
  rw[YV]
  obtain⟨u1,e1⟩:=oO (arr:=arr) (base:=base) (i:=i) hb (!1)
  have:=h1 i (!1)
  unfold y0 at this
  rw[e1] at this
  cases left with
  | true=>simpa using this
  | false=>simp only[XW,if_false,Bool.not_eq_true',decide_eq_false_iff_not] at this⊢;omega
 ·obtain⟨i,hi,rfl⟩:=List.mem_iff_getElem.mp hx
  rw[XU,hl] at hi
  rw[Jj]
  obtain⟨u1,e1⟩:=oO (arr:=arr) (base:=base) (i:=k+i) hb (!1)
  have:=h2 (k+i) (!1) (!1)
  unfold y0 at this
  rw[e1] at this
  cases left with
  | true=>simp only[if_true,decide_eq_false_iff_not] at this⊢;omega
  | false=>simp only[XW,if_false,Bool.not_eq_false',Z8] at this⊢;omega
theorem qD {key:Keyed}{arr:Array Keyed}{base n hint:Nat}{Q:Option Nat->SortSt->Prop}{st:SortSt}(hk:kindOf st=oneType')(hkey:IK key)(ha:∀x∈arr.toList,IK x)(hb:base+n<=arr.size)(hh:hint < n)
  (hs:jP kz ((arr.toList.drop base).take n)) (hq:∀k,k<=n->(∀x∈((arr.toList.drop base).take n).take k,kz x<=kz key)->(∀x∈((arr.toList.drop base).take n).drop k,kz key < kz x)->Q (some k) st):wpS (!4) A E s (gal false key arr base n hint) Q st :=
 wU hk hkey ha hb hh hs λk h1 h2 h3=>hq k h1 (λx hx=>by simpa using h2 x hx) λx hx=>by simpa using h3 x hx
theorem qE {key:Keyed}{arr:Array Keyed}{base n hint:Nat}{Q:Option Nat->SortSt->Prop}{st:SortSt}(hk:kindOf st=oneType')(hkey:IK key)(ha:∀x∈arr.toList,IK x)(hb:base+n<=arr.size)(hh:hint < n)
  (hs:jP kz ((arr.toList.drop base).take n)) (hq:∀k,k<=n->(∀x∈((arr.toList.drop base).take n).take k,kz x < kz key)->(∀x∈((arr.toList.drop base).take n).drop k,kz key<=kz x)->Q (some k) st):wpS (!4) A E s (gal true key arr base n hint) Q st :=
 wU hk hkey ha hb hh hs λk h1 h2 h3=>hq k h1 (λx hx=>by simpa using h2 x hx) λx hx=>by simpa using h3 x hx
end
noncomputable abbrev SG (st:SortSt)(g:Nat):SortSt:=SortSt.mk' (kindOf st) (arrOf st) (pendingOf st) g (failedOf st)
section
variable {prog:Program}{w:World}{A:Around}{E:Zu}{s:Shared}
theorem pJ {M:Model}{g:Nat}{Q:Unit->SortSt->Prop}{st:SortSt}(h:Q () (SG st g)):wpS M A E s (P9 g) Q st:=by
 exact wpS_modify h
theorem aQ {M:Model}{α:Type}{c:Prop}[Decidable c]{m1 m2:StateT SortSt Sem α}{Q:α->SortSt->Prop}{st:SortSt}(h1:c->wpS M A E s m1 Q st)(h2:¬c->wpS M A E s m2 Q st):wpS M A E s (if c then m1 else m2) Q st:=by
 by_cases h:c
 ·rw[Z4 h];exact h1 h
 ·rw[Z5 h];exact h2 h
theorem tS {M:Model}{α:Type}{c:Nat->Prop}[∀z,Decidable (c z)]{m1 F:Nat->StateT SortSt Sem α}{Q:α->SortSt->Prop}{st:SortSt}(h:∀z,m1 z=F (z - 1))(key:∀z,wpS M A E s (F z) Q st)(z:Nat):wpS M A E s (if c z then m1 z else F z) Q st :=
 aQ (λ_=>by rw[h];exact key _) (λ_=>key _)
theorem Hu {M:Model}{α:Type}{P:Nat->Array Keyed->Prop}{c e:Nat->Array Keyed->Prop}{_:∀n o,Decidable (c n o)}{_:∀n o,Decidable (e n o)}{p t T:Nat->Array Keyed->StateT SortSt Sem α}{Q:α->SortSt->Prop}{st:SortSt}(R:Nat->Array Keyed->Prop)(X:Nat->Array Keyed->Nat)(O:Nat->Array Keyed->Array Keyed)(ht:∀n o,t n o=T (X n o) (O n o))
  (h1:∀n o,P n o->c n o->e n o->wpS M A E s (p n o) Q st) (h2:∀n o,P n o->c n o->¬e n o->R (X n o) (O n o)) (h3:∀n o,P n o->¬c n o->R n o) (k:∀n o,R n o->wpS M A E s (T n o) Q st) (n:Nat) (o:Array Keyed) (h:P n o):wpS M A E s (if c n o then (if e n o then p n o else t n o) else T n o) Q st :=
 aQ (λhc=>aQ (h1 n o h hc) λhe=>by rw[ht];exact k _ _ (h2 n o h hc he)) λhc=>k _ _ (h3 n o h hc)
theorem Hv {M:Model}{α:Type}{P:Nat->Array Keyed->Prop}{c e f:Nat->Array Keyed->Prop}{_:∀n o,Decidable (c n o)}{_:∀n o,Decidable (e n o)}{_:∀n o,Decidable (f n o)}{p q t T:Nat->Array Keyed->StateT SortSt Sem α}{Q:α->SortSt->Prop}{st:SortSt}(R:Nat->Array Keyed->Prop)(X:Nat->Array Keyed->Nat)(O:Nat->Array Keyed->Array Keyed)(ht:∀n o,t n o=T (X n o) (O n o))
  (h1:∀n o,P n o->c n o->e n o->wpS M A E s (p n o) Q st) (h2:∀n o,P n o->c n o->¬e n o->f n o->wpS M A E s (q n o) Q st) (h3:∀n o,P n o->c n o->¬e n o->¬f n o->R (X n o) (O n o)) (h4:∀n o,P n o->¬c n o->R n o) (k:∀n o,R n o->wpS M A E s (T n o) Q st) (n:Nat) (o:Array Keyed) (h:P n o) :
  wpS M A E s (if c n o then (if e n o then p n o else (if f n o then q n o else t n o)) else T n o) Q st :=
 aQ (λhc=>aQ (h1 n o h hc) λhe=>aQ (h2 n o h hc he) λhf=>by rw[ht];exact k _ _ (h3 n o h hc he hf)) λhc=>k _ _ (h4 n o h hc)
theorem bm {a:Array Keyed}{i:Nat}(h:i < a.size):a[i]? =some a[i]:=YK h
structure Pre (a b:Array Keyed):Prop where
 ia:∀x∈a.toList,IK x
 ib:∀x∈b.toList,IK x
 sA:jP kz a.toList
 sB:jP kz b.toList
 a1:1<=a.size
 b1:1<=b.size
 h0:∀x∈a.toList,kz (b[0]'b1)<=kz x
 hl:∀x∈b.toList,kz x<=kz (a[a.size - 1]'(!1))
theorem Pre.kA (p:Pre a b)(h:i < a.size):IK a[i]:=p.ia _ (by simp)
theorem Pre.kB (p:Pre a b)(h:i < b.size):IK b[i]:=p.ib _ (by simp)
theorem Pre.dA (p:Pre a b)(h:i < a.size)(hy:y∈a.toList.drop i):kz a[i]<=kz y:=by
 have:=qA p.sA (by rw[KU];exact h) hy;simpa using this
theorem Pre.dB (p:Pre a b)(h:i < b.size)(hy:y∈b.toList.drop i):kz b[i]<=kz y:=by
 have:=qA p.sB (by rw[KU];exact h) hy;simpa using this
theorem Pre.An (p:Pre a b)(h:i+1=a.size):∀x∈b.toList.drop j,∀y∈a.toList.drop i,kz x<=kz y:=λx hx y hy=>by
 have h1:=p.hl x (U9 hx)
 have h2:=p.dA (i:=i) (!1) hy
 have e:a[a.size - 1]'(by have:=p.a1;omega)=a[i]:=by congr 1;omega
 rw[e] at h1;omega
theorem m7 {a:Array Keyed}{i:Nat}:(a.toList.drop i).take (a.size - i)=a.toList.drop i:=XJ (by rw[XU,KU];exact K0 _)
variable {a b:Array Keyed}
structure Lv (a b out:Array Keyed)(ia ib:Nat)(lo:Nat):Prop where
 m:MI a b out ia ib
 ha:ia+1 < a.size
 hb:ib < b.size
 hp:lo<=ia+ib
theorem Gi {st:SortSt}{Q:Array Keyed->SortSt->Prop}(hk:kindOf st=oneType')(p:Pre a b)(hq:∀r g,Fn a b r->Q r (SG st g)):wpS (!4) A E s (P7 a b) Q st:=by
 have a1:=p.a1
 have b1:=p.b1
 refine JW (wpS_lift (wpAny_rule ⟨rfl,?_⟩))
 refine JW (bb (bm b1) ?_)
 have m0:MI a b #[b[0]] 0 1:=MI.tR (out:=#[]) (ia:=0) (ib:=0) (MIL.nil _ _ _) p.sB b1 (λy hy=>p.h0 y (U9 hy))
 by_cases e1:1=b.size
 ·rw[Z4 (by simpa using e1)]
  exact JV (hq _ (gallopOf st) (m0.done p.sA p.sB (.inr (!1))))
 rw[Z5 (by simpa using e1)]
 by_cases e2:0+1=a.size
 ·rw[Z4 (by simpa using e2)]
  exact JV (hq _ (gallopOf st) (m0.last p.sA p.sB (p.An e2)))
 rw[Z5 (by simpa using e2)]
 refine JW (JQ ?_)
 refine JW (wpS_mono (wpS_forRange (I:=λx c st'=>∃g out ia ib mg,st'=SG st g/\c=(none,out,ia,ib,mg)/\Lv a b out ia ib (x+1))
  (Q:=λc st'=>∃g r d,st'=SG st g/\c=(some r,d)/\Fn a b r) ?_ ?_ ⟨gallopOf st,_,_,_,_,rfl,rfl,m0,by omega,by omega,by omega⟩) ?_)
 ·rintro x c st' _ hx ⟨g,out,ia,ib,mg,rfl,rfl,lv⟩
  refine JW (wpS_mono (wpS_forRange (I:=λy c st'=>∃out ia ib ac bc,st'=SG st g/\c=(none,out,ia,ib,ac,bc)/\Lv a b out ia ib (x+1+y))
   (Q:=λc st'=>st'=SG st g/\((∃r d,c=(some r,d)/\Fn a b r)∨∃out ia ib ac bc,c=(none,out,ia,ib,ac,bc)/\Lv a b out ia ib (x+2))) ?_ ?_ ⟨_,_,_,_,_,rfl,rfl,lv⟩) ?_)
  ·rintro y c st' _ hy ⟨out,ia,ib,ac,bc,rfl,rfl,m,ha,hb,hp⟩
   dsimp only
   refine JW (bb (bm hb) ?_)
   refine JW (bb (bm (show ia < a.size by omega)) ?_)
   refine JW (qz hk (p.kB hb) (p.kA (!1)) ?_)
   dsimp only
   by_cases hw:kz b[ib] < kz a[ia]
   ·rw[Z4 (Z3 hw)]
    have m':=m.tR p.sB hb (λy hy=>by have:=p.dA (!1) hy;omega)
    refine JW (bb (bm hb) ?_)
    by_cases e:ib+1=b.size
    ·rw[Z4 (by simpa using e)]
     exact JV ⟨rfl,.inl ⟨_,_,rfl,m'.done p.sA p.sB (.inr (!1))⟩⟩
    ·rw[Z5 (by simpa using e)]
     refine aQ (λeI=> ?_) λeI=> ?_
     ·exact JV ⟨rfl,.inr ⟨_,_,_,_,_,rfl,m',ha,by omega,by omega⟩⟩
     ·exact JV ⟨_,_,_,_,_,rfl,rfl,m',ha,by omega,by omega⟩
   ·rw[Z5 (by rw[Z2 hw];exact K3)]
    have m':=m.qB p.sA (!1) (λy hy=>by have:=p.dB hb hy;omega)
    refine JW (bb (bm (show ia < a.size by omega)) ?_)
    by_cases e:ia+1+1=a.size
    ·rw[Z4 (by simpa using e)]
     exact JV ⟨rfl,.inl ⟨_,_,rfl,m'.last p.sA p.sB (p.An e)⟩⟩
    ·rw[Z5 (by simpa using e)]
     refine aQ (λeI=> ?_) λeI=> ?_
     ·exact JV ⟨rfl,.inr ⟨_,_,_,_,_,rfl,m',by omega,hb,by omega⟩⟩
     ·exact JV ⟨_,_,_,_,_,rfl,rfl,m',by omega,hb,by omega⟩
  ·rintro c st' ⟨out,ia,ib,ac,bc,rfl,rfl,m,ha,hb,hp⟩
   exact⟨rfl,.inr ⟨_,_,_,_,_,rfl,m,ha,hb,by omega⟩⟩
  ·rintro c st' ⟨rfl,⟨r,d,rfl,hr⟩ | ⟨out,ia,ib,ac,bc,rfl,lv⟩⟩
   ·exact JV ⟨g,r,_,rfl,rfl,hr⟩
   refine JW (wpS_lift (wpAny_rule ⟨rfl,?_⟩))
   refine JW (wpS_mono (wpS_forRange (I:=λy c st'=>∃g out ia ib mg ac bc,st'=SG st g/\c=(none,out,ia,ib,mg,ac,bc)/\Lv a b out ia ib (x+2))
    (Q:=λc st'=>(∃g r d,st'=SG st g/\c=(some r,d)/\Fn a b r)∨∃g out ia ib mg ac bc,st'=SG st g/\c=(none,out,ia,ib,mg,ac,bc)/\Lv a b out ia ib (x+2)) ?_ ?_ ⟨_,_,_,_,_,_,_,rfl,rfl,lv⟩) ?_)
   ·rintro y c st' _ hy ⟨g,out,ia,ib,mg,ac,bc,rfl,rfl,m,ha,hb,hp⟩
    dsimp only
    revert mg
    refine tS (λ_=>rfl) λmg=> ?_
    refine JW (pJ ?_)
    refine JW (bb (bm hb) ?_)
    refine JW (qD hk (p.kB hb) p.ia (!1) (!1) (by rw[m7];exact p.sA.sublist (YQ _ _)) λk q1 q2 q3=> ?_)
    rw[m7] at q2 q3
    have mA:=m.y4 p.sA k (λx hx y hy=>by have:=q2 x hx;have:=p.dB hb hy;omega)
    rw[Ju] at q3
    have hP:MI a b out ia ib/\MI a b (out++a.extract ia (ia+k)) (ia+k) ib/\ia+1 < a.size/\x+2<=ia+ib/\k<=a.size - ia/\∀y∈a.toList.drop (ia+k),kz b[ib] < kz y:=⟨m,mA,by omega,hp,q1,q3⟩
    clear mA m ha hp q1 q2 q3
    revert hP
    revert out
    revert ia
    refine Hv (λx' o=>x'+1 < a.size/\x+2<=x'+ib/\MI a b o x' ib/\∀y∈a.toList.drop x',kz b[ib]<=kz y) (λn _=>n+k) (λn o=>o++a.extract n (n+k)) ?_ (λia out ⟨m,mA,ha,hp,q1,q3⟩ _ e5=> ?_) (λia out ⟨m,mA,ha,hp,q1,q3⟩ _ e5 e6=> ?_) (λia out ⟨m,mA,ha,hp,q1,q3⟩ _ e5 e6=> ?_) (λia out ⟨m,mA,ha,hp,q1,q3⟩ hk1=> ?_) ?_
    ·intro _ _;rfl
    ·exact JV (.inl ⟨_,_,_,rfl,rfl,mA.last p.sA p.sB (p.An (beq_iff_eq.mp e5))⟩)
    ·exact JV (.inl ⟨_,_,_,rfl,rfl,mA.done p.sA p.sB (.inl (by simp only[Z9] at e6;omega))⟩)
    ·simp only[Z9] at e5 e6
     exact⟨by omega,by omega,mA,λy hy=>Yv (q3 y hy)⟩
    ·obtain rfl:k=0:=by omega
     exact⟨ha,hp,m,λy hy=>Yv (q3 y hy)⟩
    rintro Hw o ⟨ha3,hp,m2,hx2⟩
    have ha2:Hw < a.size:=by omega
    refine JW (bb (bm hb) ?_)
    have mB:=m2.tR p.sB hb hx2
    generalize o.push b[ib]=o1 at mB⊢
    generalize hib:ib+1=Ca at mB⊢
    refine aQ (λe3=> ?_) λe3=> ?_
    ·exact JV (.inl ⟨_,_,_,rfl,rfl,mB.done p.sA p.sB (.inr (by simp only[Z9] at e3;omega))⟩)
    simp only[Z9] at e3
    refine JW (bb (bm ha2) ?_)
    refine JW (qE hk (p.kA ha2) p.ib (!1) (!1) (by rw[m7];exact p.sB.sublist (YQ _ _)) λk2 r1 r2 r3=> ?_)
    rw[m7] at r2 r3
    have mC:=mB.JE p.sB k2 (λx hx y hy=>by have:=r2 x hx;have:=p.dA ha2 hy;omega)
    rw[Ju] at r3
    have hP:MI a b o1 Hw Ca/\MI a b (o1++b.extract Ca (Ca+k2)) Hw (Ca+k2)/\Ca < b.size/\x+3<=Hw+Ca/\k2<=b.size - Ca/\∀z∈b.toList.drop (Ca+k2),kz a[Hw]<=kz z:=⟨mB,mC,by omega,by omega,r1,r3⟩
    clear mC mB r1 r2 r3 e3 hib
    revert hP
    revert o1
    revert Ca
    refine Hu (λy o=>y < b.size/\x+3<=Hw+y/\MI a b o Hw y/\∀z∈b.toList.drop y,kz a[Hw]<=kz z) (λn _=>n+k2) (λn o=>o++b.extract n (n+k2)) ?_ (λCa o1 ⟨mB,mC,i1,i2,r1,r3⟩ _ e5=> ?_) (λCa o1 ⟨mB,mC,i1,i2,r1,r3⟩ _ e5=> ?_) (λCa o1 ⟨mB,mC,i1,i2,r1,r3⟩ hk2=> ?_) ?_
    ·intro _ _;rfl
    ·exact JV (.inl ⟨_,_,_,rfl,rfl,mC.done p.sA p.sB (.inr (by simp only[Z9] at e5;omega))⟩)
    ·simp only[Z9] at e5
     exact⟨by omega,by omega,mC,r3⟩
    ·obtain rfl:k2=0:=by omega
     exact⟨i1,i2,mB,r3⟩
    rintro QF o ⟨hb2,hb3,m3,P_⟩
    refine JW (bb (bm ha2) ?_)
    have m4:=m3.qB p.sA ha2 P_
    refine aQ (λe4=> ?_) λe4=> ?_
    ·exact JV (.inl ⟨_,_,_,rfl,rfl,m4.last p.sA p.sB (p.An (beq_iff_eq.mp e4))⟩)
    simp only[Z9] at e4
    refine aQ (λeJ=> ?_) λeJ=> ?_
    ·exact JV (.inr ⟨_,_,_,_,_,_,_,rfl,rfl,m4,by omega,by omega,by omega⟩)
    ·exact JV ⟨_,_,_,_,_,_,_,rfl,rfl,m4,by omega,by omega,by omega⟩
   ·rintro c st' ⟨g,out,ia,ib,mg,ac,bc,rfl,rfl,lv⟩
    exact .inr ⟨_,_,_,_,_,_,_,rfl,rfl,lv⟩
   ·rintro c st' (⟨g,r,d,rfl,rfl,hr⟩ | ⟨g,out,ia,ib,mg,ac,bc,rfl,rfl,lv⟩)
    ·exact JV ⟨_,_,_,rfl,rfl,hr⟩
    ·dsimp only
     exact JW (pJ (JV ⟨_,_,_,_,_,rfl,rfl,lv⟩))
 ·rintro c st' ⟨g,out,ia,ib,mg,rfl,rfl,m,ha,hb,hp⟩
  omega
 ·rintro c st' ⟨g,r,d,rfl,rfl,hr⟩
  exact JV (hq r g hr)
end
section
variable {prog:Program}{w:World}{A:Around}{E:Zu}{s:Shared}{a b out:Array Keyed}{na nb:Nat}
theorem MH.tR (m:MH a b out na nb)(sB:jP kz b.toList)(h1:1<=nb)(h2:nb<=b.size)(hx:∀y∈a.toList.take na,kz y<=kz (b[nb - 1]'(!1))):MH a b (out.push (b[nb - 1]'(!1))) na (nb - 1):=(m.symm.qB sB h1 h2 hx).symm
theorem MH.JE (m:MH a b out na nb)(sB:jP kz b.toList)(at_:Nat)(h1:at_<=nb)(h2:nb<=b.size)(hx:∀x∈(b.toList.take nb).drop at_,∀y∈a.toList.take na,kz y<=kz x):MH a b (out++(b.extract at_ nb).reverse) na at_:=(m.symm.y4 sB at_ h1 h2 hx).symm
theorem Pre.tA (p:Pre a b)(h1:1<=n)(h:n<=a.size)(hy:y∈a.toList.take n):kz y<=kz (a[n - 1]'(!1)):=by
 have:=qC p.sA h1 (by rw[KU];exact h) hy;simpa using this
theorem Pre.tB (p:Pre a b)(h1:1<=n)(h:n<=b.size)(hy:y∈b.toList.take n):kz y<=kz (b[n - 1]'(!1)):=by
 have:=qC p.sB h1 (by rw[KU];exact h) hy;simpa using this
theorem Pre.u0 (p:Pre a b)(h:m=1):∀x∈a.toList.take n,∀y∈b.toList.take m,kz y<=kz x:=λx hx y hy=>by
 subst h
 have h1:=p.h0 x (U0 hx)
 have h2:=p.tB (n:=1) (K0 _) p.b1 hy
 exact J9 h2 h1
structure Lh (a b out:Array Keyed)(na nb lo:Nat):Prop where
 m:MH a b out na nb
 h1:1<=na
 g1:na<=a.size
 h2:2<=nb
 g2:nb<=b.size
 hp:lo<=(a.size - na)+(b.size - nb)
theorem Gj {st:SortSt}{Q:Array Keyed->SortSt->Prop}(hk:kindOf st=oneType')(p:Pre a b)(hq:∀r g,Fn a b r->Q r (SG st g)):wpS (!4) A E s (P8 a b) Q st:=by
 have a1:=p.a1
 have b1:=p.b1
 refine JW (wpS_lift (wpAny_rule ⟨rfl,?_⟩))
 refine JW (bb (bm (show a.size - 1 < a.size by omega)) ?_)
 have m0:MH a b #[a[a.size - 1]] (a.size - 1) b.size:=(MH.nil a b).qB p.sA a1 (K0 _) (λy hy=>p.hl y (U0 hy))
 refine aQ (λe1=> ?_) λe1=> ?_
 ·simp only[Z9] at e1
  exact JV (hq _ (gallopOf st) (m0.done p.sA p.sB (!1) (K0 _) (.inl e1)))
 simp only[Z9] at e1
 refine aQ (λe2=> ?_) λe2=> ?_
 ·simp only[Z9] at e2
  exact JV (hq _ (gallopOf st) (m0.both p.sA p.sB (!1) (K0 _) (p.u0 e2)))
 simp only[Z9] at e2
 refine JW (JQ ?_)
 refine JW (wpS_mono (wpS_forRange (I:=λx c st'=>∃g na nb out mg,st'=SG st g/\c=(none,na,nb,out,mg)/\Lh a b out na nb (x+1))
  (Q:=λc st'=>∃g r d,st'=SG st g/\c=(some r,d)/\Fn a b r) ?_ ?_ ⟨gallopOf st,_,_,_,_,rfl,rfl,m0,by omega,by omega,by omega,by omega,by omega⟩) ?_)
 ·rintro x c st' _ hx ⟨g,na,nb,out,mg,rfl,rfl,lv⟩
  refine JW (wpS_mono (wpS_forRange (I:=λy c st'=>∃na nb out ac bc,st'=SG st g/\c=(none,na,nb,out,ac,bc)/\Lh a b out na nb (x+1+y))
   (Q:=λc st'=>st'=SG st g/\((∃r d,c=(some r,d)/\Fn a b r)∨∃na nb out ac bc,c=(none,na,nb,out,ac,bc)/\Lh a b out na nb (x+2))) ?_ ?_ ⟨_,_,_,_,_,rfl,rfl,lv⟩) ?_)
  ·rintro y c st' _ hy ⟨na,nb,out,ac,bc,rfl,rfl,m,h1,g1,h2,g2,hp⟩
   dsimp only
   refine JW (bb (bm (show nb - 1 < b.size by omega)) ?_)
   refine JW (bb (bm (show na - 1 < a.size by omega)) ?_)
   refine JW (qz hk (p.kB (!1)) (p.kA (!1)) ?_)
   dsimp only
   by_cases hw:kz (b[nb - 1]'(!1)) < kz (a[na - 1]'(!1))
   ·rw[Z4 (Z3 hw)]
    have m':=m.qB p.sA h1 g1 (λy hy=>by have:=p.tB (!1) g2 hy;omega)
    refine JW (bb (bm (show na - 1 < a.size by omega)) ?_)
    refine aQ (λe=> ?_) λe=> ?_
    ·simp only[Z9] at e
     exact JV ⟨rfl,.inl ⟨_,_,rfl,m'.done p.sA p.sB (!1) g2 (.inl e)⟩⟩
    ·simp only[Z9] at e
     refine aQ (λeI=> ?_) λeI=> ?_
     ·exact JV ⟨rfl,.inr ⟨_,_,_,_,_,rfl,m',by omega,by omega,by omega,by omega,by omega⟩⟩
     ·exact JV ⟨_,_,_,_,_,rfl,rfl,m',by omega,by omega,by omega,by omega,by omega⟩
   ·rw[Z5 (by rw[Z2 hw];exact K3)]
    have m':=m.tR p.sB (!1) g2 (λy hy=>by have:=p.tA h1 g1 hy;omega)
    refine JW (bb (bm (show nb - 1 < b.size by omega)) ?_)
    refine aQ (λe=> ?_) λe=> ?_
    ·simp only[Z9] at e
     exact JV ⟨rfl,.inl ⟨_,_,rfl,m'.both p.sA p.sB g1 (!1) (p.u0 e)⟩⟩
    ·simp only[Z9] at e
     refine aQ (λeI=> ?_) λeI=> ?_
     ·exact JV ⟨rfl,.inr ⟨_,_,_,_,_,rfl,m',by omega,by omega,by omega,by omega,by omega⟩⟩
     ·exact JV ⟨_,_,_,_,_,rfl,rfl,m',by omega,by omega,by omega,by omega,by omega⟩
  ·rintro c st' ⟨na,nb,out,ac,bc,rfl,rfl,m,h1,g1,h2,g2,hp⟩
   exact⟨rfl,.inr ⟨_,_,_,_,_,rfl,m,h1,g1,h2,g2,by omega⟩⟩
  ·rintro c st' ⟨rfl,⟨r,d,rfl,hr⟩ | ⟨na,nb,out,ac,bc,rfl,lv⟩⟩
   ·exact JV ⟨g,r,_,rfl,rfl,hr⟩
   refine JW (wpS_lift (wpAny_rule ⟨rfl,?_⟩))
   refine JW (wpS_mono (wpS_forRange (I:=λy c st'=>∃g na nb out mg ac bc,st'=SG st g/\c=(none,na,nb,out,mg,ac,bc)/\Lh a b out na nb (x+2))
    (Q:=λc st'=>(∃g r d,st'=SG st g/\c=(some r,d)/\Fn a b r)∨∃g na nb out mg ac bc,st'=SG st g/\c=(none,na,nb,out,mg,ac,bc)/\Lh a b out na nb (x+2)) ?_ ?_ ⟨_,_,_,_,_,_,_,rfl,rfl,lv⟩) ?_)
   ·rintro y c st' _ hy ⟨g,na,nb,out,mg,ac,bc,rfl,rfl,m,h1,g1,h2,g2,hp⟩
    dsimp only
    revert mg
    refine tS (λ_=>rfl) λmg=> ?_
    refine JW (pJ ?_)
    refine JW (bb (bm (show nb - 1 < b.size by omega)) ?_)
    refine JW (qD hk (p.kB (!1)) p.ia (!1) (!1) (by rw[Y7];exact p.sA.sublist (Jy _ _)) λat1 q1 q2 q3=> ?_)
    rw[Y7] at q2 q3
    rw[List.take_take,J4 q1] at q2
    dsimp only
    have hlt:nb - 1 < b.size:=by clear q2 q3;omega
    replace q2:∀z∈a.toList.take at1,kz z<=kz (b[nb - 1]'hlt):=q2
    generalize hac:na - at1=Qa
    have mA:=m.y4 p.sA at1 q1 g1 (λx hx y hy=>by have:=q3 x hx;have:=p.tB (!1) g2 hy;omega)
    have hP:MH a b out na nb/\MH a b (out++(a.extract at1 na).reverse) at1 nb/\1<=na/\na<=a.size/\x+2<=a.size - na+(b.size - nb)/\at1<=na/\na - at1=Qa:=⟨m,mA,h1,g1,hp,q1,hac⟩
    clear mA m h1 g1 hp q1 q3 hac
    revert hP
    revert out
    revert na
    refine Hu (λy o=>1<=y/\y<=a.size/\x+2<=a.size - y+(b.size - nb)/\MH a b o y nb/\∀z∈a.toList.take y,kz z<=kz (b[nb - 1]'hlt)) (λ_ _=>at1) (λn o=>o++(a.extract at1 n).reverse) ?_ (λna out ⟨m,mA,h1,g1,hp,q1,hac⟩ _ e5=> ?_) (λna out ⟨m,mA,h1,g1,hp,q1,hac⟩ _ e5=> ?_) (λna out ⟨m,mA,h1,g1,hp,q1,hac⟩ hk1=> ?_) ?_
    ·intro _ _;rfl
    ·exact JV (.inl ⟨_,_,_,rfl,rfl,mA.done p.sA p.sB (!1) g2 (.inl (beq_iff_eq.mp e5))⟩)
    ·simp only[Z9] at e5
     exact⟨by omega,by omega,by omega,mA,q2⟩
    ·obtain rfl:at1=na:=by omega
     exact⟨h1,g1,hp,m,q2⟩
    clear q2
    rintro EX o ⟨f1,f2,hp,m2,q2⟩
    refine JW (bb (bm (show nb - 1 < b.size by omega)) ?_)
    have mB:=m2.tR p.sB (!1) g2 q2
    generalize o.push (b[nb - 1]'(!1))=o1 at mB⊢
    generalize hnb:nb - 1=Ao at mB⊢
    refine aQ (λe3=> ?_) λe3=> ?_
    ·exact JV (.inl ⟨_,_,_,rfl,rfl,mB.both p.sA p.sB (!1) (!1) (p.u0 (beq_iff_eq.mp e3))⟩)
    simp only[Z9] at e3
    refine JW (bb (bm (show EX - 1 < a.size by omega)) ?_)
    refine JW (qE hk (p.kA (!1)) p.ib (!1) (!1) (by rw[Y7];exact p.sB.sublist (Jy _ _)) λat2 r1 r2 r3=> ?_)
    rw[Y7] at r2 r3
    rw[List.take_take,J4 r1] at r2
    dsimp only
    have hla:EX - 1 < a.size:=by clear r2 r3;omega
    replace r2:∀z∈b.toList.take at2,kz z < kz (a[EX - 1]'hla):=r2
    generalize hbc:Ao - at2=Qb
    have mC:=mB.JE p.sB at2 r1 (!1) (λx hx y hy=>by have:=r3 x hx;have:=p.tA f1 f2 hy;omega)
    have hP:MH a b o1 EX Ao/\MH a b (o1++(b.extract at2 Ao).reverse) EX at2/\2<=Ao/\Ao<=b.size/\x+3<=a.size - EX+(b.size - Ao)/\at2<=Ao/\Ao - at2=Qb:=⟨mB,mC,by omega,by omega,by omega,r1,hbc⟩
    clear mC mB r1 r3 hbc e3 q2 hnb
    revert hP
    revert o1
    revert Ao
    refine Hv (λy o=>2<=y/\y<=b.size/\x+3<=a.size - EX+(b.size - y)/\MH a b o EX y/\∀z∈b.toList.take y,kz z < kz (a[EX - 1]'hla)) (λ_ _=>at2) (λn o=>o++(b.extract at2 n).reverse) ?_ (λAo o1 ⟨mB,mC,i1,i2,i3,r1,hbc⟩ _ e5=> ?_) (λAo o1 ⟨mB,mC,i1,i2,i3,r1,hbc⟩ _ e5 e6=> ?_) (λAo o1 ⟨mB,mC,i1,i2,i3,r1,hbc⟩ _ e5 e6=> ?_) (λAo o1 ⟨mB,mC,i1,i2,i3,r1,hbc⟩ hk2=> ?_) ?_
    ·intro _ _;rfl
    ·exact JV (.inl ⟨_,_,_,rfl,rfl,mC.both p.sA p.sB f2 (!1) (p.u0 (beq_iff_eq.mp e5))⟩)
    ·exact JV (.inl ⟨_,_,_,rfl,rfl,mC.done p.sA p.sB f2 (!1) (.inr (beq_iff_eq.mp e6))⟩)
    ·simp only[Z9] at e5 e6
     exact⟨by omega,by omega,by omega,mC,r2⟩
    ·obtain rfl:at2=Ao:=by omega
     exact⟨i1,i2,i3,mB,r2⟩
    clear r2
    rintro QG o ⟨k2,k1,i3,m3,r2⟩
    refine JW (bb (bm (show EX - 1 < a.size by omega)) ?_)
    have m4:=m3.qB p.sA f1 f2 (λy hy=>Yv (r2 y hy))
    refine aQ (λe4=> ?_) λe4=> ?_
    ·exact JV (.inl ⟨_,_,_,rfl,rfl,m4.done p.sA p.sB (!1) (!1) (.inl (beq_iff_eq.mp e4))⟩)
    simp only[Z9] at e4
    refine aQ (λeJ=> ?_) λeJ=> ?_
    ·exact JV (.inr ⟨_,_,_,_,_,_,_,rfl,rfl,m4,by omega,by omega,by omega,by omega,by omega⟩)
    ·exact JV ⟨_,_,_,_,_,_,_,rfl,rfl,m4,by omega,by omega,by omega,by omega,by omega⟩
   ·rintro c st' ⟨g,na,nb,out,mg,ac,bc,rfl,rfl,lv⟩
    exact .inr ⟨_,_,_,_,_,_,_,rfl,rfl,lv⟩
   ·rintro c st' (⟨g,r,d,rfl,rfl,hr⟩ | ⟨g,na,nb,out,mg,ac,bc,rfl,rfl,lv⟩)
    ·exact JV ⟨_,_,_,rfl,rfl,hr⟩
    ·dsimp only
     exact JW (pJ (JV ⟨_,_,_,_,_,rfl,rfl,lv⟩))
 ·rintro c st' ⟨g,na,nb,out,mg,rfl,rfl,m,h1,g1,h2,g2,hp⟩
  omega
 ·rintro c st' ⟨g,r,d,rfl,rfl,hr⟩
  exact JV (hq r g hr)
end
noncomputable abbrev lA:Nat->Nat->StateT SortSt Sem (Option Bool):=sortPriv% PySem.Builtin.ltAt
noncomputable abbrev rS:Nat->Nat->StateT SortSt Sem Unit:=sortPriv% PySem.Builtin.reverseSlice
noncomputable abbrev mD:Nat->Nat->StateT SortSt Sem Unit:=sortPriv% PySem.Builtin.moveDown
noncomputable abbrev cR:Nat->Nat->StateT SortSt Sem (Option Nat):=sortPriv% PySem.Builtin.countRun
noncomputable abbrev bS:Nat->Nat->Nat->StateT SortSt Sem Bool:=sortPriv% PySem.Builtin.binarySort
structure El (a₀:Array Keyed):Prop where
 k:∀x∈a₀.toList,IK x
 d:a₀.toList.Pairwise λx y=>kz x≠kz y
structure SB (a₀:Array Keyed)(st:SortSt):Prop where
 perm:(arrOf st).Perm a₀
 kind:kindOf st=oneType'
 failed:failedOf st=none
def l6 (xs:Array Keyed)(lo hi:Nat):Prop:=∀i j,lo<=i->i < j->j < hi->K xs i<=K xs j
section
variable {prog:Program}{w:World}{A:Around}{E:Zu}{s:Shared}{a₀:Array Keyed}{st:SortSt}
theorem SB.size (h:SB a₀ st):(arrOf st).size=a₀.size:=h.perm.size_eq
theorem SB.ik (h:SB a₀ st)(e:El a₀):∀x∈(arrOf st).toList,IK x:=λx hx=>e.k x ((Array.perm_iff_toList_perm.mp h.perm).mem_iff.mp hx)
theorem SB.dist (h:SB a₀ st)(e:El a₀):(arrOf st).toList.Pairwise λx y=>kz x≠kz y:=((Array.perm_iff_toList_perm.mp h.perm).pairwise_iff λh=>h.symm).mpr e.d
theorem SB.ne (h:SB a₀ st)(e:El a₀)(hi:i < a₀.size)(hj:j < a₀.size)(hn:i≠j):K (arrOf st) i≠K (arrOf st) j:=by
 have hi':i < (arrOf st).size:=by rw[h.size];exact hi
 have hj':j < (arrOf st).size:=by rw[h.size];exact hj
 rw[Bz (bm hi'),Bz (bm hj')]
 have pw:=Yq.mp (h.dist e)
 rcases Nat.lt_or_gt_of_ne hn with z | z
 ·have:=pw i j (by simpa using hi') (by simpa using hj') z
  simpa using this
 ·have:=pw j i (by simpa using hj') (by simpa using hi') z
  intro q;exact this (by simpa using q.symm)
theorem SB.set (h:SB a₀ st)(hp:xs.Perm (arrOf st)):SB a₀ (setArr st xs):=⟨hp.trans h.perm,h.kind,h.failed⟩
theorem nZ (hB:SB a₀ st)(e:El a₀)(hi:i < a₀.size)(hj:j < a₀.size)(h:Q (some (decide (K (arrOf st) i < K (arrOf st) j))) st):wpS (!4) A E s (lA i j) Q st:=by
 have hi':i < (arrOf st).size:=by rw[hB.size];exact hi
 have hj':j < (arrOf st).size:=by rw[hB.size];exact hj
 rw[Bz (bm hi'),Bz (bm hj')] at h
 show wpS (!4) A E s (ltAt' i j) Q st
 rw[ltAt'_eq]
 refine JW (JQ ?_)
 refine JW (bb (bm hi') (JW (bb (bm hj') ?_)))
 exact qz hB.kind (hB.ik e _ (by simp)) (hB.ik e _ (by simp)) h
theorem JF (h:Q () (setArr st (mirror (arrOf st) i j ((j - i) / 2)))):wpS M A E s (rS i j) Q st:=by
 show wpS M A E s (reverseSlice' i j) Q st
 rw[reverseSlice'_eq];exact wpS_modify h
theorem JG (h:Q () (setArr st (bubble (arrOf st) i (i - j)))):wpS M A E s (mD i j) Q st:=by
 show wpS M A E s (moveDown' i j) Q st
 rw[moveDown'_eq];exact wpS_modify h
theorem l6.one (xs:Array Keyed)(lo:Nat):l6 xs lo (lo+1):=λi j h1 h2 h3=>by omega
theorem l6.up {xs:Array Keyed}{lo n:Nat}(h:l6 xs lo (lo+n))(h1:1<=n)(hl:K xs (lo+n - 1)<=K xs (lo+n)):l6 xs lo (lo+(n+1)):=λi j a1 a2 a3=>by
 by_cases hj:j=lo+n
 ·subst hj
  by_cases hi:i=lo+n - 1
  ·rw[hi];exact hl
  ·exact J9 (h i (lo+n - 1) a1 (!1) (!1)) hl
 ·exact h i j a1 a2 (!1)
theorem JH {lo nrem:Nat}{Q:Option Nat->SortSt->Prop}(hB:SB a₀ st)(e:El a₀)(hn:lo+nrem<=a₀.size)(h1:1<=nrem)
  (h:∀m xs,xs.Perm (arrOf st)->(∀k,k < lo->xs[k]? =(arrOf st)[k]?)->1<=m->m<=nrem->l6 xs lo (lo+m)->Q (some m) (setArr st xs)):wpS (!4) A E s (cR lo nrem) Q st:=by
 refine JW (wpS_mono (wpS_forRange (I:=λx c st'=>st'=st/\c=(none,x)/\l6 (arrOf st) lo (lo+x))
  (Q:=λc st'=>st'=st/\∃n,c=(none,n)/\1<=n/\n<=nrem/\l6 (arrOf st) lo (lo+n)/\(n=nrem∨K (arrOf st) (lo+n) < K (arrOf st) (lo+n - 1))) ?_ ?_ ⟨rfl,rfl,l6.one _ _⟩) ?_)
 ·rintro x c st' Qc hxn ⟨rfl,rfl,hs'⟩
  dsimp only
  refine JW (nZ hB e (!1) (!1) ?_)
  dsimp only
  refine aQ (λhl=> ?_) λhl=> ?_
  ·simp only[Z8] at hl
   exact JV ⟨rfl,x,rfl,by omega,by omega,hs',.inr hl⟩
  ·simp only[Z8] at hl
   exact JV ⟨rfl,rfl,hs'.up (!1) (!1)⟩
 ·rintro c st' ⟨rfl,rfl,hs'⟩
  rw[show max 1 nrem=nrem by omega] at hs'⊢
  exact⟨rfl,nrem,rfl,h1,K0 _,hs',.inl rfl⟩
 rintro c st' ⟨est,n,rfl,n1,n2,hs,hor⟩
 rw[est]
 dsimp only
 refine aQ (λe1=> ?_) λe1=> ?_
 ·exact JV (h n (arrOf st) (Array.Perm.refl _) (λ_ _=>rfl) n1 n2 hs)
 simp only[Z9] at e1
 have hlt:=hor.resolve_left e1
 refine aQ (λe2=> ?_) λe2=> ?_
 ·have hr:K (arrOf st) lo < K (arrOf st) (lo+n - 1):=by
   have q1:=hs lo (lo+n - 1) (!1) (!1) (!1)
   have q2:=hB.ne e (i:=lo) (j:=lo+n - 1) (!1) (!1) (!1)
   omega
  refine JW (nZ hB e (!1) (!1) ?_)
  dsimp only
  rw[Z4 (Z3 hr)]
  exact JV (h n (arrOf st) (Array.Perm.refl _) (λ_ _=>rfl) n1 n2 hs)
 obtain rfl:n=1:=by omega
 refine JW (wpS_lift (wpAny_rule ⟨rfl,?_⟩))
 refine JW (wpS_mono (wpS_forRange (I:=λx c st'=>st'=st/\c=(none,x,0)/\∀i j,lo<=i->i < j->j < lo+x->K (arrOf st) j < K (arrOf st) i)
  (Q:=λc st'=>st'=st/\∃n,c=(none,n,0)/\2<=n/\n<=nrem/\∀i j,lo<=i->i < j->j < lo+n->K (arrOf st) j < K (arrOf st) i) ?_ ?_ ⟨rfl,rfl,λi j u1 u2 u3=>by
   obtain rfl:i=lo:=by omega
   obtain rfl:j=i+1:=by omega
   exact hlt⟩) ?_)
 ·rintro x c st' hx1 hxn ⟨rfl,rfl,hs'⟩
  dsimp only
  refine JW (nZ hB e (!1) (!1) ?_)
  dsimp only
  refine aQ (λhl=> ?_) λhl=> ?_
  ·simp only[Z8] at hl
   rw[Z5 (!1)]
   refine JV ⟨rfl,rfl,λi j u1 u2 u3=> ?_⟩
   by_cases hj:j=lo+x
   ·subst hj
    by_cases hi:i=lo+x - 1
    ·rw[hi];exact hl
    ·exact Int.lt_trans hl (hs' i (lo+x - 1) u1 (!1) (!1))
   ·exact hs' i j u1 u2 (!1)
  ·simp only[Z8] at hl
   have q2:=hB.ne e (i:=lo+x) (j:=lo+x - 1) (!1) (!1) (!1)
   have hl2:K (arrOf st') (lo+x - 1) < K (arrOf st') (lo+x):=by omega
   refine JW (nZ hB e (!1) (!1) ?_)
   dsimp only
   rw[Z4 (Z3 hl2)]
   exact JV ⟨rfl,x,rfl,by omega,by omega,hs'⟩
 ·rintro c st' ⟨rfl,rfl,hs'⟩
  rw[show max (1+1) nrem=nrem by omega] at hs'⊢
  exact⟨rfl,nrem,rfl,by omega,K0 _,hs'⟩
 rintro c st' ⟨est,n,rfl,m1,m2,hd⟩
 rw[est]
 dsimp only
 rw[Z5 (!1)]
 refine JW (JF ?_)
 have hsz:lo+n<=(arrOf st).size:=by rw[hB.size];omega
 have hp:=mirror_perm (arrOf st) lo (lo+n) ((lo+n - lo) / 2)
 have hkeep:∀k,k < lo->(mirror (arrOf st) lo (lo+n) ((lo+n - lo) / 2))[k]? =(arrOf st)[k]?:=λk hk=>by
  rw[getElem?_mirror_all hsz,Z5 (!1)]
 have hs2:l6 (mirror (arrOf st) lo (lo+n) ((lo+n - lo) / 2)) lo (lo+n):=λi j u1 u2 u3=>by
  rw[K_mirror hsz,K_mirror hsz,Z4 (!1),Z4 (!1)]
  exact Yv (hd _ _ (!1) (!1) (!1))
 have hB2:=hB.set hp
 generalize mirror (arrOf st) lo (lo+n) ((lo+n - lo) / 2)=ys at hp hkeep hs2 hB2
 obtain⟨st2,Gk⟩:∃st2,st2=setArr st ys:=⟨_,rfl⟩
 have Le:arrOf st2=ys:=by rw[Gk]
 rw[←Gk] at hB2⊢
 refine JW (wpS_mono (wpS_forRange (I:=λx c st'=>st'=st2/\c=(none,x)/\l6 (arrOf st2) lo (lo+x))
  (Q:=λc st'=>st'=st2/\∃k,c=(none,k)/\n<=k/\k<=nrem/\l6 (arrOf st2) lo (lo+k)/\(k=nrem∨K (arrOf st2) (lo+k) < K (arrOf st2) (lo+k - 1))) ?_ ?_ ⟨rfl,rfl,by rw[Le];exact hs2⟩) ?_)
 ·clear hB
  have hB:=hB2
  clear hB2
  clear Gk Le
  rintro x c st' Qc hxn ⟨rfl,rfl,hs'⟩
  dsimp only
  refine JW (nZ hB e (!1) (!1) ?_)
  dsimp only
  refine aQ (λhl=> ?_) λhl=> ?_
  ·simp only[Z8] at hl
   exact JV ⟨rfl,x,rfl,by omega,by omega,hs',.inr hl⟩
  ·simp only[Z8] at hl
   exact JV ⟨rfl,rfl,hs'.up (!1) (!1)⟩
 ·rintro c st' ⟨rfl,rfl,hs'⟩
  rw[show max n nrem=nrem by omega] at hs'⊢
  exact⟨rfl,nrem,rfl,m2,K0 _,hs',.inl rfl⟩
 rintro c st' ⟨e3,k,rfl,k1,k2,hs3,_⟩
 rw[e3,Gk]
 rw[Le] at hs3
 exact JV (h k ys hp hkeep (!1) k2 hs3)
theorem JI {lo n ok:Nat}{Q:Bool->SortSt->Prop}(hB:SB a₀ st)(e:El a₀)(hn:lo+n<=a₀.size)(h1:1<=ok)(hok:ok<=n)(hs:l6 (arrOf st) lo (lo+ok))
  (h:∀xs,xs.Perm (arrOf st)->(∀k,k < lo->xs[k]? =(arrOf st)[k]?)->l6 xs lo (lo+n)->Q true (setArr st xs)):wpS (!4) A E s (bS lo n ok) Q st:=by
 refine JW (wpS_mono (wpS_forRange (I:=λk c st'=>c=(none,())/\∃xs,st'=setArr st xs/\xs.Perm (arrOf st)/\(∀k,k < lo->xs[k]? =(arrOf st)[k]?)/\l6 xs lo (lo+min k n))
  (Q:=λc st'=>c=(none,())/\∃xs,st'=setArr st xs/\xs.Perm (arrOf st)/\(∀k,k < lo->xs[k]? =(arrOf st)[k]?)/\l6 xs lo (lo+n)) ?_ ?_ ⟨rfl,arrOf st,rfl,Array.Perm.refl _,λ_ _=>rfl,by rw[show min (max ok 1) n=ok by omega];exact hs⟩) ?_)
 ·rintro k c st' hk1 hkn ⟨rfl,xs,est,hp,hkeep,hs'⟩
  rw[show min k n=k by omega] at hs'
  have hB2:SB a₀ st':=by rw[est];exact hB.set hp
  have Le:arrOf st'=xs:=by rw[est]
  refine JW (wpS_mono (wpS_forRange (I:=λx c st''=>st''=st'/\∃l r,c=(none,l,r)/\l<=r/\r<=k/\r - l<=k - x/\(∀i,lo<=i->i < lo+l->K (arrOf st') i<=K (arrOf st') (lo+k))/\∀i,lo+r<=i->i < lo+k->K (arrOf st') (lo+k) < K (arrOf st') i)
   (Q:=λc st''=>st''=st'/\∃l r,c=(none,l,r)/\l<=k/\(∀i,lo<=i->i < lo+l->K (arrOf st') i<=K (arrOf st') (lo+k))/\∀i,lo+l<=i->i < lo+k->K (arrOf st') (lo+k) < K (arrOf st') i) ?_ ?_ ⟨rfl,0,k,rfl,by omega,by omega,by omega,λi _ _=>by omega,λi _ _=>by omega⟩) ?_)
  ·rintro x c st'' _ hx ⟨rfl,l,r,rfl,u1,u2,u3,u4,u5⟩
   dsimp only
   refine aQ (λhge=> ?_) λhge=> ?_
   ·obtain rfl:l=r:=by omega
    exact JV ⟨rfl,l,l,rfl,u2,u4,u5⟩
   ·refine JW (nZ hB2 e (!1) (!1) ?_)
    dsimp only
    rw[←Le] at hs'
    refine aQ (λhl=> ?_) λhl=> ?_
    ·simp only[Z8] at hl
     refine JV ⟨rfl,l,(l+r) / 2,rfl,by omega,by omega,by omega,u4,λi v1 v2=> ?_⟩
     by_cases hi:i=lo+(l+r) / 2
     ·rw[hi];exact hl
     ·exact Int.lt_of_lt_of_le hl (hs' _ _ (!1) (!1) v2)
    ·simp only[Z8] at hl
     refine JV ⟨rfl,(l+r) / 2+1,r,rfl,by omega,by omega,by omega,λi v1 v2=> ?_,u5⟩
     by_cases hi:i=lo+(l+r) / 2
     ·rw[hi];omega
     ·have:=hs' i (lo+(l+r) / 2) v1 (!1) (!1);omega
  ·rintro c st'' ⟨rfl,l,r,rfl,u1,u2,u3,u4,u5⟩
   obtain rfl:l=r:=by omega
   exact⟨rfl,l,l,rfl,u2,u4,u5⟩
  ·rintro c st'' ⟨e2,l,r,rfl,u2,u4,u5⟩
   rw[e2]
   dsimp only
   refine JW (JG ?_)
   rw[Le] at u4 u5
   have hsz:lo+k < xs.size:=by rw[hp.size_eq,hB.size];omega
   refine JV ⟨rfl,bubble xs (lo+k) (lo+k - (lo+l)),?_,(bubble_perm _ _ _).trans hp,λj hj=> ?_,?_⟩
   ·rw[est]
   ·rw[getElem?_bubble hsz _ (!1),Z5 (!1),Z5 (!1)];exact hkeep j hj
   ·rw[show min (k+1) n=k+1 by omega]
    intro i j v1 v2 v3
    rw[K_bubble hsz (!1),K_bubble hsz (!1),show lo+k - (lo+k - (lo+l))=lo+l by omega]
    repeat' split
    all_goals first
     | (exfalso;omega)
     | exact u4 _ (!1) (!1)
     | exact Yv (u5 _ (!1) (!1))
     | exact hs' _ _ (!1) (!1) (!1)
 ·rintro c st' ⟨rfl,xs,rfl,hp,hkeep,hs'⟩
  rw[show min (max (max ok 1) n) n=n by omega] at hs'
  exact⟨rfl,xs,rfl,hp,hkeep,hs'⟩
 ·rintro c st' ⟨rfl,xs,rfl,hp,hkeep,hs'⟩
  exact JV (h xs hp hkeep hs')
end
noncomputable abbrev O9:Nat->StateT SortSt Sem Bool:=sortPriv% PySem.Builtin.mergeAt
theorem DF {xs:Array Keyed}{lo n:Nat}(h:l6 xs lo (lo+n))(hb:lo+n<=xs.size):jP kz ((xs.toList.drop lo).take n):=by
 refine Yq.mpr λi j hi hj hij=> ?_
 have hl:((xs.toList.drop lo).take n).length=n:=by rw[X0,XU,KU];omega
 obtain⟨u1,e1⟩:=oO (arr:=xs) (base:=lo) (i:=i) hb (!1)
 obtain⟨u2,e2⟩:=oO (arr:=xs) (base:=lo) (i:=j) hb (!1)
 rw[←e1,←e2]
 exact h _ _ (!1) (!1) (!1)
theorem Mo {xs:Array Keyed}{lo n:Nat}(h:jP kz ((xs.toList.drop lo).take n))(hb:lo+n<=xs.size):l6 xs lo (lo+n):=λi j u1 u2 u3=>by
 obtain⟨v1,e1⟩:=oO (arr:=xs) (base:=lo) (i:=i - lo) hb (!1)
 obtain⟨v2,e2⟩:=oO (arr:=xs) (base:=lo) (i:=j - lo) hb (!1)
 rw[show lo+(i - lo)=i by omega] at e1
 rw[show lo+(j - lo)=j by omega] at e2
 rw[e1,e2]
 exact Yq.mp h _ _ v1 v2 (!1)
theorem Gm (P M T:List Keyed)(u v:Keyed):(P++u :: M++T).toArray.setIfInBounds P.length v=(P++[v]++M++T).toArray:=by
 apply Array.toList_inj.mp
 rw[Array.toList_setIfInBounds]
 simp
theorem qF (q:Nat)(T:List Keyed):∀(r P M:List Keyed) (m:Nat),M.length=r.length->P.length=q+m->(r.zipIdx m).foldl (λa x=>a.setIfInBounds (q+x.snd) x.fst) (P++M++T).toArray=(P++r++T).toArray
 | [],P,M,m,hM,_=>by
  rw[Y6] at hM
  rw[Yk hM];rfl
 | v :: r,P,M,m,hM,hP=>by
  cases M with
  | nil=>simp at hM
  | cons u M=>
   rw[List.zipIdx_cons,UY]
   dsimp only
   rw[←hP,Gm P M T u v]
   have ih:=qF q T r (P++[v]) M (m+1) (by simpa using hM) (by rw[K2,X8];omega)
   rw[ih]
   simp
theorem DH {P M M' T:List Keyed}(hl:M'.length=M.length){k:Nat}(h:k < P.length∨P.length+M.length<=k):(P++M'++T)[k]? =(P++M++T)[k]?:=by
 rcases h with h | h
 ·rw[X5,X5,Xx h,Xx h]
 ·rw[Xu (by rw[K2,hl];exact h),Xu (by rw[K2];exact h),K2,K2,hl]
def Mg (arr xs:Array Keyed)(sa n:Nat):Prop:=xs.Perm arr/\(∀k,k < sa∨sa+n<=k->xs[k]? =arr[k]?)/\l6 xs sa (sa+n)
theorem mg_of (h1:arr.toList=P++M++T)(h2:xs.toList=P++M'++T)(hp:M'.Perm M)(hs:jP kz M')(hP:P.length=sa)(hM:M.length=n):Mg arr xs sa n:=by
 have hl:=hp.length_eq
 refine⟨Array.perm_iff_toList_perm.mpr ?_,λk hk=> ?_,Mo ?_ ?_⟩
 ·rw[h1,h2];exact(hp.append_left P).append_right T
 ·rw[←UJ,←UJ,h1,h2];exact DH hl (by rw[hP,hM];exact hk)
 ·rw[h2,X5,←hP,List.drop_left,←hM,←hl,List.take_left];exact hs
 ·rw[←KU,h2,K2,K2];omega
section
variable {prog:Program}{w:World}{A:Around}{E:Zu}{s:Shared}{a₀:Array Keyed}{st:SortSt}
theorem Gn (h:Q ⟨⟩ t):wpS M A E s (set t:StateT SortSt Sem PUnit) Q st:=by
 unfold wpS;rw[StateT.run_set];exact Z6 ⟨rfl,h⟩
theorem DJ (hB:SB a₀ st)(e:El a₀)(hi:(pendingOf st)[i]? =some (sa,na,pw))(hj:(pendingOf st)[i+1]? =some (sa+na,nb,q))(n1:1<=na)(n2:1<=nb)(hb:sa+(na+nb)<=a₀.size)
  (s1:l6 (arrOf st) sa (sa+na)) (s2:l6 (arrOf st) (sa+na) (sa+na+nb))
  (h:∀xs g,Mg (arrOf st) xs sa (na+nb)->Q true (SortSt.mk' (kindOf st) xs (((pendingOf st).setIfInBounds i (sa,na+nb,pw)).eraseIdxIfInBounds (i+1)) g (failedOf st))):wpS (!4) A E s (O9 i) Q st:=by
 have hsz:=hB.size
 have ik:=hB.ik e
 have hk:=hB.kind
 have hf:=hB.failed
 have c1:=DF s1 (!1)
 have c2:=DF s2 (!1)
 obtain⟨P,hP⟩:∃P,P=(arrOf st).toList.take sa:=⟨_,rfl⟩
 obtain⟨R1,Gq⟩:∃R1,R1=((arrOf st).toList.drop sa).take na:=⟨_,rfl⟩
 obtain⟨R2,Gr⟩:∃R2,R2=((arrOf st).toList.drop (sa+na)).take nb:=⟨_,rfl⟩
 obtain⟨T,hT⟩:∃T,T=(arrOf st).toList.drop (sa+na+nb):=⟨_,rfl⟩
 have hL:(arrOf st).toList=P++(R1++R2)++T:=by
  rw[hP,Gq,Gr,hT,X5,X5]
  rw[←Ju (i:=nb),Uv,←Ju (i:=na),Uv,Uv]
 have lP:P.length=sa:=by rw[hP,X0,KU];omega
 have l1:R1.length=na:=by rw[Gq,X0,XU,KU];omega
 have l2:R2.length=nb:=by rw[Gr,X0,XU,KU];omega
 have g1:sa+na < (arrOf st).size:=by omega
 have g2:sa+na - 1 < (arrOf st).size:=by omega
 have O_:(arrOf st)[sa+na]=R2[0]'(!1):=by
  have:(arrOf st).toList[sa+na]'(by simpa using g1)=R2[0]'(!1):=by
   simp only[Gr,YV,Jj,Nat.add_zero]
  simpa using this
 have Pa:(arrOf st)[sa+na - 1]=R1[na - 1]'(!1):=by
  have:(arrOf st).toList[sa+na - 1]'(by simpa using g2)=R1[na - 1]'(!1):=by
   simp only[Gq,YV,Jj]
   congr 1;omega
  simpa using this
 have mb:∀y∈R2,kz (R2[0]'(!1))<=kz y:=λy hy=>by
  rw[←Gr] at c2
  exact qA c2 (!1) (by rw[Y7];exact hy)
 have ma:∀y∈R1,kz y<=kz (R1[na - 1]'(!1)):=λy hy=>by
  rw[←Gq] at c1
  exact qC c1 n1 (!1) (by rw[XJ (!1)];exact hy)
 refine JW (JQ ?_)
 dsimp only
 simp only[hi,hj]
 refine JW (Gn ?_)
 refine JW (bb (bm g1) ?_)
 rw[O_]
 refine JW (qD hk (ik _ (by rw[←O_];simp)) ik (show sa+na<=(arrOf st).size by omega) (!1) c1 λk q1 q2 q3=> ?_)
 rw[←Gq] at q2 q3
 dsimp only
 refine aQ (λe1=> ?_) λe1=> ?_
 ·simp only[Z9] at e1
  refine JV (h (arrOf st) (gallopOf st) (mg_of hL hL (List.Perm.refl _) ?_ lP (by rw[K2];omega)))
  rw[←Gq] at c1
  rw[←Gr] at c2
  refine Y4.mpr ⟨c1,c2,λx hx y hy=>J9 (q2 x ?_) (mb y hy)⟩
  rw[XJ (!1)];exact hx
 simp only[Z9] at e1
 rw[show sa+k+(na - k) - 1=sa+na - 1 by omega]
 refine JW (bb (bm g2) ?_)
 rw[Pa]
 refine JW (qE hk (ik _ (by rw[←Pa];simp)) ik (show sa+na+nb<=(arrOf st).size by omega) (!1) c2 λk2 r1 r2 r3=> ?_)
 rw[←Gr] at r2 r3
 rw[←Gq] at c1
 rw[←Gr] at c2
 dsimp only
 refine aQ (λe2=> ?_) λe2=> ?_
 ·simp only[Z9] at e2
  refine JV (h (arrOf st) (gallopOf st) (mg_of hL hL (List.Perm.refl _) ?_ lP (by rw[K2];omega)))
  refine Y4.mpr ⟨c1,c2,λx hx y hy=>J9 (ma x hx) (r3 y ?_)⟩
  rw[e2,Y7];exact hy
 simp only[Z9] at e2
 have ex:((arrOf st).extract (sa+k) (sa+na)).toList=R1.drop k:=by
  rw[iJ,Gq,List.drop_take,Ju,show sa+na - (sa+k)=na - k by omega]
 have ey:((arrOf st).extract (sa+na) (sa+na+k2)).toList=R2.take k2:=by
  rw[iJ,Gr,List.take_take,Nat.add_sub_cancel_left,J4 r1]
 have sx:((arrOf st).extract (sa+k) (sa+na)).size=na - k:=by rw[←KU,ex,XU,l1]
 have sy:((arrOf st).extract (sa+na) (sa+na+k2)).size=k2:=by rw[←KU,ey,X0,l2];omega
 have Qd:((arrOf st).extract (sa+na) (sa+na+k2))[0]'(!1)=R2[0]'(!1):=by
  have:((arrOf st).extract (sa+na) (sa+na+k2)).toList[0]'(by rw[KU];omega)=R2[0]'(!1):=by
   simp only[ey,YV]
  simpa using this
 have Qe:((arrOf st).extract (sa+k) (sa+na))[((arrOf st).extract (sa+k) (sa+na)).size - 1]'(!1)=R1[na - 1]'(!1):=by
  have:((arrOf st).extract (sa+k) (sa+na)).toList[((arrOf st).extract (sa+k) (sa+na)).size - 1]'(by rw[KU];omega)=R1[na - 1]'(!1):=by
   simp only[ex,Jj]
   congr 1;omega
  simpa using this
 have Qf:∀x∈R1,x∈(arrOf st).toList:=λx hx=>by rw[Gq] at hx;exact U9 (U0 hx)
 have Qg:∀x∈R2,x∈(arrOf st).toList:=λx hx=>by rw[Gr] at hx;exact U9 (U0 hx)
 have pre:Pre ((arrOf st).extract (sa+k) (sa+na)) ((arrOf st).extract (sa+na) (sa+na+k2)):=by
  refine⟨?_,?_,?_,?_,by omega,by omega,?_,?_⟩
  ·rw[ex];exact λx hx=>ik x (Qf x (U9 hx))
  ·rw[ey];exact λx hx=>ik x (Qg x (U0 hx))
  ·rw[ex];exact c1.sublist (YQ _ _)
  ·rw[ey];exact c2.sublist (Jy _ _)
  ·rw[ex,Qd];exact λx hx=>Yv (q3 x hx)
  ·rw[ey,Qe];exact λx hx=>Yv (r2 x hx)
 have Mp:∀r,Fn ((arrOf st).extract (sa+k) (sa+na)) ((arrOf st).extract (sa+na) (sa+na+k2)) r->Mg (arrOf st) (List.foldl (λa x=>a.setIfInBounds (sa+k+x.snd) x.fst) (arrOf st) r.toList.zipIdx) sa (na+nb):=by
  rintro r ⟨p1,p2⟩
  rw[ex,ey] at p1
  have hlr:(R1.drop k++R2.take k2).length=r.toList.length:=p1.length_eq.symm
  have hL2:(arrOf st).toList=P++R1.take k++(R1.drop k++R2.take k2)++(R2.drop k2++T):=by
   rw[hL]
   conv=>lhs;rw[←Uv k R1,←Uv k2 R2]
   simp only[X5]
  have hw:List.foldl (λa x=>a.setIfInBounds (sa+k+x.snd) x.fst) (arrOf st) r.toList.zipIdx=(P++R1.take k++r.toList++(R2.drop k2++T)).toArray:=by
   have:=qF (sa+k) (R2.drop k2++T) r.toList (P++R1.take k) (R1.drop k++R2.take k2) 0 hlr (by rw[K2,X0];omega)
   rw[←hL2,Array.toArray_toList] at this
   exact this
  rw[hw]
  refine mg_of (P:=P) (M:=R1++R2) (M':=R1.take k++r.toList++R2.drop k2) (T:=T) hL (by simp only[X5]) ?_ ?_ lP (by rw[K2];omega)
  ·have:(R1.take k++r.toList++R2.drop k2).Perm (R1.take k++(R1.drop k++R2.take k2)++R2.drop k2):=(p1.append_left _).append_right _
   refine this.trans (List.Perm.of_eq ?_)
   conv=>rhs;rw[←Uv k R1,←Uv k2 R2]
   simp only[X5]
  ·have rm:∀x∈r.toList,x∈R1.drop k∨x∈R2.take k2:=λx hx=>K1.mp (p1.mem_iff.mp hx)
   have hal:∀x∈r.toList,kz (R2[0]'(!1))<=kz x/\kz x<=kz (R1[na - 1]'(!1)):=λx hx=>by
    rcases rm x hx with z | z
    ·exact⟨Yv (q3 x z),ma x (U9 z)⟩
    ·exact⟨mb x (U0 z),Yv (r2 x z)⟩
   refine Y4.mpr ⟨Y4.mpr ⟨c1.sublist (Jy _ _),p2,λx hx y hy=>J9 (q2 x hx) (hal y hy).1⟩,c2.sublist (YQ _ _),λx hx y hy=> ?_⟩
   rcases K1.mp hx with z | z
   ·exact J9 (q2 x z) (mb y (U9 hy))
   ·exact J9 (hal x z).2 (r3 y hy)
 refine aQ (λe3=> ?_) λe3=> ?_
 ·refine JW (Gi hk pre λr g hr=> ?_)
  refine JW (wpS_modify ?_)
  refine JW (JQ ?_)
  refine JV ?_
  have:=h _ g (Mp r hr)
  rw[show(failedOf st).isNone=true by rw[hf];rfl]
  exact this
 ·refine JW (Gj hk pre λr g hr=> ?_)
  refine JW (wpS_modify ?_)
  refine JW (JQ ?_)
  refine JV ?_
  have:=h _ g (Mp r hr)
  rw[show(failedOf st).isNone=true by rw[hf];rfl]
  exact this
end
noncomputable abbrev Qh:StateT SortSt Sem Unit:=sortPriv% PySem.Builtin.sortRuns
noncomputable def i9 (xs:Array Keyed):List (Nat×Nat×Nat)->Nat->Nat->Prop
 | [],lo,hi=>lo=hi
 | t :: r,lo,hi=>t.1=lo/\1<=t.2.1/\l6 xs lo (lo+t.2.1)/\i9 xs r (lo+t.2.1) hi
theorem i9.len :∀{l:List (Nat×Nat×Nat)} {lo hi:Nat},i9 xs l lo hi->lo+l.length<=hi
 | [],lo,hi,h=>by rw[i9] at h;simp;omega
 | t :: r,lo,hi,h=>by rw[i9] at h;have:=i9.len h.2.2.2;simp only[Kj];omega
theorem i9.app :∀{l1:List (Nat×Nat×Nat)} {lo hi:Nat},i9 xs (l1++l2) lo hi↔∃mid,i9 xs l1 lo mid/\i9 xs l2 mid hi
 | [],lo,hi=>⟨λh=>⟨lo,rfl,h⟩,λ⟨mid,h1,h2⟩=>by rw[i9] at h1;subst h1;exact h2⟩
 | t :: r,lo,hi=>by
  rw[Uj,i9,i9.app (l1:=r)]
  constructor
  ·rintro⟨a,b,c,mid,d,e⟩;exact⟨mid,⟨a,b,c,d⟩,e⟩
  ·rintro⟨mid,⟨a,b,c,d⟩,e⟩;exact⟨a,b,c,mid,d,e⟩
theorem l6.keep {xs ys:Array Keyed}{lo hi:Nat}(h:l6 xs lo hi)(hk:∀k,lo<=k->k < hi->ys[k]? =xs[k]?):l6 ys lo hi:=λi j a b c=>by
 rw[K_congr (hk i a (!1)),K_congr (hk j (!1) c)];exact h i j a b c
theorem i9.keep :∀{l:List (Nat×Nat×Nat)} {lo hi:Nat},i9 xs l lo hi->(∀k,lo<=k->k < hi->ys[k]? =xs[k]?)->i9 ys l lo hi
 | [],lo,hi,h,_=>h
 | t :: r,lo,hi,⟨a,b,c,d⟩,hk=>by
  have:=d.len
  exact⟨a,b,c.keep λk h1 h2=>hk k h1 (!1),d.keep λk h1 h2=>hk k (!1) h2⟩
theorem i9.push {xs:Array Keyed}{l:List (Nat×Nat×Nat)}{lo n p:Nat}(h:i9 xs l 0 lo)(h1:1<=n)(hs:l6 xs lo (lo+n)):i9 xs (l++[(lo,n,p)]) 0 (lo+n):=i9.app.mpr ⟨lo,h,rfl,h1,hs,rfl⟩
theorem i9.pow (hf:∀t,(f t).1=t.1/\(f t).2.1=t.2.1):∀{l:List (Nat×Nat×Nat)} {i lo hi:Nat},i9 xs l lo hi->i9 xs (l.modify i f) lo hi
 | [],i,lo,hi,h=>by cases i <;> exact h
 | t :: r,0,lo,hi,h=>by
  rw[List.modify_zero_cons]
  obtain⟨a,b,c,d⟩:=h
  rw[i9,(hf t).1,(hf t).2];exact⟨a,b,c,d⟩
 | t :: r,i+1,lo,hi,⟨a,b,c,d⟩=>by rw[List.modify_succ_cons];exact⟨a,b,c,d.pow hf⟩
theorem JL {c:Prop}[Decidable c]{n:Nat}(h:¬ n<=1):(if c then n - 2 - 1 else n - 2)+1 < n:=by split <;> omega
section
variable {prog:Program}{w:World}{A:Around}{E:Zu}{s:Shared}{a₀:Array Keyed}{st:SortSt}
theorem Ap (hB:SB a₀ st)(e:El a₀)(hr:i9 (arrOf st) (pendingOf st).toList 0 hi)(hhi:hi<=a₀.size)(hi1:i+1 < (pendingOf st).size)
  (h:∀st',SB a₀ st'->i9 (arrOf st') (pendingOf st').toList 0 hi->(pendingOf st').size+1=(pendingOf st).size->(∀k,hi<=k->(arrOf st')[k]? =(arrOf st)[k]?)->Q true st'):wpS (!4) A E s (O9 i) Q st:=by
 obtain⟨l,hl⟩:∃l,(pendingOf st).toList=l:=⟨_,rfl⟩
 have hsz:(pendingOf st).size=l.length:=by rw[←hl,KU]
 rw[hl] at hr
 have hi2:i < l.length:=by omega
 have Pb:i+1 < l.length:=by omega
 have el:l=l.take i++l[i] :: l[i+1] :: l.drop (i+2):=by
  rw[←U3 Pb,←U3 hi2,Uv]
 have e1:(pendingOf st)[i]? =some l[i]:=by rw[←UJ,hl,K5 hi2]
 have e2:(pendingOf st)[i+1]? =some l[i+1]:=by rw[←UJ,hl,K5 Pb]
 obtain⟨l1,hl1⟩:∃l1,l1=l.take i:=⟨_,rfl⟩
 obtain⟨l2,hl2⟩:∃l2,l2=l.drop (i+2):=⟨_,rfl⟩
 have n1:l1.length=i:=by rw[hl1,X0];omega
 obtain⟨⟨sa,na,pw⟩,ht1⟩:∃t,t=l[i]:=⟨_,rfl⟩
 obtain⟨⟨sb,nb,q⟩,Df⟩:∃t,t=l[i+1]:=⟨_,rfl⟩
 rw[←ht1] at e1
 rw[←Df] at e2
 rw[←hl1,←hl2,←ht1,←Df] at el
 rw[el] at hr
 obtain⟨mid,r1,x1,x2,x3,y1,y2,y3,r2⟩:=i9.app.mp hr
 dsimp only at x1 x2 x3 y1 y2 y3 r2
 subst x1 y1
 have len2:=r2.len
 refine DJ hB e e1 e2 x2 y2 (!1) x3 y3 λxs g ⟨m1,m2,m3⟩=> ?_
 have el2:(((pendingOf st).setIfInBounds i (sa,na+nb,pw)).eraseIdxIfInBounds (i+1)).toList=l1++(sa,na+nb,pw) :: l2:=by
  have:(((pendingOf st).setIfInBounds i (sa,na+nb,pw)).eraseIdxIfInBounds (i+1)).toList=((pendingOf st).toList.set i (sa,na+nb,pw)).eraseIdx (i+1):=by
   rw[Array.toList_eraseIdxIfInBounds,Array.toList_setIfInBounds]
  rw[this,hl,el,←n1]
  simp[List.eraseIdx_append_of_length_le]
 refine h _ ⟨m1.trans hB.perm,hB.kind,hB.failed⟩ ?_ ?_ λk hk=>m2 k (.inr (!1))
 ·show i9 xs _ 0 hi
  rw[el2]
  refine i9.app.mpr ⟨sa,r1.keep λk _ hk=>m2 k (.inl hk),rfl,by show 1<=na+nb;omega,m3,?_⟩
  have:=r2.keep (ys:=xs) λk h1 _=>m2 k (.inr (!1))
  rw[show sa+na+nb=sa+(na+nb) by omega] at this
  exact this
 ·show(((pendingOf st).setIfInBounds i (sa,na+nb,pw)).eraseIdxIfInBounds (i+1)).size+1=_
  rw[←KU,el2,hsz,el]
  simp only[K2,Kj];omega
theorem JM (hB:SB a₀ st)(e:El a₀)(hp:pendingOf st= #[])(h1:1<=a₀.size)(h:∀st',SB a₀ st'->l6 (arrOf st') 0 a₀.size->Q () st'):wpS (!4) A E s Qh Q st:=by
 refine JW (JQ ?_)
 dsimp only
 simp only[hB.size]
 refine JW (wpS_mono (wpS_forRange (I:=λx c st'=>∃lo,c=(none,lo)/\SB a₀ st'/\i9 (arrOf st') (pendingOf st').toList 0 lo/\lo<=a₀.size/\(x<=lo∨lo=a₀.size))
  (Q:=λc st'=>c=(none,a₀.size)/\SB a₀ st'/\i9 (arrOf st') (pendingOf st').toList 0 a₀.size) ?_ ?_ ⟨0,rfl,hB,by rw[hp];rfl,by omega,.inl (!1)⟩) ?_)
 ·rintro x c st' _ hx ⟨lo,rfl,hB',hr,hlo,Qi⟩
  dsimp only
  refine aQ (λhge=> ?_) λhge=> ?_
  ·obtain rfl:lo=a₀.size:=by omega
   exact JV ⟨rfl,hB',hr⟩
  refine JW (JH hB' e (!1) (!1) λm xs hpm hkp m1 m2 hs=> ?_)
  have Mq:=hB'.set hpm
  have hr1:i9 xs (pendingOf st').toList 0 lo:=hr.keep λk _ hk=>hkp k hk
  dsimp only
  refine aQ (λhm=> ?_) (λhm=> ?_)
  case' refine_2=>
   obtain⟨s1,hs1⟩:∃s1,s1=setArr st' xs:=⟨_,rfl⟩
   rw[←hs1]
   have g1:SB a₀ s1:=by rw[hs1];exact Mq
   have g2:i9 (arrOf s1) (pendingOf s1).toList 0 lo:=by rw[hs1];exact hr1
   have g3:l6 (arrOf s1) lo (lo+m):=by rw[hs1];exact hs
   obtain⟨n,hn⟩:∃n,n=m:=⟨_,rfl⟩
   rw[←hn] at g3⊢
   have n1:1<=n:=by omega
   have n2:lo+n<=a₀.size:=by omega
   clear hs1 hn
  case' refine_1=>
   refine JW (wpS_lift (wpAny_rule ⟨rfl,?_⟩))
   obtain⟨n,hn⟩:∃n,n=min (a₀.size - lo) ((sortPriv% PySem.Builtin.minRun) a₀.size a₀.size 0):=⟨_,rfl⟩
   rw[←hn]
   have n1:1<=n:=by omega
   have n2:lo+n<=a₀.size:=by omega
   refine JW (JI Mq e n2 m1 (!1) hs λys hpy hky N6=> ?_)
   obtain⟨s1,hs1⟩:∃s1,s1=setArr (setArr st' xs) ys:=⟨_,rfl⟩
   rw[←hs1]
   have g1:SB a₀ s1:=by rw[hs1];exact Mq.set hpy
   have g2:i9 (arrOf s1) (pendingOf s1).toList 0 lo:=by rw[hs1];exact hr1.keep λk _ hk=>hky k hk
   have g3:l6 (arrOf s1) lo (lo+n):=by rw[hs1];exact N6
   rw[Z5 (by simp)]
   clear hs1 hn
  all_goals
   refine JW (JQ ?_)
   rcases hb:(pendingOf s1).back? with _ | ⟨u1,u2,u3⟩
   ·dsimp only
    refine JW (wpS_modify (JV ⟨lo+n,rfl,⟨g1.perm,g1.kind,g1.failed⟩,?_,n2,by omega⟩))
    show i9 (arrOf s1) ((pendingOf s1).push _).toList 0 (lo+n)
    rw[J7];exact g2.push n1 g3
   ·dsimp only
    refine JW (wpS_mono (wpS_forRange (I:=λ_ c s2=>c=(none,())/\SB a₀ s2/\i9 (arrOf s2) (pendingOf s2).toList 0 lo/\l6 (arrOf s2) lo (lo+n))
     (Q:=λc s2=>c=(none,())/\SB a₀ s2/\i9 (arrOf s2) (pendingOf s2).toList 0 lo/\l6 (arrOf s2) lo (lo+n)) ?_ (λc s2 h=>h) ⟨rfl,g1,g2,g3⟩) ?_)
    ·rintro y c s2 _ hy ⟨rfl,q1,q2,q3⟩
     refine JW (JQ ?_)
     by_cases hsz:(pendingOf s2).size > 1
     ·rw[Z4 hsz]
      have hlt:(pendingOf s2).size - 2 < (pendingOf s2).size:=by omega
      rw[YK hlt]
      obtain⟨t,ht⟩:∃t,(pendingOf s2)[(pendingOf s2).size - 2]=t:=⟨_,rfl⟩
      rw[ht]
      obtain⟨v1,v2,v3⟩:=t
      dsimp only
      refine aQ (λho=> ?_) λho=> ?_
      ·exact JV ⟨rfl,q1,q2,q3⟩
      ·refine JW (Ap q1 e q2 hlo (show(pendingOf s2).size - 2+1 < (pendingOf s2).size by omega) λs3 c1 c2 _ c4=> ?_)
       exact JV ⟨rfl,c1,c2,q3.keep λk h1 _=>c4 k h1⟩
     ·rw[Z5 hsz]
      exact JV ⟨rfl,q1,q2,q3⟩
    ·rintro c s2 ⟨rfl,q1,q2,q3⟩
     dsimp only
     refine JW (wpS_modify (JW (wpS_modify (JV ⟨lo+n,rfl,⟨q1.perm,q1.kind,q1.failed⟩,?_,n2,by omega⟩))))
     show i9 (arrOf s2) (((pendingOf s2).modify _ _).push _).toList 0 (lo+n)
     rw[J7,Array.toList_modify]
     refine i9.push (i9.pow ?_ q2) n1 q3
     exact λt=>⟨rfl,rfl⟩
 ·rintro c st' ⟨lo,rfl,hB',hr,hlo,Qi⟩
  obtain rfl:lo=a₀.size:=by omega
  exact⟨rfl,hB',hr⟩
 rintro c st1 ⟨rfl,Mq,hr1⟩
 dsimp only
 have hlen:=hr1.len
 rw[KU] at hlen
 refine JW (wpS_mono (wpS_forRange (I:=λx c st'=>c=(none,())/\SB a₀ st'/\i9 (arrOf st') (pendingOf st').toList 0 a₀.size/\((pendingOf st').size<=1∨(pendingOf st').size+x<=a₀.size))
  (Q:=λc st'=>c=(none,())/\SB a₀ st'/\i9 (arrOf st') (pendingOf st').toList 0 a₀.size/\(pendingOf st').size<=1) ?_ ?_ ⟨rfl,Mq,hr1,.inr (!1)⟩) ?_)
 ·rintro x c st' _ hx ⟨rfl,q1,q2,q3⟩
  refine JW (JQ ?_)
  refine aQ (λhs=> ?_) λhs=> ?_
  ·exact JV ⟨rfl,q1,q2,hs⟩
  ·have hs:¬ (pendingOf st').size<=1:=hs
   refine JW (Ap q1 e q2 (K0 _) (JL hs) λs3 c1 c2 c3 _=> ?_)
   exact JV ⟨rfl,c1,c2,.inr (!1)⟩
 ·rintro c st' ⟨rfl,q1,q2,q3⟩
  exact⟨rfl,q1,q2,by omega⟩
 rintro c st' ⟨rfl,q1,q2,q3⟩
 refine JV (h st' q1 ?_)
 have q3:(pendingOf st').toList.length<=1:=by rw[KU];exact q3
 generalize (pendingOf st').toList=l at q2 q3
 match l,q2,q3 with
 | [],q2,_=>rw[i9] at q2;omega
 | [t],q2,_=>
  obtain⟨_,_,a3,a4⟩:=q2
  rw[i9] at a4
  rw[a4] at a3;exact a3
 | _ :: _ :: _,_,q3=>simp at q3
end
end Ts
namespace Ts
open PySem PyProof.Rows PySem.Calls PyProof.V PySem.Spec
section
variable {prog:Program}{w:World}{A:Around}{E:Zu}{s:Shared}
theorem Mr (hI:IntsAre vs ns)(hd:ns.Nodup):El (pairsOf vs):=by
 refine⟨hI.intKeys,?_⟩
 rw[pairsOf_toList]
 have e:(vs.zip vs).map kz=ns:=by
  rw[←hI.nums]
  clear hI hd
  induction vs with
  | nil=>rfl
  | cons v vs ih=>rw[List.zip_cons_cons,Kq,Kq,ih];rfl
 rw[←e] at hd
 exact List.Pairwise.of_map _ (λa b h=>h) hd
theorem Gs (ho:s.heap.get? a=some (seqObj "list" vs.toArray n))(hI:IntsAre vs ns)(hd:ns.Nodup)(hl:vs.length<=sizeLine)
  (h:∀(out:Array Value) (ns':List Int),IntsAre out.toList ns'->ns'.Perm ns->ns'.Pairwise (· <= ·)->P (.done (.ret .none)) {s with heap:=sortedHeap s.heap a vs out}):wpAny (!4) A (Builtin.«list.sort» ⟨[.ref a],[]⟩) P E s:=by
 by_cases h64:vs.length < 64
 ·exact list_sort_tree ho hI h64 h
 have ha:=KJ ho
 have hz:vs.toArray.size=vs.length:=by simp
 obtain⟨e1,o1⟩:∃e1,(s.heap.update a (Obj.mapSeq λ_=> #[])).get? a=some (seqObj "list" #[] e1):=⟨_,get?_update_seq ho λ_=> #[]⟩
 have o6:(((s.heap.update a (Obj.mapSeq λ_=> #[])).push (seqObj "tuple" vs.toArray 0)).push (seqObj "list" #[] 0)).get? a=some (seqObj "list" #[] e1) :=
  K4 _ (K4 _ o1)
 rw[list_sort_plain]
 refine Z7 (listItems_at ho rfl (Z7 (listUpdate_at ho rfl (Z7 (seqEpoch_at o1 rfl (Z7 (wpAny_newTuple (Z7 (wpAny_newList (Z1 ?_) (Xq _))) (by simpa using hl))))) (by rw[hz];exact hl) (Xq _))))
 have fin:∀st':SortSt,(arrOf st').Perm (pairsOf vs)->l6 (arrOf st') 0 (pairsOf vs).size->P (.done (.ret .none)) {s with heap:=sortedHeap s.heap a vs ((arrOf st').map (·.2))}:=λst' hp hs=>by
  obtain⟨ns',q1,q2,q3⟩:=sorted_out hI hp (λi j hij hj=>by
   by_cases e:i=j
   ·subst e;exact Int.le_refl _
   ·exact hs i j (!1) (!1) hj)
  exact h _ ns' q1 q2 q3
 show wpAny (!4) A _ P E {s with heap:=((s.heap.update a (Obj.mapSeq λ_=> #[])).push (seqObj "tuple" vs.toArray 0)).push (seqObj "list" #[] 0)}
 dsimp only
 have h2:¬ vs.toArray.size < 2:=by omega
 rw[Z5 h2,Z5 h2]
 have el:=Mr hI hd
 have hk:keyKind' vs.toArray=pure oneType':=by
  match vs,hI,h64 with
  | [],_,h64=>simp at h64
  | [_],_,h64=>simp at h64
  | _ :: _ :: _,hI,_=>exact keyKind_ints hI
 rw[hk]
 refine Z7 (Z6 ?_)
 have run:=JM (prog:=prog) (w:=w) (A:=A) (E:=E) (s:={s with heap:=((s.heap.update a (Obj.mapSeq λ_=> #[])).push (seqObj "tuple" vs.toArray 0)).push (seqObj "list" #[] 0)})
  (a₀:=pairsOf vs) (st:=SortSt.mk' oneType' (vs.toArray.zip vs.toArray) #[] 7 none) (Q:=λ_ st'=>(arrOf st').Perm (pairsOf vs)/\failedOf st'=none/\l6 (arrOf st') 0 (pairsOf vs).size)
  ⟨Array.Perm.refl _,rfl,rfl⟩ el rfl (by rw[pairsOf_size];omega) λst' b g=>⟨b.perm,b.failed,g⟩
 refine Z7 (wpAny_mono run ?_ λ_ _ e=>e)
 rintro⟨⟨⟩,st'⟩ s' ⟨rfl,hp,hf,hs⟩
 dsimp only
 refine Z7 (seqEpoch_at o6 rfl (Z7 (listUpdate_at o6 rfl ?_ (Xq _) (by rw[Array.size_map,hp.size_eq,pairsOf_size];omega))))
 rw[hf]
 simp only[bne_self_eq_false,XW,if_false]
 exact Z6 (fin st' hp hs)
theorem jQ:∀l:List Int,(Y.wC l).Perm l
 | []=>List.Perm.refl _
 | x :: l=>(JN x (Y.wC l)).trans ((jQ l).cons x)
where JN (x:Int):∀l:List Int,(Y.insI x l).Perm (x :: l)
 | []=>List.Perm.refl _
 | y :: l=>by
  rw[Y.insI]
  split
  ·exact List.Perm.refl _
  ·exact((JN x l).cons y).trans (List.Perm.swap x y l)
theorem wV (x:Int):∀{l:List Int},l.Pairwise (· <= ·)->(Y.insI x l).Pairwise (· <= ·)
 | [],_=>by simp[Y.insI]
 | y :: l,h=>by
  obtain⟨h1,h2⟩:=List.pairwise_cons.mp h
  rw[Y.insI]
  split
  ·rename_i hc
   refine List.pairwise_cons.mpr ⟨λz hz=> ?_,h⟩
   rcases Kx.mp hz with rfl | hz
   ·exact hc
   ·exact J9 hc (h1 z hz)
  ·rename_i hc
   refine List.pairwise_cons.mpr ⟨λz hz=> ?_,wV x h2⟩
   rcases Kx.mp ((jQ.JN x l).mem_iff.mp hz) with rfl | hz
   ·omega
   ·exact h1 z hz
theorem qG:∀l:List Int,(Y.wC l).Pairwise (· <= ·)
 | []=> .nil
 | x :: l=>wV x (qG l)
theorem DK (Ks:PySem.W.KdlSrc prog w T r d n Pk OK)(hh:A.handled=none)(hok:OK s.heap)(hn:n<=sizeLine)
  (h:∀(h':Heap) (tk:Nat) (acc:Array Value),s.heap.objs.size < h'.objs.size->(∀b o,s.heap.get? b=some o->h'.get? b=some o)->ItemsOf Pk acc n->R acc.toList {s with heap:=h',toks:=tk}):wpAny (!4) A (collect (.ref r)) R E s:=by
 have hlt:=Ks.there _ hok
 have push:∀b o,s.heap.get? b=some o->(s.heap.push {cls:=.type "list",data:=.seq ([]:List Value).toArray}).get? b=some o:=λb o e=>K4 _ e
 unfold collect
 refine Z7 (wpAny_runValue (codeAny_builtin entry_proto_collect' ?_))
 rw[Around.under_plainId PySem.F.plain_proto_collect _]
 show wpAny _ A.in1 (newList [] >>=λz=>again (.builtin "list.__iadd__" ⟨[z,.ref r],[]⟩)) _ _ s
 refine Z7 (Zk (Z6 ⟨plainId_quiet PySem.F.plain_list_iadd _,codeAny_builtin entry_list_iadd' ?_⟩))
 rw[Around.under_plainId PySem.F.plain_list_iadd _]
 have fin:∀(q:Result) (s':Shared),(∃(h':Heap) (tk:Nat) (acc:Array Value) (c:Nat),q= .ok (.ret (.ref s.heap.objs.size))/\s'={s with heap:=h',toks:=tk}/\(∀b o,s.heap.get? b=some o->h'.get? b=some o)/\
   h'.get? s.heap.objs.size=some {cls:=.type "list",dict:=none,data:=.seq acc c,slots:=#[]}/\ItemsOf Pk acc n)->∃(h':Heap) (tk:Nat) (acc:Array Value),q= .ok (.ret (.ref s.heap.objs.size))/\s'={s with heap:=h',toks:=tk}/\
   ∀{F:Zu},wpAny (!4) A (load s.heap.objs.size >>=λo=>match o.data with | .seq xs _=>pure xs.toList | _=>unsupported "internal:collect") R F s':=by
  rintro q s' ⟨h',tk,acc,c,rfl,rfl,hk,hS,hacc⟩
  exact⟨h',tk,acc,rfl,rfl,Z7 (wpAny_load hS (Z6 (h h' tk acc (KJ hS) hk hacc)))⟩
 refine wpAny_mono (PySem.W.kdl_extend (A:=A) (s:={s with heap:=s.heap.push {cls:=.type "list",data:=.seq ([]:List Value).toArray}})
  (R:=λq s'=>∃(h':Heap) (tk:Nat) (acc:Array Value) (c:Nat),q= .ok (.ret (.ref s.heap.objs.size))/\s'={s with heap:=h',toks:=tk}/\(∀b o,s.heap.get? b=some o->h'.get? b=some o)/\
   h'.get? s.heap.objs.size=some {cls:=.type "list",dict:=none,data:=.seq acc c,slots:=#[]}/\ItemsOf Pk acc n)
  Ks hh (Ks.keep _ _ hok λb _ o e=>push b o e) s.heap.objs.size (Y5 hlt.1) (Y5 hlt.2) (.ref s.heap.objs.size) 0 (Kv _ rfl)
  (λh' tk acc c hk hS hacc=>⟨h',tk,acc,c,rfl,rfl,λb o e=>hk b o (Xk (KJ e)) (push b o e),hS,hacc⟩) hn) (λf s' x=> ?_) λe s' x=> ?_
 ·cases f with
  | done f=>
   obtain⟨h',tk,acc,e,rfl,hw⟩:=fin _ _ x
   cases e
   exact hw
  | again c=>
   refine⟨x.1,codeAny_mono x.2 λq s2 y=> ?_⟩
   obtain⟨h',tk,acc,rfl,rfl,hw⟩:=fin _ _ y
   exact hw
 ·obtain⟨_,_,_,_,e',_⟩:=x
  cases e'
theorem y6 (hh:A.handled=none)(hD:s.heap.DictOf (intKind prog w) d xs)(lo:(d==sysModules)=false)(hn:xs.length<=sizeLine)
  (hQ:∀h' tk a (out:List Value) c,s.heap.objs.size<=a->h'.get? a=some {cls:=.type "list",data:=.seq out.toArray c}->IntsAre out (Y.wC (xs.map (·.1)))->(∀b o,b < s.heap.objs.size->s.heap.get? b=some o->h'.get? b=some o)->Q (.ref a) {s with heap:=h',toks:=tk}) :
  wpAny (!4) A (call (.builtin "sorted") [.ref d]) Q E s:=by
 obtain⟨ep,hat⟩:=hD.dictAt
 have hnd:=hat.nodup
 refine Calls.call_function_entry kind_sorted plain_sorted entry_sorted (args_sorted1 _) ?_
 unfold Builtin.«sorted»
 refine Z7 (m:=checkCount "sorted" 1 1 _) (Z6 (Z7 (DK (A:=A.in1) (PySem.W.kdl_dict (knd:=intKind prog w) (kvs:=xs) (ep:=ep) lo) (show A.in1.handled=none by simp[hh]) hat hn λh1 tk acc hlt1 hk hacc=> ?_)))
 have hl:acc.toList.length=xs.length:=by rw[KU];exact hacc.1
 have hI:IntsAre acc.toList (xs.map (·.1)):=by
  have key:∀(vs:List Value) (ys:List (Int×Value)),vs.length=ys.length->(∀(j:Nat) (v:Value),vs[j]? =some v->∃k x,ys[j]? =some (k,x)/\(intKind prog w).is k v=true)->IntsAre vs (ys.map (·.1)):=by
   intro vs
   induction vs with
   | nil=>intro ys hl _;cases ys with
    | nil=>exact .nil
    | cons y ys=>simp at hl
   | cons v vs ih=>
    intro ys hl hv
    cases ys with
    | nil=>simp at hl
    | cons y ys=>
     obtain⟨k,x,e,hi⟩:=hv 0 v rfl
     have e':y=(k,x):=by simpa using e
     obtain⟨t,et⟩:=Value.isInt_shape hi
     subst et
     rw[Kq,e']
     exact .cons k t (ih ys (by simpa using hl) λj u hu=>by simpa using hv (j+1) u (by simpa using hu))
  exact key _ _ hl λj v e=>hacc.2 j v (by rw[←UJ];exact e)
 refine Z7 (wpAny_newList ?_ (by rw[hl];exact hn))
 have hoL:(h1.push {cls:=.type "list",data:=.seq acc.toList.toArray}).get? h1.objs.size=some (seqObj "list" acc.toList.toArray 0):=Kv _ rfl
 refine Z7 (Z1 (Z0 slot_list_sort ⟨_,hoL,rfl⟩ entry_list_sort (Gs (s:={s with heap:=h1.push {cls:=.type "list",data:=.seq acc.toList.toArray},toks:=tk}) hoL hI hnd (by rw[hl];exact hn) λout ns' a1 a2 a3=>⟨_,rfl,?_⟩) (args_list_sort _)))
 obtain⟨c,hc⟩:=sortedHeap_at (out:=out) hoL
 have hns:ns'=Y.wC (xs.map (·.1)):=PySem.W.ksm_same (a2.trans (jQ _).symm) a3 (qG _)
 subst hns
 have hge:s.heap.objs.size<=h1.objs.size:=J1 hlt1
 refine Z6 ⟨_,rfl,hQ _ tk _ out.toList c hge (by simpa using hc) a1 λb o hb e=> ?_⟩
 have hb1:=hk b o e
 have hlt:=KJ hb1
 rw[sortedHeap_old (Xk hlt) (by rw[Uk];exact UZ hlt)]
 exact K4 _ hb1
end
end Ts
namespace Y
open PySem
noncomputable def Gu:PyData->Int
 | .int i=>i
 | _=>0
noncomputable def qH:List PyData->Option PyData
 | [.dict kvs]=>if allI kvs=true then some (.list ((wC (kvs.map λp=>Gu p.1)).map PyData.int)) else none
 | _=>none
end Y
namespace L2
open PySem PySem.Spec PyProof.Rows Y
theorem Hx {K:Frag}{H:Hp}:∀{kvs:j3} {ks:List (PyData×V×V)} {ys:List (Int×Value)},aW K H kvs ks->Paired rV ks ys->(kvs.map λp=>Gu p.1)=ys.map (·.1)
 | [],ks,ys,t,p=>by simp only[aW] at t;subst t;cases p;rfl
 | (k,d) :: r,ks,ys,t,p=>by
  simp only[aW] at t
  obtain⟨kv,v,q,rfl,h1,h2,h3⟩:=t
  cases p with
  | @cons _ y _ ys' hp pt=>
   rw[Kq,Kq,Hx h3 pt]
   have e:k= .int y.1:=hp.1
   rw[e];rfl
theorem tU {K:Frag}{H:Hp}:∀(l:List Int),ax K H (l.map PyData.int) (l.map V.int)
 | []=>bn
 | i :: l=>a_ rfl (tU l)
section
variable {X:Cx}
def JO (K:Frag):List V->Hp->VK->Prop:=λxs H Q=>∃q ks kvs,xs=[.ref q]/\Rd H q (.dct q ks)/\aW K H kvs ks.1/\allI kvs=true/\∀t,H t=none->Q (.ref t) (upd H t (.lst ((wC (kvs.map λp=>Gu p.1)).map V.int)))
theorem y7 (hc:X.calm=true):iY X (.builtin "sorted") (JO X.K):=by
 intro pins s σ H xs us Q I rv h
 obtain⟨q,ks,kvs,rfl,hr,t,ht,fin⟩:=h
 obtain⟨u,rfl,ru⟩:=rv.one
 cases ru
 obtain⟨ys,hD,p,hs,hl⟩:=i8 I hr t ht
 have hlen:ks.1.length=ys.length:=Paired.length p
 rw[Hx t p] at fin
 refine Ts.y6 (I.ok.hd hc) hD hs (!1) λh' tk a out c hge hat hints hk=> ?_
 refine⟨.ref a,_,I.laid (t':=tk) (a:=a) (o:=.lst ((wC (ys.map (·.1))).map V.int)) (λb u e=>hk b u (KJ e) e) hge ⟨?_,out,c,tK hints,hat⟩,rfl,fin _ (I.hok.fresh hge)⟩
 rw[K6,(Ts.jQ _).length_eq,K6];omega
theorem wW (hc:X.calm=true):CallD X (.builtin "sorted") qH:=⟨_,y7 hc,λxs z us H Q e h q=>by
 match xs,e,h with
 | [.dict kvs],e,h=>
  simp only[qH] at e
  split at e
  ·rename_i ht
   cases e
   obtain⟨u,rfl,hu⟩:=d_ h
   obtain⟨a,ks,rfl,hr,t⟩:=dD hu
   exact⟨a,ks,kvs,rfl,hr,t,ht,λt' ht'=>q _ _ (Same.upd ht') (aP.lst (a9 _ (λ_=>rfl) _) ay (tU _) ht')⟩
  ·cases e⟩
end
end L2
namespace Y
open PySem
end Y
namespace L2
open PySem PySem.Spec PyProof.Rows Y
section
variable {K:Frag}{B H:Hp}{φ:Nat->List Addr}{Γ:bL}{σ:St}
end
end L2
namespace Y
open PySem
end Y
namespace L2
open PySem PySem.Spec PyProof.Rows Y
end L2
namespace L2
open PySem PySem.Spec PyProof.Rows
structure cE (X:Cx)(scope:Scope)(vs:List Str)(F:List Str)(ix:List Nat):Prop where
 kind:scope.kind= .function
 own:∀v∈vs,scope.names.lookup v=some .local
 names:∀y∈scope.names,y.2= .local->scope.names.lookup y.1=some .local
 DL:∀y∈scope.names,y.2≠ .cell
 free:∀y∈scope.names,y.2= .free->X.env.scope.names.lookup y.1=some .cell∨X.env.scope.names.lookup y.1=some .free
 cap:∀x∈F,scope.names.lookup x=some .free
 nd:(vs++F).Nodup
 eqs:ix.map (λk=>X.N[k]?)=F.map some
abbrev Ms (scope out:Scope)(vs F:List Str):Prop:=(∀v∈vs,scope.names.lookup v=some .local)/\(∀y∈scope.names,y.2= .local->scope.names.lookup y.1=some .local)/\(∀y∈scope.names,y.2≠ .cell)/\
 (∀y∈scope.names,y.2= .free->out.names.lookup y.1=some .cell∨out.names.lookup y.1=some .free)/\(∀x∈F,scope.names.lookup x=some .free)/\(vs++F).Nodup
theorem oK {X:Cx}{scope:Scope}{vs F:List Str}{ix:List Nat}(out:Scope)(h:Ms scope out vs F)(hk:scope.kind= .function:=by rfl)(ho:X.env.scope=out:=by rfl)(e:ix.map (λk=>X.N[k]?)=F.map some:=by rfl):cE X scope vs F ix :=
 ⟨hk,h.1,h.2.1,h.2.2.1,ho ▸ h.2.2.2.1,h.2.2.2.2.1,h.2.2.2.2.2,e⟩
theorem cE.len (O:cE X scope vs F ix):ix.length=F.length:=by
 have:=congrArg List.length O.eqs
 simpa using this
theorem cE.imp (O:cE X scope vs F ix):∀(i:Nat) (x:Str),F[i]? =some x->∃k,ix[i]? =some k/\X.N[k]? =some x:=λi x e=>by
 have h:=congrArg (·[i]?) O.eqs
 simp only[KZ,e,UK] at h
 cases q:ix[i]? with
 | none=>rw[q] at h;cases h
 | some k=>rw[q] at h;exact⟨k,rfl,Option.some.inj h⟩
noncomputable def DM (n:Nat)(σ:St)(ix:List Nat):St:=List.replicate n none++pV σ ix
def DN (n:Nat)(g:TG)(J:It)(σ:St)(ix:List Nat)(tt:TT)(te:TE)(H1:Hp)(Q:VK)(D:Addr):Prop :=
 ∃W:Nat->Nat->List V->Hp->Prop,(∃m,W 0 m [] (upd H1 D (.lst [])))/\∀i m ys H,W i m ys H->H D=some (.lst ys)/\
  ((
   J.stop i H/\Q (.ref D) H)∨(J.go i H/\∀x H',J.Lx i H x H'->g x (DM n σ ix) H' λσ' H2=>∃zs:List V,zs.length=n/\σ'=zs.map some++pV σ ix/\tt σ' H2 λb H3=>if b=true then te σ' H3 λv H4=>H4 D=some (.lst ys)/\ys.length < sizeLine/\∃m',m' < m/\W (i+1) m' (ys++[v]) (upd H4 D (.lst (ys++[v])))
   else∃m',m' < m/\W (i+1) m' ys H3))
def y8 (n:Nat)(g:TG)(wi:TI)(ix:List Nat)(tt:TT)(te:TE):TE:=λσ H Q=>wi σ H λJ H1=>∀D,H1 D=none->DN n g J σ ix tt te H1 Q D
theorem DO (e:(DM n σ ix)[i]? =some (some u)):n<=i/\(pV σ ix)[i - n]? =some (some u):=by
 unfold DM at e
 by_cases h:i < n
 ·rw[Xx (by rw[Uq];exact h),YJ,Z4 h] at e
  cases e
 ·have h:n<=i:=Jw h
  rw[Xu (by rw[Uq];exact h),Uq] at e
  exact⟨h,e⟩
theorem Gv {vs F:List Str}{i:Nat}{σ:St}{ix:List Nat}{x:Str}{u:V}(e1:(vs++F)[i]? =some x)(e2:(DM vs.length σ ix)[i]? =some (some u)):F[i - vs.length]? =some x/\(pV σ ix)[i - vs.length]? =some (some u):=by
 obtain⟨h,e2⟩:=DO e2
 rw[Xu h] at e1
 exact⟨e1,e2⟩
section
variable {X:Cx}{scope:Scope}{vs:List Str}{F:List Str}{ix:List Nat}{pins:List (Addr×Obj)}{σ:St}{H:Hp}{s:Shared}
theorem Inv.qI (I:Inv X pins σ H s)(O:cE X scope vs F ix):∀y∈scope.names,y.2= .free->∃c,X.env.cells.lookup y.1=some c:=λy hy hf=>I.ok.has y.1 (O.free y hy hf)
theorem Inv.Gw {cl:List (Str×Addr)}{fp:List Addr}{C:Addr}(I:Inv X pins σ H s)(O:cE X scope vs F ix)(hsub:∀x c,cl.lookup x=some c->X.env.cells.lookup x=some c)(hcl:∀y∈scope.names,y.2= .free->∃c,cl.lookup y.1=some c)
  (hfp:∀b∈fp,pQ X pins H b) (hfz:∀b∈fp,b < s.heap.objs.size) (hC:s.heap.objs.size<=C):(bx X scope cl (vs++F) fp s H C).Ok where
 mod:=I.ok.mod
 kind:=O.kind
 glob:=I.ok.glob
 blt:=I.ok.blt
 above:=hC
 inj:=λx y c h1 h2=>I.ok.inj x y c (hsub x c h1) (hsub y c h2)
 has:=λx hx=>by
  have hx':scope.names.lookup x=some .cell∨scope.names.lookup x=some .free:=yx (env:=X.env) hx
  rcases hx' with e | e
  ·exact absurd rfl (O.DL _ (PySem.mem_of_lookup e))
  ·exact hcl _ (PySem.mem_of_lookup e) rfl
 cab:=λx c hf _=>by cases hf
 hd:=I.ok.hd
 frames:=I.ok.frames
 stk:=.inl rfl
 Lj:=λb hb=>⟨Xk (X3 (hfz b hb) hC),λx c e=>(hfp b hb).2.2.2.2.1 x c (hsub x c e)⟩
 bs:=I.bs
 EV:=Kw I.ok.EV I.sz
 AZ:=λb o e hb=>by
  rcases(hfp b hb).2.2.2.1 with z | z
  ·exact I.ok.AZ b o e z
  ·exact absurd (X3 (KJ e) (Kw I.ok.EV z)) (U2 _)
 A0:=λb hb hs=>by
  rcases Kx.mp (I.yn b hs) with e | e
  ·exact(hfp b hb).2.1 e
  ·exact(hfp b hb).2.2.1 e
 oW:=I.stack
 HP:=I.zA
theorem Inv.y9 {cl:List (Str×Addr)}{fp:List Addr}{C:Addr}{h1:Heap}{tk n:Nat}(I:Inv X pins σ H s)(O:cE X scope vs F ix)(hsub:∀x c,cl.lookup x=some c->X.env.cells.lookup x=some c)(hcl:∀y∈scope.names,y.2= .free->∃c,cl.lookup y.1=some c)
  (hfp:∀b∈fp,pQ X pins H b) (hfz:∀b∈fp,b < s.heap.objs.size) (hC:C=s.heap.objs.size+1) (hk:∀b o,s.heap.get? b=some o->h1.get? b=some o) (hns:h1.Ns C λ_=>none)
  (hD:h1.get? s.heap.objs.size=some {cls:=.type "list",data:=.seq ([]:List Value).toArray n}) :
  Inv (bx X scope cl (vs++F) fp s H C) [] (DM vs.length σ ix) (upd H s.heap.objs.size (.lst [])) {s with heap:=h1,toks:=tk}:=by
 have hn:H s.heap.objs.size=none:=I.hok.fresh (K0 _)
 have hlt:s.heap.objs.size < C:=by rw[hC];exact Y9 _
 refine⟨I.Gw O hsub hcl hfp hfz (J1 hlt),rfl,I.bare,Un.laid hk (K0 _) hn,⟨_,hns,λi x u e1 e2 e3=> ?_⟩,λx c e=> ?_,?_,λx c e=> ?_,λp hp=>absurd (show p∈([]:List (Addr×Obj)) from hp) (by simp),
  I.hok.laid hk (K0 _) ⟨Xq _,[],n,.nil,hD⟩,?_⟩
 ·obtain⟨e1',e2'⟩:=Gv e1 e2
  obtain⟨k,hk1,hk2⟩:=O.imp _ x e1'
  unfold pV at e2'
  rw[KZ,hk1] at e2'
  have e4:(σ[k]?).join=some u:=by simpa using e2'
  have e5:σ[k]? =some (some u):=by
   cases q:σ[k]? with
   | none=>rw[q] at e4;cases e4
   | some o=>rw[q] at e4;have:o=some u:=e4;rw[this]
  have hfr:scope.names.lookup x=some .free:=O.cap x (Y3 e1')
  have Pc:=O.free _ (PySem.mem_of_lookup hfr) rfl
  obtain⟨m,hm,hl⟩:=I.loc
  obtain⟨w,Cw,lk⟩:=hl k x u hk2 e5 (by rcases Pc with z | z;exact .inr (.inl z);exact .inr (.inr z))
  refine⟨w,Cw,.inr ⟨?_,?_⟩⟩
  ·exact ut hfr
  ·obtain⟨c,hc⟩:=hcl _ (PySem.mem_of_lookup hfr) rfl
   refine⟨c,hc,?_⟩
   rcases lk with⟨z,_⟩ | ⟨_,c',hc',cell⟩
   ·have z':X.env.scope.names.lookup x=some .local:=z
    rcases Pc with y | y <;> (rw[z'] at y;cases y)
   ·have:c'=c:=by
     have:=hsub _ _ hc
     rw[hc'] at this
     exact Option.some.inj this
    subst this
    exact cell.keeps hk
 ·obtain⟨w,cell⟩:=I.cell x c (hsub x c e)
  exact⟨w,cell.keeps hk⟩
 ·show upd H s.heap.objs.size (.lst []) C=none
  rw[aY (Y5 hlt)]
  exact I.hok.fresh (J1 hlt)
 ·obtain⟨w,cell⟩:=I.cell x c (hsub x c e)
  rw[aY (Xk cell.lt)]
  exact I.kL x c (hsub x c e)
 ·show(DM vs.length σ ix).length=(vs++F).length
  unfold DM pV
  rw[K2,K2,Uq,K6,O.len]
end
section
variable {X:Cx}{scope:Scope}{vs:List Str}{F:List Str}{ix:List Nat}{pins:List (Addr×Obj)}{σ:St}{H:Hp}{s:Shared}
 {elt iter:Expr} {ifs:List Expr} {tg:Expr} {g:TG} {pos:Pos} {tt:TT} {te:TE}
theorem oP {tn:Nat->Heap->Prop}{Q:VK}{RR:Value->Addr->Result->Shared->Prop}
  (I:Inv X pins σ H s) (O:cE X scope vs F ix) (hc:X.calm=true) (hsub:∀x c,cl.lookup x=some c->X.env.cells.lookup x=some c) (hcl:∀y∈scope.names,y.2= .free->∃c,cl.lookup y.1=some c)
  (T:Turn X.prog X.w X.K tg J fp it tn) (hst:tn 0 s.heap) (hfp:∀b∈fp,pQ X pins H b)
  (n0:∀cl fp s H C,CA (bx X scope cl (vs++F) fp s H C) ifs tt) (helt:∀cl fp s H C,PE (bx X scope cl (vs++F) fp s H C) elt te) (hg:∀cl fp s H C,PG (bx X scope cl (vs++F) fp s H C) tg g)
  (hr:∀D,H D=none->DN vs.length g J σ ix tt te H Q D)
  (hRR:∀(D C:Addr) (s':Shared) (H':Hp) (m:Str->Option Value),s'.heap.Ns C m->Inv X pins σ H' s'->H' C=none->s.heap.objs.size<=C->Q (.ref D) H'->RR (.ref D) C (.ok .next) s') :
  wpAny (!7) X.A (newList []) (λacc s₃=>wpAny (!7) X.A (newFunctionEnv scope X.env.globals cl [] X.env.qual none .none (some X.env)) (λcenv s₄=>
   codeAny (!7) X.A (.compStart (.ListComp elt [⟨tg,iter,ifs,0⟩] scope pos) 0 (.ref it) acc {cenv with scope:=relabel scope X.env}) (RR acc cenv.locals) s₄) X.xe s₃) X.xe s:=by
 have hfz:∀b∈fp,b < s.heap.objs.size:=λb hb=>let ⟨o,e,_⟩:=T.obj 0 s.heap hst b hb;KJ e
 refine Zk (wpAny_newFunctionEnv O.DL (by intro y hy;simp at hy) (λh₁ hns₁ hsb₁=> ?_) O.kind)
 dsimp only at hns₁ hsb₁⊢
 generalize hH2:s.heap.push {cls:=.type "list",dict:=none,data:=.seq ([]:List Value).toArray}=H2 at hns₁ hsb₁⊢
 have hC:H2.objs.size=s.heap.objs.size+1:=by rw[←hH2,Uk]
 have hDC:s.heap.objs.size≠H2.objs.size:=by rw[hC];exact Xk (Y9 _)
 have old:∀b o,s.heap.get? b=some o->h₁.get? b=some o:=λb o e=>hsb₁.extBut b o (by rw[hC];exact Xk (UZ (KJ e))) (K4 _ (hH2 ▸ K4 _ e))
 have hD:h₁.get? s.heap.objs.size=some {cls:=.type "list",data:=.seq ([]:List Value).toArray}:=hsb₁.extBut _ _ hDC (K4 _ (hH2 ▸ Kv _ rfl))
 have hst₁:tn 0 h₁:=T.keep 0 _ _ hst λb _ o e=>old b o e
 have loop:∀s₃:Shared,s₃={s with heap:=h₁,toks:=s.toks+([]:List (Str×Value)).length}->
   codeAny (!7) X.A (.compLoop (.ListComp elt [⟨tg,iter,ifs,0⟩] scope pos) 0 (.ref it) (.ref s.heap.objs.size) (compEnvC scope cl H2.objs.size X.env))
    (RR (.ref s.heap.objs.size) H2.objs.size) s₃:=by
  rintro s₃ rfl
  have I1:=I.y9 (C:=H2.objs.size) (tk:=s.toks+([]:List (Str×Value)).length) O hsub hcl hfp hfz hC old (show h₁.Ns _ (λ_=>none) from hns₁) hD
  obtain⟨W,⟨m0,w0⟩,turn⟩:=hr s.heap.objs.size (I.hok.fresh (K0 _))
  have stat:∀{H':Hp},(∀b∈fp,H' b=none)->∀b∈fp,pQ (bx X scope cl (vs++F) fp s H H2.objs.size) [] H' b:=λhn b hb=>
   ⟨hn b hb,((I1.ok.Lj b hb).1),I1.ok.A0 b hb,.inl hb,(I1.ok.Lj b hb).2,λp hp=>absurd (show p∈([]:List (Addr×Obj)) from hp) (by simp)⟩
  have Qj:∀b∈fp,(upd H s.heap.objs.size (.lst [])) b=none:=λb hb=>by
   rw[aY (Xk (hfz b hb))]
   exact(hfp b hb).1
  refine codeAny_loop rfl (λn s'=>∃i ys H',Inv (bx X scope cl (vs++F) fp s H H2.objs.size) [] (DM vs.length σ ix) H' s'/\tn i s'.heap/\(∀b∈fp,H' b=none)/\W i n ys H') (λn s3 hI=> ?_) m0 ⟨0,[],_,I1,hst₁,Qj,w0⟩
  obtain⟨i,ys,H3,I3,st3,LA,w3⟩:=hI
  show wpAny _ X.A ((compTurn (.ListComp elt [⟨tg,iter,ifs,0⟩] scope pos) 0 (.ref it) (.ref s.heap.objs.size) (compEnvC scope cl H2.objs.size X.env)).onRaise (λx=>do noteFrame x (compEnvC scope cl H2.objs.size X.env);theTreesLotGoes x)) _ _ s3
  refine wpAny_noted ?_
  rw[compTurn_list]
  refine Z7 (wpAny_standAt (Z7 ?_))
  obtain⟨M9,⟨stop,qn⟩ | ⟨go,step⟩⟩:=turn i n ys H3 w3
  ·refine di (T.done (bx X scope cl (vs++F) fp s H H2.objs.size) rfl rfl rfl hc i [] s3 _ H3 _ I3 (stat LA) st3 stop) λr s4 ⟨Oj,I4⟩=> ?_
   subst Oj
   obtain⟨m,hm,_⟩:=id I4.loc
   refine Z6 ?_
   refine hRR _ _ s4 H3 m hm ?_ I4.free (by rw[hC];exact Yy _) qn
   exact I.call' (ch:=fp) I4.os I4.base I4.hok I4.bare λb hb=>⟨(hfp b hb).2.2.2.1,(hfp b hb).2.1,(hfp b hb).2.2.2.2.1,(hfp b hb).2.2.2.2.2⟩
  ·refine di (T.item (bx X scope cl (vs++F) fp s H H2.objs.size) rfl rfl rfl hc i [] s3 _ H3 _ I3 (stat LA) st3 go) λr s4 ⟨u,Oj,h4⟩=> ?_
   subst Oj
   refine Z7 (di h4 λ_ s5 ⟨x,H5,I5,r5,y5,Ii,Nz⟩=> ?_)
   have NA:=I5.pinned (stat Nz) (T.obj _ _ Ii)
   have hstep:=step x H5 y5
   have again:∀{H7:Hp} {s7:Shared} {m':Nat} {zs zs':List V},Inv (bx X scope cl (vs++F) fp s H H2.objs.size) ([]++pS fp s5.heap) (zs'.map some++pV σ ix) H7 s7->zs'.length=vs.length->m' < n->W (i+1) m' zs H7->
     ∃m,m < n/\∃i ys H',Inv (bx X scope cl (vs++F) fp s H H2.objs.size) [] (DM vs.length σ ix) H' s7/\tn i s7.heap/\(∀b∈fp,H' b=none)/\W i m ys H':=λ{H7 s7 m' zs zs'} I7 hz hm w7=>by
    refine⟨m',hm,i+1,zs,H7,?_,T.keep _ _ _ Ii λb hb o e=>(I7.pin (b,o) (Kk _ (Kk _ (jW hb e)))).1,λb hb=> ?_,w7⟩
    ·refine I7.mF.weak (by unfold DM;rw[K2,K2,Uq,K6,hz]) λj w e=> ?_
     obtain⟨h1,h2⟩:=DO e
     rw[Xu (by rw[K6,hz];exact h1),K6,hz]
     exact h2
    ·obtain⟨o,e,d⟩:=T.obj _ _ Ii b hb
     exact(I7.pin (b,o) (Kk _ (Kk _ (jW hb e)))).2.1
   refine Z7 (wpAny_mono (hg cl fp s H H2.objs.size _ s5 _ H5 x u _ NA r5 hstep) (λ_ s6 ⟨σ6,H6,I6,zs',hz,e6,hstep⟩=> ?_) λ_ _ z=>False.elim z)
   subst e6
   refine Z7 (wpAny_mono (n0 cl fp s H H2.objs.size _ s6 _ H6 _ I6 hstep) (λok s7 ⟨H7,I7,q7⟩=> ?_) λ_ _ z=>False.elim z)
   cases ok with
   | false=>
    rw[Z5 K3] at q7
    obtain⟨m',hm,w7⟩:=q7
    exact Z6 ⟨rfl,again I7 hz hm w7⟩
   | true=>
    rw[Z4 rfl] at q7
    refine Z7 (Z7 (wpAny_mono (helt cl fp s H H2.objs.size _ s7 _ H7 _ I7 q7) (λy s8 ⟨vv,H8,I8,r8,Qk,hz8,m',hm,w8⟩=> ?_) λ_ _ z=>False.elim z))
    refine Z7 (wpAny_mono (nM (X:=bx X scope cl (vs++F) fp s H H2.objs.size) _ s8 _ H8 (.ref s.heap.objs.size) [vv] _ [y] (λ_ H9=>H9=upd H8 s.heap.objs.size (.lst (ys++[vv]))) I8 rfl (.cons r8 .nil) ⟨_,ys,vv,rfl,rfl,Qk,hz8,rfl⟩) (λ_ s9 ⟨_,H9,I9,_,e9⟩=> ?_) λ_ _ z=>False.elim z)
    subst e9
    exact Z6 (Z6 ⟨rfl,again I9 hz hm w8⟩)
 exact codeAny_compStart_list (loop _ rfl) (T.self _ 0 _ _ _ hst₁ (loop _ rfl))
theorem DP (hc:X.calm=true)(O:cE X scope vs F ix)(hi:PI X tg iter wi)
  (n0:∀cl fp s H C,CA (bx X scope cl (vs++F) fp s H C) ifs tt) (helt:∀cl fp s H C,PE (bx X scope cl (vs++F) fp s H C) elt te) (hg:∀cl fp s H C,PG (bx X scope cl (vs++F) fp s H C) tg g)
  (hs:∀x,foldedSetIterable iter X.env x=pure x:=by intro _;rfl):PE X (.ListComp elt [⟨tg,iter,ifs,0⟩] scope pos) (y8 vs.length g wi ix tt te):=by
 intro pins s σ H Q I h
 obtain⟨cl,hclos,hsub,hcl⟩:=pU (I.qI O)
 rw[eval_ListComp]
 refine wpAny_comprehension_free (use:=none) rfl hs hclos O.kind O.names (di (hi pins s σ H _ I h) λxv s1 h1=>di h1 λitv s2 h2=> ?_)
 obtain⟨it,fp,tn,J,H2,e,I2,T,st2,f2,hr⟩:=h2
 subst e
 refine oP (RR:=λacc C=>compPost (!7) X.A X.xe none (EP X pins σ Q) acc C) I2 O hc hsub hcl T st2 f2 n0 helt hg hr ?_
 intro D C s' H' m hm I' hn hC q
 have fp':=I2.pR (H':=H') hC hn
 exact⟨m,hm,λh' hs'=>⟨.ref D,H',I'.turned (t':=s'.toks) (λb o hb e=>(hs'.2 b hb).trans e) hn fp'.2.1 fp'.2.2.2.1 fp'.2.2.2.2.1 fp'.2.2.2.2.2,rfl,q⟩⟩
theorem wX {wi:TI}{i:Nat}{x:Str}{py spos:Pos}(hN:X.N.Nodup)(hxi:X.N[i]? =some x)(hx:Loc X.env.scope x)(hc:X.calm=true)(O:cE X scope vs F ix)(hi:PI X tg iter wi)
  (n0:∀cl fp s H C,CA (bx X scope cl (vs++F) fp s H C) ifs tt) (helt:∀cl fp s H C,PE (bx X scope cl (vs++F) fp s H C) elt te) (hg:∀cl fp s H C,PG (bx X scope cl (vs++F) fp s H C) tg g)
  (hsw:swapsWith (.ListComp elt [⟨tg,iter,ifs,0⟩] scope pos) (some (.Name x py)) spos.line X.env=pure true)
  (hs:∀x,foldedSetIterable iter X.env x=pure x:=by intro _;rfl) (hf:X.fn x=true∨X.env.scope.names.lookup x=some .local:=by first | exact .inl rfl | exact .inr rfl | assumption) :
  PS X (.Assign [.Name x py] (.ListComp elt [⟨tg,iter,ifs,0⟩] scope pos) spos) (Ie (y8 vs.length g wi ix tt te) (pP i)):=by
 intro pins s σ H D I h
 obtain⟨cl,hclos,hsub,hcl⟩:=pU (I.qI O)
 rw[exec_Assign_Name_used _ _ _ _ hsw]
 refine Z7 (wpAny_standAt (Z7 ?_))
 show wpAny _ X.A (do let _←comprehension (.ListComp elt [⟨tg,iter,ifs,0⟩] scope pos) scope X.env _ (newList []) false (eval iter X.env) (some (assign (.Name x py) X.env))) _ _ s
 refine Z7 (wpAny_mono (wpAny_comprehension_free (use:=some (assign (.Name x py) X.env)) (Q:=λ_ s'=>SP X pins D .next s') rfl hs hclos O.kind O.names
  (di (hi pins s σ H _ I h) λxv s1 h1=>di h1 λitv s2 h2=> ?_)) (λ_ s' hq=>Z6 (Z6 hq)) λ_ _ e=>e)
 obtain⟨it,fp,tn,J,H2,e,I2,T,st2,f2,hr⟩:=h2
 subst e
 refine oP (RR:=λacc C=>compPost (!7) X.A X.xe (some (assign (.Name x py) X.env)) (λ_ s'=>SP X pins D .next s') acc C) (Q:=λy H1=>pP i y σ H1 D.nx) I2 O hc hsub hcl T st2 f2 n0 helt hg hr ?_
 intro L C s' H' m hm I' hn hC q
 have fp':=I2.pR (H':=H') hC hn
 show wpAny _ X.A (assign (.Name x py) X.env (.ref L)) _ _ _
 refine wpAny_assign_Name (sI I' hN hxi hx (v:=.ref L) rfl (λs3 I3 ⟨a,sb,ha⟩=> ?_) hf)
 have Ql:C≠a:=by
  rcases ha with e | e
  ·rw[e];exact fp'.2.1
  ·exact Ne.symm (fp'.2.2.2.2.1 _ _ e)
 refine⟨m,hm.sameBut sb Ql,λh' hs'=>⟨_,H',I3.turned (t':=s3.toks) (λb o hb e=>(hs'.2 b hb).trans e) hn fp'.2.1 fp'.2.2.2.1 fp'.2.2.2.2.1 fp'.2.2.2.2.2,q⟩⟩
end
end L2
namespace Y
open PySem
noncomputable def m8 (spl:PyData->Option (List PyData)){α:Type}(f:bL->M α):bL->M α:=λΓ=>match Γ with
 | some (false,d) :: cap=>(match spl d with
  | some ds=>f (ds.map (λd=>some (false,d))++cap)
  | none=>none)
 | _=>none
end Y
namespace L2
open PySem PySem.Spec PyProof.Rows Y
section
variable {X:Cx}{K:Frag}{Ew:Str->Hp->Prop}{pos:Pos}{tg:Expr}{scope:Scope}{vs F:List Str}{g:TG}{spl:PyData->Option (List PyData)}{ix:List Nat}{elt iter:Expr}{ifs:List Expr}{it:IF}{ft:TF}{fe:EF}
theorem BA (r:Rep K B φ Γ σ H)(s0:Same H H1)(hD:H1 D=none)(s1:Same H1 H')(hx:ax K (h9 D H') ds ys) :
  Rep K (h9 D H') (λ_=> []) (ds.map (λd=>some (false,d))++hG Γ ix) (ys.map some++pV σ ix) H' where
 bs:=jI
 len:=by unfold hG pV;simp[am hx]
 sl:=λi o d' e=>by
  have hl:=am hx
  by_cases hi:i < ds.length
  ·rw[Xx (by rw[K6];exact hi),KZ,K5 hi] at e
   cases e
   obtain⟨v,h1,h2⟩:=fB hx (K5 hi)
   exact⟨v,by rw[Xx (by rw[K6,hl];exact hi),KZ,h1];rfl,by rw[Z5 K3];exact h2⟩
  ·have hi:ds.length<=i:=Jw hi
   rw[Xu (by rw[K6];exact hi),K6] at e
   rw[Xu (by rw[K6,hl];exact hi),K6,hl]
   have e':(hG Γ ix)[i - ds.length]? =some (some (o,d')):=e
   unfold hG at e'
   rw[KZ] at e'
   cases hk:ix[i - ds.length]? with
   | none=>rw[hk] at e';cases e'
   | some k=>
    rw[hk] at e'
    have e2:(Γ[k]?).join.map (λp=>(false,p.2))=some (o,d'):=Option.some.inj e'
    cases hg:Γ[k]? with
    | none=>rw[hg] at e2;cases e2
    | some s=>
     rw[hg] at e2
     cases s with
     | none=>cases e2
     | some p=>
      obtain⟨o',d2⟩:=p
      cases e2
      obtain⟨w,h1,h2⟩:=r.sl k o' d2 hg
      have hw:aK K H d2 w:=by
       cases o' with
       | true=>rw[Z4 rfl] at h2;exact IsT.toD _ _ _ h2
       | false=>rw[Z5 K3] at h2;exact aK.same r.bs _ _ h2
      refine⟨w,?_,?_⟩
      ·unfold pV
       rw[KZ,hk,UK,h1];rfl
      ·rw[Z5 K3]
       exact aK.same (sY hD s1) _ _ (aK.same s0 _ _ hw)
 nd:=λ_=>X2
 nb:=λ_ a ha=>by cases ha
 dj:=λ_ _ _ a ha=>by cases ha
def Gy (K:Frag)(n:Nat)(g:TG)(spl:PyData->Option (List PyData))(ix:List Nat):Prop:=∀(d:PyData) (ds:List PyData) (x:V) (H B:Hp) (σ:St) (Q:St->Hp->Prop),spl d=some ds->Same B H->aK K B d x->
 (∀ys:List V,ys.length=n->ax K B ds ys->Q (ys.map some++pV σ ix) H)->g x (DM n σ ix) H Q
theorem wY (hgt:Gy K n g spl ix)(q:tD K Ew (bv it ix (m8 spl ft) (m8 spl fe)) σ H Q):y8 n g (tI K Ew it) ix (Fz K Bg ft) (tD K Bg fe) σ H Q:=by
  obtain⟨B,φ,Γ,r,q⟩:=q
  refine⟨B,φ,Γ,r,?_⟩
  replace q:Runs K Ew B φ H (ao (it Γ) λx=>ao (mo (bW (m8 spl ft) (m8 spl fe) (hG Γ ix) x.2)) λys=>ao (mo (fZ ys)) λk=>if x.2.length<=100000 then ah (k,.list (ys.map Prod.snd)) else none) Q:=q
  match hm:it Γ,q with
  | some (.ok (k0,ds)),q=>
   intro J H1 B1 ψ s0 sB r1 io D hD
   replace q:Runs K Ew B φ H (ao (mo (bW (m8 spl ft) (m8 spl fe) (hG Γ ix) ds)) λys=>ao (mo (fZ ys)) λk=>if ds.length<=100000 then ah (k,.list (ys.map Prod.snd)) else none) Q:=q
   match hys:bW (m8 spl ft) (m8 spl fe) (hG Γ ix) ds,q with
   | none,q=>rcases q with⟨k,d,e,_⟩ | ⟨c,e,_⟩ <;> cases e
   | some ys,q=>
    replace q:Runs K Ew B φ H (ao (mo (fZ ys)) λk=>if ds.length<=100000 then ah (k,.list (ys.map Prod.snd)) else none) Q:=q
    match hkk:fZ ys,q with
    | none,q=>rcases q with⟨k,d,e,_⟩ | ⟨c,e,_⟩ <;> cases e
    | some kk,q=>
     replace q:Runs K Ew B φ H (if ds.length<=100000 then ah (kk,.list (ys.map Prod.snd)) else none) Q:=q
     have hlen:ds.length<=100000:=Decidable.byContradiction λhn=>by
      rw[Z5 hn] at q
      rcases q with⟨k,d,e,_⟩ | ⟨c,e,_⟩ <;> cases e
     rw[Z4 hlen] at q
     have q:∀v H',Same H H'->VR K B φ H H' kk (.list (ys.map Prod.snd)) v->Q v H':=by
      rcases q with⟨k,d,e,q⟩ | ⟨c,e,_⟩
      ·cases e;exact q
      ·cases e
     obtain⟨hk1,hk2⟩:=CV hkk
     refine⟨λi m zs Hc=>m=ds.length - i/\i<=ds.length/\Same H1 Hc/\Hc D=some (.lst zs)/\zs.length<=i/\∃done rest,bW (m8 spl ft) (m8 spl fe) (hG Γ ix) (ds.drop i)=some rest/\ys=done++rest/\
      ax K (h9 D Hc) (done.map Prod.snd) zs/\(fZ done=some (.fr [])->∃as,aA K (h9 D Hc) (done.map Prod.snd) zs as/\as.Nodup/\∀a∈as,H1 a=none),
      ⟨ds.length,by simp,Xq _,Same.upd hD,ay,Xq _,[],ys,by simpa using hys,rfl,bn,λ_=>⟨[],jC,X2,λa ha=>by cases ha⟩⟩,?_⟩
     rintro i m zs Hc ⟨rfl,hi2,sc,Lf,Pd,done,rest,hrest,DQ,hel,hfr⟩
     refine⟨Lf,?_⟩
     by_cases hlt:i < ds.length
     ·refine .inr ⟨io.go i Hc hlt (r1.bs.trans sc),λx H' hy=> ?_⟩
      obtain⟨s3,d,hd,hitem⟩:=io.yl i Hc x H' hlt (r1.bs.trans sc) hy
      have sc':=sc.trans s3
      have Ol:B1 D=none:=by
       cases e:B1 D with
       | none=>rfl
       | some o=>have:=r1.bs _ _ e;rw[hD] at this;cases this
      have hx:aK K (h9 D H') d x:=hitem _ (sY Ol (r1.bs.trans sc')) λa o e1 e2=>by
       rw[i7]
       ·exact e2
       ·rintro rfl;rw[Lf] at e1;cases e1
      have ed:ds.drop i=d :: ds.drop (i+1):=by
       rw[U3 hlt]
       congr 1
       rw[K5 hlt] at hd
       exact Option.some.inj hd
      rw[ed] at hrest
      simp only[bW] at hrest
      obtain⟨Gz,Mt⟩:∃Gz,spl d=some Gz:=by
       cases hu:spl d with
       | none=>simp only[m8,hu] at hrest;cases hrest
       | some z=>exact⟨z,rfl⟩
      simp only[m8,Mt] at hrest
      refine hgt d Gz x H' (h9 D H') σ _ Mt jI hx λQm hl0 hy0=> ?_
      have rin:=BA (ix:=ix) r s0 hD sc' hy0
      refine⟨Qm,hl0,rfl,h9 D H',λ_=> [],Gz.map (λd=>some (false,d))++hG Γ ix,rin,?_⟩
      replace hrest:(match ft (Gz.map (λd=>some (false,d))++hG Γ ix) with
       | some (.ok true)=>(match fe (Gz.map (λd=>some (false,d))++hG Γ ix) with
        | some (.ok x)=>(bW (m8 spl ft) (m8 spl fe) (hG Γ ix) (ds.drop (i+1))).map (x :: ·)
        | _=>none)
       | some (.ok false)=>bW (m8 spl ft) (m8 spl fe) (hG Γ ix) (ds.drop (i+1))
       | _=>none)=some rest:=hrest
      match hft:ft (Gz.map (λd=>some (false,d))++hG Γ ix),hrest with
      | some (.ok true),hrest=>
       refine .inl ⟨true,rfl,λH3 s4=> ?_⟩
       show(if true=true then _ else _)
       rw[Z4 rfl]
       refine⟨h9 D H',λ_=> [],Gz.map (λd=>some (false,d))++hG Γ ix,rin.same s4,?_⟩
       match hfe:fe (Gz.map (λd=>some (false,d))++hG Γ ix),hrest with
       | some (.ok (k,d2)),hrest=>
        refine .inl ⟨k,d2,rfl,λw H4 s5 hv=> ?_⟩
        have Om:H' D=some (.lst zs):=s3 _ _ Lf
        have M9:H3 D=some (.lst zs):=s4 _ _ Om
        have Pe:H4 D=some (.lst zs):=s5 _ _ M9
        replace hrest:(bW (m8 spl ft) (m8 spl fe) (hG Γ ix) (ds.drop (i+1))).map ((k,d2) :: ·)=some rest:=hrest
        cases hr2:bW (m8 spl ft) (m8 spl fe) (hG Γ ix) (ds.drop (i+1)) with
        | none=>rw[hr2] at hrest;cases hrest
        | some Hy=>
         rw[hr2] at hrest
         have hrr:(k,d2) :: Hy=rest:=Option.some.inj hrest
         have hmem:(k,d2)∈ys:=by rw[DQ,←hrr];exact Kk _ K9
         have Pf:Same (h9 D Hc) (h9 D H4):=lH ((s3.trans s4).trans s5)
         have Qn:Same (h9 D H') (h9 D H4):=lH (s4.trans s5)
         have Pg:∀{as:List Addr},(∀a∈as,H3 a=none)->IsT K H4 d2 w as->IsT K (h9 D H4) d2 w as:=λ{as} hn hT=>by
          refine IsT.mv (λa o e n=> ?_) _ _ _ (λa ha o e=> ?_) hT
          ·rw[i7]
           ·exact e
           ·rintro rfl;rw[Pe] at e;cases e;exact n trivial
          ·rw[i7]
           ·exact e
           ·rintro rfl;rw[hn _ ha] at M9;cases M9
         have hfresh:∀{l:List Nat},VR K (h9 D H') (λ_=> []) H3 H4 (.fr l) d2 w->∃as,IsT K H4 d2 w as/\as.Nodup/\∀a∈as,H3 a=none:=λ{l} ⟨as,h1,h2,h3⟩=>⟨as,h1,h2,λa ha=>by
          rcases h3 a ha with⟨_,_,z⟩ | z
          ·cases z
          ·exact z⟩
         refine⟨Pe,XX (show zs.length<=100000 by omega) (!8),ds.length - (i+1),by omega,rfl,hlt,(sc'.trans (s4.trans s5)).IS hD,ay,by rw[K2,X8];omega,done++[(k,d2)],Hy,hr2,by rw[DQ,←hrr,X5];rfl,?_,λhk=> ?_⟩
         ·rw[wk,X4]
          refine e8 (ax.same Pf _ _ hel) (a_ ?_ bn)
          rcases hk2 _ hmem with e | e
          ·have e':k= .fr []:=e
           subst e'
           obtain⟨as,h1,h2,h3⟩:=hfresh hv
           exact IsT.toD _ _ _ (Pg h3 h1)
          ·have e':k= .base:=e
           subst e'
           exact aK.same Qn _ _ hv
         ·obtain⟨hk3,Qo⟩:=Bf hk
          have e':k= .fr []:=Qo
          subst e'
          obtain⟨as,h1,h2,h3⟩:=hfresh hv
          obtain⟨bs,g1,g2,g3⟩:=hfr hk3
          rw[wk,X4]
          refine⟨bs++as,dF (aA.same Pf _ _ _ g1) ?_,XZ.mpr ⟨g2,h2,λa ha b hb e=> ?_⟩,λa ha=> ?_⟩
          ·have:=jD (Pg h3 h1) (jC (K:=K))
           rwa [Xj] at this
          ·subst e
           obtain⟨o,eo,_⟩:=aA.live _ _ _ g1 a ha
           have:=s4 _ _ (s3 _ _ (jI _ _ eo))
           rw[h3 a hb] at this;cases this
          ·rcases K1.mp ha with ha | ha
           ·exact g3 a ha
           ·exact(sc'.trans s4).free (h3 a ha)
       | some (.ex c),hrest=>cases hrest
       | none,hrest=>cases hrest
      | some (.ok false),hrest=>
       refine .inl ⟨false,rfl,λH3 s4=> ?_⟩
       show(if false=true then _ else _)
       rw[Z5 K3]
       refine⟨ds.length - (i+1),by omega,rfl,hlt,sc'.trans s4,s4 _ _ (s3 _ _ Lf),by omega,done,rest,hrest,DQ,ax.same (lH (s3.trans s4)) _ _ hel,λhk=> ?_⟩
       obtain⟨bs,g1,g2,g3⟩:=hfr hk
       exact⟨bs,aA.same (lH (s3.trans s4)) _ _ _ g1,g2,g3⟩
      | some (.ex c),hrest=>cases hrest
      | none,hrest=>cases hrest
     ·have e:i=ds.length:=by omega
      subst e
      refine .inl ⟨io.stop Hc (r1.bs.trans sc),?_⟩
      rw[List.drop_length] at hrest
      simp only[bW] at hrest
      cases hrest
      rw[Xj] at DQ
      subst DQ
      refine q _ Hc (s0.trans sc) ?_
      rcases hk1 with e | e
      ·subst e
       obtain⟨bs,g1,g2,g3⟩:=hfr hkk
       refine⟨D :: bs,fC Lf (aA.same jI _ _ _ g1),KQ.mpr ⟨λz=> ?_,g2⟩,λa ha=> .inr ?_⟩
       ·obtain⟨o,eo,_⟩:=aA.live _ _ _ g1 D z
        rw[jH] at eo;cases eo
       ·rcases Kx.mp ha with rfl | ha
        ·exact s0.free hD
        ·exact s0.free (g3 a ha)
      ·subst e
       exact uz (fU.of Lf) (ax.same jI _ _ hel)
  | some (.ex c),q=>
   rcases q with⟨k,d,e,_⟩ | ⟨c',e,q⟩
   ·cases e
   ·cases e;exact q
  | none,q=>rcases q with⟨k,d,e,_⟩ | ⟨c,e,_⟩ <;> cases e
theorem DR (hc:X.calm=true)(O:cE X scope vs F ix)(hgt:Gy K vs.length g spl ix)(hg:∀cl fp s H C,PG (bx X scope cl (vs++F) fp s H C) tg g)(hi:DI X K Ew tg iter it)
  (n0:∀cl fp s H C,CA (bx X scope cl (vs++F) fp s H C) ifs (Fz K Bg ft)) (helt:∀cl fp s H C,DE (bx X scope cl (vs++F) fp s H C) K Bg elt fe)
  (hK:X.K=K:=by rfl) (hs:∀x,foldedSetIterable iter X.env x=pure x:=by intro _;rfl):DE X K Ew (.ListComp elt [⟨tg,iter,ifs,0⟩] scope pos) (bv it ix (m8 spl ft) (m8 spl fe)) :=
 (DP hc O hi n0 helt hg hs).imp λσ H Q q=>wY hgt q
theorem wZ {i:Nat}{x:Str}{py spos:Pos}(hN:X.N.Nodup)(hxi:X.N[i]? =some x)(hx:Loc X.env.scope x)(hc:X.calm=true)(O:cE X scope vs F ix)(hgt:Gy K vs.length g spl ix)(hg:∀cl fp s H C,PG (bx X scope cl (vs++F) fp s H C) tg g)(hi:DI X K Ew tg iter it)
  (n0:∀cl fp s H C,CA (bx X scope cl (vs++F) fp s H C) ifs (Fz K Bg ft)) (helt:∀cl fp s H C,DE (bx X scope cl (vs++F) fp s H C) K Bg elt fe)
  (hsw:swapsWith (.ListComp elt [⟨tg,iter,ifs,0⟩] scope pos) (some (.Name x py)) spos.line X.env=pure true)
  (hK:X.K=K:=by rfl) (hs:∀x,foldedSetIterable iter X.env x=pure x:=by intro _;rfl) (hf:X.fn x=true∨X.env.scope.names.lookup x=some .local:=by first | exact .inl rfl | exact .inr rfl | assumption) :
  DS X K Ew (.Assign [.Name x py] (.ListComp elt [⟨tg,iter,ifs,0⟩] scope pos) spos) (aB i (bv it ix (m8 spl ft) (m8 spl fe))) :=
 (wX (i:=i) hN hxi hx hc O hi n0 helt hg hsw hs hf).imp λD σ H q=>wY hgt (gH (g:=λx Γ=>ah (.nx (jg Γ i x.1 x.2))) q λB φ Γ k d v H1 r a q=>by
  obtain⟨B',φ',s',r'⟩:=j7 r i a
  exact q B' φ' _ H1 s' r')
theorem Mu {α:Type}(f:bL->M α)(d:PyData)(cap:bL):m8 (λd=>some [d]) f (some (false,d) :: cap)=f (some (false,d) :: cap):=rfl
theorem DU (cap:bL):∀ds:List PyData,bW (m8 (λd=>some [d]) ft) (m8 (λd=>some [d]) fe) cap ds=bW ft fe cap ds
 | []=>rfl
 | d :: ds=>by rw[bW,bW,Mu,Mu,DU cap ds]
theorem Hz:bv it ix (m8 (λd=>some [d]) ft) (m8 (λd=>some [d]) fe)=bv it ix ft fe:=by
 funext Γ
 unfold bv
 simp only[DU]
theorem Ph:Gy K 1 (pP 0) (λd=>some [d]) ix:=λd ds x H B σ Q e s h q=>by
 cases e
 exact q [x] rfl (a_ h bn)
theorem Pj (O:cE X scope [v] F ix):∀cl fp s H C,PG (bx X scope cl ([v]++F) fp s H C) (.Name v px) (pP 0):=λcl fp s H C=>
 bE O.nd rfl (.inl (lookup_relabel_local (O.own v (by simp)))) (.inr (lookup_relabel_local (O.own v (by simp))))
theorem dH (hc:X.calm=true)(O:cE X scope [v] F ix)(hi:DI X K Ew (.Name v px) iter it)
  (n0:∀cl fp s H C,CA (bx X scope cl ([v]++F) fp s H C) ifs (Fz K Bg ft)) (helt:∀cl fp s H C,DE (bx X scope cl ([v]++F) fp s H C) K Bg elt fe)
  (hK:X.K=K:=by rfl) (hs:∀x,foldedSetIterable iter X.env x=pure x:=by intro _;rfl):DE X K Ew (.ListComp elt [⟨.Name v px,iter,ifs,0⟩] scope pos) (bv it ix ft fe) :=
 Hz ▸ DR hc O Ph (Pj O) hi n0 helt hK hs
theorem oQ {v:Str}{px:Pos}{i:Nat}{x:Str}{py spos:Pos}(hN:X.N.Nodup)(hxi:X.N[i]? =some x)(hx:Loc X.env.scope x)(hc:X.calm=true)(O:cE X scope [v] F ix)(hi:DI X K Ew (.Name v px) iter it)
  (n0:∀cl fp s H C,CA (bx X scope cl ([v]++F) fp s H C) ifs (Fz K Bg ft)) (helt:∀cl fp s H C,DE (bx X scope cl ([v]++F) fp s H C) K Bg elt fe)
  (hsw:swapsWith (.ListComp elt [⟨.Name v px,iter,ifs,0⟩] scope pos) (some (.Name x py)) spos.line X.env=pure true)
  (hK:X.K=K:=by rfl) (hs:∀x,foldedSetIterable iter X.env x=pure x:=by intro _;rfl) (hf:X.fn x=true∨X.env.scope.names.lookup x=some .local:=by first | exact .inl rfl | exact .inr rfl | assumption) :
  DS X K Ew (.Assign [.Name x py] (.ListComp elt [⟨.Name v px,iter,ifs,0⟩] scope pos) spos) (aB i (bv it ix ft fe)) :=
 Hz ▸ wZ hN hxi hx hc O Ph (Pj O) hi n0 helt hsw hK hs hf
end
end L2
namespace Y
open PySem
end Y
namespace L2
open PySem PySem.Spec PyProof.Rows Y
open AutoSeq1 (wpAny_loadPart')
end L2
namespace Y
open PySem
end Y
namespace L2
open PySem PySem.Spec PyProof.Rows Y
theorem Qp {P:List Value->Prop}(h:P [])(us:List Value)(hl:us.length=0):P us:=YY.mp hl ▸ h
theorem Mv {P:List Value->Prop}(h:∀a us,us.length=n->P (a :: us))(us:List Value)(hl:us.length=n+1):P us:=by
 cases us with
 | nil=>cases hl
 | cons a us=>exact h a us (Nat.succ.inj hl)
theorem JP {P:List Value->Prop}(h:∀a,P [a]):∀us:List Value,us.length=1->P us:=Mv λa=>Qp (P:=λl=>P (a :: l)) (h a)
theorem Aq {P:List Value->Prop}(h:∀a b,P [a,b]):∀us:List Value,us.length=2->P us:=Mv λa=>JP (P:=λl=>P (a :: l)) (h a)
theorem yk {P:List Value->Prop}(h:∀a b c,P [a,b,c]):∀us:List Value,us.length=3->P us:=Mv λa=>Aq (P:=λl=>P (a :: l)) (h a)
theorem Oo {P:List Value->Prop}(h:∀a b c d,P [a,b,c,d]):∀us:List Value,us.length=4->P us:=Mv λa=>yk (P:=λl=>P (a :: l)) (h a)
structure FI where
 n:Str
 s:Stmt
 ps:List Str
structure Fx (K:Frag)(mg:Str->Option Value)(i:FI)(f:Addr)(d:FuncData):Prop where
 F:EW K i.n i.n i.s f d
 m:mg i.n=some (.ref f)
 b:Binds K d i.ps []
def FX (K:Frag)(n:Str)(s:Stmt):Prop:=∃(f:Addr) (oc:Value) (od:Option Addr) (kV dc pm:Value) (an:Option Addr) (cd ct:Value) (sl:Array (Option Value)),
 nsIn K mainGlobals n=some (some (.ref f))/\K.lookup f=some ⟨oc,od,.func (fnOf n n (jX s) (eM s) (aC s) .none kV dc pm an cd ct),sl⟩/\codeIn K cd n=true/\keepIn K (.ref f)=true
theorem FX.mk {K:Frag}{n:Str}{s:Stmt}{f:Addr}{oc:Value}{od:Option Addr}{kV dc pm:Value}{an:Option Addr}{cd ct:Value}{sl:Array (Option Value)}(a:nsIn K mainGlobals n=some (some (.ref f)))
  (l:K.lookup f=some ⟨oc,od,.func (fnOf n n (jX s) (eM s) (aC s) .none kV dc pm an cd ct),sl⟩) (c:codeIn K cd n=true) (k:keepIn K (.ref f)=true):FX K n s:=⟨f,oc,od,kV,dc,pm,an,cd,ct,sl,a,l,c,k⟩
def Ex (K:Frag)(mg:Str->Option Value)(i:FI):Prop:=∃f d,Fx K mg i f d
theorem FX.ex {K:Frag}{mg:Str->Option Value}{h:Heap}{i:FI}(X:K.In h)(G:h.Ns mainGlobals mg)(x:FX K i.n i.s)
  (hb:∀(kV dc pm:Value) (an:Option Addr) (cd ct:Value) (us:List Value),us.length=i.ps.length->bindArgs (fnOf i.n i.n (jX i.s) (eM i.s) (aC i.s) .none kV dc pm an cd ct) ⟨us,[]⟩=pure (i.ps.zip us)):Ex K mg i:=by
 obtain⟨f,oc,od,kV,dc,pm,an,cd,ct,sl,e1,e2,e3,e4⟩:=x
 have F:=IM e2 e3 e4
 exact⟨f,_,F,mg_of X G e1,F.binds hb⟩
theorem Fx.uniq {K:Frag}{mg:Str->Option Value}{i:FI}{f f':Addr}{d d':FuncData}(x:Fx K mg i f d)(y:Fx K mg i f' d'):f=f'/\d=d':=by
 cases x.m.symm.trans y.m
 obtain⟨_,_,_,_,_,_,_,_,_,_,e,_⟩:=x.F.ex
 obtain⟨_,_,_,_,_,_,_,_,_,_,e',_⟩:=y.F.ex
 cases e.symm.trans e'
 exact⟨rfl,rfl⟩
def Gx (P:Program)(w:World)(K:Frag)(mg:Str->Option Value)(base:Heap)(k:Nat)(i:FI)(sp:Sp):Prop:=∃f d,Fx K mg i f d/\mG P w K mg base zN k f d i.ps sp
section
variable {P:Program}{w:World}{K:Frag}{mg:Str->Option Value}{base:Heap}{i:FI}{N:List Str}
theorem kJ (k n m:Nat)(hn:N.length=n)(hm:i.ps.length=m)(x:Ex K mg i)(S:iZ N i.ps (aC i.s))
  (hbody:∀(f:Addr) (cdv:Value) (A:Around) (outer:List Env) (s:Shared) (H:Hp) (E:XK),g_ k (A.deeper (envOfC i.n (aC i.s) s.heap.objs.size f cdv))->(A.deeper (envOfC i.n (aC i.s) s.heap.objs.size f cdv)).units+80 < cLine->
   Bb (rY zN P w K mg base N i.n (aC i.s) f cdv A outer s H E).Hb K (λ_ _=>False) (eM i.s) fb):Gx P w K mg base (k+1) i (iW K m (cz n fb)):=by
 obtain⟨f,d,x⟩:=x
 exact⟨f,d,x,NV k n m hn hm x.F S λcdv A outer s H E hr=>hbody f cdv A outer s H E hr hr.zS⟩
end
section
variable {X:Cx}{K:Frag}{Ew:Str->Hp->Prop}{e:Expr}{es:List Expr}{pos:Pos}
theorem ap {n k k':Nat}{F:FF}{i:FI}{p:Pos}{Bd:List EF}(G:Gx X.prog X.w X.K X.mg X.base k i (iW K n F))(hr:g_ k' X.A)(ha:DA X K Ew (e :: es) Bd)(hk:k<=k':=by decide)(hg:Gl X i.n:=by rfl)
  (hn:Bd.length=n:=by rfl) (hE:∀c H,¬ Ew c H:=by exact λ_ _ h=>h) (hdb:(i.n==("__debug__":Str))=false:=by decide) (he:starEach (e :: es) X.env=(false,eval e X.env) :: starEach es X.env:=by rfl) (hpl:(backTo pos (starEach es X.env)).any (·.1)=false:=by rfl) :
  DE X K Ew (.Call (.Name i.n p) (e :: es) [] pos) (az F Bd):=by
 obtain⟨f,d,x,g⟩:=G
 exact FA g (hr.mono hk) hg x.m x.F.kp x.b (E:=E0) Hi ha hn hE hdb he hpl
end
end L2
namespace Y
open PySem
end Y
namespace L2
open PySem PySem.Spec PyProof.Rows Y
end L2
namespace Y
open PySem
noncomputable def md:PyData->Option Bool
 | .bool b=>some b
 | _=>none
noncomputable def u6:List PyData->Option PyData
 | [.list xs]=>(xs.mapM md).map λl=> .bool (l.all id)
 | _=>none
end Y
namespace L2
open PySem PySem.Spec PyProof.Rows Y
theorem Ar:bootBuiltins "all" =some (.builtin "all"):=by rfl
theorem tV:∀{bs:List Bool} {us:List Value},Vals (bs.map V.bl) us->LSm.BoolsAre us bs
 | [],_,.nil=> .nil
 | _ :: bs,_,.cons h r=>by cases(show _=Value.bool _ from h);exact .cons _ (tV r)
theorem w6:∀{xs:List PyData} {l:List Bool},xs.mapM md=some l->xs=l.map PyData.bool
 | [],l,h=>by cases h;rfl
 | x :: xs,l,h=>by
  rw[List.mapM_cons] at h
  cases e:md x with
  | none=>rw[e] at h;cases h
  | some i=>
   rw[e] at h
   cases e2:xs.mapM md with
   | none=>rw[e2] at h;cases h
   | some l'=>
    rw[e2] at h
    have h':i :: l'=l:=Option.some.inj h
    subst h'
    rw[Kq,←w6 e2]
    cases x <;> simp only[md] at e <;> first | (cases e;rfl) | (cases e;done)
theorem qJ {K:Frag}{H:Hp}:∀{l:List Bool} {vs:List V},ax K H (l.map PyData.bool) vs->vs=l.map V.bl
 | [],vs,h=>by simp only[J0,ax] at h;exact h
 | b :: l,vs,h=>by
  simp only[Kq,ax] at h
  obtain⟨v,r,rfl,h1,h2⟩:=h
  rw[qJ h2]
  simp only[aK] at h1
  rw[h1];rfl
section
variable {X:Cx}
theorem BB (hc:X.calm=true):iY X (.builtin "all") (λus H Q=>∃(q:Addr) (bs:List Bool),us=[.ref q]/\fU X.K H q (bs.map V.bl)/\Q (.bl (bs.all id)) H):=by
 intro pins s σ H xs us Q I rv h
 obtain⟨p,bs,rfl,hq,q⟩:=h
 obtain⟨u,rfl,ru⟩:=rv.one
 cases(show u=Value.ref p from ru)
 obtain⟨its,r,pl,hz⟩:=I.list hq
 have hb:=tV r
 refine call_all_walk (wpAny_pyIter_list pl.isList ?_)
 have hne:p≠s.heap.objs.size:=by
  obtain⟨o,e,_⟩:=pl.isList
  exact Xk (KJ e)
 refine⟨s.heap.objs.size,_,[s.heap.objs.size],its.toArray.size,_,_,λi=>(bs[i]?).getD true,rfl,Walks.list (prog:=X.prog) (w:=X.w) (A:=X.A.in1) (I.ok.hd hc) s.heap.objs.size p hne its.toArray,
  ⟨⟨_,Kv _ rfl,rfl,rfl⟩,Heap.IsList.push pl.isList _⟩,λi v s' Q' E' hP hQ=> ?_,λh' tk hk=> ?_⟩
 ·obtain⟨b,e,rfl⟩:=hb.get i v (by simpa using hP)
  simp only[e,Option.getD_some] at hQ
  exact wpAny_truthy_bool hQ
 ·have hI:Inv X pins σ H {s with heap:=h',toks:=tk}:=I.kept (t':=tk) (LSm.kept_iter hk)
  have e:((List.range its.toArray.size).all λi=>(bs[i]?).getD true)=bs.all id:=by
   rw[Kz,hb.length];exact LSm.range_all bs
  rw[e]
  exact⟨.bl _,H,hI,rfl,q⟩
theorem tW (hc:X.calm=true):CallD X (.builtin "all") u6:=⟨_,BB hc,λxs z us H Q e h q=>by
 match xs,e,h with
 | [.list ds],e,h=>
  simp only[u6] at e
  cases e2:ds.mapM md with
  | none=>rw[e2] at e;cases e
  | some l=>
   rw[e2,UK] at e
   cases e
   have hd:=w6 e2
   subst hd
   obtain⟨u,rfl,hu⟩:=d_ h
   obtain⟨a,vs,rfl,h1,h2⟩:=a8 hu
   rw[qJ h2] at h1
   exact⟨a,l,rfl,h1,q _ H (Same.refl H) (aP.ml rfl dq)⟩⟩
end
theorem Qq {P:List Value->Prop}(h:∀a b c d e,P [a,b,c,d,e]):∀us:List Value,us.length=5->P us:=Mv λa=>Oo (P:=λl=>P (a :: l)) (h a)
end L2
namespace K43
open PySem Y
def kg:SF :=
 (aB 0 (bg fy (eV 0) (eC (.int 2147483648))))
def kh:SF :=
 (aw (hJ (tE (bg M4 (eV 0) (bg yy (eC (.int 10)) (eC (.int 12)))))
 (aw (aB 0 (bg rW (bg fy (eV 0) (bg yy (eC (.int 10)) (eC (.int 12)))) (eC (.int 1))))
 (aw (bD (fi (bg fX (eV 1) (eC (.int 61)))) (cy 2)
 kg)
 (bq (bg fX (eV 0) (eC (.int 2147483648))))))
 cc)
 (aw (aB 3 (bg fX (bg sd (bg fY (bg fY (bg fX (eV 0) (eC (.int 1000003))) (bg sd (bg sd (eV 1) (eV 1)) (eC (.int 7919)))) (eV 1)) (eC (.int 48271))) (eC (.int 2147483629))))
 (aw (aB 3 (bg fX (bg sd (eV 3) (eV 3)) (eC (.int 2147483587))))
 (bq (bg fy (bg fX (bg sd (eV 3) (bg fY (eV 3) (eC (.int 2)))) (eC (.int 2147483579))) (eC (.int 7)))))))
def cT:FF:=cz 4 kh
def qK:SF :=
 (hJ (tE (bg A8 (eV 2) (eV 3)))
 (iD 1 (fV [(eV 2),(eV 3)]))
 cc)
def qL:SF :=
 (bD (fi (eV 0)) (cy 3)
 qK)
def m9:SF :=
 (aw (aB 1 (cF []))
 (aw (bD (fi (eV 0)) (cy 2)
 qL)
 (bq (eV 1))))
def ki:FF:=cz 4 m9
def dN:SF :=
 (aw (hJ (tE (bg oY (bg fX (eV 0) (eC (.int 3))) (eC (.int 0))))
 (iD 2 (eV 3))
 cc)
 (aB 0 (bg fy (eV 0) (eC (.int 3)))))
def iK:SF :=
 (aw (aB 2 (cF []))
 (aw (bD (jB (az ki [(eV 1)])) (cy 3)
 dN)
 (bq (jA fz [(eV 2)]))))
def dI:FF:=cz 4 iK
def fH:SF :=
 (aw (hJ (tE (bg La (eV 1) (jA iC [(eV 0)])))
 (bq (dk cb (eV 0) (eV 1)))
 cc)
 (bq (eC (.int 0))))
def aD:FF:=cz 2 fH
def db:SF :=
 (aw (aB 5 (az cT [(az aD [(eV 0),(bg fY (eC (.int 2)) (eV 4))]),(bg fY (eC (.int 20)) (eV 4))]))
 (aw (aB 6 (az dI [(eV 5),(eV 1)]))
 (aw (hJ (tE (bg oY (bg fX (bg fy (eV 5) (eC (.int 600000))) (eC (.int 3))) (eC (.int 1))))
 (aB 6 (Fq (eV 6) none (some (eC (.int 1)))))
 cc)
 (hJ (sQ (tE (bg dm (eV 6) (eV 3))) (tE (bg La (jA iC [(eV 3)]) (eV 2))))
 (iD 3 (eV 6))
 cc))))
def kU:SF :=
 (aw (aB 3 (cF []))
 (aw (hJ (tE (bg oY (bg fX (az aD [(eV 0),(eC (.int 1))]) (eC (.int 2))) (eC (.int 1))))
 (iD 3 (fV []))
 cc)
 (aw (bD (fi (eV 2)) (cy 4)
 db)
 (bq (eV 3)))))
def kX:FF:=cz 7 kU
def gj:SF :=
 (aw (aB 1 (bg fX (az aD [(eV 0),(eC (.int 5))]) (bg yy (eC (.int 10)) (eC (.int 60)))))
 (aw (aB 2 (bg fY (bg fY (eV 1) (eC (.int 1))) (bg fX (az aD [(eV 0),(eC (.int 6))]) (eC (.int 5)))))
 (aw (hJ (tE (bg oY (bg fX (az aD [(eV 0),(eC (.int 7))]) (eC (.int 2))) (eC (.int 1))))
 (aB 2 (bg rW (B_ A9 (eC (.int 1))) (bg fX (az aD [(eV 0),(eC (.int 6))]) (bg yy (eC (.int 10)) (eC (.int 59))))))
 cc)
 (bq (cF [(bg fy (eV 1) (eC (.int 10))),(bg rW (bg fy (eV 2) (eC (.int 10))) (eC (.int 1))),(bg fY (eC (.int 7)) (bg fy (eV 1) (eC (.int 10))))])))))
def de:FF:=cz 3 gj
def bC:EF :=
 (dk cb (eV 1) (bg fX (bg fX (bg fy (eV 2) (dk cb (cF [(eC (.int 1)),(eC (.int 4)),(eC (.int 16)),(eC (.int 64))]) (eV 0))) (eC (.int 4))) (eC (.int 3))))
def cf:SF :=
 (aw (aB 6 (az cT [(az aD [(eV 0),(bg fY (eC (.int 8)) (eV 5))]),(bg fY (eC (.int 300)) (eV 5))]))
 (aw (aB 7 (jA fz [(bv (fi (eV 1)) [3,6] cW bC)]))
 (hJ (tE (bg dm (eV 7) (eV 4)))
 (iD 4 (eV 7))
 cc)))
def jn:SF :=
 (aw (aB 3 (az de [(eV 0)]))
 (aw (aB 4 (cF []))
 (aw (bD (fi (eV 2)) (cy 5)
 cf)
 (bq (eV 4)))))
def jo:FF:=cz 8 jn
def kY:SF :=
 (aw (aB 1 (bg fY (eC (.int 2)) (bg fX (az aD [(eV 0),(eC (.int 0))]) (eC (.int 3)))))
 (aw (aB 2 (dk cb (cF [(eC (.int 3)),(eC (.int 3)),(eC (.int 2))]) (bg rW (eV 1) (eC (.int 2)))))
 (aw (aB 3 (bg fX (bg fy (az aD [(eV 0),(eC (.int 0))]) (eC (.int 3))) (dk cb (cF [(eC (.int 4)),(eC (.int 3)),(eC (.int 3))]) (bg rW (eV 1) (eC (.int 2))))))
 (aw (aB 4 (az kX [(eV 0),(eV 1),(eV 2)]))
 (aw (aB 5 (az jo [(eV 0),(eV 1),(bg fY (eC (.int 1)) (bg fX (bg fy (az aD [(eV 0),(eC (.int 7))]) (eC (.int 2))) (eC (.int 6))))]))
 (bq (fV [(eV 1),(eV 4),(eV 3),(eV 5)])))))))
def gI:FF:=cz 6 kY
def eA:SF :=
 (hJ (tE (bg oY (bg fX (bg fy (eV 1) (dk cb (cF [(eC (.int 1)),(eC (.int 2)),(eC (.int 4)),(eC (.int 8)),(eC (.int 16)),(eC (.int 32))]) (eV 3))) (eC (.int 2))) (eC (.int 1))))
 (iD 2 (dk cb (eV 0) (eV 3)))
 cc)
def oR:SF :=
 (aw (aB 2 (cF []))
 (aw (bD (fi (jA iC [(eV 0)])) (cy 3)
 eA)
 (aw (hJ (tE (bg oY (eV 2) (cF [])))
 (aB 2 (Fq (Fq (eV 0) (some (bg fX (eV 1) (jA iC [(eV 0)]))) none) none (some (eC (.int 1)))))
 cc)
 (bq (Fs (eV 2) none none (some (B_ A9 (eC (.int 1)))))))))
def i_:FF:=cz 4 oR
def jp:SF :=
 (aB 2 (bg sd (eV 2) (jA iC [(eV 0)])))
def kZ:SF :=
 (aw (aB 2 (eC (.int 1)))
 (aw (bD (fi (eV 1)) (cy 3)
 jp)
 (bq (eV 2))))
def gJ:FF:=cz 4 kZ
def k6:SF :=
 (bq (bg sd (jA iC [(eV 2)]) (az gJ [(eV 0),(eV 1)])))
def gK:FF:=cz 3 k6
def mw:SF :=
 (aw (iD 3 (dk cb (eV 0) (bg fX (eV 4) (jA iC [(eV 0)]))))
 (aB 4 (bg fy (eV 4) (jA iC [(eV 0)]))))
def qM:SF :=
 (aw (aB 3 (cF []))
 (aw (sf 4 2)
 (aw (bD (fi (eV 1)) (cy 5)
 mw)
 (bq (B_ v5 (eV 3))))))
def m_:FF:=cz 6 qM
def qN:SF :=
 (aw (aB 4 (az gJ [(eV 0),(eV 1)]))
 (bq (fV [(dk cb (eV 2) (bg fy (eV 3) (eV 4))),(az m_ [(eV 0),(eV 1),(bg fX (eV 3) (eV 4))])])))
def nc:FF:=cz 5 qN
def ie:EF :=
 (az nc [(eV 1),(eV 2),(eV 3),(eV 0)])
def mx:SF :=
 (aw (aB 3 (az gK [(eV 0),(eV 1),(eV 2)]))
 (aw (hJ (tE (bg Fo (eV 3) (eC (.int 3000))))
 CD
 cc)
 (bq (bv (fi (eV 3)) [0,1,2] cW ie))))
def bY:FF:=cz 4 mx
def ja:TF :=
 (sQ (tE (bg A8 (eV 0) (eV 1))) (tE (bg dm (fV [(eV 0),(eV 1)]) (eV 2))))
def k7:EF :=
 (eV 0)
def n5:SF :=
 (bq (jA fz [(bv (fi (eV 0)) [2,1] ja k7)]))
def lR:FF:=cz 3 n5
def du:EF :=
 (LW (tE (bg Fm (eV 0) (eV 1))) (az lR [(eV 2),(eV 3),(eV 0)]) (eC .none))
def gR:SF :=
 (bq (jA fz [(bv (fi (eV 0)) [2,0,1] cW du)]))
def eO:FF:=cz 3 gR
def dv:SF :=
 (hJ (tE (bg jY (eV 3) (eC .none)))
 (v4 2 (eV 3))
 cc)
def gS:SF :=
 (aw (aB 2 (jA vY [(eV 0)]))
 (aw (bD (jB (eV 1)) (cy 3)
 dv)
 (bq (B_ kP (eV 2)))))
def eP:FF:=cz 4 gS
def qO:SF :=
 (aw (aB 7 (az eO [(eV 3),(eV 6),(eV 4)]))
 (aw (iD 5 (eV 7))
 (aB 4 (az eP [(eV 4),(eV 7)]))))
def ng:EF :=
 (LW (tE (bg Fm (eV 0) (eV 1))) (dk cb (eV 2) (eV 0)) (eC .none))
def y_:SF :=
 (aw (aB 2 (dk cb (eV 0) (eC (.int 0))))
 (aw (aB 3 (jA iC [(eV 2)]))
 (aw (aB 4 (cF [(eV 1)]))
 (aw (aB 5 (cF []))
 (aw (bD (CH (dk cb (eV 0) (eC (.int 1)))) (cy 6)
 qO)
 (aw (aB 8 (bv (fi (eV 3)) [4,2] cW ng))
 (bq (fV [(eV 1),(jA fz [(eV 8)]),(B_ v5 (eV 5))]))))))))
def qP:FF:=cz 9 y_
def kj:EF :=
 (az qP [(eV 1),(eV 0)])
def my:SF :=
 (bq (bv (fi (eV 0)) [1] cW kj))
def iL:FF:=cz 2 my
def f_:EF :=
 (az iL [(eV 1),(eV 0)])
def iM:SF :=
 (bq (bv (jB (eV 1)) [0] cW f_))
def dJ:FF:=cz 2 iM
def gc:SF :=
 (Dd 1 (eV 4) 2)
def cM:SF :=
 (bD (jB (eV 3)) (cy 4)
 gc)
def iN:SF :=
 (aw (aB 1 oz)
 (aw (bD (ic (eV 0)) (kI [2,3])
 cM)
 (bq (eV 1))))
def dL:FF:=cz 5 iN
def cU:EF :=
 (fV [(eV 1),(eV 0)])
def bj:SF :=
 (hJ (tE (bg cC (eV 5) (eV 2)))
 (aw (oA 2 (eV 5) (eC (.bool true)))
 (v4 3 (bv (jB (dk mi (eV 1) (eV 5))) [4] cW cU)))
 cc)
def cr:SF :=
 (aw (aB 3 (cF []))
 (aw (bD (ic (eV 0)) (kI [4,5])
 bj)
 cc))
def cu:=runIO 6 3 cr
def cB:SF :=
 (hJ (tE (bg cC (eV 9) (eV 3)))
 (aw (oB 3 (eV 9) (fV [(eV 8),(eV 7)]))
 (iD 6 (eV 9)))
 cc)
def df:SF :=
 (Ad 4 cu (dk cb (eV 0) (eV 7)) (eV 1) (kI [8,9])
 cB)
def eB:SF :=
 (aw (aB 6 (cF []))
 (aw (bD (jB (eV 5)) (cy 7)
 df)
 (sf 5 6)))
def gk:TF :=
 (tE (bg Fo (jA iC [(eV 5)]) (eC (.int 0))))
def k8:SF :=
 (aw (aB 3 (v7 (eV 2) (eC .none)))
 (aw (aB 4 oz)
 (aw (aB 5 (cF [(eV 2)]))
 (aw (nN pY gk
 eB)
 (bq (eV 3))))))
def jb:FF:=cz 10 k8
def bU:SF :=
 (hJ (tE (bg cC (eV 4) (eV 2)))
 (aw (aB 5 (az jb [(eV 0),(eV 1),(eV 4)]))
 (aw (sR 2 (eV 5))
 (iD 3 (jA qH [(eV 5)]))))
 cc)
def iO:SF :=
 (aw (aB 1 (az dL [(eV 0)]))
 (aw (aB 2 oz)
 (aw (aB 3 (cF []))
 (aw (bD (fi (jA iC [(eV 0)])) (cy 4)
 bU)
 (bq (eV 3))))))
def bZ:FF:=cz 6 iO
def cg:TF :=
 (tE (bg l4 (eV 0) (dk cb (eV 1) (eC (.int 0)))))
def gT:EF :=
 (eV 0)
def me:SF :=
 (bq (bv (jB (eV 0)) [1] cg gT))
def dg:FF:=cz 2 me
def aV:SF :=
 (aB 2 (az dg [(eV 2),(dk cb (eV 0) (eV 3))]))
def gU:SF :=
 (aw (aB 2 (dk cb (dk cb (eV 0) (dk cb (eV 1) (eC (.int 0)))) (eC (.int 0))))
 (aw (bD (jB (eV 1)) (cy 3)
 aV)
 (bq (eV 2))))
def cX:FF:=cz 4 gU
def bB:TF :=
 (tE (bg dm (eV 1) (dk cb (dk cb (eV 2) (eV 0)) (eC (.int 0)))))
def dw:EF :=
 (eV 0)
def ky:SF :=
 (bq (dk cb (bv (jB (eV 1)) [2,0] bB dw) (eC (.int 0))))
def gV:FF:=cz 3 ky
def iP:SF :=
 (aw (aB 4 (dk mi (eV 0) (eV 3)))
 (aw (iD 2 (fV [(dk cb (eV 4) (eC (.int 0))),(eV 3)]))
 (aB 3 (dk cb (eV 4) (eC (.int 1))))))
def eY:TF :=
 (tE (bg jY (dk mi (eV 0) (eV 3)) (eC .none)))
def qQ:SF :=
 (aw (hJ (tE (bg cC (eV 1) (eV 0)))
 (bq (eC .none))
 cc)
 (aw (aB 2 (cF []))
 (aw (sf 3 1)
 (aw (nN pY eY
 iP)
 (bq (B_ wI (eV 2)))))))
def qR:FF:=cz 5 qQ
def cY:SF :=
 (aB 6 (az dg [(eV 6),(dk cb (eV 0) (eV 10))]))
def gX:SF :=
 (aw (aB 7 (az gV [(eV 0),(eV 2),(dk cb (eV 6) (eC (.int 0)))]))
 (aw (aB 8 (az qR [(az jb [(eV 1),(eV 3),(eV 5)]),(eV 7)]))
 (aw (bD (jB (eV 8)) (kI [9,10])
 cY)
 (aw (v4 4 (eV 8))
 (sf 5 7)))))
def gY:TF :=
 (tE (bg Fo (jA iC [(eV 6)]) (eC (.int 0))))
def jq:SF :=
 (aw (aB 3 (az dL [(eV 1)]))
 (aw (aB 4 (cF []))
 (aw (aB 5 (dk cb (eV 2) (eC (.int 0))))
 (aw (aB 6 (dk cb (dk cb (eV 0) (eV 5)) (eC (.int 0))))
 (aw (nN pY gY
 gX)
 (bq (eV 4)))))))
def gn:FF:=cz 11 jq
def nh:SF :=
 (oB 6 (eV 10) (dk cb (eV 8) (eC (.int 0))))
def ni:SF :=
 (bD (jB (dk cb (eV 5) (eV 9))) (cy 10)
 nh)
def cw:SF :=
 (aw (aB 8 (az cX [(eV 4),(eV 7)]))
 (aw (hJ (tE (bg oY (jA iC [(eV 8)]) (eC (.int 0))))
 (bq (fV [(eC (.str (Str.ofString "row"))),(dk cb (eV 7) (eC (.int 0))),(az gn [(eV 4),(eV 5),(eV 7)])]))
 cc)
 (bD (jB (eV 7)) (cy 9)
 ni)))
def u7:SF :=
 (aw (aB 4 (az bY [(eV 1),(eV 2),(eV 3)]))
 (aw (aB 5 (az dJ [(eV 0),(eV 4)]))
 (aw (aB 6 oz)
 (aw (bD (jB (az bZ [(eV 5)])) (cy 7)
 cw)
 (bq (fV [(eC (.str (!9))),(eV 6)]))))))
def fJ:FF:=cz 11 u7
def cN:SF :=
 (hJ (sQ (tE (bg A8 (eV 4) (eV 2))) (tE (bg dm (fV [(eV 4),(eV 2)]) (eV 1))))
 (iD 3 (eV 4))
 cc)
def iQ:SF :=
 (aw (aB 3 (cF []))
 (aw (bD (fi (eV 0)) (cy 4)
 cN)
 (bq (jA fz [(eV 3)]))))
def dM:FF:=cz 5 iQ
def gp:EF :=
 (v7 (fV [(eV 0),(eC (.int 0))]) (eC (.bool true)))
def gq:SF :=
 (sR 8 (dk cb (eV 3) (eV 9)))
def gu:SF :=
 (aw (aB 8 (jA pC [(dk cb (eV 3) (eV 7))]))
 (aw (bD (jB (az dM [(eV 2),(eV 5),(eV 7)])) (cy 9)
 gq)
 (aw (oB 8 (fV [(eV 7),(bg fY (eV 4) (eC (.int 1)))]) (eC (.bool true)))
 (iD 6 (eV 8)))))
def gx:SF :=
 (aw (aB 6 (cF []))
 (aw (bD (fi (eV 2)) (cy 7)
 gu)
 (sf 3 6)))
def eD:SF :=
 (hJ (tE (bg l4 (fV [(eV 7),(eC (.int 0))]) (dk cb (eV 3) (eV 1))))
 (CF 10 (eV 7) (dk cb (dk cb (eV 0) (eC (.int 0))) (eV 7)))
 cc)
def eE:SF :=
 (hJ (tE (bg l4 (fV [(eV 7),(bg fY (eV 4) (eC (.int 1)))]) (dk cb (eV 3) (eV 1))))
 (CF 12 (eV 7) (az dM [(eV 2),(eV 5),(eV 7)]))
 cc)
def gy:SF :=
 (aw (aB 12 (CC (cF [(eC .none)]) (eV 2)))
 (aw (bD (fi (eV 2)) (cy 7)
 eE)
 (iD 11 (jA fz [(eV 12)]))))
def k9:SF :=
 (aw (aB 2 (jA iC [(dk cb (eV 0) (eC (.int 0)))]))
 (aw (aB 3 (bv (fi (eV 2)) [] cW gp))
 (aw (bD (uw (dk cb (eV 0) (eC (.int 1)))) (kI [4,5])
 gx)
 (aw (aB 10 (CC (cF [(eC .none)]) (eV 2)))
 (aw (aB 11 (cF []))
 (aw (bD (fi (eV 2)) (cy 7)
 eD)
 (aw (bD (uw (dk cb (eV 0) (eC (.int 1)))) (kI [4,5])
 gy)
 (bq (fV [(eV 1),(jA fz [(eV 10)]),(jA fz [(eV 11)])])))))))))
def gL:FF:=cz 13 k9
def fK:SF :=
 (aw (aB 7 (az gL [(eV 4),(eV 6)]))
 (aw (hJ (tE (bg cC (eV 7) (eV 2)))
 (bq (eV 3))
 cc)
 (iD 5 (dk mi (eV 2) (eV 7)))))
def fM:SF :=
 (aw (aB 5 (cF []))
 (aw (bD (fi (eV 0)) (cy 6)
 fK)
 (hJ (CB (tE (bg A8 (eV 5) (CC (Fq (eV 5) none (some (eC (.int 1)))) (eV 0)))) (tE (bg dm (dk cb (eV 5) (eC (.int 0))) (dk cb (eV 4) (eC (.int 0))))))
 (bq (eV 3))
 cc)))
def nj:SF :=
 (aw (bD (ic (eV 1)) (kI [3,4])
 fM)
 (bq (eC .none)))
def ig:FF:=cz 8 nj
def jr:EF :=
 (bg l4 (eV 0) (eV 1))
def eF:EF :=
 (bg oY (dk mi (eV 2) (eV 0)) (eV 1))
def k_:SF :=
 (aw (aB 3 (az iL [(eV 0),(eV 1)]))
 (aw (hJ (vX (tE (jA u6 [(bv (jB (eV 3)) [2] cW jr)])))
 (bq (eC (.bool false)))
 cc)
 (aw (aB 4 (dk mi (eV 2) (dk cb (eV 3) (eC (.int 0)))))
 (bq (Fl (bg l4 (eV 4) (dk cb (eV 1) (eC (.int 0)))) (jA u6 [(bv (jB (eV 3)) [4,2] cW eF)]))))))
def la:FF:=cz 5 k_
def n6:SF :=
 (hJ (vX (tE (az la [(eV 0),(eV 6),(eV 4)])))
 (bq (eV 5))
 cc)
def u9:SF :=
 (aw (bD (ic (az bY [(eV 1),(eV 2),(eV 3)])) (kI [5,6])
 n6)
 (bq (eC .none)))
def pK:FF:=cz 7 u9
def jt:SF :=
 (iD 5 (bg fY (eV 6) (fV [(eV 7)])))
def gz:SF :=
 (bD (jB (eV 0)) (cy 7)
 jt)
def eG:SF :=
 (aw (aB 5 (cF []))
 (aw (bD (jB (eV 3)) (cy 6)
 gz)
 (sf 3 5)))
def gA:SF :=
 (iD 8 (fV [(eV 9),(eV 6)]))
def eH:SF :=
 (bD (jB (eV 3)) (cy 6)
 gA)
def lb:SF :=
 (aw (aB 3 (cF [(fV [])]))
 (aw (bD (fi (eV 1)) (cy 4)
 eG)
 (aw (aB 8 (cF []))
 (aw (bD (jB (eV 2)) (cy 9)
 eH)
 (bq (eV 8))))))
def jc:FF:=cz 10 lb
def DV:SF :=
 (aw (Fp (kI [1,2,3,4]) (az gI [(eV 0)]))
 (aw (aB 5 (az cT [(az aD [(eV 0),(eC (.int 14))]),(eC (.int 14))]))
 (aw (aB 6 (az i_ [(eV 2),(eV 5)]))
 (aw (aB 7 (az i_ [(eV 4),(bg fy (eV 5) (eC (.int 64)))]))
 (aw (aB 8 (az fJ [(eV 1),(eV 2),(eV 3),(eV 4)]))
 (aw (aB 9 (az fJ [(eV 1),(eV 6),(eV 3),(eV 7)]))
 (aw (hJ (tE (bg oY (dk cb (eV 8) (eC (.int 0))) (eC (.str (Str.ofString "row")))))
 (bq (eC (.bool true)))
 cc)
 (aw (hJ (CB (tE (bg A8 (dk cb (eV 9) (eC (.int 0))) (eC (.str (!9))))) (tE (bg jY (az pK [(eV 1),(eV 6),(eV 3),(eV 7),(dk cb (eV 8) (eC (.int 1)))]) (eC .none))))
 (bq (eC (.bool false)))
 cc)
 (aw (hJ (tE (bg jY (az ig [(eV 1),(az jc [(eV 6),(eV 3),(eV 7)]),(dk cb (eV 8) (eC (.int 1)))]) (eC .none)))
 (bq (eC (.bool false)))
 cc)
 (bq (K_ (bg Fo (eV 3) (eC (.int 2))) (bg oY (dk cb (az fJ [(eV 1),(eV 2),(bg fY (eV 3) (eC (.int 1))),(eV 4)]) (eC (.int 0))) (eC (.str (!9)))))))))))))))
def tX:FF:=cz 10 DV
end K43
namespace K43
open PySem L2 Y
noncomputable def top (i:Nat):Stmt:=PySem.Challenge.pw_losspact_k43_whole_lesser_roads.main.body.getD i (.Pass ⟨0,0,0,0⟩)
abbrev kF (N:List Str)(i:FI):=iZ N i.ps (aC i.s)
noncomputable abbrev lf:FI:=⟨"many_rows",top 5,["things","length"]⟩
theorem ij:kF ["things","length","many","place"] lf:=(!0)
noncomputable abbrev qS:FI:=⟨"row_at",top 6,["things","length","number"]⟩
theorem jR:kF ["things","length","number","row","rest","place"] qS:=(!0)
noncomputable abbrev lg:FI:=⟨"many_runs",top 7,["road","rounds","starts"]⟩
theorem u_:kF ["road","rounds","starts"] lg:=(!0)
noncomputable abbrev qT:FI:=⟨"run_at",top 8,["road","rounds","starts","number"]⟩
theorem tY:kF ["road","rounds","starts","number","many"] qT:=(!0)
noncomputable abbrev kl:FI:=⟨"all_runs",top 9,["road","rounds","starts"]⟩
theorem oS:kF ["road","rounds","starts","many"] kl:=(!0)
noncomputable abbrev lS:FI:=⟨"came_to",top 11,["hands","weather","hand"]⟩
theorem za:kF ["hands","weather","hand"] lS:=(!0)
noncomputable abbrev va:FI:=⟨"view",top 12,["run","hand"]⟩
theorem il:kF ["run","hand","values","hands","heard","came","weather","came_here","seen_values"] va:=(!0)
noncomputable abbrev eQ:FI:=⟨"came_to_heard",top 13,["hands","weather","heard"]⟩
theorem n8:kF ["hands","weather","heard"] eQ:=(!0)
noncomputable abbrev gZ:FI:=⟨"heard_earlier",top 14,["heard","came_here"]⟩
theorem gg:kF ["heard","came_here","earlier","starts"] gZ:=(!0)
noncomputable abbrev fO:FI:=⟨"views_of_all",top 16,["hands","runs"]⟩
theorem o3:kF ["hands","runs"] fO:=(!0)
noncomputable abbrev km:FI:=⟨"views_in",top 17,["hands","run"]⟩
theorem w9:kF ["hands","run"] km:=(!0)
noncomputable abbrev iR:FI:=⟨"runs_by_view",top 18,["seen"]⟩
theorem cZ:kF ["seen","sharing","number","views","one_view"] iR:=(!0)
noncomputable abbrev iS:FI:=⟨"joined_parts",top 19,["seen"]⟩
theorem ci:kF ["seen","sharing","placed","told","number","ways"] iS:=(!0)
noncomputable abbrev lh:FI:=⟨"ways_from",top 20,["seen","sharing","first"]⟩
theorem bQ:kF ["seen","sharing","first","ways","walked","wave","further","ahead","hand","number"] lh:=(!0)
noncomputable abbrev cx:FI:=⟨"steps_by_new_views",top 21,["views","sharing","walked"]⟩
theorem ca:kF ["views","sharing","walked","steps","hand","one_view"] cx:=(!0)
noncomputable abbrev qU:FI:=⟨"row_to",top 22,["ways","goal"]⟩
theorem jS:kF ["ways","goal","steps","number","way"] qU:=(!0)
noncomputable abbrev zb:FI:=⟨"pact",top 24,["hands","road","rounds","starts"]⟩
theorem jd:kF ["hands","road","rounds","starts","runs","seen","table","part","common","number","one_view"] zb:=(!0)
noncomputable abbrev g5:FI:=⟨"common_values",top 25,["runs","numbers"]⟩
theorem dO:kF ["runs","numbers","common","number"] g5:=(!0)
noncomputable abbrev gB:FI:=⟨"values_kept",top 26,["values","run"]⟩
theorem qV:kF ["values","run"] gB:=(!0)
noncomputable abbrev ju:FI:=⟨"parting_row",top 27,["runs","seen","part"]⟩
theorem bd:kF ["runs","seen","part","sharing","steps","here","common","goal","further","hand","number"] ju:=(!0)
noncomputable abbrev eR:FI:=⟨"first_without",top 28,["runs","part","value"]⟩
theorem n9:kF ["runs","part","value"] eR:=(!0)
noncomputable abbrev vb:FI:=⟨"fails",top 29,["hands","road","rounds","starts","table"]⟩
theorem qW:kF ["hands","road","rounds","starts","table","number","run"] vb:=(!0)
noncomputable abbrev gM:FI:=⟨"serves_in",top 30,["hands","run","table"]⟩
theorem kn:kF ["hands","run","table","views","value"] gM:=(!0)
noncomputable abbrev iT:FI:=⟨"_law_cell_at",top 32,["_law_script","_law_k"]⟩
theorem o4:kF ["_law_script","_law_k"] iT:=(!0)
noncomputable abbrev mz:FI:=⟨"_law_mix",top 33,["_law_cell","_law_k"]⟩
theorem e_:kF ["_law_cell","_law_k","_law_turn","_law_number"] mz:=(!0)
noncomputable abbrev ko:FI:=⟨"_law_pairs",top 35,["_law_hands"]⟩
theorem gC:kF ["_law_hands","_law_found","_law_start","_law_goal"] ko:=(!0)
noncomputable abbrev iU:FI:=⟨"_law_weather",top 36,["_law_number","_law_hands"]⟩
theorem eS:kF ["_law_number","_law_hands","_law_lost","_law_pair"] iU:=(!0)
noncomputable abbrev li:FI:=⟨"_law_road",top 37,["_law_script","_law_hands","_law_many"]⟩
theorem dP:kF ["_law_script","_law_hands","_law_many","_law_road_here","_law_k","_law_drawn","_law_weather_here"] li:=(!0)
noncomputable abbrev jv:FI:=⟨"_law_values",top 38,["_law_script"]⟩
theorem fP:kF ["_law_script","_law_one","_law_other"] jv:=(!0)
noncomputable abbrev gD:FI:=⟨"_law_starts",top 39,["_law_script","_law_hands","_law_many"]⟩
theorem cO:kF ["_law_script","_law_hands","_law_many","_law_values_here","_law_starts_here","_law_k","_law_number","_law_start"] gD:=(!0)
noncomputable abbrev lj:FI:=⟨"_law_case",top 40,["_law_script"]⟩
theorem dQ:kF ["_law_script","_law_hands","_law_many","_law_rounds","_law_road_here","_law_starts_here"] lj:=(!0)
noncomputable abbrev ll:FI:=⟨"_law_runs",top 41,["_law_road_here","_law_rounds","_law_starts_here"]⟩
theorem bH:kF ["_law_road_here","_law_rounds","_law_starts_here","_law_rows","_law_k","_law_longer","_law_row","_law_weather_here","_law_found","_law_start"] ll:=(!0)
noncomputable abbrev iV:FI:=⟨"_law_senders",top 42,["_law_hands","_law_weather_here","_law_hand"]⟩
theorem g6:kF ["_law_hands","_law_weather_here","_law_hand","_law_found","_law_other"] iV:=(!0)
noncomputable abbrev je:FI:=⟨"_law_view",top 43,["_law_run","_law_hand"]⟩
theorem aO:kF ["_law_run","_law_hand","_law_hands","_law_known","_law_k","_law_weather_here","_law_after","_law_other","_law_some_here","_law_start","_law_values_here","_law_came","_law_row"] je:=(!0)
noncomputable abbrev kq:FI:=⟨"_law_fails",top 44,["_law_hands","_law_runs_here","_law_table"]⟩
theorem dh:kF ["_law_hands","_law_runs_here","_law_table","_law_number","_law_run","_law_values_here","_law_hand","_law_seen"] kq:=(!0)
noncomputable abbrev lq:FI:=⟨"_law_some",top 45,["_law_things","_law_number"]⟩
theorem im:kF ["_law_things","_law_number","_law_found","_law_k"] lq:=(!0)
noncomputable abbrev DX:FI:=⟨"law",top 46,["_law_script"]⟩
theorem jw:kF ["_law_script","_law_hands","_law_road_here","_law_rounds","_law_starts_here","_law_number","_law_less","_law_fewer","_law_found","_law_other"] DX:=(!0)
structure Tx (K:Frag)(mg:Str->Option Value)(t:Nat):Prop where
 w_:Ex K mg lf
 DY:Ex K mg qS
 xa:Ex K mg lg
 DZ:Ex K mg qT
 zc:Ex K mg kl
 BC:Ex K mg lS
 JR:Ex K mg va
 o8:Ex K mg eQ
 o9:Ex K mg gZ
 qX:Ex K mg fO
 zd:Ex K mg km
 qY:Ex K mg iR
 qZ:Ex K mg iS
 xb:Ex K mg lh
 lr:Ex K mg cx
 D0:Ex K mg qU
 JS:Ex K mg zb
 o_:Ex K mg g5
 sh:Ex K mg gB
 sj:Ex K mg ju
 pb:Ex K mg eR
 GA:Ex K mg vb
 xc:Ex K mg gM
 q8:Ex K mg iT
 ze:Ex K mg mz
 vc:Ex K mg ko
 q9:Ex K mg iU
 xf:Ex K mg li
 sk:Ex K mg jv
 sq:Ex K mg gD
 xg:Ex K mg lj
 xh:Ex K mg ll
 q_:Ex K mg iV
 xi:Ex K mg je
 vd:Ex K mg kq
 xj:Ex K mg lq
 HA:Ex K mg DX
 all:mg "all" =none
 dict:mg "dict" =none
 enumerate:mg "enumerate" =none
 len:mg "len" =none
 list:mg "list" =none
 range:mg "range" =none
 reversed:mg "reversed" =none
 set:mg "set" =none
 sorted:mg "sorted" =none
 tuple:mg "tuple" =none
 xk:mg "MOST_RUNS" =some (.int 3000 t)
section
variable {P:Program}{w:World}{K:Frag}{mg:Str->Option Value}{base:Heap}{t:Nat}
seal DS Bb DE DA DT DW DI
theorem lu (T:Tx K mg t):Gx P w K mg base 1 mz (iW K 2 cT):=kJ (fb:=kh) 0 4 2 rfl rfl T.ze e_ λ_ _ _ _ _ _ _ hr aT=>
 (ae (cJ (aX (JA) (af 0) (aH (pD) ak ak) (bJ _))
 (ae (au (i:=0) e_.nd rfl (!3) (aH (mJ) (aH (bX) (af 0) (aH (pD) ak ak)) ak))
 (ae (ba PassesOwn.never rfl (dR (by rfl) T.range (aH (bF) (af 1) ak)) (cn (i:=2) e_.nd rfl (!3))
 (aj (au (i:=0) e_.nd rfl (!3) (aH (bX) (af 0) ak))))
 (aj (aM (aH (bF) (af 0) ak)))))
 bh)
 (ae (au (i:=3) e_.nd rfl (!3) (aH (bF) (aH (j8) (aH (cD) (aH (cD) (aH (bF) (af 0) ak) (aH (j8) (aH (j8) (af 1) (af 1)) ak)) (af 1)) ak) ak))
 (ae (au (i:=3) e_.nd rfl (!3) (aH (bF) (aH (j8) (af 3) (af 3)) ak))
 (aj (aM (aH (bX) (aH (bF) (aH (j8) (af 3) (aH (cD) (af 3) ak)) ak) ak))))))
theorem sr (T:Tx K mg t):Gx P w K mg base 1 ko (iW K 1 ki):=kJ (fb:=m9) 0 4 1 rfl rfl T.vc gC λ_ _ _ _ _ _ _ hr aT=>
 (ae (au (i:=1) gC.nd rfl (!3) (bz ai))
 (ae (ba PassesOwn.never rfl (dR (by rfl) T.range (af 0)) (cn (i:=2) gC.nd rfl (!3))
 (aj (ba PassesOwn.never rfl (dR (by rfl) T.range (af 0)) (cn (i:=3) gC.nd rfl (!3))
 (aj (cJ (aX (qa aT) (af 2) (af 3) (bJ _))
 (aj (dG (i:=1) (pv 1) (cK (ab (af 2) (ab (af 3) ai ag) ag))))
 bh)))))
 (aj (aM (af 1)))))
theorem pd (T:Tx K mg t):Gx P w K mg base 2 iU (iW K 2 dI):=kJ (fb:=iK) 1 4 2 rfl rfl T.q9 eS λ_ _ _ _ _ _ _ hr aT=>
 (ae (au (i:=2) eS.nd rfl (!3) (bz ai))
 (ae (ba PassesOwn.never rfl (jG (ap (sr T) hr (ab (af 1) ai ag))) (cn (i:=3) eS.nd rfl (!3))
 (ae (cJ (aX (ji aT) (aH (bF) (af 0) ak) ak (bJ _))
 (aj (dG (i:=2) (pv 2) (af 3)))
 bh)
 (aj (au (i:=0) eS.nd rfl (!3) (aH (bX) (af 0) ak)))))
 (aj (aM (cL cp (by rfl) T.tuple PyProof.Rows.boot_tuple (ab (af 2) ai ag))))))
theorem aZ (T:Tx K mg t):Gx P w K mg base 1 iT (iW K 2 aD):=kJ (fb:=fH) 0 2 2 rfl rfl T.q8 o4 λ_ _ _ _ _ _ _ hr aT=>
 (ae (cJ (aX (CK) (af 1) (bK bM (by rfl) T.len PySem.boot_len (ab (af 0) ai ag)) (bJ _))
 (aj (aM (aU g7 (af 0) (af 1) (λ_ _=>rfl))))
 bh)
 (aj (aM ak)))
theorem vf (T:Tx K mg t):Gx P w K mg base 3 li (iW K 3 kX):=kJ (fb:=kU) 2 7 3 rfl rfl T.xf dP λ_ _ _ _ _ _ _ hr aT=>
 (ae (au (i:=3) dP.nd rfl (!3) (bz ai))
 (ae (cJ (aX (ji aT) (aH (bF) (ap (aZ T) hr (ab (af 0) (ab ak ai bo) ag)) ak) ak (bJ _))
 (aj (dG (i:=3) (pv 3) (cK ai)))
 bh)
 (ae (ba PassesOwn.never rfl (dR (by rfl) T.range (af 2)) (cn (i:=4) dP.nd rfl (!3))
 (ae (au (i:=5) dP.nd rfl (!3) (ap (lu T) hr (ab (ap (aZ T) hr (ab (af 0) (ab (aH (cD) ak (af 4)) ai) ag)) (ab (aH (cD) ak (af 4)) ai))))
 (ae (au (i:=6) dP.nd rfl (!3) (ap (pd T) hr (ab (af 5) (ab (af 1) ai ag) ag)))
 (ae (cJ (aX (ji aT) (aH (bF) (aH (bX) (af 5) ak) ak) ak (bJ _))
 (aj (au (i:=6) dP.nd rfl (!3) (z0 (af 6) jJ (kO ak))))
 bh)
 (aj (cJ (DW.dt (yG (aX (f7 aT) (af 6) (af 3) (by rfl)) (uB (aX (CK) (bK bM (by rfl) T.len PySem.boot_len (ab (af 3) ai ag)) (af 2) (bJ _)))))
 (aj (dG (i:=3) (pv 3) (af 6)))
 bh))))))
 (aj (aM (af 3))))))
theorem rc (T:Tx K mg t):Gx P w K mg base 2 jv (iW K 1 de):=kJ (fb:=gj) 1 3 1 rfl rfl T.sk fP λ_ _ _ _ _ _ _ hr aT=>
 (ae (au (i:=1) fP.nd rfl (!3) (aH (bF) (ap (aZ T) hr (ab (af 0) (ab ak ai bo) ag)) (aH (pD) ak ak)))
 (ae (au (i:=2) fP.nd rfl (!3) (aH (cD) (aH (cD) (af 1) ak) (aH (bF) (ap (aZ T) hr (ab (af 0) (ab ak ai bo) ag)) ak)))
 (ae (cJ (aX (ji aT) (aH (bF) (ap (aZ T) hr (ab (af 0) (ab ak ai bo) ag)) ak) ak (bJ _))
 (aj (au (i:=2) fP.nd rfl (!3) (aH (mJ) (Hk zU ak) (aH (bF) (ap (aZ T) hr (ab (af 0) (ab ak ai bo) ag)) (aH (pD) ak ak)))))
 bh)
 (aj (aM (bz (ab (aH (bX) (af 1) ak) (ab (aH (mJ) (aH (bX) (af 2) ak) ak) (ab (aH (cD) ak (aH (bX) (af 1) ak)) ai)))))))))
theorem re (T:Tx K mg t):Gx P w K mg base 3 gD (iW K 3 jo):=kJ (fb:=jn) 2 8 3 rfl rfl T.sq cO λ_ _ _ _ _ _ _ hr aT=>
 (ae (au (i:=3) cO.nd rfl (Or.inr rfl) (ap (rc T) hr (ab (af 0) ai ag)))
 (ae (au (i:=4) cO.nd rfl (!3) (bz ai))
 (ae (ba PassesOwn.never rfl (dR (by rfl) T.range (af 2)) (cn (i:=5) cO.nd rfl (!3))
 (ae (au (i:=6) cO.nd rfl (Or.inr rfl) (ap (lu T) hr (ab (ap (aZ T) hr (ab (af 0) (ab (aH (cD) ak (af 5)) ai) ag)) (ab (aH (cD) ak (af 5)) ai))))
 (ae (au (i:=7) cO.nd rfl (!3) (cL cp (by rfl) T.tuple PyProof.Rows.boot_tuple (ab (dH rfl (F:=["_law_values_here","_law_number"]) (ix:=[3,6]) (oK (aC gD.s) (!5)) (dR (by rfl) T.range (af 1)) (λ_ _ _ _ _=>gh) (λ_ _ _ _ _=>(aU g7 (af 1) (aH (bF) (aH (bF) (aH (bX) (af 2) (aU g7 (bz (ab ak (ab ak (ab ak (ab ak ai bo) bo) bo) bo)) (af 0) (λ_ _=>rfl))) ak) ak) (λ_ _=>rfl)))) ai)))
 (aj (cJ (aX (f7 aT) (af 7) (af 4) (by rfl))
 (aj (dG (i:=4) (pv 4) (af 7)))
 bh)))))
 (aj (aM (af 4))))))
theorem vg (T:Tx K mg t):Gx P w K mg base 4 lj (iW K 1 gI):=kJ (fb:=kY) 3 6 1 rfl rfl T.xg dQ λ_ _ _ _ _ _ _ hr aT=>
 (ae (au (i:=1) dQ.nd rfl (!3) (aH (cD) ak (aH (bF) (ap (aZ T) hr (ab (af 0) (ab ak ai bo) ag)) ak)))
 (ae (au (i:=2) dQ.nd rfl (!3) (aU g7 (bz (ab ak (ab ak (ab ak ai bo) bo) bo)) (aH (mJ) (af 1) ak) (λ_ _=>rfl)))
 (ae (au (i:=3) dQ.nd rfl (!3) (aH (bF) (aH (bX) (ap (aZ T) hr (ab (af 0) (ab ak ai bo) ag)) ak) (aU g7 (bz (ab ak (ab ak (ab ak ai bo) bo) bo)) (aH (mJ) (af 1) ak) (λ_ _=>rfl))))
 (ae (au (i:=4) dQ.nd rfl (!3) (ap (vf T) hr (ab (af 0) (ab (af 1) (ab (af 2) ai ag) ag) ag)))
 (ae (au (i:=5) dQ.nd rfl (!3) (ap (re T) hr (ab (af 0) (ab (af 1) (ab (aH (cD) ak (aH (bF) (aH (bX) (ap (aZ T) hr (ab (af 0) (ab ak ai bo) ag)) ak) ak)) ai) ag) ag)))
 (aj (aM (cK (ab (af 1) (ab (af 4) (ab (af 3) (ab (af 5) ai ag) ag) ag) ag)))))))))
theorem nk (T:Tx K mg t):Gx P w K mg base 1 lq (iW K 2 i_):=kJ (fb:=oR) 0 4 2 rfl rfl T.xj im λ_ _ _ _ _ _ _ hr aT=>
 (ae (au (i:=2) im.nd rfl (!3) (bz ai))
 (ae (ba PassesOwn.never rfl (dR (by rfl) T.range (bK bM (by rfl) T.len PySem.boot_len (ab (af 0) ai ag))) (cn (i:=3) im.nd rfl (!3))
 (aj (cJ (aX (ji aT) (aH (bF) (aH (bX) (af 1) (aU g7 (bz (ab ak (ab ak (ab ak (ab ak (ab ak (ab ak ai bo) bo) bo) bo) bo) bo)) (af 3) (λ_ _=>rfl))) ak) ak (bJ _))
 (aj (dG (i:=2) (pv 2) (aU g7 (af 0) (af 3) (λ_ _=>rfl))))
 bh)))
 (ae (cJ (aX (ji aT) (af 2) (bz ai) (bJ _))
 (aj (au (i:=2) im.nd rfl (!3) (z0 (z0 (af 0) (kO (aH (bF) (af 1) (bK bM (by rfl) T.len PySem.boot_len (ab (af 0) ai ag)))) jJ) jJ (kO ak))))
 bh)
 (aj (aM (IX (af 2) jJ jJ (kO (Hk zU ak))))))))
theorem nq (T:Tx K mg t):Gx P w K mg base 1 lf (iW K 2 gJ):=kJ (fb:=kZ) 0 4 2 rfl rfl T.w_ ij λ_ _ _ _ _ _ _ hr aT=>
 (ae (au (i:=2) ij.nd rfl (!3) ak)
 (ae (ba PassesOwn.never rfl (dR (by rfl) T.range (af 1)) (cn (i:=3) ij.nd rfl (!3))
 (aj (au (i:=2) ij.nd rfl (!3) (aH (j8) (af 2) (bK bM (by rfl) T.len PySem.boot_len (ab (af 0) ai ag))))))
 (aj (aM (af 2)))))
theorem vh (T:Tx K mg t):Gx P w K mg base 2 lg (iW K 3 gK):=kJ (fb:=k6) 1 3 3 rfl rfl T.xa u_ λ_ _ _ _ _ _ _ hr aT=>
 (aj (aM (aH (j8) (bK bM (by rfl) T.len PySem.boot_len (ab (af 2) ai ag)) (ap (nq T) hr (ab (af 0) (ab (af 1) ai ag) ag)))))
theorem BD (T:Tx K mg t):Gx P w K mg base 1 qS (iW K 3 m_):=kJ (fb:=qM) 0 6 3 rfl rfl T.DY jR λ_ _ _ _ _ _ _ hr aT=>
 (ae (au (i:=3) jR.nd rfl (!3) (bz ai))
 (ae (nP (i:=4) (j:=2) jR.nd rfl (!3) (pv 2))
 (ae (ba PassesOwn.never rfl (dR (by rfl) T.range (af 1)) (cn (i:=5) jR.nd rfl (!3))
 (ae (dG (i:=3) (pv 3) (aU g7 (af 0) (aH (bF) (af 4) (bK bM (by rfl) T.len PySem.boot_len (ab (af 0) ai ag))) (λ_ _=>rfl)))
 (aj (au (i:=4) jR.nd rfl (!3) (aH (bX) (af 4) (bK bM (by rfl) T.len PySem.boot_len (ab (af 0) ai ag)))))))
 (aj (aM (s_ rfl (by rfl) T.tuple (by rfl) T.reversed (af 3)))))))
theorem BE (T:Tx K mg t):Gx P w K mg base 2 qT (iW K 4 nc):=kJ (fb:=qN) 1 5 4 rfl rfl T.DZ tY λ_ _ _ _ _ _ _ hr aT=>
 (ae (au (i:=4) tY.nd rfl (!3) (ap (nq T) hr (ab (af 0) (ab (af 1) ai ag) ag)))
 (aj (aM (cK (ab (aU g7 (af 2) (aH (bX) (af 3) (af 4)) (λ_ _=>rfl)) (ab (ap (BD T) hr (ab (af 0) (ab (af 1) (ab (aH (bF) (af 3) (af 4)) ai) ag) ag)) ai) jm)))))
theorem oT (T:Tx K mg t):Gx P w K mg base 3 kl (iW K 3 bY):=kJ (fb:=mx) 2 4 3 rfl rfl T.zc oS λ_ _ _ _ _ _ _ hr aT=>
 (ae (au (i:=3) oS.nd rfl (!3) (ap (vh T) hr (ab (af 0) (ab (af 1) (ab (af 2) ai ag) ag) ag)))
 (ae (cJ (aX (uA) (af 3) (CI (E5 (v:=.int 3000) (by rfl) T.xk ⟨_,rfl⟩) rfl λ_=>bP) (bJ _))
 (aj C1)
 bh)
 (aj (aM (dH rfl (F:=["road","rounds","starts"]) (ix:=[0,1,2]) (oK (aC kl.s) (!5)) (dR (by rfl) T.range (af 3)) (λ_ _ _ _ _=>gh) (λ_ _ _ _ _=>(ap (BE T) hr (ab (af 1) (ab (af 2) (ab (af 3) (ab (af 0) ai ag) ag) ag) ag))))))))
theorem zf (T:Tx K mg t):Gx P w K mg base 1 lS (iW K 3 lR):=kJ (fb:=n5) 0 3 3 rfl rfl T.BC za λ_ _ _ _ _ _ _ hr aT=>
 (aj (aM (cL cp (by rfl) T.tuple PyProof.Rows.boot_tuple (ab (dH rfl (F:=["hand","weather"]) (ix:=[2,1]) (oK (aC lS.s) (!5)) (dR (by rfl) T.range (af 0)) (λ_ _ _ _ _=>(uF (DW.dt (yG (aX (qa aT) (af 0) (af 1) (bJ _)) (uB (aX (f7 aT) (cK (ab (af 0) (ab (af 1) ai ag) ag)) (af 2) (by rfl))))))) (λ_ _ _ _ _=>(af 0))) ai))))
theorem n_ (T:Tx K mg t):Gx P w K mg base 2 eQ (iW K 3 eO):=kJ (fb:=gR) 1 3 3 rfl rfl T.o8 n8 λ_ _ _ _ _ _ _ hr aT=>
 (aj (aM (cL cp (by rfl) T.tuple PyProof.Rows.boot_tuple (ab (dH rfl (F:=["heard","hands","weather"]) (ix:=[2,0,1]) (oK (aC eQ.s) (!5)) (dR (by rfl) T.range (af 0)) (λ_ _ _ _ _=>gh) (λ_ _ _ _ _=>(Hm (aX (yF aT) (af 0) (af 1) (by rfl)) (ap (zf T) hr (ab (af 2) (ab (af 3) (ab (af 0) ai ag) ag) ag)) gP))) ai))))
theorem oa (T:Tx K mg t):Gx P w K mg base 1 gZ (iW K 2 eP):=kJ (fb:=gS) 0 4 2 rfl rfl T.o9 gg λ_ _ _ _ _ _ _ hr aT=>
 (ae (au (i:=2) gg.nd rfl (!3) (cL yI (by rfl) T.list PyProof.Rows.boot_list (ab (af 0) ai ag)))
 (ae (ba PassesOwn.never rfl (jG (af 1)) (cn (i:=3) gg.nd rfl (!3))
 (aj (cJ (aX (lF) (af 3) gP (bJ _))
 (aj (C0 (i:=2) (pv 2) (af 3)))
 bh)))
 (aj (aM (yX rfl (by rfl) T.sorted (by rfl) T.set (af 2))))))
theorem GB (T:Tx K mg t):Gx P w K mg base 3 va (iW K 2 qP):=kJ (fb:=y_) 2 9 2 rfl rfl T.JR il λ_ _ _ _ _ _ _ hr aT=>
 (ae (au (i:=2) il.nd rfl (Or.inr rfl) (aU g7 (af 0) ak (λ_ _=>rfl)))
 (ae (au (i:=3) il.nd rfl (!3) (bK bM (by rfl) T.len PySem.boot_len (ab (af 2) ai ag)))
 (ae (au (i:=4) il.nd rfl (Or.inr rfl) (bz (ab (af 1) ai ag)))
 (ae (au (i:=5) il.nd rfl (!3) (bz ai))
 (ae (ba PassesOwn.never rfl (IZ rfl (by rfl) T.reversed (aU g7 (af 0) ak (λ_ _=>rfl))) (cn (i:=6) il.nd rfl (!3))
 (ae (au (i:=7) il.nd rfl (!3) (ap (n_ T) hr (ab (af 3) (ab (af 6) (ab (af 4) ai ag) ag) ag)))
 (ae (dG (i:=5) (pv 5) (af 7))
 (aj (au (i:=4) il.nd rfl (Or.inr rfl) (ap (oa T) hr (ab (af 4) (ab (af 7) ai ag) ag)))))))
 (ae (oQ (i:=8) il.nd rfl (!3) rfl (F:=["heard","values"]) (ix:=[4,2]) (oK (aC va.s) (!5)) (dR (by rfl) T.range (af 3)) (λ_ _ _ _ _=>gh) (λ_ _ _ _ _=>(Hm (aX (yF aT) (af 0) (af 1) (by rfl)) (aU g7 (af 2) (af 0) (λ_ _=>rfl)) gP)) (by rfl))
 (aj (aM (cK (ab (af 1) (ab (cL cp (by rfl) T.tuple PyProof.Rows.boot_tuple (ab (af 8) ai ag)) (ab (s_ rfl (by rfl) T.tuple (by rfl) T.reversed (af 5)) ai)) ag))))))))))
theorem oU (T:Tx K mg t):Gx P w K mg base 4 km (iW K 2 iL):=kJ (fb:=my) 3 2 2 rfl rfl T.zd w9 λ_ _ _ _ _ _ _ hr aT=>
 (aj (aM (dH rfl (F:=["run"]) (ix:=[1]) (oK (aC km.s) (!5)) (dR (by rfl) T.range (af 0)) (λ_ _ _ _ _=>gh) (λ_ _ _ _ _=>(ap (GB T) hr (ab (af 1) (ab (af 0) ai ag) ag))))))
theorem pe (T:Tx K mg t):Gx P w K mg base 5 fO (iW K 2 dJ):=kJ (fb:=iM) 4 2 2 rfl rfl T.qX o3 λ_ _ _ _ _ _ _ hr aT=>
 (aj (aM (dH rfl (F:=["hands"]) (ix:=[0]) (oK (aC fO.s) (!5)) (jG (af 1)) (λ_ _ _ _ _=>gh) (λ_ _ _ _ _=>(ap (oU T) hr (ab (af 1) (ab (af 0) ai ag) ag))))))
theorem kC (T:Tx K mg t):Gx P w K mg base 1 iR (iW K 1 dL):=kJ (fb:=iN) 0 5 1 rfl rfl T.qY cZ λ_ _ _ _ _ _ _ hr aT=>
 (ae (au (i:=1) cZ.nd rfl (!3) pH)
 (ae (ba PassesOwn.never rfl (mV (by rfl) T.enumerate (af 0)) (oC (is:=[2,3]) rfl (bu (bE (i:=2) cZ.nd rfl (!3)) (bu (bE (i:=3) cZ.nd rfl (!3)) g9)))
 (aj (ba PassesOwn.never rfl (jG (af 3)) (cn (i:=4) cZ.nd rfl (!3))
 (aj (Mc aT (i:=1) (j:=2) (pv 1) (af 4) (pv 2))))))
 (aj (aM (af 1)))))
theorem kG (T:Tx K mg t):Gx P w K mg base 1 cx (Jn K 2 cu):=by
 obtain⟨f,d,x⟩:=T.lr
 refine⟨f,d,x,Oc (fb:=cr) 0 6 2 3 rfl rfl x.F ca (!8) (!8) λcdv A outer s H E aa hr=> ?_⟩
 have aT:=hr.zS
 exact(wJ (Ji (i:=3) ca.nd rfl (!3) (bz ai))
 (wJ (Jl PassesOwn.never rfl (mV (by rfl) T.enumerate (af 0)) (Mf (is:=[4,5]) rfl (bu (bE (i:=4) ca.nd rfl (Or.inr rfl)) (bu (bE (i:=5) ca.nd rfl (!3)) g9)))
 (Ae (Me (aX (iF aT) (af 5) (af 2) (by rfl))
 (Dg (FR aT (i:=2) (pv 2) (af 5) p7)
 (Ae (Jm (i:=3) (pv 3) (dH rfl (F:=["hand"]) (ix:=[4]) (oK (aC cx.s) (!5)) (jG (aU (Bm aT) (af 1) (af 5) (λ_ _=>rfl))) (λ_ _ _ _ _=>gh) (λ_ _ _ _ _=>(cK (ab (af 1) (ab (af 0) ai ag) ag)))))))
 FQ)))
 (Dh (pv 3))))
theorem nu (T:Tx K mg t):Gx P w K mg base 2 lh (iW K 3 jb):=by
 obtain⟨fW,dW,xW,gW⟩:=kG (P:=P) (w:=w) (base:=base) T
 refine kJ (fb:=k8) 1 10 3 rfl rfl T.xb bQ λ_ _ _ _ _ _ _ hr aT=> ?_
 exact(ae (au (i:=3) bQ.nd rfl (!3) (Ac aT (af 2) gP))
 (ae (au (i:=4) bQ.nd rfl (!3) pH)
 (ae (au (i:=5) bQ.nd rfl (!3) (bz (ab (af 2) ai ag)))
 (ae (qc pY PassesOwn.never (aX (uA) (bK bM (by rfl) T.len PySem.boot_len (ab (af 5) ai ag)) ak (bJ _))
 (ae (au (i:=6) bQ.nd rfl (!3) (bz ai))
 (ae (ba PassesOwn.never rfl (jG (af 5)) (cn (i:=7) bQ.nd rfl (!3))
 (aj (FT (iw:=4) PassesOwn.never rfl gW (hr.mono (!8)) (by rfl) xW.m xW.F.kp xW.b (E:=E0) Hi (aU g7 (af 0) (af 7) (λ_ _=>rfl)) (af 1) (pv 4) (oC (is:=[8,9]) rfl (bu (bE (i:=8) bQ.nd rfl (!3)) (bu (bE (i:=9) bQ.nd rfl (!3)) g9)))
 (aj (cJ (aX (iF aT) (af 9) (af 3) (by rfl))
 (ae (uS aT (i:=3) (pv 3) (af 9) (cK (ab (af 8) (ab (af 7) ai ag) ag)))
 (aj (dG (i:=6) (pv 6) (af 9))))
 bh)))))
 (aj (nP (i:=5) (j:=6) bQ.nd rfl (!3) (pv 6))))))
 (aj (aM (af 3)))))))
theorem pg (T:Tx K mg t):Gx P w K mg base 3 iS (iW K 1 bZ):=kJ (fb:=iO) 2 6 1 rfl rfl T.qZ ci λ_ _ _ _ _ _ _ hr aT=>
 (ae (au (i:=1) ci.nd rfl (!3) (ap (kC T) hr (ab (af 0) ai ag)))
 (ae (au (i:=2) ci.nd rfl (!3) pH)
 (ae (au (i:=3) ci.nd rfl (!3) (bz ai))
 (ae (ba PassesOwn.never rfl (dR (by rfl) T.range (bK bM (by rfl) T.len PySem.boot_len (ab (af 0) ai ag))) (cn (i:=4) ci.nd rfl (!3))
 (aj (cJ (aX (iF aT) (af 4) (af 2) (by rfl))
 (ae (au (i:=5) ci.nd rfl (!3) (ap (nu T) hr (ab (af 0) (ab (af 1) (ab (af 4) ai ag) ag) ag)))
 (ae (C_ aT (i:=2) (pv 2) (af 5))
 (aj (dG (i:=3) (pv 3) (bK (wW rfl) (by rfl) T.sorted PyProof.Rows.boot_sorted (ab (af 5) ai ag))))))
 bh)))
 (aj (aM (af 3)))))))
theorem lw (T:Tx K mg t):Gx P w K mg base 1 gB (iW K 2 dg):=kJ (fb:=me) 0 2 2 rfl rfl T.sh qV λ_ _ _ _ _ _ _ hr aT=>
 (aj (aM (dH rfl (F:=["run"]) (ix:=[1]) (oK (aC gB.s) (!5)) (jG (af 0)) (λ_ _ _ _ _=>(uF (aX (mU aT) (af 0) (aU g7 (af 1) ak (λ_ _=>rfl)) (by rfl)))) (λ_ _ _ _ _=>(af 0)))))
theorem oe (T:Tx K mg t):Gx P w K mg base 2 g5 (iW K 2 cX):=kJ (fb:=gU) 1 4 2 rfl rfl T.o_ dO λ_ _ _ _ _ _ _ hr aT=>
 (ae (au (i:=2) dO.nd rfl (!3) (aU g7 (aU g7 (af 0) (aU g7 (af 1) ak (λ_ _=>rfl)) (λ_ _=>rfl)) ak (λ_ _=>rfl)))
 (ae (ba PassesOwn.never rfl (jG (af 1)) (cn (i:=3) dO.nd rfl (!3))
 (aj (au (i:=2) dO.nd rfl (!3) (ap (lw T) hr (ab (af 2) (ab (aU g7 (af 0) (af 3) (λ_ _=>rfl)) ai jm) ag)))))
 (aj (aM (af 2)))))
theorem og (T:Tx K mg t):Gx P w K mg base 1 eR (iW K 3 gV):=kJ (fb:=ky) 0 3 3 rfl rfl T.pb n9 λ_ _ _ _ _ _ _ hr aT=>
 (aj (aM (aU g7 (dH rfl (F:=["value","runs"]) (ix:=[2,0]) (oK (aC eR.s) (!5)) (jG (af 1)) (λ_ _ _ _ _=>(uF (aX (f7 aT) (af 1) (aU g7 (aU g7 (af 2) (af 0) (λ_ _=>rfl)) ak (λ_ _=>rfl)) (by rfl)))) (λ_ _ _ _ _=>(af 0))) ak (λ_ _=>rfl))))
theorem BF (T:Tx K mg t):Gx P w K mg base 1 qU (iW K 2 qR):=kJ (fb:=qQ) 0 5 2 rfl rfl T.D0 jS λ_ _ _ _ _ _ _ hr aT=>
 (ae (cJ (aX (iF aT) (af 1) (af 0) (by rfl))
 (aj (aM gP))
 bh)
 (ae (au (i:=2) jS.nd rfl (!3) (bz ai))
 (ae (nP (i:=3) (j:=1) jS.nd rfl (!3) (pv 1))
 (ae (qc pY PassesOwn.never (aX (lF) (aU (Bm aT) (af 0) (af 3) (λ_ _=>rfl)) gP (bJ _))
 (ae (au (i:=4) jS.nd rfl (!3) (aU (Bm aT) (af 0) (af 3) (λ_ _=>rfl)))
 (ae (dG (i:=2) (pv 2) (cK (ab (aU g7 (af 4) ak (λ_ _=>rfl)) (ab (af 3) ai ag) jm)))
 (aj (au (i:=3) jS.nd rfl (!3) (aU g7 (af 4) ak (λ_ _=>rfl)))))))
 (aj (aM (yR rfl (by rfl) T.list (by rfl) T.reversed (af 2))))))))
theorem rf (T:Tx K mg t):Gx P w K mg base 3 ju (iW K 3 gn):=kJ (fb:=jq) 2 11 3 rfl rfl T.sj bd λ_ _ _ _ _ _ _ hr aT=>
 (ae (au (i:=3) bd.nd rfl (!3) (ap (kC T) hr (ab (af 1) ai ag)))
 (ae (au (i:=4) bd.nd rfl (!3) (bz ai))
 (ae (au (i:=5) bd.nd rfl (!3) (aU g7 (af 2) ak (λ_ _=>rfl)))
 (ae (au (i:=6) bd.nd rfl (!3) (aU g7 (aU g7 (af 0) (af 5) (λ_ _=>rfl)) ak (λ_ _=>rfl)))
 (ae (qc pY PassesOwn.never (aX (uA) (bK bM (by rfl) T.len PySem.boot_len (ab (af 6) ai ag)) ak (bJ _))
 (ae (au (i:=7) bd.nd rfl (!3) (ap (og T) hr (ab (af 0) (ab (af 2) (ab (aU g7 (af 6) ak (λ_ _=>rfl)) ai jm) ag) ag)))
 (ae (au (i:=8) bd.nd rfl (!3) (ap (BF T) hr (ab (ap (nu T) hr (ab (af 1) (ab (af 3) (ab (af 5) ai ag) ag) ag)) (ab (af 7) ai ag))))
 (ae (ba PassesOwn.never rfl (jG (af 8)) (oC (is:=[9,10]) rfl (bu (bE (i:=9) bd.nd rfl (!3)) (bu (bE (i:=10) bd.nd rfl (!3)) g9)))
 (aj (au (i:=6) bd.nd rfl (!3) (ap (lw T) hr (ab (af 6) (ab (aU g7 (af 0) (af 10) (λ_ _=>rfl)) ai jm) ag)))))
 (ae (C0 (i:=4) (pv 4) (af 8))
 (aj (nP (i:=5) (j:=7) bd.nd rfl (!3) (pv 7))))))))
 (aj (aM (af 4))))))))
theorem vi (T:Tx K mg t):Gx P w K mg base 6 zb (iW K 4 fJ):=kJ (fb:=u7) 5 11 4 rfl rfl T.JS jd λ_ _ _ _ _ _ _ hr aT=>
 (ae (au (i:=4) jd.nd rfl (!3) (ap (oT T) hr (ab (af 1) (ab (af 2) (ab (af 3) ai ag) ag) ag)))
 (ae (au (i:=5) jd.nd rfl (!3) (ap (pe T) hr (ab (af 0) (ab (af 4) ai ag) ag)))
 (ae (au (i:=6) jd.nd rfl (!3) pH)
 (ae (ba PassesOwn.never rfl (jG (ap (pg T) hr (ab (af 5) ai ag))) (cn (i:=7) jd.nd rfl (!3))
 (ae (au (i:=8) jd.nd rfl (!3) (ap (oe T) hr (ab (af 4) (ab (af 7) ai ag) ag)))
 (ae (cJ (aX (ji aT) (bK bM (by rfl) T.len PySem.boot_len (ab (af 8) ai ag)) ak (bJ _))
 (aj (aM (cK (ab p8 (ab (aU g7 (af 7) ak (λ_ _=>rfl)) (ab (ap (rf T) hr (ab (af 4) (ab (af 5) (ab (af 7) ai ag) ag) ag)) ai) jm) bo))))
 bh)
 (aj (ba PassesOwn.never rfl (jG (af 7)) (cn (i:=9) jd.nd rfl (!3))
 (aj (ba PassesOwn.never rfl (jG (aU g7 (af 5) (af 9) (λ_ _=>rfl))) (cn (i:=10) jd.nd rfl (!3))
 (aj (uS aT (i:=6) (pv 6) (af 10) (aU g7 (af 8) ak (λ_ _=>rfl)))))))))))
 (aj (aM (cK (ab p8 (ab (af 6) ai ag) bo))))))))
theorem kD (T:Tx K mg t):Gx P w K mg base 1 iV (iW K 3 dM):=kJ (fb:=iQ) 0 5 3 rfl rfl T.q_ g6 λ_ _ _ _ _ _ _ hr aT=>
 (ae (au (i:=3) g6.nd rfl (!3) (bz ai))
 (ae (ba PassesOwn.never rfl (dR (by rfl) T.range (af 0)) (cn (i:=4) g6.nd rfl (!3))
 (aj (cJ (DW.dt (yG (aX (qa aT) (af 4) (af 2) (bJ _)) (uB (aX (f7 aT) (cK (ab (af 4) (ab (af 2) ai ag) ag)) (af 1) (by rfl)))))
 (aj (dG (i:=3) (pv 3) (af 4)))
 bh)))
 (aj (aM (cL cp (by rfl) T.tuple PyProof.Rows.boot_tuple (ab (af 3) ai ag))))))
theorem vk (T:Tx K mg t):Gx P w K mg base 2 je (iW K 2 gL):=kJ (fb:=k9) 1 13 2 rfl rfl T.xi aO λ_ _ _ _ _ _ _ hr aT=>
 (ae (au (i:=2) aO.nd rfl (!3) (bK bM (by rfl) T.len PySem.boot_len (ab (aU g7 (af 0) ak (λ_ _=>rfl)) ai jm)))
 (ae (oQ (i:=3) aO.nd rfl (!3) rfl (F:=[]) (ix:=[]) (oK (aC je.s) (!5)) (dR (by rfl) T.range (af 2)) (λ_ _ _ _ _=>gh) (λ_ _ _ _ _=>(Ac aT (cK (ab (af 0) (ab ak ai bo) ag)) p7)) (by rfl))
 (ae (ba PassesOwn.never rfl (Ai (by rfl) T.enumerate (aU g7 (af 0) ak (λ_ _=>rfl))) (oC (is:=[4,5]) rfl (bu (bE (i:=4) aO.nd rfl (!3)) (bu (bE (i:=5) aO.nd rfl (!3)) g9)))
 (ae (au (i:=6) aO.nd rfl (!3) (bz ai))
 (ae (ba PassesOwn.never rfl (dR (by rfl) T.range (af 2)) (cn (i:=7) aO.nd rfl (!3))
 (ae (au (i:=8) aO.nd rfl (!3) (cL yN (by rfl) T.dict PyProof.Rows.boot_dict (ab (aU g7 (af 3) (af 7) (λ_ _=>rfl)) ai jm)))
 (ae (ba PassesOwn.never rfl (jG (ap (kD T) hr (ab (af 2) (ab (af 5) (ab (af 7) ai ag) ag) ag))) (cn (i:=9) aO.nd rfl (!3))
 (aj (C_ aT (i:=8) (pv 8) (aU g7 (af 3) (af 9) (λ_ _=>rfl)))))
 (ae (uS aT (i:=8) (pv 8) (cK (ab (af 7) (ab (aH (cD) (af 4) ak) ai) ag)) p7)
 (aj (dG (i:=6) (pv 6) (af 8)))))))
 (aj (nP (i:=3) (j:=6) aO.nd rfl (!3) (pv 6))))))
 (ae (au (i:=10) aO.nd rfl (!3) (yK (bz (ab gP ai bo)) (af 2)))
 (ae (au (i:=11) aO.nd rfl (!3) (bz ai))
 (ae (ba PassesOwn.never rfl (dR (by rfl) T.range (af 2)) (cn (i:=7) aO.nd rfl (!3))
 (aj (cJ (aX (mU aT) (cK (ab (af 7) (ab ak ai bo) ag)) (aU g7 (af 3) (af 1) (λ_ _=>rfl)) (by rfl))
 (aj (yL (i:=10) (pv 10) (af 7) (aU g7 (aU g7 (af 0) ak (λ_ _=>rfl)) (af 7) (λ_ _=>rfl))))
 bh)))
 (ae (ba PassesOwn.never rfl (Ai (by rfl) T.enumerate (aU g7 (af 0) ak (λ_ _=>rfl))) (oC (is:=[4,5]) rfl (bu (bE (i:=4) aO.nd rfl (!3)) (bu (bE (i:=5) aO.nd rfl (!3)) g9)))
 (ae (au (i:=12) aO.nd rfl (!3) (yK (bz (ab gP ai bo)) (af 2)))
 (ae (ba PassesOwn.never rfl (dR (by rfl) T.range (af 2)) (cn (i:=7) aO.nd rfl (!3))
 (aj (cJ (aX (mU aT) (cK (ab (af 7) (ab (aH (cD) (af 4) ak) ai) ag)) (aU g7 (af 3) (af 1) (λ_ _=>rfl)) (by rfl))
 (aj (yL (i:=12) (pv 12) (af 7) (ap (kD T) hr (ab (af 2) (ab (af 5) (ab (af 7) ai ag) ag) ag))))
 bh)))
 (aj (dG (i:=11) (pv 11) (cL cp (by rfl) T.tuple PyProof.Rows.boot_tuple (ab (af 12) ai ag)))))))
 (aj (aM (cK (ab (af 1) (ab (cL cp (by rfl) T.tuple PyProof.Rows.boot_tuple (ab (af 10) ai ag)) (ab (cL cp (by rfl) T.tuple PyProof.Rows.boot_tuple (ab (af 11) ai ag)) ai)) ag)))))))))))
theorem su (T:Tx K mg t):Gx P w K mg base 3 kq (iW K 3 ig):=kJ (fb:=nj) 2 8 3 rfl rfl T.vd dh λ_ _ _ _ _ _ _ hr aT=>
 (ae (ba PassesOwn.never rfl (mV (by rfl) T.enumerate (af 1)) (oC (is:=[3,4]) rfl (bu (bE (i:=3) dh.nd rfl (!3)) (bu (bE (i:=4) dh.nd rfl (!3)) g9)))
 (ae (au (i:=5) dh.nd rfl (!3) (bz ai))
 (ae (ba PassesOwn.never rfl (dR (by rfl) T.range (af 0)) (cn (i:=6) dh.nd rfl (!3))
 (ae (au (i:=7) dh.nd rfl (!3) (ap (vk T) hr (ab (af 4) (ab (af 6) ai ag) ag)))
 (ae (cJ (aX (iF aT) (af 7) (af 2) (by rfl))
 (aj (aM (af 3)))
 bh)
 (aj (dG (i:=5) (pv 5) (aU (Bm aT) (af 2) (af 7) (λ_ _=>rfl)))))))
 (aj (cJ (DW.dt (Hl (aX (qa aT) (af 5) (yK (z0 (af 5) jJ (kO ak)) (af 0)) (bJ _)) (CM (aX (f7 aT) (aU g7 (af 5) ak (λ_ _=>rfl)) (aU g7 (af 4) ak (λ_ _=>rfl)) (by rfl)))))
 (aj (aM (af 3)))
 bh)))))
 (aj (aM gP)))
theorem vm (T:Tx K mg t):Gx P w K mg base 5 gM (iW K 3 la):=kJ (fb:=k_) 4 5 3 rfl rfl T.xc kn λ_ _ _ _ _ _ _ hr aT=>
 (ae (au (i:=3) kn.nd rfl (!3) (ap (oU T) hr (ab (af 0) (ab (af 1) ai ag) ag)))
 (ae (cJ (CN (CL (bK (tW rfl) (by rfl) T.all Ar (ab (dH rfl (F:=["table"]) (ix:=[2]) (oK (aC gM.s) (!5)) (jG (af 3)) (λ_ _ _ _ _=>gh) (λ_ _ _ _ _=>(p_ (mU aT) (af 0) (af 1) (by rfl)))) ai))))
 (aj (aM p7))
 bh)
 (ae (au (i:=4) kn.nd rfl (Or.inr rfl) (aU (Bm aT) (af 2) (aU g7 (af 3) ak (λ_ _=>rfl)) (λ_ _=>rfl)))
 (aj (aM (IT (p_ (mU aT) (af 4) (aU g7 (af 1) ak (λ_ _=>rfl)) (by rfl)) (CO (bK (tW rfl) (by rfl) T.all Ar (ab (dH rfl (F:=["value","table"]) (ix:=[4,2]) (oK (aC gM.s) (!5)) (jG (af 3)) (λ_ _ _ _ _=>gh) (λ_ _ _ _ _=>(p_ (ji aT) (aU (Bm aT) (af 2) (af 0) (λ_ _=>rfl)) (af 1) (bJ _)))) ai)))))))))
theorem D1 (T:Tx K mg t):Gx P w K mg base 6 vb (iW K 5 pK):=kJ (fb:=u9) 5 7 5 rfl rfl T.GA qW λ_ _ _ _ _ _ _ hr aT=>
 (ae (ba PassesOwn.never rfl (mV (by rfl) T.enumerate (ap (oT T) hr (ab (af 1) (ab (af 2) (ab (af 3) ai ag) ag) ag))) (oC (is:=[5,6]) rfl (bu (bE (i:=5) qW.nd rfl (!3)) (bu (bE (i:=6) qW.nd rfl (!3)) g9)))
 (aj (cJ (CN (CL (ap (vm T) hr (ab (af 0) (ab (af 6) (ab (af 4) ai ag) ag) ag))))
 (aj (aM (af 5)))
 bh)))
 (aj (aM gP)))
theorem vn (T:Tx K mg t):Gx P w K mg base 1 ll (iW K 3 jc):=kJ (fb:=lb) 0 10 3 rfl rfl T.xh bH λ_ _ _ _ _ _ _ hr aT=>
 (ae (au (i:=3) bH.nd rfl (!3) (bz (ab (cK ai) ai JD)))
 (ae (ba PassesOwn.never rfl (dR (by rfl) T.range (af 1)) (cn (i:=4) bH.nd rfl (!3))
 (ae (au (i:=5) bH.nd rfl (!3) (bz ai))
 (ae (ba PassesOwn.never rfl (jG (af 3)) (cn (i:=6) bH.nd rfl (!3))
 (aj (ba PassesOwn.never rfl (jG (af 0)) (cn (i:=7) bH.nd rfl (!3))
 (aj (dG (i:=5) (pv 5) (aH (cD) (af 6) (cK (ab (af 7) ai ag))))))))
 (aj (nP (i:=3) (j:=5) bH.nd rfl (!3) (pv 5))))))
 (ae (au (i:=8) bH.nd rfl (!3) (bz ai))
 (ae (ba PassesOwn.never rfl (jG (af 2)) (cn (i:=9) bH.nd rfl (!3))
 (aj (ba PassesOwn.never rfl (jG (af 3)) (cn (i:=6) bH.nd rfl (!3))
 (aj (dG (i:=8) (pv 8) (cK (ab (af 9) (ab (af 6) ai ag) ag)))))))
 (aj (aM (af 8)))))))
theorem JT (T:Tx K mg t):Gx P w K mg base 7 DX (iW K 1 tX):=kJ (fb:=DV) 6 10 1 rfl rfl T.HA jw λ_ _ _ _ _ _ _ hr aT=>
 (ae (IV (ap (vg T) hr (ab (af 0) ai ag)) (oC (is:=[1,2,3,4]) rfl (bu (bE (i:=1) jw.nd rfl (!3)) (bu (bE (i:=2) jw.nd rfl (!3)) (bu (bE (i:=3) jw.nd rfl (!3)) (bu (bE (i:=4) jw.nd rfl (!3)) g9))))))
 (ae (au (i:=5) jw.nd rfl (!3) (ap (lu T) hr (ab (ap (aZ T) hr (ab (af 0) (ab ak ai bo) ag)) (ab ak ai bo))))
 (ae (au (i:=6) jw.nd rfl (!3) (ap (nk T) hr (ab (af 2) (ab (af 5) ai ag) ag)))
 (ae (au (i:=7) jw.nd rfl (!3) (ap (nk T) hr (ab (af 4) (ab (aH (bX) (af 5) ak) ai) ag)))
 (ae (au (i:=8) jw.nd rfl (!3) (ap (vi T) hr (ab (af 1) (ab (af 2) (ab (af 3) (ab (af 4) ai ag) ag) ag) ag)))
 (ae (au (i:=9) jw.nd rfl (!3) (ap (vi T) hr (ab (af 1) (ab (af 6) (ab (af 3) (ab (af 7) ai ag) ag) ag) ag)))
 (ae (cJ (aX (ji aT) (aU g7 (af 8) ak (λ_ _=>rfl)) p8 (bJ _))
 (aj (aM p7))
 bh)
 (ae (cJ (DW.dt (Hl (aX (qa aT) (aU g7 (af 9) ak (λ_ _=>rfl)) p8 (bJ _)) (CM (aX (lF) (ap (D1 T) hr (ab (af 1) (ab (af 6) (ab (af 3) (ab (af 7) (ab (aU g7 (af 8) ak (λ_ _=>rfl)) ai jm) ag) ag) ag) ag)) gP (bJ _)))))
 (aj (aM p7))
 bh)
 (ae (cJ (aX (lF) (ap (su T) hr (ab (af 1) (ab (ap (vn T) hr (ab (af 6) (ab (af 3) (ab (af 7) ai ag) ag) ag)) (ab (aU g7 (af 8) ak (λ_ _=>rfl)) ai jm)) ag)) gP (bJ _))
 (aj (aM p7))
 bh)
 (aj (aM (L0 (p_ (uA) (af 3) ak (bJ _)) (CO (p_ (ji aT) (aU g7 (ap (vi T) hr (ab (af 1) (ab (af 2) (ab (aH (cD) (af 3) ak) (ab (af 4) ai ag)) ag) ag)) ak (λ_ _=>rfl)) p8 (bJ _)))))))))))))))
end
theorem all_mk {l:OpenLaw}{w:World}{K:Frag}{h:Heap}{mg:Str->Option Value}{fa:Addr}{t:Nat}(X:K.In h)(G:h.Ns mainGlobals mg)(hfa:mg "law" =some (.ref fa))
  (xm:FX K "many_rows" (top 5))
  (D2:FX K "row_at" (top 6))
  (xn:FX K "many_runs" (top 7))
  (D3:FX K "run_at" (top 8))
  (zg:FX K "all_runs" (top 9))
  (BG:FX K "came_to" (top 11))
  (J_:FX K "view" (top 12))
  (pj:FX K "came_to_heard" (top 13))
  (po:FX K "heard_earlier" (top 14))
  (rg:FX K "views_of_all" (top 16))
  (zh:FX K "views_in" (top 17))
  (rh:FX K "runs_by_view" (top 18))
  (rj:FX K "joined_parts" (top 19))
  (xo:FX K "ways_from" (top 20))
  (lx:FX K "steps_by_new_views" (top 21))
  (D4:FX K "row_to" (top 22))
  (Ka:FX K "pact" (top 24))
  (pr:FX K "common_values" (top 25))
  (sv:FX K "values_kept" (top 26))
  (sw:FX K "parting_row" (top 27))
  (pz:FX K "first_without" (top 28))
  (GC:FX K "fails" (top 29))
  (xp:FX K "serves_in" (top 30))
  (rk:FX K "_law_cell_at" (top 32))
  (zi:FX K "_law_mix" (top 33))
  (vo:FX K "_law_pairs" (top 35))
  (rl:FX K "_law_weather" (top 36))
  (xq:FX K "_law_road" (top 37))
  (sC:FX K "_law_values" (top 38))
  (sD:FX K "_law_starts" (top 39))
  (xr:FX K "_law_case" (top 40))
  (xt:FX K "_law_runs" (top 41))
  (rq:FX K "_law_senders" (top 42))
  (xu:FX K "_law_view" (top 43))
  (vp:FX K "_law_fails" (top 44))
  (xw:FX K "_law_some" (top 45))
  (Mw:FX K "law" (top 46))
  (Mx:nsIn K mainGlobals "all" =some none)
  (Kb:nsIn K mainGlobals "dict" =some none)
  (xx:nsIn K mainGlobals "enumerate" =some none)
  (Mz:nsIn K mainGlobals "len" =some none)
  (Kc:nsIn K mainGlobals "list" =some none)
  (GD:nsIn K mainGlobals "range" =some none)
  (zj:nsIn K mainGlobals "reversed" =some none)
  (MA:nsIn K mainGlobals "set" =some none)
  (D5:nsIn K mainGlobals "sorted" =some none)
  (GG:nsIn K mainGlobals "tuple" =some none)
  (xy:nsIn K mainGlobals "MOST_RUNS" =some (some (.int 3000 t)))
  :∃fd:FuncData,(∀(s:Shared) (v:Value),BindsTo s fd ⟨[v],[]⟩ [("_law_script",v)])/\∀base:Heap,K.In base->base.Ns mainGlobals mg->mG l.prog w K mg base zN 7 fa fd ["_law_script"] (iW K 1 tX):=by
 have T:Tx K mg t:=⟨FX.ex X G xm (λ_ _ _ _ _ _=>Aq λ_ _=>rfl),FX.ex X G D2 (λ_ _ _ _ _ _=>yk λ_ _ _=>rfl),FX.ex X G xn (λ_ _ _ _ _ _=>yk λ_ _ _=>rfl),FX.ex X G D3 (λ_ _ _ _ _ _=>Oo λ_ _ _ _=>rfl),FX.ex X G zg (λ_ _ _ _ _ _=>yk λ_ _ _=>rfl),FX.ex X G BG (λ_ _ _ _ _ _=>yk λ_ _ _=>rfl),FX.ex X G J_ (λ_ _ _ _ _ _=>Aq λ_ _=>rfl),FX.ex X G pj (λ_ _ _ _ _ _=>yk λ_ _ _=>rfl),FX.ex X G po (λ_ _ _ _ _ _=>Aq λ_ _=>rfl),FX.ex X G rg (λ_ _ _ _ _ _=>Aq λ_ _=>rfl),FX.ex X G zh (λ_ _ _ _ _ _=>Aq λ_ _=>rfl),FX.ex X G rh (λ_ _ _ _ _ _=>JP λ_=>rfl),FX.ex X G rj (λ_ _ _ _ _ _=>JP λ_=>rfl),FX.ex X G xo (λ_ _ _ _ _ _=>yk λ_ _ _=>rfl),FX.ex X G lx (λ_ _ _ _ _ _=>yk λ_ _ _=>rfl),FX.ex X G D4 (λ_ _ _ _ _ _=>Aq λ_ _=>rfl),FX.ex X G Ka (λ_ _ _ _ _ _=>Oo λ_ _ _ _=>rfl),FX.ex X G pr (λ_ _ _ _ _ _=>Aq λ_ _=>rfl),FX.ex X G sv (λ_ _ _ _ _ _=>Aq λ_ _=>rfl),FX.ex X G sw (λ_ _ _ _ _ _=>yk λ_ _ _=>rfl),FX.ex X G pz (λ_ _ _ _ _ _=>yk λ_ _ _=>rfl),FX.ex X G GC (λ_ _ _ _ _ _=>Qq λ_ _ _ _ _=>rfl),FX.ex X G xp (λ_ _ _ _ _ _=>yk λ_ _ _=>rfl),FX.ex X G rk (λ_ _ _ _ _ _=>Aq λ_ _=>rfl),FX.ex X G zi (λ_ _ _ _ _ _=>Aq λ_ _=>rfl),FX.ex X G vo (λ_ _ _ _ _ _=>JP λ_=>rfl),FX.ex X G rl (λ_ _ _ _ _ _=>Aq λ_ _=>rfl),FX.ex X G xq (λ_ _ _ _ _ _=>yk λ_ _ _=>rfl),FX.ex X G sC (λ_ _ _ _ _ _=>JP λ_=>rfl),FX.ex X G sD (λ_ _ _ _ _ _=>yk λ_ _ _=>rfl),FX.ex X G xr (λ_ _ _ _ _ _=>JP λ_=>rfl),FX.ex X G xt (λ_ _ _ _ _ _=>yk λ_ _ _=>rfl),FX.ex X G rq (λ_ _ _ _ _ _=>yk λ_ _ _=>rfl),FX.ex X G xu (λ_ _ _ _ _ _=>Aq λ_ _=>rfl),FX.ex X G vp (λ_ _ _ _ _ _=>yk λ_ _ _=>rfl),FX.ex X G xw (λ_ _ _ _ _ _=>Aq λ_ _=>rfl),FX.ex X G Mw (λ_ _ _ _ _ _=>JP λ_=>rfl),PySem.W.mg_none_of X G Mx,PySem.W.mg_none_of X G Kb,PySem.W.mg_none_of X G xx,PySem.W.mg_none_of X G Mz,PySem.W.mg_none_of X G Kc,PySem.W.mg_none_of X G GD,PySem.W.mg_none_of X G zj,PySem.W.mg_none_of X G MA,PySem.W.mg_none_of X G D5,PySem.W.mg_none_of X G GG,mg_of X G xy⟩
 obtain⟨f,d,x⟩:=T.HA
 cases hfa.symm.trans x.m
 refine⟨d,?_,λbase _ _=> ?_⟩
 ·obtain⟨_,_,kV,dc,pm,an,cd,ct,_,rfl,_⟩:=x.F.ex
  exact λs v=> .of_eq rfl
 ·obtain⟨f,d,y,g⟩:=JT (P:=l.prog) (w:=w) (base:=base) T
  obtain⟨rfl,rfl⟩:=x.uniq y
  exact g
theorem walk (MB:∀ns:List Int,ns.length<=63->∃o,tX [.list (!6)]=some (.ok (o,.bool true))){l:OpenLaw}{q:Program}{loose:List Str}{XP:(Str->Option Value)->Heap->Prop}{YP:World->Heap->Prop}{d:DefRec}{K:Params->Frag}(hn:l.most=some 63)(hdf:d.params.defaults=[])
  (hY:∀(w:World) (h:Heap),YP w h->(K w.params).In h)
  (F:∀(w:World) (mg:Str->Option Value) (fa:Addr) (h:Heap),(K w.params).In h->h.Ns mainGlobals mg->mg d.name=some (.ref fa)->
   ∃fd:FuncData,(∀(s:Shared) (u:Value),BindsTo s fd ⟨[u],[]⟩ [("_law_script",u)])/\∀base:Heap,(K w.params).In base->base.Ns mainGlobals mg->mG l.prog w (K w.params) mg base zN 7 fa fd ["_law_script"] (iW (K w.params) 1 tX)) :
  PySem.W.WalkO q loose XP YP l.row.toRowW d [] (λf vs=>PySem.call f vs) :=
 L2.Fi (n:=63) (k:=7) (x:="_law_script") (CX:=λ_=>zN) (sp:=λw=>iW (K w.params) 1 tX) hn (!8) hdf ⟨rfl,by decide,by decide⟩ hY F (λ_ _ a ns hl _ hS=>C2 hS (MB ns hl)) λ_ _ _ _ _ z=>z
end K43
namespace K43
open PySem Y
def aI {a b:Prop}(x:a)(y:b):=And.intro x y
def rn:=aI @cz.eq_1<|aI @cG.eq_1<|aI @aw.eq_1<|aI @hJ.eq_1<|aI @bq.eq_1<|aI @cc.eq_1<|aI @NR.eq_1<|aI @aB.eq_1<|aI @Fp.eq_1<|aI @sf.eq_1<|aI @bD.eq_1<|aI @iD.eq_1<|aI @v4.eq_1<|aI @CF.eq_1<|aI @bg.eq_1<|aI @B_.eq_1<|aI @eV.eq_1<|aI @eC.eq_1<|aI @dk.eq_1<|aI @LW.eq_1<|aI @IN.eq_1<|aI @Fl.eq_1<|aI @LX.eq_1<|aI @eArgs.eq_1<|aI @eArgs.eq_2<|aI @fV.eq_1<|aI @cF.eq_1<|aI @jA.eq_1<|aI @az.eq_1<|aI @NQ.eq_1<|aI @vZ.eq_1<|aI @vZ.eq_2<|aI @vZ.eq_3<|aI @vZ.eq_4<|aI @vZ.eq_5<|aI @vZ.eq_6<|aI @vZ.eq_7<|aI @CC.eq_1<|aI @tE.eq_1<|aI @sQ.eq_1<|aI @CB.eq_1<|aI @vX.eq_1<|aI @cW.eq_1<|aI @mI.eq_1<|aI @mI.eq_2<|aI @bV.eq_1<|aI @bV.eq_2<|aI @bV.eq_3<|aI @jg.eq_1<|aI @jg.eq_2<|aI @jg.eq_3<|aI @jg.eq_4<|aI @lZ.eq_1<|aI @lZ.eq_2<|aI @lZ.eq_3<|aI @lZ.eq_4<|aI @cy.eq_1<|aI @jB.eq_1<|aI @fi.eq_1<|aI @itemsOf.eq_1<|aI @itemsOf.eq_2<|aI @itemsOf.eq_3<|aI @hG.eq_1<|aI @aG<|aI @fx<|aI @F9<|aI @F_<|aI @Ga<|aI @tQ<|aI @wN<|aI @DB<|aI @Ge<|aI @Du<|aI @Dv<|aI @Dw<|aI @By<|aI @Dx<|aI @Dy<|aI @Dz<|aI @Gb<|aI @Gc<|aI @Gd<|aI @yY<|aI @i6.eq_1<|aI @i6.eq_2<|aI @DC<|aI @mZ<|aI @JC<|aI @F5<|aI @F6<|aI @F7<|aI @F8<|aI @mY<|aI @JB<|aI @F4<|aI @F3<|aI @pI<|aI @cS<|aI @List.map_cons.{0,0}<|aI @List.map_nil.{0,0}<|aI @List.cons_append.{0}<|aI @List.nil_append.{0}<|aI @List.getElem?_cons_zero.{0}<|aI @List.getElem?_cons_succ.{0}<|aI @List.length_cons.{0}<|aI @List.length_nil.{0}<|aI @List.length_map.{0,0}<|aI @List.length_range<|aI @List.set_cons_zero.{0}<|aI @List.set_cons_succ.{0}<|aI @List.replicate_succ.{0}<|aI @List.replicate_zero.{0}<|aI @if_true.{0}<|aI @if_false.{0}<|aI @Bool.false_eq_true<|aI @Bool.not_true<|aI @Bool.not_false<|aI @decide_true<|aI @decide_false<|aI @ite_true.{0}<|aI @ite_false.{0}<|aI @Option.map_some.{0,0}<|aI @Option.join_some.{0}<|aI @beq_self_eq_true.{0}<|aI @eq_self.{0}<|aI @Bool.or_false<|aI @Bool.false_or<|aI @Bool.or_true<|@Bool.true_or
noncomputable abbrev tL (x:List Zy):Option (Bool×Zy):=some (true,.list x)
noncomputable abbrev tI (x:Int):Option (Bool×Zy):=some (true,.int x)
noncomputable abbrev tN (x:Nat):Option (Bool×Zy):=some (true,.int (x:Int))
noncomputable abbrev tT (x:List Zy):Option (Bool×Zy):=some (true,.tuple x)
abbrev tD (x:List (Zy×Zy)):Option (Bool×Zy):=some (true,.dict x)
noncomputable abbrev tB (x:Bool):Option (Bool×Zy):=some (true,.bool x)
abbrev tA (x:Zy):Option (Bool×Zy):=some (true,x)
abbrev fL (x:List Zy):Option (Bool×Zy):=some (false,.list x)
abbrev fI (x:Int):Option (Bool×Zy):=some (false,.int x)
abbrev fN (x:Nat):Option (Bool×Zy):=some (false,.int (x:Int))
abbrev fT (x:List Zy):Option (Bool×Zy):=some (false,.tuple x)
noncomputable abbrev fD (x:List (Zy×Zy)):Option (Bool×Zy):=some (false,.dict x)
noncomputable abbrev fA (x:Zy):Option (Bool×Zy):=some (false,x)
noncomputable def nat (o:Nat):Zy:=.int (o:Int)
abbrev MC:=(Nat->List Nat)×(Nat->List Nat)
noncomputable def EE (v1 v2:Nat->Int):List MC->List Nat->Prop
 | [],H=>∀k∈H,v1 k=v2 k
 | (a,b) :: r,H=>(∀k∈H,a k=b k)/\EE v1 v2 r (H++H.flatMap a)
noncomputable def SS (v1 v2:Nat->Int):List MC->Nat->Prop
 | [],k=>v1 k=v2 k
 | (a,b) :: r,k=>SS v1 v2 r k/\a k=b k/\∀j∈a k,SS v1 v2 r j
theorem vq (v1 v2:Nat->Int):∀(r:List MC) (H:List Nat),EE v1 v2 r H↔∀k∈H,SS v1 v2 r k
 | [],H=>Iff.rfl
 | (a,b) :: r,H=>by
  simp only[EE,SS]
  rw[vq v1 v2 r]
  constructor
  ·rintro⟨h1,h2⟩ k hk
   exact⟨h2 k (KY _ hk),h1 k hk,λj hj=>h2 j (Kk _ (U4.mpr ⟨k,hk,hj⟩))⟩
  ·intro h
   refine⟨λk hk=>(h k hk).2.1,λj hj=> ?_⟩
   rcases K1.mp hj with hj | hj
   ·exact(h j hj).1
   ·obtain⟨k,hk,hj⟩:=U4.mp hj
    exact(h k hk).2.2 j hj
theorem Ke (v1 v2:Nat->Int)(r:List MC)(k:Nat):EE v1 v2 r [k]↔SS v1 v2 r k:=by rw[vq];simp
theorem Kf (h:∀k,k∈H↔k∈H'):EE v1 v2 r H↔EE v1 v2 r H':=by
 rw[vq,vq];exact⟨λz k hk=>z k ((h k).mpr hk),λz k hk=>z k ((h k).mp hk)⟩
def bI (h:Nat)(W:List Zy)(k:Nat):List Nat:=(!2).filter λo=> !((o:Int)==(k:Int)) && !cP W (.tuple [.int (o:Int),.int (k:Int)])
theorem GH (h k:Nat)(W:List Zy)(hh:h<=4)(hW:lays 60 W=true):lR [.int (h:Int),.tuple W,.int (k:Int)]=ah (true,.tuple ((bI h W k).map nat)):=by
 have hp:∀o:Nat,lay 60 (.tuple [.int (o:Int),.int (k:Int)])=true:=λ_=>rfl
 have hc:=uZ (ft:=ja) (fe:=k7) (cap:=[fN k,fT W]) ((!2).map λ(i:Nat)=>PyData.int (i:Int))
  (λd=>match d with | .int o=> !(o==(k:Int)) && !cP W (.tuple [.int o,.int (k:Int)]) | _=>false) (λd=>(Kd.fr [],d)) (λd hd=>by
   obtain⟨o,_,rfl⟩:=Ku.mp hd
   have e:=kc (hp o) hW
   have n2:ar [PyData.int (o:Int),.int (k:Int)]=true:=rfl
   cases hb:(((o:Nat):Int)==(k:Int)) with
   | true=>simp![ja,hb,Bool.false_and]
   | false=>simp![ja,hb,e,aq n2,Jz]) (λd hd _=>by
   obtain⟨o,_,rfl⟩:=Ku.mp hd
   simp![k7])
 have e1:((((!2).map λ(i:Nat)=>PyData.int (i:Int)).filter λd=>match d with | .int o=> !(o==(k:Int)) && !cP W (.tuple [.int o,.int (k:Int)]) | _=>false))=(bI h W k).map nat:=by
  rw[List.filter_map];rfl
 rw[e1] at hc
 have k1:=eN ((bI h W k).map nat) id
 simp only[id] at k1
 have m1:(((bI h W k).map nat).map λd=>(Kd.fr [],d)).map Prod.snd=(bI h W k).map nat:=by rw[X6];exact List.map_id _
 have hl:h<=100000:=by omega
 have nW:ar ((bI h W k).map nat)=true:=a9 _ (λ_=>rfl) _
 generalize (bI h W k).map nat=L at*
 simp![lR,n5,bv,Ky,hc,k1,m1,hl,cq nW,aq nW]
theorem rz (h k:Nat)(W:List Zy)(hh:h<=4)(hW:lays 60 W=true):dM [.int (h:Int),.tuple W,.int (k:Int)]=ah (true,.tuple ((bI h W k).map nat)):=by
 have hp:∀o:Nat,lay 60 (.tuple [.int (o:Int),.int (k:Int)])=true:=λ_=>rfl
 obtain⟨Γ',h1,c4,h2⟩:=bA (g:=cy 4) (b:=cN) (ds:=(!2).map λ(i:Nat)=>PyData.int (i:Int)) (Γ:=[fN h,fT W,fN k,tL [],none])
  (λi Γ=>∃c4:Option (Bool×Zy),Γ=[fN h,fT W,fN k,tL ((bI i W k).map nat),c4]) ⟨none,rfl⟩ (by
  rintro i d Γ hd ⟨c4,rfl⟩
  obtain⟨rfl,hi⟩:=ce hd
  refine⟨_,[fN h,fT W,fN k,tL ((bI (i+1) W k).map nat),tN i],rfl,.inl ?_,_,rfl⟩
  have e:=kc (hp i) hW
  have n2:ar [PyData.int (i:Int),.int (k:Int)]=true:=rfl
  have hsz:(bI i W k).length < sizeLine:=XX (Kw (Xw _ _) (by rw[X9];omega:_<=4)) (!8)
  have es:bI (i+1) W k=bI i W k++(if (!((i:Int)==(k:Int)) && !cP W (.tuple [.int (i:Int),.int (k:Int)]))=true then [i] else []):=by
   unfold bI;rw[J3,List.filter_append,Y0,JY]
  rw[es]
  cases hb:(((i:Nat):Int)==(k:Int)) with
  | true=>simp![cN,hb,Bool.false_and,Xj]
  | false=>
   cases ha:cP W (.tuple [.int (i:Int),.int (k:Int)]) with
   | true=>simp![cN,hb,e,ha,aq n2,Jz,Xj]
   | false=>simp![cN,hb,e,ha,aq n2,Jz,hsz,X4,nat])
 rw[K6,X9] at h2
 have nW:ar ((bI h W k).map nat)=true:=a9 _ (λ_=>rfl) _
 simp![dM,iQ,Ky,h1,h2,cq nW,aq nW]
theorem rA (H:List Nat)(k:Nat):cP (H.map nat) (.int (k:Int))=decide (k∈H):=by
 have e:H.map nat=(H.map λ(o:Nat)=>(o:Int)).map PyData.int:=by rw[X6];rfl
 rw[e,f9]
 congr 1
 rw[Ku,eq_iff_iff]
 exact⟨λ⟨o,ho,h⟩=>(show o=k by omega) ▸ ho,λh=>⟨k,h,rfl⟩⟩
def b9 (h:Nat)(W:List Zy)(H:List Nat)(k:Nat):Zy:=if k∈H then .tuple ((bI h W k).map nat) else .none
theorem kr (h:Nat)(W:List Zy)(H:List Nat)(k:Nat):bp (b9 h W H k)=true:=by
 unfold b9;split
 ·exact a9 _ (λ_=>rfl) _
 ·rfl
theorem D6 (h:Nat)(W:List Zy)(H:List Nat)(hh:h<=4)(hW:lays 60 W=true) :
  eO [.int (h:Int),.tuple W,.list (H.map nat)]=ah (true,.tuple ((!2).map (b9 h W H))):=by
 have hc:=jO (fe:=du) (cap:=[fL (H.map nat),fN h,fT W]) ((!2).map λ(i:Nat)=>PyData.int (i:Int))
  (λd=>match d with | .int k=>(.fr [],b9 h W H k.toNat) | _=>(.fr [],.none)) (λd hd=>by
   obtain⟨k,_,rfl⟩:=Ku.mp hd
   have e:=wO (x:=.int (k:Int)) (ys:=H.map nat) rfl (iB _ (λ_=>rfl) _)
   rw[rA] at e
   have c:=GH h k W hh hW
   have nW:ar ((bI h W k).map nat)=true:=a9 _ (λ_=>rfl) _
   by_cases hb:k∈H
   ·simp![du,e,hb,c,aq nW,Ky,b9]
   ·simp![du,e,hb,Ky,b9])
 rw[X6] at hc
 have e1:(((!2).map λ(i:Nat)=>PyData.int (i:Int)).map λd=>match d with | .int k=>(Kd.fr [],b9 h W H k.toNat) | _=>(Kd.fr [],PyData.none))=(!2).map λk=>(Kd.fr [],b9 h W H k):=by
  rw[X6];refine UU λk _=> ?_;simp only[Function.comp,Ky]
 rw[X6] at e1
 rw[e1] at hc
 have k1:=eN (!2) (b9 h W H)
 have m1:((!2).map λk=>(Kd.fr [],b9 h W H k)).map Prod.snd=(!2).map (b9 h W H):=by rw[X6];rfl
 have hl:h<=100000:=by omega
 have nW:ar ((!2).map (b9 h W H))=true:=a9 _ (kr h W H) _
 simp![eO,gR,bv,Ky,hc,k1,m1,hl,cq nW,aq nW]
def jT (h:Nat)(W:List Zy)(H:List Nat)(i:Nat):List Nat:=H++((List.range i).filter λk=>decide (k∈H)).flatMap (bI h W)
def fS (h:Nat)(W:List Zy)(H:List Nat):List Nat:=[0,1,2,3].filter λk=>decide (k∈jT h W H h)
theorem zk (E:List Nat):wt (E.map nat)=([0,1,2,3].filter λk=>decide (k∈E)).map nat:=by
 unfold wt
 show List.map nat _=_
 congr 1
 refine List.filter_congr λk _=> ?_
 rw[List.any_map,Yx,Y8,Z8]
 constructor
 ·rintro⟨y,hy,hk⟩
  have hk2:((y:Nat):Int)=(k:Int):=by simpa [L6,nat] using hk
  have:y=k:=by omega
  exact this ▸ hy
 ·intro h;exact⟨k,h,by simp[L6,nat]⟩
theorem kt (ho:o∈bI h W k):o < h:=X1.mp (Ux.mp ho).1
theorem zl (h:Nat)(W:List Zy)(H:List Nat)(hh:h<=4)(hH:∀k∈H,k < h)(hl:H.length<=4) :
  eP [.list (H.map nat),.tuple ((!2).map (b9 h W H))]=ah (true,.list ((fS h W H).map nat)):=by
 have MD:∀k,(bI h W k).length<=4:=λk=>Kw (Xw _ _) (by rw[X9];exact hh)
 have Oq:∀i,i<=h->(jT h W H i).length<=4+4*i:=by
  intro i
  induction i with
  | zero=>intro _;simp[jT];omega
  | succ i ih=>
   intro hi
   have:=ih (!1)
   have s:=MD i
   unfold jT at this⊢
   rw[J3,List.filter_append,List.flatMap_append,←X5,K2]
   by_cases hm:i∈H
   ·simp only[Y0,hm,decide_true,if_true,JY,List.flatMap_cons,List.flatMap_nil,Xj];omega
   ·simp only[Y0,hm,decide_false,XW,if_false,JY,List.flatMap_nil,Y6];omega
 obtain⟨Γ',h1,c3,h2⟩:=bA (g:=cy 3) (b:=dv) (ds:=(!2).map (b9 h W H)) (Γ:=[fL (H.map nat),fT ((!2).map (b9 h W H)),tL (H.map nat),none])
  (λi Γ=>∃c3:Option (Bool×Zy),Γ=[fL (H.map nat),fT ((!2).map (b9 h W H)),tL ((jT h W H i).map nat),c3]) ⟨none,by simp[jT]⟩ (by
  rintro i d Γ hd ⟨c3,rfl⟩
  have hi:i < h:=by have:=(Xz.mp hd).1;simpa using this
  rw[KZ,Y1 hi] at hd
  have hd':b9 h W H i=d:=Option.some.inj hd
  subst hd'
  refine⟨_,[fL (H.map nat),fT ((!2).map (b9 h W H)),tL ((jT h W H (i+1)).map nat),tA (b9 h W H i)],by rw[bt (kr h W H i)];rfl,.inl ?_,_,rfl⟩
  have f1:=Oq i (!1)
  have s1:=MD i
  have nW:ar ((bI h W i).map nat)=true:=a9 _ (λ_=>rfl) _
  have hsz:(jT h W H i).length+(bI h W i).length<=sizeLine:=Kw (show _<=100 by omega) (!8)
  have es:jT h W H (i+1)=jT h W H i++(if i∈H then bI h W i else []):=by
   unfold jT
   rw[J3,List.filter_append,List.flatMap_append,←X5]
   by_cases hm:i∈H
   ·simp only[Y0,hm,decide_true,if_true,JY,List.flatMap_cons,List.flatMap_nil,Xj]
   ·simp only[Y0,hm,decide_false,XW,if_false,JY,List.flatMap_nil]
  rw[es]
  by_cases hm:i∈H
  ·simp![dv,i6,mI,bV,b9,hm,aq nW,yD,nW,hsz,X4,and_self]
  ·simp![dv,i6,mI,bV,b9,hm,Xj])
 rw[K6,X9] at h2
 have hlt:∀k∈jT h W H h,k < 4:=λk hk=>by
  unfold jT at hk
  rcases K1.mp hk with hk | hk
  ·have:=hH k hk;omega
  ·obtain⟨j,_,hj⟩:=U4.mp hk
   have:=kt hj;omega
 have hin:((jT h W H h).map nat).all in4=true:=by
  rw[List.all_map,Uz]
  intro k hk
  have:=hlt k hk
  simp only[Function.comp,nat,in4,X7,Z8]
  omega
 have hs:kP (.list ((jT h W H h).map nat))=some (.list ((fS h W H).map nat)):=by
  simp only[kP,hin,if_true,zk,fS]
 have n1:ar (H.map nat)=true:=a9 _ (λ_=>rfl) _
 have n2:ar ((!2).map (b9 h W H))=true:=a9 _ (kr h W H) _
 simp![eP,gS,i6,mI,bV,yZ n1,aq n2,h1,h2,hs]
noncomputable def hs (h:Nat):List (List Zy)->List Nat->List Nat
 | [],H=>H
 | W :: R,H=>hs h R (fS h W H)
noncomputable def rows (h:Nat):List (List Zy)->List Nat->List Zy
 | [],_=> []
 | W :: R,H=> .tuple ((!2).map (b9 h W H)) :: rows h R (fS h W H)
theorem As (h:Nat)(W:List Zy):∀(R:List (List Zy)) (H:List Nat),hs h (R++[W]) H=fS h W (hs h R H)
 | [],H=>rfl
 | V :: R,H=>by rw[Uj,hs,hs,As h W R]
theorem t0 (h:Nat)(W:List Zy):∀(R:List (List Zy)) (H:List Nat),rows h (R++[W]) H=rows h R H++[.tuple ((!2).map (b9 h W (hs h R H)))]
 | [],H=>rfl
 | V :: R,H=>by rw[Uj,rows,rows,t0 h W R,hs,Uj]
theorem rB (hH:∀k∈H,k < h):∀k∈fS h W H,k < h:=λk hk=>by
 have hk':k∈jT h W H h:=by simpa using (Ux.mp hk).2
 unfold jT at hk'
 rcases K1.mp hk' with z | z
 ·exact hH k z
 ·obtain⟨j,_,hj⟩:=U4.mp z;exact kt hj
theorem BH (h:Nat)(W:List Zy)(H:List Nat):(fS h W H).length<=4:=Xw _ _
theorem HB :∀{R:List (List Zy)} {H:List Nat},(∀k∈H,k < h)->H.length<=4->(∀k∈hs h R H,k < h)/\(hs h R H).length<=4
 | [],H,h1,h2=>⟨h1,h2⟩
 | W :: R,H,h1,h2=>HB (R:=R) (H:=fS h W H) (rB h1) (BH h W H)
theorem ny :∀{R:List (List Zy)} {H:List Nat},ar (rows h R H)=true
 | [],H=>rfl
 | W :: R,H=>by rw[rows,ar,ny,cS,a9 _ (kr h W H)];rfl
theorem nA :∀{R:List (List Zy)} {H:List Nat},(rows h R H).length=R.length
 | [],H=>rfl
 | W :: R,H=>by rw[rows,Kj,nA,Kj]
noncomputable def bT (vs:List Int)(H:List Nat)(k:Nat):Zy:=if k∈H then .int (vs.getD k 0) else .none
theorem nB (vs:List Int)(H:List Nat)(k:Nat):bp (bT vs H k)=true:=by unfold bT;split <;> rfl
def bf (vs:List Int)(Ws:List (List Zy))(hand:Nat):Zy :=
 .tuple [.int (hand:Int),.tuple ((List.range vs.length).map (bT vs (hs vs.length Ws.reverse [hand]))),.tuple (rows vs.length Ws.reverse [hand]).reverse]
noncomputable def jx (vs:List Int)(Ws:List (List Zy)):Zy:=.tuple [.tuple (vs.map PyData.int),.tuple (Ws.map PyData.tuple)]
theorem vz {vs:List Int}{Ws:List (List Zy)}(hn:∀W∈Ws,ar W=true):ar [PyData.tuple (vs.map PyData.int),.tuple (Ws.map PyData.tuple)]=true:=by
 have:ar (Ws.map PyData.tuple)=true:=aF.mpr λx hx=>by
  obtain⟨W,hW,rfl⟩:=Ku.mp hx;exact hn W hW
 simp only[ar,cS,bG,this,XQ]
theorem GJ (vs:List Int)(Ws:List (List Zy))(hand:Nat)(hh:vs.length<=4)(hd:hand < vs.length)(hr:Ws.length<=5)(hn:∀W∈Ws,ar W=true)(hW:∀W∈Ws,lays 60 W=true) :
  qP [jx vs Ws,.int (hand:Int)]=ah (true,bf vs Ws hand):=by
 have nr:=vz (vs:=vs) hn
 have nw:ar (Ws.map PyData.tuple)=true:=by simp only[ar,cS,bG,Jz,Bool.and_true] at nr;exact nr
 generalize hh':vs.length=h at*
 have a0:jZ [PyData.tuple (vs.map PyData.int),.tuple (Ws.map PyData.tuple)] 0=some (.tuple (vs.map PyData.int)):=rfl
 have a1:jZ [PyData.tuple (vs.map PyData.int),.tuple (Ws.map PyData.tuple)] 1=some (.tuple (Ws.map PyData.tuple)):=rfl
 have hml:(vs.map PyData.int).length=h:=by rw[K6];exact hh'
 obtain⟨Γ',h1,c6,c7,h2⟩:=bA (g:=cy 6) (b:=qO) (ds:=Ws.reverse.map PyData.tuple) (Γ:=[fA (jx vs Ws),fN hand,tT (vs.map PyData.int),tN h,tL [.int (hand:Int)],tL [],none,none,none])
  (λi Γ=>∃c6 c7:Option (Bool×Zy),Γ=[fA (jx vs Ws),fN hand,tT (vs.map PyData.int),tN h,tL ((hs h (Ws.reverse.take i) [hand]).map nat),tL (rows h (Ws.reverse.take i) [hand]),c6,c7,none]) ⟨none,none,rfl⟩ (by
  rintro i d Γ hd2 ⟨c6,c7,rfl⟩
  have hi:i < Ws.reverse.length:=by have:=(Xz.mp hd2).1;simpa using this
  rw[KZ,K5 hi] at hd2
  have hd':PyData.tuple Ws.reverse[i]=d:=Option.some.inj hd2
  subst hd'
  have hm:Ws.reverse[i]∈Ws:=Uy.mp (U1 hi)
  have et:Ws.reverse.take (i+1)=Ws.reverse.take i++[Ws.reverse[i]]:=by rw[Yu,K5 hi];rfl
  obtain⟨o1,o2⟩:=HB (R:=Ws.reverse.take i) (H:=[hand]) (h:=h) (λk hk=>by rw[K7.mp hk];exact hd) (by simp)
  have n1:=hn _ hm
  have c1:=D6 h Ws.reverse[i] (hs h (Ws.reverse.take i) [hand]) hh (hW _ hm)
  have c2:=zl h Ws.reverse[i] (hs h (Ws.reverse.take i) [hand]) hh o1 o2
  have nR:ar ((!2).map (b9 h Ws.reverse[i] (hs h (Ws.reverse.take i) [hand])))=true:=a9 _ (kr _ _ _) _
  have hsz:(rows h (Ws.reverse.take i) [hand]).length < sizeLine:=XX (show _<=5 by rw[nA];simp at hi⊢;omega) (!8)
  refine⟨_,[fA (jx vs Ws),fN hand,tT (vs.map PyData.int),tN h,tL ((hs h (Ws.reverse.take (i+1)) [hand]).map nat),tL (rows h (Ws.reverse.take (i+1)) [hand]),tT Ws.reverse[i],tT ((!2).map (b9 h Ws.reverse[i] (hs h (Ws.reverse.take i) [hand]))),none],by rw[aq n1];rfl,.inl ?_,_,_,rfl⟩
  rw[et,As,t0]
  generalize Ws.reverse[i]=W at*
  simp![qO,aq n1,c1,aq nR,hsz,c2])
 rw[K6,J6] at h2
 simp only[jx] at h1 h2
 have hc:=jO (fe:=ng) (cap:=[fL ((hs h Ws.reverse [hand]).map nat),fT (vs.map PyData.int)]) ((!2).map λ(i:Nat)=>PyData.int (i:Int))
  (λd=>match d with | .int k=>(.fr [],bT vs (hs h Ws.reverse [hand]) k.toNat) | _=>(.fr [],.none)) (λd hd=>by
   obtain⟨k,hk,rfl⟩:=Ku.mp hd
   have e:=wO (x:=.int (k:Int)) (ys:=(hs h Ws.reverse [hand]).map nat) rfl (iB _ (λ_=>rfl) _)
   rw[rA] at e
   have hk':k < vs.length:=by rw[hh'];exact X1.mp hk
   have ea:jZ (vs.map PyData.int) (k:Int)=some (.int (vs.getD k 0)):=bN (by rw[KZ,KW,K5 hk'];rfl)
   by_cases hb:k∈hs h Ws.reverse [hand]
   ·simp![ng,e,hb,ea,aq (bG vs),Ky,bT]
   ·simp![ng,e,hb,Ky,bT])
 have e1:(((!2).map λ(i:Nat)=>PyData.int (i:Int)).map λd=>match d with | .int k=>(Kd.fr [],bT vs (hs h Ws.reverse [hand]) k.toNat) | _=>(Kd.fr [],PyData.none))=(!2).map λk=>(Kd.fr [],bT vs (hs h Ws.reverse [hand]) k):=by
  rw[X6];refine UU λk _=> ?_;simp only[Function.comp,Ky]
 rw[e1] at hc
 have k1:=eN (!2) (bT vs (hs h Ws.reverse [hand]))
 have m1:((!2).map λk=>(Kd.fr [],bT vs (hs h Ws.reverse [hand]) k)).map Prod.snd=(!2).map (bT vs (hs h Ws.reverse [hand])):=by rw[X6];rfl
 have hl:h<=100000:=by omega
 have n1:ar ((!2).map (bT vs (hs h Ws.reverse [hand])))=true:=a9 _ (nB _ _) _
 have n2:ar (rows h Ws.reverse [hand])=true:=ny
 have n3:ar (rows h Ws.reverse [hand]).reverse=true:=aF.mpr λx hx=>aF.mp n2 x (Uy.mp hx)
 have n4:ar [PyData.int (hand:Int),.tuple ((!2).map (bT vs (hs h Ws.reverse [hand]))),.tuple (rows h Ws.reverse [hand]).reverse]=true:=by simp only[ar,mY,cS,n1,n3,XQ]
 simp![qP,y_,bv,CH,Ft,jx,a0,a1,aq nr,aq (bG vs),aq nw,hml,hh',←List.map_reverse,h1,h2,Ky,hc,k1,m1,hl,cq n1,qy n2,aq n1,aq n3,aq n4,bf]
mutual
noncomputable def pl:Zy->Bool
 | .none=>true
 | .int _=>true
 | .tuple xs=>EY xs
 | _=>false
noncomputable def EY:List Zy->Bool
 | []=>true
 | d :: ds=>pl d && EY ds
end
mutual
theorem D7:∀(x y:Zy),pl x=true->pl y=true->PyData.eqv x y=true->x=y
 | .none,.none,_,_,_=>rfl
 | .int i,.int j,_,_,h=>by simp[PyData.eqv] at h;rw[h]
 | .tuple xs,.tuple ys,hx,hy,h=>by
  rw[pl] at hx hy
  simp only[PyData.eqv] at h
  rw[Au xs ys hx hy h]
 | .none,.int _,_,_,h=>by simp[PyData.eqv] at h
 | .none,.tuple _,_,_,h=>by simp[PyData.eqv] at h
 | .int _,.none,_,_,h=>by simp[PyData.eqv] at h
 | .int _,.tuple _,_,_,h=>by simp[PyData.eqv] at h
 | .tuple _,.none,_,_,h=>by simp[PyData.eqv] at h
 | .tuple _,.int _,_,_,h=>by simp[PyData.eqv] at h
 | .bool _,_,hx,_,_=>by simp[pl] at hx
 | .str _,_,hx,_,_=>by simp[pl] at hx
 | .list _,_,hx,_,_=>by simp[pl] at hx
 | .dict _,_,hx,_,_=>by simp[pl] at hx
 | .none,.bool _,_,hy,_=>by simp[pl] at hy
 | .none,.str _,_,hy,_=>by simp[pl] at hy
 | .none,.list _,_,hy,_=>by simp[pl] at hy
 | .none,.dict _,_,hy,_=>by simp[pl] at hy
 | .int _,.bool _,_,hy,_=>by simp[pl] at hy
 | .int _,.str _,_,hy,_=>by simp[pl] at hy
 | .int _,.list _,_,hy,_=>by simp[pl] at hy
 | .int _,.dict _,_,hy,_=>by simp[pl] at hy
 | .tuple _,.bool _,_,hy,_=>by simp[pl] at hy
 | .tuple _,.str _,_,hy,_=>by simp[pl] at hy
 | .tuple _,.list _,_,hy,_=>by simp[pl] at hy
 | .tuple _,.dict _,_,hy,_=>by simp[pl] at hy
theorem Au:∀(xs ys:List Zy),EY xs=true->EY ys=true->PyData.eqvAll xs ys=true->xs=ys
 | [],[],_,_,_=>rfl
 | x :: xs,y :: ys,hx,hy,h=>by
  rw[EY,X7] at hx hy
  simp only[PyData.eqvAll,X7] at h
  rw[D7 x y hx.1 hy.1 h.1,Au xs ys hx.2 hy.2 h.2]
 | [],_ :: _,_,_,h=>by simp[PyData.eqvAll] at h
 | _ :: _,[],_,_,h=>by simp[PyData.eqvAll] at h
end
theorem lU:∀{xs:List Zy},EY xs=true↔∀x∈xs,pl x=true
 | []=>by simp[EY]
 | x :: xs=>by rw[EY,X7,lU (xs:=xs)];simp
theorem Kg (h:Nat)(W:List Zy)(H:List Nat)(k:Nat):pl (b9 h W H k)=true:=by
 unfold b9;split
 ·rw[pl];exact lU.mpr λx hx=>by
   obtain⟨o,_,rfl⟩:=Ku.mp hx;rfl
 ·rfl
theorem Aw :∀{R:List (List Zy)} {H:List Nat},∀x∈rows h R H,pl x=true
 | [],H,x,hx=>by cases hx
 | W :: R,H,x,hx=>by
  rw[rows] at hx
  rcases Kx.mp hx with rfl | hx
  ·rw[pl];exact lU.mpr λy hy=>by
    obtain⟨k,_,rfl⟩:=Ku.mp hy;exact Kg h W H k
  ·exact Aw x hx
theorem ip (vs:List Int)(Ws:List (List Zy))(hand:Nat):pl (bf vs Ws hand)=true:=by
 unfold bf
 rw[pl]
 refine lU.mpr λx hx=> ?_
 simp only[Kx,List.not_mem_nil,or_false] at hx
 rcases hx with rfl | rfl | rfl
 ·rfl
 ·rw[pl];exact lU.mpr λy hy=>by
   obtain⟨k,_,rfl⟩:=Ku.mp hy;unfold bT;split <;> rfl
 ·rw[pl];exact lU.mpr λy hy=>Aw y (Uy.mp hy)
def zz (h:Nat)(R1 R2:List (List Zy)):List MC:=(R1.zip R2).map λx=>(bI h x.1,bI h x.2)
theorem GK {l l':List Nat}(h:l.map nat=l'.map nat):l=l':=by
 induction l generalizing l' with
 | nil=>cases l' with
  | nil=>rfl
  | cons=>simp at h
 | cons a l ih=>cases l' with
  | nil=>simp at h
  | cons b l'=>
   simp only[Kq,List.cons.injEq] at h
   have:a=b:=by have:=h.1;simp only[nat,PyData.int.injEq] at this;omega
   rw[this,ih h.2]
theorem vA (hH:∀k∈H,k < h):(!2).map (b9 h W H)=(!2).map (b9 h V H)↔∀k∈H,bI h W k=bI h V k:=by
 rw[List.map_inj_left]
 constructor
 ·intro z k hk
  have:=z k (X1.mpr (hH k hk))
  unfold b9 at this;rw[Z4 hk,Z4 hk] at this
  exact GK (PyData.tuple.inj this)
 ·intro z k _
  unfold b9;split
  ·rename_i hk;rw[z k hk]
  ·rfl
theorem nC (hh:h<=4)(hH:∀k∈H,k < h)(k:Nat):k∈fS h W H↔k∈H++H.flatMap (bI h W):=by
 have e:∀k,k∈jT h W H h↔k∈H++H.flatMap (bI h W):=λk=>by
  unfold jT
  simp only[K1,U4,Ux,X1,Z8]
  exact⟨λz=>z.imp id λ⟨j,⟨_,hj⟩,r⟩=>⟨j,hj,r⟩,λz=>z.imp id λ⟨j,hj,r⟩=>⟨j,⟨hH j hj,hj⟩,r⟩⟩
 rw[←e k]
 unfold fS
 rw[Ux,Z8]
 refine⟨λz=>z.2,λz=>⟨?_,z⟩⟩
 have hk:k < h:=by
  rcases K1.mp ((e k).mp z) with y | y
  ·exact hH k y
  ·obtain⟨j,_,hj⟩:=U4.mp y;exact kt hj
 simp only[Kx,List.not_mem_nil,or_false];omega
theorem Ax (z:∀k∈H,bI h W k=bI h V k):fS h W H=fS h V H:=by
 unfold fS
 refine List.filter_congr λk _=> ?_
 congr 1
 unfold jT
 simp only[K1,U4,Ux,Z8,eq_iff_iff]
 exact⟨λy=>y.imp id λ⟨j,hj,r⟩=>⟨j,hj,by rw[←z j hj.2];exact r⟩,λy=>y.imp id λ⟨j,hj,r⟩=>⟨j,hj,by rw[z j hj.2];exact r⟩⟩
theorem xA (hh:h<=4):∀{R1 R2:List (List Zy)} {H:List Nat},R1.length=R2.length->(∀k∈H,k < h)->
  ((rows h R1 H=rows h R2 H/\(!2).map (bT v1 (hs h R1 H))=(!2).map (bT v2 (hs h R2 H)))↔EE (λk=>v1.getD k 0) (λk=>v2.getD k 0) (zz h R1 R2) H)
 | [],[],H,_,hH=>by
  simp only[rows,hs,zz,List.zip_nil_left,J0,EE,true_and]
  rw[List.map_inj_left]
  constructor
  ·intro z k hk
   have:=z k (X1.mpr (hH k hk))
   unfold bT at this;rw[Z4 hk,Z4 hk] at this
   exact PyData.int.inj this
  ·intro z k _
   unfold bT;split
   ·rename_i hk;rw[z k hk]
   ·rfl
 | W :: R1,V :: R2,H,hl,hH=>by
  have ih:=xA (v1:=v1) (v2:=v2) hh (R1:=R1) (R2:=R2) (H:=fS h W H) (by simpa using hl) (rB hH)
  simp only[zz,List.zip_cons_cons,Kq,EE]
  rw[←Kf (nC (W:=W) hh hH)]
  simp only[zz] at ih
  rw[←ih,←vA hH]
  simp only[rows,hs,List.cons.injEq,PyData.tuple.injEq]
  constructor
  ·rintro⟨⟨a,b⟩,c⟩
   have e:=Ax ((vA hH).mp a)
   rw[←e] at b c
   exact⟨a,b,c⟩
  ·rintro⟨a,b,c⟩
   have e:=Ax ((vA hH).mp a)
   rw[←e]
   exact⟨⟨a,b⟩,c⟩
 | [],_ :: _,_,hl,_=>by simp at hl
 | _ :: _,[],_,hl,_=>by simp at hl
mutual
theorem vB:∀(x:Zy),pl x=true->PyData.eqv x x=true
 | .none,_=>by simp[PyData.eqv]
 | .int _,_=>by simp[PyData.eqv]
 | .tuple xs,h=>by rw[pl] at h;simp only[PyData.eqv];exact xB xs h
 | .bool _,h=>by simp[pl] at h
 | .str _,h=>by simp[pl] at h
 | .list _,h=>by simp[pl] at h
 | .dict _,h=>by simp[pl] at h
theorem xB:∀(xs:List Zy),EY xs=true->PyData.eqvAll xs xs=true
 | [],_=>by simp[PyData.eqvAll]
 | x :: xs,h=>by
  rw[EY,X7] at h
  simp only[PyData.eqvAll,vB x h.1,xB xs h.2,XQ]
end
theorem gE (hx:pl x=true)(hy:pl y=true):PyData.eqv x y=true↔x=y :=
 ⟨D7 x y hx hy,λh=>by rw[←h];exact vB x hx⟩
theorem D8 (hh:v1.length<=4)(hv:v1.length=v2.length)(hl:W1.length=W2.length)(hk:k < v1.length) :
  bf v1 W1 k=bf v2 W2 k↔SS (λk=>v1.getD k 0) (λk=>v2.getD k 0) (zz v1.length W1.reverse W2.reverse) k:=by
 rw[←Ke,←xA hh (by simp[hl]) (λj hj=>by rw[K7.mp hj];exact hk)]
 unfold bf
 rw[←hv]
 simp only[PyData.tuple.injEq,List.cons.injEq,true_and,and_true,List.reverse_inj]
 exact and_comm
def mf (v1 v2:List Int)(W1 W2:List (List Zy))(k:Nat):Bool:=PyData.eqv (bf v1 W1 k) (bf v2 W2 k)
theorem same_iff (hh:v1.length<=4)(hv:v1.length=v2.length)(hl:W1.length=W2.length)(hk:k < v1.length) :
  mf v1 v2 W1 W2 k=true↔SS (λk=>v1.getD k 0) (λk=>v2.getD k 0) (zz v1.length W1.reverse W2.reverse) k:=by
 unfold mf
 rw[gE (ip _ _ _) (ip _ _ _),D8 hh hv hl hk]
theorem BJ {v1 v2:List Int}{W1 W2:List (List Zy)}{k i:Nat}(hh:v1.length<=4)(hv:v1.length=v2.length)(hl:W1.length=W2.length)(hk:k < v1.length)(hi:i < W1.length) :
  mf v1 v2 (W1.take (i+1)) (W2.take (i+1)) k=((mf v1 v2 (W1.take i) (W2.take i) k && decide (bI v1.length W1[i] k=bI v1.length (W2[i]'(hl ▸ hi)) k)) && (bI v1.length W1[i] k).all λj=>mf v1 v2 (W1.take i) (W2.take i) j):=by
 have hi2:i < W2.length:=hl ▸ hi
 have e1:W1.take (i+1)=W1.take i++[W1[i]]:=by rw[Yu,K5 hi];rfl
 have e2:W2.take (i+1)=W2.take i++[W2[i]]:=by rw[Yu,K5 hi2];rfl
 have hl':(W1.take i).length=(W2.take i).length:=by simp[hl]
 have ez:zz v1.length (W1.take (i+1)).reverse (W2.take (i+1)).reverse=(bI v1.length W1[i],bI v1.length W2[i]) :: zz v1.length (W1.take i).reverse (W2.take i).reverse:=by
  rw[e1,e2,List.reverse_append,List.reverse_append];rfl
 rw[Yx,same_iff hh hv (by simp[hl]) hk,ez]
 simp only[SS,X7,Z8,Uz]
 rw[same_iff hh hv hl' hk]
 constructor
 ·rintro⟨a,b,c⟩
  exact⟨⟨a,b⟩,λj hj=>(same_iff hh hv hl' (kt hj)).mpr (c j hj)⟩
 ·rintro⟨⟨a,b⟩,c⟩
  exact⟨a,b,λj hj=>(same_iff hh hv hl' (kt hj)).mp (c j hj)⟩
theorem t3 {v1 v2:List Int}{W1 W2:List (List Zy)}{k:Nat}(hh:v1.length<=4)(hv:v1.length=v2.length)(hl:W1.length=W2.length)(hk:k < v1.length)(i:Nat) :
  ∀n:Nat,i+n<=W1.length->mf v1 v2 (W1.take (i+n)) (W2.take (i+n)) k=true->mf v1 v2 (W1.take i) (W2.take i) k=true
 | 0,_,h=>h
 | n+1,hn,h=>by
  refine t3 hh hv hl hk i n (!1) ?_
  rw[←Nat.add_assoc,BJ hh hv hl hk (!1)] at h
  simp only[X7] at h
  exact h.1.1
theorem D9 (hh:v1.length<=4)(hv:v1.length=v2.length)(hl:W1.length=W2.length)(hk:k < v1.length)(hi:i<=W1.length)(h:mf v1 v2 W1 W2 k=true) :
  mf v1 v2 (W1.take i) (W2.take i) k=true:=by
 refine t3 hh hv hl hk i (W1.length - i) (!1) ?_
 rw[show i+(W1.length - i)=W1.length by omega,J6,hl,J6];exact h
theorem jU (vs:List Int)(Ws:List (List Zy))(hand:Nat):bp (bf vs Ws hand)=true:=by
 have n1:ar ((List.range vs.length).map (bT vs (hs vs.length Ws.reverse [hand])))=true:=a9 _ (nB _ _) _
 have n2:ar (rows vs.length Ws.reverse [hand])=true:=ny
 have n3:ar (rows vs.length Ws.reverse [hand]).reverse=true:=aF.mpr λx hx=>aF.mp n2 x (Uy.mp hx)
 unfold bf
 rw[cS]
 simp only[ar,mY,cS,n1,n3,XQ]
structure sE (h:Nat)(b:Nat)(vs:List Int)(Ws:List (List Zy)):Prop where
 hv:vs.length=h
 hr:Ws.length<=5
 hp:∀W∈Ws,(∀x∈W,∃i j:Int,x= .tuple [.int i,.int j])/\W.length<=b
theorem sE.n (w:sE h b vs Ws):∀W∈Ws,ar W=true:=λW hW=>aF.mpr λx hx=>by
 obtain⟨i,j,rfl⟩:=(w.hp W hW).1 x hx;rfl
theorem sE.l (w:sE h b vs Ws):∀W∈Ws,lays 60 W=true:=λW hW=>cV.mpr λx hx=>by
 obtain⟨i,j,rfl⟩:=(w.hp W hW).1 x hx;rfl
theorem sE.view (w:sE h b vs Ws)(hh:h<=4)(hk:k < h):qP [jx vs Ws,.int (k:Int)]=ah (true,bf vs Ws k) :=
 GJ vs Ws k (w.hv ▸ hh) (w.hv ▸ hk) w.hr w.n w.l
theorem nE (w:sE h b vs Ws):bp (jx vs Ws)=true:=vz w.n
theorem GL (h:ar xs=true):IP (.tuple xs) lo hi=some (.tuple (cutD xs lo hi)):=Z4 h
theorem rC (h:ar xs=true):IP (.list xs) lo hi=some (.list (cutD xs lo hi)):=Z4 h
theorem t4 {xs:List Zy}{r:Nat}(h:r<=xs.length):cutD xs none (some (r:Int))=xs.take r:=by
 have:¬ ((r:Int) < 0):=by omega
 simp only[cutD,CG,Y7,this,if_false,Ky,J4 h,Nat.sub_zero]
theorem BK {xs:List Zy}{r:Nat}(h:r<=xs.length):cutD xs (some (r:Int)) none=xs.drop r:=by
 have:¬ ((r:Int) < 0):=by omega
 simp only[cutD,CG,this,if_false,Ky,J4 h]
 exact XJ (by simp)
theorem GN (w:sE h b vs Ws):ar (Ws.map PyData.tuple)=true:=aF.mpr λx hx=>by
 obtain⟨W,hW,rfl⟩:=Ku.mp hx;exact w.n W hW
theorem Pl (vs:List Int)(Ws:List (List Zy)):cb (jx vs Ws) (.int 0)=some (.tuple (vs.map PyData.int)):=rfl
theorem Qr (vs:List Int)(Ws:List (List Zy)):cb (jx vs Ws) (.int 1)=some (.tuple (Ws.map PyData.tuple)):=rfl
noncomputable def sp (p:Nat×Nat):Zy:=.tuple [.int (p.1:Int),.int (p.2:Int)]
def enc (l:List (Nat×Nat)):List (Zy×Zy):=l.map λp=>(sp p,.bool true)
noncomputable def ins (l:List (Nat×Nat))(p:Nat×Nat):List (Nat×Nat):=if p∈l then l else l++[p]
theorem Kh (p q:Nat×Nat):PyData.eqv (sp p) (sp q)=decide (p=q):=by
 obtain⟨a,b⟩:=p
 obtain⟨c,d⟩:=q
 have e:PyData.eqv (sp (a,b)) (sp (c,d))=((a:Int)==(c:Int) && ((b:Int)==(d:Int) && true)):=by simp[sp,PyData.eqv,PyData.eqvAll]
 rw[e,Yx,Z8,Prod.mk.injEq]
 simp only[Bool.and_true,X7,Z9]
 omega
theorem xC (l:List (Nat×Nat))(p:Nat×Nat):eU (enc l) (sp p)=decide (p∈l):=by
 unfold eU enc
 rw[List.any_map]
 induction l with
 | nil=>rfl
 | cons q l ih=>
  rw[J5,ih]
  simp only[Function.comp,Kh]
  by_cases h:q=p
  ·simp[h]
  ·have h':¬ p=q:=λz=>h z.symm
   simp[h,h']
theorem xD (l:List (Nat×Nat))(p:Nat×Nat):putK (enc l) (sp p) (.bool true)=enc (ins l p):=by
 unfold putK ins
 rw[xC]
 by_cases h:p∈l
 ·rw[Z4 (Z3 h),Z4 h]
  unfold enc
  rw[X6]
  refine UU λq _=> ?_
  simp only[Function.comp]
  split <;> rfl
 ·rw[Z5 (by rw[Z2 h];exact K3),Z5 h]
  unfold enc
  rw[X4];rfl
theorem t5:∀(m l:List (Nat×Nat)),l7 (enc l) (enc m)=enc (m.foldl ins l)
 | [],l=>rfl
 | p :: m,l=>by
  show l7 (putK (enc l) (sp p) (.bool true)) (enc m)=_
  rw[xD,t5 m];rfl
theorem vC :q∈ins l p↔q∈l∨q=p:=by
 unfold ins
 split
 ·rename_i h
  exact⟨.inl,λz=>z.elim id λe=>e ▸ h⟩
 ·simp
theorem t6:∀{m l:List (Nat×Nat)} {q:Nat×Nat},q∈m.foldl ins l↔q∈l∨q∈m
 | [],l,q=>by simp
 | p :: m,l,q=>by
  rw[UY,t6 (m:=m),vC,Kx]
  exact⟨λz=>z.elim (λy=>y.elim .inl λe=> .inr (.inl e)) λy=> .inr (.inr y),λz=>z.elim (λy=> .inl (.inl y)) λy=>y.elim (λe=> .inl (.inr e)) .inr⟩
theorem t7 (h:l.Nodup):(ins l p).Nodup:=by
 unfold ins
 split
 ·exact h
 ·rename_i hp
  refine XZ.mpr ⟨h,KQ.mpr ⟨by simp,X2⟩,λa ha b hb e=>hp ?_⟩
  rw[←K7.mp hb,←e];exact ha
theorem oV:∀{m l:List (Nat×Nat)},l.Nodup->(m.foldl ins l).Nodup
 | [],l,h=>h
 | p :: m,l,h=>oV (m:=m) (t7 h)
theorem Ay (l:List (Nat×Nat))(p:Nat×Nat):(ins l p).length<=l.length+1:=by
 unfold ins;split
 ·omega
 ·rw[K2,X8];omega
theorem oh:∀(m l:List (Nat×Nat)),(m.foldl ins l).length<=l.length+m.length
 | [],l=>K0 _
 | p :: m,l=>by
  have h1:=oh m (ins l p)
  have h2:=Ay l p
  rw[UY,Kj];omega
theorem D_ (l:List (Nat×Nat))(p:Nat×Nat):ins l p≠[]:=λz=>by
 have:p∈ins l p:=vC.mpr (.inr rfl)
 rw[z] at this;cases this
theorem rD:∀{m l:List (Nat×Nat)},l≠[]->m.foldl ins l≠[]
 | [],l,h=>h
 | p :: m,l,h=>rD (m:=m) (D_ l p)
noncomputable def GO:List (Nat×Nat):=(List.range 4).flatMap λa=>(List.range 6).map λb=>(a,b)
theorem BL:(GO.map λp=>fQ (sp p))=[-8458139203682520985,-1950498447580522560,7204814214171964562,-4734289103435588629,1773351652666409796,
  -3119722376306286570,-5164621852614943976,8389048192121911274,-3550055125485641917,-1440771752368011620,
  -6333845781340707986,173794974761290439,4685526799349444076,6794810172467074373,1901736143494378007,
  8409376899596376432,3516302870623680066,-8422800446983873125,2248468952609198383,8756109708711196808,
  3863035679738500442,5972319052856130739,1079245023883434373,7586885779985432798]:=by decide+kernel
theorem zm:(GO.map λp=>fQ (sp p)).Nodup:=by rw[BL];decide+kernel
theorem Ea {α:Type}(f:α->Int):∀{l:List α},(l.map f).Nodup->∀{p q:α},p∈l->q∈l->f p=f q->p=q
 | x :: l,h,p,q,hp,hq,e=>by
  rw[Kq,KQ] at h
  rcases Kx.mp hp with z1 | z1
  ·rcases Kx.mp hq with z2 | z2
   ·rw[z1,z2]
   ·refine absurd ?_ h.1
    rw[←z1,e];exact YX z2
  ·rcases Kx.mp hq with z2 | z2
   ·refine absurd ?_ h.1
    rw[←z2,←e];exact YX z1
   ·exact Ea f h.2 z1 z2 e
theorem xE {α:Type}(f:α->Int):∀{l:List α},l.Nodup->(∀p∈l,∀q∈l,f p=f q->p=q)->(l.map f).Nodup
 | [],_,_=>X2
 | x :: l,h,hf=>by
  rw[KQ] at h
  rw[Kq,KQ]
  refine⟨λz=> ?_,xE f h.2 λp hp q hq=>hf p (K8 _ hp) q (K8 _ hq)⟩
  obtain⟨y,hy,e⟩:=Ku.mp z
  exact h.1 (hf y (K8 _ hy) x K9 e ▸ hy)
theorem xF (h:p.1 < 4/\p.2 < 6):p∈GO:=by
 unfold GO
 exact U4.mpr ⟨p.1,X1.mpr h.1,Ku.mpr ⟨p.2,X1.mpr h.2,rfl⟩⟩
theorem Eb (f:Zy->Int)(l:List (Nat×Nat)):((enc l).map λp=>f p.1)=l.map λp=>f (sp p):=by unfold enc;rw[X6];rfl
theorem zn (h:l.Nodup)(hb:∀p∈l,p.1 < 4/\p.2 < 6):((enc l).map λp=>fQ p.1).Nodup:=by
 rw[Eb fQ]
 exact xE _ h λp hp q hq e=>Ea _ zm (xF (hb p hp)) (xF (hb q hq)) e
theorem nF (l:List (Nat×Nat)):dY (enc l)=true:=by
 unfold dY enc
 rw[X6];exact a9 _ (λ_=>rfl) l
theorem GP (p:Nat×Nat):dz (sp p)=true:=rfl
theorem ly (l:List (Nat×Nat)):((enc l).all λp=>dz p.1)=true:=by
 unfold enc;rw[List.all_map,Uz];intro p _;rfl
theorem t8 (h:l≠[]):(enc l).isEmpty=false:=by
 cases l with
 | nil=>exact absurd rfl h
 | cons p l=>rfl
theorem vD (l:List (Nat×Nat)):(enc l).length=l.length:=K6 _
theorem xG (h0:l≠[])(hn:l.Nodup)(hb:∀p∈l,p.1 < 4/\p.2 < 6):pC [.dict (enc l)]=some (.dict (enc l)):=Z4 ⟨t8 h0,ly l,nF l,zn hn hb⟩
theorem Ec (h0:l≠[])(hz:l.length+m.length<=sizeLine):v8 8 (.fr [3]) (enc l) (.dict (enc m))=some (enc (m.foldl ins l)):=by
 simp only[v8]
 rw[Z4 ⟨rfl,.inl ⟨t8 h0,ly l,ly m⟩,nF l,nF m,by rw[vD,vD];exact hz⟩,t5]
theorem xH (l:List (Nat×Nat))(p:Nat×Nat):l4 (sp p) (.dict (enc l))=some (.bool (decide (p∈l))):=by
 simp only[l4]
 rw[Z4 (show cH (enc l) (sp p)=true by unfold cH f6;rw[ly,GP];rfl),xC]
def pA (h:Nat)(W:List Zy)(f:Nat->List (Nat×Nat))(k:Nat)(S:List Nat):List (Nat×Nat):=S.foldl (λacc s=>(f s).foldl ins acc) (f k)
noncomputable def Lk (h:Nat)(Ws:List (List Zy)):Nat->Nat->List (Nat×Nat)
 | 0,k=> [(k,0)]
 | i+1,k=>ins (pA h (Ws.getD i []) (Lk h Ws i) k (bI h (Ws.getD i []) k)) (k,i+1)
theorem xI {h:Nat}{W:List Zy}{f:Nat->List (Nat×Nat)}{q:Nat×Nat}:∀{S:List Nat} {l:List (Nat×Nat)},q∈S.foldl (λacc s=>(f s).foldl ins acc) l↔q∈l∨∃s∈S,q∈f s
 | [],l=>by simp
 | s :: S,l=>by
  rw[UY,xI (h:=h) (W:=W) (S:=S),t6]
  simp only[Kx,exists_eq_or_imp]
  exact or_assoc
theorem rE :q∈Lk h Ws (i+1) k↔(q∈Lk h Ws i k∨∃s∈bI h (Ws.getD i []) k,q∈Lk h Ws i s)∨q=(k,i+1):=by
 rw[Lk,vC,pA,xI (h:=h) (W:=Ws.getD i [])]
theorem Az (h0:f k≠[])(hn:(f k).Nodup)(hl:∀s,(f s).length<=c):∀{S:List Nat},pA h W f k S≠[]/\(pA h W f k S).Nodup/\(pA h W f k S).length<=c+S.length*c:=by
 intro S
 have:∀(S:List Nat) (l:List (Nat×Nat)),l≠[]->l.Nodup->S.foldl (λacc s=>(f s).foldl ins acc) l≠[]/\(S.foldl (λacc s=>(f s).foldl ins acc) l).Nodup/\(S.foldl (λacc s=>(f s).foldl ins acc) l).length<=l.length+S.length*c:=by
  intro S
  induction S with
  | nil=>intro l a b;exact⟨a,b,by simp⟩
  | cons s S ih=>
   intro l a b
   obtain⟨x,y,z⟩:=ih _ (rD (m:=f s) a) (oV (m:=f s) b)
   have:=oh (f s) l
   have:=hl s
   refine⟨x,y,?_⟩
   rw[UY,Kj,Yj];omega
 obtain⟨x,y,z⟩:=this S (f k) h0 hn
 have:=hl k
 exact⟨x,y,by unfold pA;omega⟩
theorem xJ (h:Nat)(W:List Zy)(k:Nat)(hh:h<=4):(bI h W k).length<=4:=Kw (Xw _ _) (by rw[X9];exact hh)
theorem HC (hh:h<=4):∀(i k:Nat),Lk h Ws i k≠[]/\(Lk h Ws i k).Nodup/\(Lk h Ws i k).length<=6^i
 | 0,k=>⟨by simp[Lk],by simp[Lk],by simp[Lk]⟩
 | i+1,k=>by
  have ih:=HC (Ws:=Ws) hh i
  obtain⟨x,y,z⟩:=Az (h:=h) (W:=Ws.getD i []) (f:=Lk h Ws i) (k:=k) (c:=6^i) (ih k).1 (ih k).2.1 (λs=>(ih s).2.2) (S:=bI h (Ws.getD i []) k)
  refine⟨D_ _ _,t7 y,?_⟩
  have h1:=Ay (pA h (Ws.getD i []) (Lk h Ws i) k (bI h (Ws.getD i []) k)) (k,i+1)
  have h2:=xJ h (Ws.getD i []) k hh
  have h3:(bI h (Ws.getD i []) k).length*6^i<=4*6^i:=Nat.mul_le_mul_right _ h2
  have h4:0 < 6^i:=Nat.pow_pos (!8)
  rw[Lk,J2];omega
theorem Ed :∀(i k:Nat),k < h->∀q∈Lk h Ws i k,q.1 < h/\q.2<=i
 | 0,k,hk,q,hq=>by
  rw[Lk,K7] at hq;subst hq;exact⟨hk,K0 _⟩
 | i+1,k,hk,q,hq=>by
  rcases rE.mp hq with(hq | ⟨s,hs,hq⟩) | hq
  ·have:=Ed i k hk q hq;exact⟨this.1,Nat.le_succ_of_le this.2⟩
  ·have:=Ed i s (kt hs) q hq;exact⟨this.1,Nat.le_succ_of_le this.2⟩
  ·subst hq;exact⟨hk,K0 _⟩
theorem AA (hh:h<=4):∀(i:Nat),i<=Ws.length->∀(H:List Nat),(∀k∈H,k < h)->∀(o j:Nat),(∃k∈H,(o,j)∈Lk h Ws i k)↔j<=i/\o∈hs h ((Ws.take i).drop j).reverse H
 | 0,_,H,hH,o,j=>by
  simp only[Lk,K7,Prod.mk.injEq,Jx,List.drop_nil,List.reverse_nil,hs]
  constructor
  ·rintro⟨k,hk,rfl,rfl⟩;exact⟨K0 _,hk⟩
  ·rintro⟨hj,ho⟩;exact⟨o,ho,rfl,by omega⟩
 | i+1,hi,H,hH,o,j=>by
  have hi':i < Ws.length:=by omega
  have eW:Ws.getD i []=Ws[i]:=by rw[KW,K5 hi'];rfl
  have ih:=AA (Ws:=Ws) hh i (!1) (fS h Ws[i] H) (rB hH) o j
  have key:(∃k∈H,(o,j)∈Lk h Ws (i+1) k)↔(∃k∈fS h Ws[i] H,(o,j)∈Lk h Ws i k)∨(j=i+1/\o∈H):=by
   constructor
   ·rintro⟨k,hk,hq⟩
    rcases rE.mp hq with(hq | ⟨s,hs',hq⟩) | hq
    ·exact .inl ⟨k,(nC hh hH k).mpr (KY _ hk),hq⟩
    ·rw[eW] at hs'
     exact .inl ⟨s,(nC hh hH s).mpr (Kk _ (U4.mpr ⟨k,hk,hs'⟩)),hq⟩
    ·obtain⟨rfl,rfl⟩:=Prod.mk.inj hq
     exact .inr ⟨rfl,hk⟩
   ·rintro(⟨k,hk,hq⟩ | ⟨rfl,ho⟩)
    ·rcases K1.mp ((nC hh hH k).mp hk) with hk | hk
     ·exact⟨k,hk,rE.mpr (.inl (.inl hq))⟩
     ·obtain⟨k',hk',hs'⟩:=U4.mp hk
      exact⟨k',hk',rE.mpr (.inl (.inr ⟨k,by rw[eW];exact hs',hq⟩))⟩
    ·exact⟨o,ho,rE.mpr (.inr rfl)⟩
  rw[key,ih]
  have et:Ws.take (i+1)=Ws.take i++[Ws[i]]:=by rw[Yu,K5 hi'];rfl
  have el:(Ws.take i).length=i:=by rw[X0];omega
  by_cases hj:j<=i
  ·have ed:((Ws.take (i+1)).drop j).reverse=Ws[i] :: ((Ws.take i).drop j).reverse:=by
    rw[et,List.drop_append_of_le_length (by rw[el];exact hj),List.reverse_append];rfl
   rw[ed,hs]
   exact⟨λz=>z.elim (λy=>⟨by omega,y.2⟩) λy=>by omega,λz=> .inl ⟨hj,z.2⟩⟩
  ·have ed:((Ws.take (i+1)).drop (i+1)).reverse=[]:=by
    have z:(Ws.take (i+1)).drop (i+1)=[]:=JX (by rw[X0];omega)
    rw[z];rfl
   constructor
   ·rintro(y | ⟨rfl,ho⟩)
    ·omega
    ·refine⟨K0 _,?_⟩
     rw[ed];exact ho
   ·rintro⟨hj',ho⟩
    have:j=i+1:=by omega
    subst this
    rw[ed] at ho
    exact .inr ⟨rfl,ho⟩
theorem AB (hh:h<=4)(hd:hand < h)(o j:Nat):(o,j)∈Lk h Ws Ws.length hand↔j<=Ws.length/\o∈hs h (Ws.drop j).reverse [hand]:=by
 have:=AA (Ws:=Ws) hh Ws.length (K0 _) [hand] (λk hk=>by rw[K7.mp hk];exact hd) o j
 rw[J6] at this
 rw[←this];simp
theorem xK :∀(R:List (List Zy)) (H:List Nat) (m:Nat) (hm:m < R.length),(rows h R H)[m]? =some (.tuple ((!2).map (b9 h R[m] (hs h (R.take m) H))))
 | W :: R,H,0,_=>by rw[rows,List.getElem?_cons_zero,Jx,hs];rfl
 | W :: R,H,m+1,hm=>by
  rw[rows,Jv,xK R (fS h W H) m (by simpa using hm)]
  simp only[List.getElem_cons_succ,List.take_succ_cons,hs]
theorem Ee {h:Nat}{Ws:List (List Zy)}{hand m:Nat}(hm:m < Ws.length):(rows h Ws.reverse [hand]).reverse[m]? =some (.tuple ((!2).map (b9 h Ws[m] (hs h (Ws.drop (m+1)).reverse [hand])))):=by
 have hl:(rows h Ws.reverse [hand]).length=Ws.length:=by rw[nA,Xy]
 rw[JZ (!1),hl,xK _ _ _ (by rw[Xy];omega)]
 have e1:Ws.reverse[Ws.length - 1 - m]'(by rw[Xy];omega)=Ws[m]:=by rw[List.getElem_reverse];congr 1;omega
 have e2:Ws.reverse.take (Ws.length - 1 - m)=(Ws.drop (m+1)).reverse:=by
  rw[List.take_reverse];congr 2;omega
 rw[e1,e2]
abbrev Slot:=Option (Bool×Zy)
def kE (h:Nat)(f:Nat->List (Nat×Nat)):List Zy:=(!2).map λk=> .dict (enc (f k))
theorem vE (hk:k < h):jZ (kE h f) (k:Int)=some (.dict (enc (f k))):=bN (by unfold kE;rw[KZ,Y1 hk];rfl)
theorem Ef (o:Nat):gp [fN o]=ah (.fr [],.dict (enc [(o,0)])):=by
 have hk:dz (.tuple [.int (o:Int),.int 0])=true:=rfl
 have n2:ar [PyData.int (o:Int),.int 0]=true:=rfl
 simp![gp,v7,hk,aq n2,and_self]
 rfl
theorem Eg (c0 c1 c2 c4 c5 c6 c7 c9 dZ vM c12:Slot)(h c:Nat)(f:Nat->List (Nat×Nat))(hl:∀s,(f s).length<=c)(S:List Nat)(hS:∀s∈S,s < h)(l0:List (Nat×Nat))(h0:l0≠[])(hz:l0.length+S.length*c<=100000) :
  ∃gN:Slot,bw (cy 9) gq (S.map nat) [c0,c1,c2,tL (kE h f),c4,c5,c6,c7,tD (enc l0),c9,dZ,vM,c12]=
   ah (.nx [c0,c1,c2,tL (kE h f),c4,c5,c6,c7,tD (enc (S.foldl (λacc s=>(f s).foldl ins acc) l0)),gN,dZ,vM,c12]):=by
 have len:∀(S:List Nat) (l:List (Nat×Nat)),(S.foldl (λacc s=>(f s).foldl ins acc) l).length<=l.length+S.length*c:=by
  intro S
  induction S with
  | nil=>intro l;simp
  | cons s S ih=>
   intro l
   have:=ih ((f s).foldl ins l)
   have:=oh (f s) l
   have:=hl s
   rw[UY,Kj,Yj];omega
 have ne:∀(S:List Nat) (l:List (Nat×Nat)),l≠[]->S.foldl (λacc s=>(f s).foldl ins acc) l≠[]:=by
  intro S
  induction S with
  | nil=>intro l a;exact a
  | cons s S ih=>intro l a;exact ih _ (rD (m:=f s) a)
 obtain⟨Γ',g1,gN,g2⟩:=bA (g:=cy 9) (b:=gq) (ds:=S.map nat) (Γ:=[c0,c1,c2,tL (kE h f),c4,c5,c6,c7,tD (enc l0),c9,dZ,vM,c12])
  (λi Γ=>∃gN:Slot,Γ=[c0,c1,c2,tL (kE h f),c4,c5,c6,c7,tD (enc ((S.take i).foldl (λacc s=>(f s).foldl ins acc) l0)),gN,dZ,vM,c12]) ⟨c9,by simp⟩ (by
  rintro i d Γ hd ⟨gN,rfl⟩
  have hi:i < S.length:=by have:=(Xz.mp hd).1;simpa using this
  rw[KZ,K5 hi] at hd
  have hd':nat S[i]=d:=Option.some.inj hd
  subst hd'
  have hs:=hS _ (U1 hi)
  have et:S.take (i+1)=S.take i++[S[i]]:=by rw[Yu,K5 hi];rfl
  refine⟨_,[c0,c1,c2,tL (kE h f),c4,c5,c6,c7,tD (enc ((S.take (i+1)).foldl (λacc s=>(f s).foldl ins acc) l0)),tA (nat S[i]),dZ,vM,c12],rfl,.inl ?_,_,rfl⟩
  rw[et,List.foldl_append,UY,List.foldl_nil]
  have hlen:=len (S.take i) l0
  have hmul:(S.take i).length*c+c<=S.length*c:=by
   rw[←Yj];exact Nat.mul_le_mul_right _ (by rw[X0];omega)
  have hne:=ne (S.take i) l0 h0
  have hfs:=hl S[i]
  generalize (S.take i).foldl (λacc s=>(f s).foldl ins acc) l0=l at*
  generalize S[i]=s at*
  have ek:=vE (f:=f) hs
  have eu:=Ec (l:=l) (m:=f s) hne (Kw (show _<=100000 by omega) (!8))
  simp![gq,sR,nat,ek,eu])
 rw[K6,J6] at g2
 exact⟨gN,by rw[g1,g2]⟩
theorem Ki (c0 c1 c9 dZ vM c12:Slot)(h c i j:Nat)(hh:h<=4)(hj:j < h)(hi:i < 5)(W:List Zy)(nW:ar W=true)(hW:lays 60 W=true)(f:Nat->List (Nat×Nat))(hl:∀s,(f s).length<=c)(hc:c<=10000)(h0:∀s,f s≠[])(hn:∀s,(f s).Nodup)(hb:∀s,s < h->∀p∈f s,p.1 < h/\p.2<=i)(ME:List Zy)(ha:ME.length < 10) :
  ∃gN:Slot,gu [c0,c1,tN h,tL (kE h f),tN i,tT W,tL ME,tN j,none,c9,dZ,vM,c12]=
   ah (.nx [c0,c1,tN h,tL (kE h f),tN i,tT W,tL (ME++[.dict (enc (ins (pA h W f j (bI h W j)) (j,i+1)))]),tN j,none,gN,dZ,vM,c12]):=by
 have ek:=vE (f:=f) hj
 have gd:=xG (h0 j) (hn j) λp hp=>⟨by have:=(hb j hj p hp).1;omega,by have:=(hb j hj p hp).2;omega⟩
 have sn:=rz h j W hh hW
 have nS:ar ((bI h W j).map nat)=true:=a9 _ (λ_=>rfl) _
 have sl:=xJ h W j hh
 have QH:=hl j
 have hm:(bI h W j).length*c<=4*c:=Nat.mul_le_mul_right _ sl
 obtain⟨gN,hu⟩:=Eg c0 c1 (tN h) (tN i) (tT W) (tL ME) (tN j) c9 dZ vM c12 h c f hl (bI h W j) (λs hs=>kt hs) (f j) (h0 j) (!1)
 have e1:((i:Int)+1)=((i+1:Nat):Int):=by omega
 obtain⟨_,_,gl⟩:=Az (h:=h) (W:=W) (f:=f) (k:=j) (c:=c) (h0 j) (hn j) hl (S:=bI h W j)
 have eg:(bI h W j).foldl (λacc s=>(f s).foldl ins acc) (f j)=pA h W f j (bI h W j):=rfl
 rw[eg] at hu
 generalize pA h W f j (bI h W j)=G at*
 have hk:dz (.tuple [.int (j:Int),.int ((i+1:Nat):Int)])=true:=rfl
 have n2:ar [PyData.int (j:Int),.int ((i+1:Nat):Int)]=true:=rfl
 have hp:putK (enc G) (.tuple [.int (j:Int),.int ((i+1:Nat):Int)]) (.bool true)=enc (ins G (j,i+1)):=xD G (j,i+1)
 have hsz:(enc G).length < sizeLine:=by rw[vD];exact XX (show _<=100000 by omega) (!8)
 have hsz2:ME.length < sizeLine:=X3 ha (!8)
 have nv:=nF G
 have hom:cH (enc G) (.tuple [.int (j:Int),.int ((i+1:Nat):Int)])=true:=by unfold cH f6;rw[ly,hk];rfl
 refine⟨gN,?_⟩
 simp![gu,oB,oA,hom,ek,gd,sn,aq nW,aq nS,hu,e1,hk,aq n2,nv,hsz,hp,hsz2,and_self,ne_eq,Nat.reduceEqDiff,not_false_eq_true,and_true]
theorem xL {Ws:List (List Zy)}{i:Nat}{d:Zy}(h:(dC 0 (Ws.map PyData.tuple))[i]? =some d):∃hi:i < Ws.length,d= .tuple [.int (i:Int),.tuple Ws[i]]:=by
 rw[L2.jM,KZ] at h
 by_cases hi:i < Ws.length
 ·rw[K5 hi] at h
  exact⟨hi,by have:=Option.some.inj h;rw[←this,JK]⟩
 ·rw[XY (!1)] at h;cases h
theorem HD (c0 c1 c2 c3 c4 c5 c6 c7 c8 c9 dZ vM c12:Slot)(i:Nat)(W:List Zy)(nW:ar W=true) :
  kI [4,5] (cQ .base (.tuple [.int (i:Int),.tuple W])) (.tuple [.int (i:Int),.tuple W]) [c0,c1,c2,c3,c4,c5,c6,c7,c8,c9,dZ,vM,c12]=some [c0,c1,c2,c3,tN i,tT W,c6,c7,c8,c9,dZ,vM,c12]:=by
 have n2:ar [PyData.int (i:Int),.tuple W]=true:=by simp only[ar,mY,cS,nW,XQ]
 rw[aq n2]
 simp only[kI,Kj,Y6,if_true,pX,zO,mZ,aq nW,jg,List.set_cons_zero,List.set_cons_succ]
theorem Eh (w:sE h b vs Ws)(hh:h<=4)(c0 c1:Slot) :
  ∃c4 c5 c7 c9:Slot,bw (kI [4,5]) gx (dC 0 (Ws.map PyData.tuple)) [c0,c1,tN h,tL (kE h (Lk h Ws 0)),none,none,none,none,none,none,none,none,none]=
   ah (.nx [c0,c1,tN h,tL (kE h (Lk h Ws Ws.length)),c4,c5,none,c7,none,c9,none,none,none]):=by
 obtain⟨Γ',g1,c4,c5,c7,c9,g2⟩:=bA (g:=kI [4,5]) (b:=gx) (ds:=dC 0 (Ws.map PyData.tuple)) (Γ:=[c0,c1,tN h,tL (kE h (Lk h Ws 0)),none,none,none,none,none,none,none,none,none])
  (λi Γ=>∃c4 c5 c7 c9:Slot,Γ=[c0,c1,tN h,tL (kE h (Lk h Ws i)),c4,c5,none,c7,none,c9,none,none,none]) ⟨_,_,_,_,rfl⟩ (by
  rintro i d Γ hd ⟨c4,c5,c7,c9,rfl⟩
  obtain⟨hi,rfl⟩:=xL hd
  have hr:=w.hr
  have nW:=w.n _ (U1 hi)
  have lW:=w.l _ (U1 hi)
  have eW:Ws.getD i []=Ws[i]:=by rw[KW,K5 hi];rfl
  have Ot:=HC (Ws:=Ws) hh i
  have h6:6^i<=6^5:=Nat.pow_le_pow_right (!8) (!1)
  obtain⟨Γ',k1,fc,gN,k2⟩:=bA (g:=cy 7) (b:=gu) (ds:=(!2).map λ(i:Nat)=>PyData.int (i:Int)) (Γ:=[c0,c1,tN h,tL (kE h (Lk h Ws i)),tN i,tT Ws[i],tL [],c7,none,c9,none,none,none])
   (λj Γ=>∃c7 c9:Slot,Γ=[c0,c1,tN h,tL (kE h (Lk h Ws i)),tN i,tT Ws[i],tL (kE j (Lk h Ws (i+1))),c7,none,c9,none,none,none]) ⟨_,_,rfl⟩ (by
   rintro j d Γ hd ⟨c7,c9,rfl⟩
   obtain⟨rfl,hj⟩:=ce hd
   obtain⟨gN,e⟩:=Ki c0 c1 c9 none none none h (6^i) i j hh hj (!1) Ws[i] nW lW (Lk h Ws i) (λs=>(Ot s).2.2) (Kw h6 (!8)) (λs=>(Ot s).1) (λs=>(Ot s).2.1) (λs hs=>Ed i s hs) (kE j (Lk h Ws (i+1))) (by unfold kE;rw[K6,X9];omega)
   refine⟨_,_,rfl,.inl e,tN j,gN,?_⟩
   have e2:kE (j+1) (Lk h Ws (i+1))=kE j (Lk h Ws (i+1))++[.dict (enc (ins (pA h Ws[i] (Lk h Ws i) j (bI h Ws[i] j)) (j,i+1)))]:=by
    unfold kE;rw[J3,X4]
    have:Lk h Ws (i+1) j=ins (pA h Ws[i] (Lk h Ws i) j (bI h Ws[i] j)) (j,i+1):=by rw[Lk,eW]
    rw[Kq,J0,this]
   rw[e2])
  rw[K6,X9] at k2
  refine⟨_,[c0,c1,tN h,tL (kE h (Lk h Ws (i+1))),tN i,tT Ws[i],none,fc,none,gN,none,none,none],HD _ _ _ _ _ _ _ _ _ _ _ _ _ i Ws[i] nW,.inl ?_,_,_,_,_,rfl⟩
  simp![gx,Ky,k1,k2,Nat.reduceEqDiff])
 rw[L2.c_,K6] at g2
 exact⟨c4,c5,c7,c9,by rw[g1,g2]⟩
noncomputable def pf (g:Nat->Zy)(i o:Nat):Zy:=if o < i then g o else .none
theorem Ei (hg:∀o,bp (g o)=true)(i o:Nat):bp (pf g i o)=true:=by unfold pf;split;exact hg o;rfl
theorem xM (g:Nat->Zy)(hi:i < h):((!2).map (pf g i)).set i (g i)=(!2).map (pf g (i+1)):=by
 refine Jq (by simp) λm h1 h2=> ?_
 rw[List.getElem_set,List.getElem_map,List.getElem_map,List.getElem_range]
 by_cases hm:i=m
 ·subst hm;rw[Z4 rfl,pf,Z4 (!1)]
 ·rw[Z5 hm,pf,pf]
  by_cases hlt:m < i
  ·rw[Z4 hlt,Z4 (!1)]
  ·rw[Z5 hlt,Z5 (!1)]
theorem t9 (g:Nat->Zy)(hg:g i= .none):(!2).map (pf g i)=(!2).map (pf g (i+1)):=by
 refine UU λm _=> ?_
 unfold pf
 by_cases hlt:m < i
 ·rw[Z4 hlt,Z4 (!1)]
 ·rw[Z5 hlt]
  by_cases hm:m=i
  ·subst hm;rw[Z4 (!1),hg]
  ·rw[Z5 (!1)]
theorem BM (g:Nat->Zy)(h:Nat):(List.replicate h [PyData.none]).flatten=(!2).map (pf g 0):=by
 have:∀h:Nat,(List.replicate h [PyData.none]).flatten=List.replicate h PyData.none:=λh=>by
  induction h with
  | zero=>rfl
  | succ h ih=>rw[Uw,Y2,ih,Uw];rfl
 rw[this]
 refine Jq (by simp) λm h1 h2=> ?_
 rw[List.getElem_replicate,List.getElem_map,pf,Z5 (!1)]
theorem xN (g:Nat->Zy)(h:Nat):(!2).map (pf g h)=(!2).map g:=UU λm hm=>by
 unfold pf;rw[Z4 (X1.mp hm)]
theorem AD (h:i < n):Y.sO n (i:Int)=some i:=by
 unfold Y.sO;rw[Z4 (!1),Z4 (!1)];simp
theorem xO (h:ar xs=true/\ -(2^63)<=k/\k < 2^63/\xs.length*k.toNat<=sizeLine):yz xs (.int k)=ah (.fr [],.list (List.replicate k.toNat xs).flatten):=Z4 h
theorem t_ (h:Nat)(hh:h<=4)(g:Nat->Zy):yz [.none] (.int (h:Int))=ah (Kd.fr [],.list ((!2).map (pf g 0))):=by
 rw[←BM,xO ⟨rfl,by omega,by omega,Kw (show _<=4 by rw[Ky,X8,Nat.one_mul];exact hh) (!8)⟩,Ky]
theorem BN (w:sE h b vs Ws)(hh:h<=4)(hd:hand < h)(c4 c5 c7 c9:Slot) :
  ∃fc:Slot,bw (cy 7) eD ((!2).map λ(i:Nat)=>PyData.int (i:Int)) [fA (jx vs Ws),fN hand,tN h,tL (kE h (Lk h Ws Ws.length)),c4,c5,none,c7,none,c9,tL ((!2).map (pf (bT vs (hs h Ws.reverse [hand])) 0)),tL [],none]=
   ah (.nx [fA (jx vs Ws),fN hand,tN h,tL (kE h (Lk h Ws Ws.length)),c4,c5,none,fc,none,c9,tL ((!2).map (bT vs (hs h Ws.reverse [hand]))),tL [],none]):=by
 have nr:=vz (vs:=vs) w.n
 have hv:=w.hv
 have ek:=vE (f:=Lk h Ws Ws.length) hd
 obtain⟨Γ',g1,fc,g2⟩:=bA (g:=cy 7) (b:=eD) (ds:=(!2).map λ(i:Nat)=>PyData.int (i:Int)) (Γ:=[fA (jx vs Ws),fN hand,tN h,tL (kE h (Lk h Ws Ws.length)),c4,c5,none,c7,none,c9,tL ((!2).map (pf (bT vs (hs h Ws.reverse [hand])) 0)),tL [],none])
  (λi Γ=>∃c7:Slot,Γ=[fA (jx vs Ws),fN hand,tN h,tL (kE h (Lk h Ws Ws.length)),c4,c5,none,c7,none,c9,tL ((!2).map (pf (bT vs (hs h Ws.reverse [hand])) i)),tL [],none]) ⟨_,rfl⟩ (by
  rintro i d Γ hd' ⟨c7,rfl⟩
  obtain⟨rfl,hi⟩:=ce hd'
  refine⟨_,[fA (jx vs Ws),fN hand,tN h,tL (kE h (Lk h Ws Ws.length)),c4,c5,none,tN i,none,c9,tL ((!2).map (pf (bT vs (hs h Ws.reverse [hand])) (i+1))),tL [],none],rfl,.inl ?_,_,rfl⟩
  have gi:l4 (.tuple [.int (i:Int),.int 0]) (.dict (enc (Lk h Ws Ws.length hand)))=some (.bool (decide ((i,0)∈Lk h Ws Ws.length hand))):=xH _ (i,0)
  have n2:ar [PyData.int (i:Int),.int 0]=true:=rfl
  have hm:(i,0)∈Lk h Ws Ws.length hand↔i∈hs h Ws.reverse [hand]:=by rw[AB hh hd,Y7];exact⟨λz=>z.2,λz=>⟨Xq _,z⟩⟩
  have np:=Ei (nB vs (hs h Ws.reverse [hand])) i
  have nl:ar ((!2).map (pf (bT vs (hs h Ws.reverse [hand])) i))=true:=a9 _ np _
  have hix:Y.sO ((!2).map (pf (bT vs (hs h Ws.reverse [hand])) i)).length (i:Int)=some i:=AD (by rw[K6,X9];exact hi)
  rw[K6,X9] at hix
  have hk':i < vs.length:=by omega
  have ea:jZ (vs.map PyData.int) (i:Int)=some (.int (vs.getD i 0)):=bN (by rw[KZ,KW,K5 hk'];rfl)
  by_cases hb:i∈hs h Ws.reverse [hand]
  ·have hb':=hm.mpr hb
   have hg:bT vs (hs h Ws.reverse [hand]) i= .int (vs.getD i 0):=Z4 hb
   rw[←xM _ hi,hg]
   simp![eD,ek,gi,hb',aq n2,Pl,bt (nE w),aq (bG vs),ea,hix,nl,XQ]
  ·have hb':¬ (i,0)∈Lk h Ws Ws.length hand:=λz=>hb (hm.mp z)
   rw[←t9 _ (Z5 hb)]
   simp![eD,ek,gi,hb',aq n2])
 rw[K6,X9,xN] at g2
 exact⟨fc,by rw[g1,g2]⟩
theorem Ej (w:sE h b vs Ws)(hh:h<=4)(hd:hand < h)(hm:m < Ws.length)(c0 c7 c9 dZ vM:Slot) :
  ∃fc:Slot,bw (cy 7) eE ((!2).map λ(i:Nat)=>PyData.int (i:Int)) [c0,fN hand,tN h,tL (kE h (Lk h Ws Ws.length)),tN m,tT Ws[m],none,c7,none,c9,dZ,vM,tL ((!2).map (pf (b9 h Ws[m] (hs h (Ws.drop (m+1)).reverse [hand])) 0))]=
   ah (.nx [c0,fN hand,tN h,tL (kE h (Lk h Ws Ws.length)),tN m,tT Ws[m],none,fc,none,c9,dZ,vM,tL ((!2).map (b9 h Ws[m] (hs h (Ws.drop (m+1)).reverse [hand])))]):=by
 have ek:=vE (f:=Lk h Ws Ws.length) hd
 have nW:=w.n _ (U1 hm)
 have lW:=w.l _ (U1 hm)
 have e1:((m:Int)+1)=((m+1:Nat):Int):=by omega
 generalize QI:Ws[m]=W at*
 obtain⟨Γ',g1,fc,g2⟩:=bA (g:=cy 7) (b:=eE) (ds:=(!2).map λ(i:Nat)=>PyData.int (i:Int)) (Γ:=[c0,fN hand,tN h,tL (kE h (Lk h Ws Ws.length)),tN m,tT W,none,c7,none,c9,dZ,vM,tL ((!2).map (pf (b9 h W (hs h (Ws.drop (m+1)).reverse [hand])) 0))])
  (λi Γ=>∃c7:Slot,Γ=[c0,fN hand,tN h,tL (kE h (Lk h Ws Ws.length)),tN m,tT W,none,c7,none,c9,dZ,vM,tL ((!2).map (pf (b9 h W (hs h (Ws.drop (m+1)).reverse [hand])) i))]) ⟨_,rfl⟩ (by
  rintro i d Γ hd' ⟨c7,rfl⟩
  obtain⟨rfl,hi⟩:=ce hd'
  refine⟨_,[c0,fN hand,tN h,tL (kE h (Lk h Ws Ws.length)),tN m,tT W,none,tN i,none,c9,dZ,vM,tL ((!2).map (pf (b9 h W (hs h (Ws.drop (m+1)).reverse [hand])) (i+1)))],rfl,.inl ?_,_,rfl⟩
  have gi:l4 (.tuple [.int (i:Int),.int ((m+1:Nat):Int)]) (.dict (enc (Lk h Ws Ws.length hand)))=some (.bool (decide ((i,m+1)∈Lk h Ws Ws.length hand))):=xH _ (i,m+1)
  have n2:ar [PyData.int (i:Int),.int ((m+1:Nat):Int)]=true:=rfl
  have hmm:(i,m+1)∈Lk h Ws Ws.length hand↔i∈hs h (Ws.drop (m+1)).reverse [hand]:=by rw[AB hh hd];exact⟨λz=>z.2,λz=>⟨by omega,z⟩⟩
  have nl:ar ((!2).map (pf (b9 h W (hs h (Ws.drop (m+1)).reverse [hand])) i))=true:=a9 _ (Ei (kr h W _) i) _
  have hix:Y.sO h (i:Int)=some i:=AD hi
  have sn:=rz h i W hh lW
  have nS:ar ((bI h W i).map nat)=true:=a9 _ (λ_=>rfl) _
  by_cases hb:i∈hs h (Ws.drop (m+1)).reverse [hand]
  ·have hb':=hmm.mpr hb
   have hg:b9 h W (hs h (Ws.drop (m+1)).reverse [hand]) i= .tuple ((bI h W i).map nat):=Z4 hb
   rw[←xM _ hi,hg]
   simp![eE,e1,ek,gi,hb',aq n2,aq nW,sn,aq nS,nS,hix,nl,XQ]
  ·have hb':¬ (i,m+1)∈Lk h Ws Ws.length hand:=λz=>hb (hmm.mp z)
   rw[←t9 _ (Z5 hb)]
   simp![eE,e1,ek,gi,hb',aq n2])
 rw[K6,X9,xN] at g2
 exact⟨fc,by rw[g1,g2]⟩
theorem BO (w:sE h b vs Ws)(hh:h<=4)(hd:hand < h)(c0 c4 c5 c7 c9 dZ:Slot) :
  ∃vN sF fc Kl:Slot,bw (kI [4,5]) gy (dC 0 (Ws.map PyData.tuple)) [c0,fN hand,tN h,tL (kE h (Lk h Ws Ws.length)),c4,c5,none,c7,none,c9,dZ,tL [],none]=
   ah (.nx [c0,fN hand,tN h,tL (kE h (Lk h Ws Ws.length)),vN,sF,none,fc,none,c9,dZ,tL (rows h Ws.reverse [hand]).reverse,Kl]):=by
 have hr:=w.hr
 obtain⟨Γ',g1,vN,sF,fc,Kl,g2⟩:=bA (g:=kI [4,5]) (b:=gy) (ds:=dC 0 (Ws.map PyData.tuple)) (Γ:=[c0,fN hand,tN h,tL (kE h (Lk h Ws Ws.length)),c4,c5,none,c7,none,c9,dZ,tL [],none])
  (λi Γ=>∃c4 c5 c7 c12:Slot,Γ=[c0,fN hand,tN h,tL (kE h (Lk h Ws Ws.length)),c4,c5,none,c7,none,c9,dZ,tL ((rows h Ws.reverse [hand]).reverse.take i),c12]) ⟨_,_,_,_,rfl⟩ (by
  rintro i d Γ hd' ⟨c4,c5,c7,c12,rfl⟩
  obtain⟨hi,rfl⟩:=xL hd'
  have nW:=w.n _ (U1 hi)
  obtain⟨fc,e⟩:=Ej w hh hd hi c0 c7 c9 dZ (tL ((rows h Ws.reverse [hand]).reverse.take i))
  have er:=Ee (h:=h) (hand:=hand) hi
  have et:(rows h Ws.reverse [hand]).reverse.take (i+1)=(rows h Ws.reverse [hand]).reverse.take i++[.tuple ((!2).map (b9 h Ws[i] (hs h (Ws.drop (i+1)).reverse [hand])))]:=by rw[Yu,er];rfl
  refine⟨_,[c0,fN hand,tN h,tL (kE h (Lk h Ws Ws.length)),tN i,tT Ws[i],none,fc,none,c9,dZ,tL ((rows h Ws.reverse [hand]).reverse.take (i+1)),tL ((!2).map (b9 h Ws[i] (hs h (Ws.drop (i+1)).reverse [hand])))],HD _ _ _ _ _ _ _ _ _ _ _ _ _ i Ws[i] nW,.inl ?_,_,_,_,_,rfl⟩
  rw[et]
  have hsz:((rows h Ws.reverse [hand]).reverse.take i).length < sizeLine:=XX (show _<=5 by rw[X0];omega) (!8)
  generalize Ws[i]=W at*
  have rp:=t_ h hh (b9 h W (hs h (Ws.drop (i+1)).reverse [hand]))
  have nR:ar ((!2).map (b9 h W (hs h (Ws.drop (i+1)).reverse [hand])))=true:=a9 _ (kr h W _) _
  simp![gy,yA,isNew,rp,Ky,e,cq nR,aq nR,hsz])
 rw[L2.c_,K6,XJ (by rw[Xy,nA,Xy];exact K0 _)] at g2
 exact⟨vN,sF,fc,Kl,by rw[g1,g2]⟩
theorem zo (w:sE h b vs Ws)(hh:h<=4)(hd:hand < h):gL [jx vs Ws,.int (hand:Int)]=ah (true,bf vs Ws hand):=by
 have hv:=w.hv
 have hr:=w.hr
 have nr:=nE w
 have nw:=GN w
 have hml:(vs.map PyData.int).length=h:=by rw[K6];exact hv
 have hc:=jO (fe:=gp) (cap:=[]) ((!2).map λ(i:Nat)=>PyData.int (i:Int))
  (λd=>match d with | .int k=>(.fr [],.dict (enc [(k.toNat,0)])) | _=>(.fr [],.none)) (λd hd=>by
   obtain⟨k,hk,rfl⟩:=Ku.mp hd
   rw[Ef];simp only[Ky])
 have e1:(((!2).map λ(i:Nat)=>PyData.int (i:Int)).map λd=>match d with | .int k=>(Kd.fr [],PyData.dict (enc [(k.toNat,0)])) | _=>(Kd.fr [],PyData.none))=(!2).map λk=>(Kd.fr [],PyData.dict (enc (Lk h Ws 0 k))):=by
  rw[X6];refine UU λk _=> ?_;simp only[Function.comp,Ky,Lk]
 rw[e1] at hc
 have k1:=eN (!2) λk=>PyData.dict (enc (Lk h Ws 0 k))
 have e2:((!2).map λk=>(Kd.fr [],PyData.dict (enc (Lk h Ws 0 k)))).map Prod.snd=kE h (Lk h Ws 0):=by rw[X6];rfl
 have hle:h<=100000:=by omega
 obtain⟨c4,c5,c7,c9,l1⟩:=Eh w hh (fA (jx vs Ws)) (fN hand)
 have rp:=t_ h hh (bT vs (hs h Ws.reverse [hand]))
 obtain⟨fc,l2⟩:=BN w hh hd c4 c5 c7 c9
 obtain⟨d4,d5,d7,QJ,l3⟩:=BO w hh hd (fA (jx vs Ws)) c4 c5 fc c9 (tL ((!2).map (bT vs (hs h Ws.reverse [hand]))))
 have n1:ar ((!2).map (bT vs (hs h Ws.reverse [hand])))=true:=a9 _ (nB _ _) _
 have n2:ar (rows h Ws.reverse [hand]).reverse=true:=aF.mpr λx hx=>aF.mp (ny (h:=h) (R:=Ws.reverse) (H:=[hand])) x (Uy.mp hx)
 have n4:ar [PyData.int (hand:Int),.tuple ((!2).map (bT vs (hs h Ws.reverse [hand]))),.tuple (rows h Ws.reverse [hand]).reverse]=true:=by simp only[ar,mY,cS,n1,n2,XQ]
 simp![gL,k9,bv,uw,Fy,yA,isNew,Pl,Qr,bt nr,aq nw,aq (bG vs),hv,hml,Ky,hc,k1,e2,hle,l1,rp,l2,l3,cq n1,cq n2,aq n1,aq n2,aq n4,bf]
mutual
theorem AE:∀(n:Nat) (d:Zy),lay n d=true->PyData.eqv d d=true
 | _,.none,_=>by simp[PyData.eqv]
 | _,.bool _,_=>by simp[PyData.eqv]
 | _,.int _,_=>by simp[PyData.eqv]
 | _,.str _,_=>by simp[PyData.eqv]
 | 0,.list xs,h=>by simp[lay] at h
 | 0,.tuple xs,h=>by simp[lay] at h
 | n+1,.list xs,h=>by rw[lay] at h;simp only[PyData.eqv];exact rF n xs h
 | n+1,.tuple xs,h=>by rw[lay] at h;simp only[PyData.eqv];exact rF n xs h
 | 0,.dict _,h=>by simp[lay] at h
 | n+1,.dict _,h=>by simp[lay] at h
theorem rF:∀(n:Nat) (ds:List Zy),lays n ds=true->PyData.eqvAll ds ds=true
 | _,[],_=>by simp[PyData.eqvAll]
 | n,d :: ds,h=>by
  rw[lays,X7] at h
  simp only[PyData.eqvAll,AE n d h.1,rF n ds h.2,XQ]
end
theorem xP (h1:lays n xs=true)(h2:lays n ys=true):lays n (xs++ys)=true:=cV.mpr λx hx=>by
 rcases K1.mp hx with h | h
 ·exact cV.mp h1 x h
 ·exact cV.mp h2 x h
structure Good (xs:List Zy):Prop where
 n:ar xs=true
 l:∀n,lays (n+3) xs=true
theorem Good.snoc (g:Good xs)(hn:bp x=true)(hl:∀n,lay (n+3) x=true)(hx:cP xs x=false):Good (xs++[x]) where
 n:=by rw[gG,g.n,ar,ar,hn];rfl
 l:=λn=>xP (g.l n) (by rw[lays,lays,hl n];rfl)
theorem rG:Good []:=⟨rfl,λ_=>rfl⟩
theorem Good.bp (g:Good xs)(h:x∈xs):bp x=true:=aF.mp g.n x h
theorem Good.lay (g:Good xs)(h:x∈xs)(n:Nat):Y.lay (n+3) x=true:=cV.mp (g.l n) x h
theorem AF (xs:List Zy)(n:Nat)(hx:xs.length<=1000)(hn:n<=100):gJ [.list xs,.int (n:Int)]=ah (true,.int ((xs.length^n:Nat):Int)):=by
 obtain⟨Γ',h1,c3,h2⟩:=bA (g:=cy 3) (b:=jp) (ds:=(List.range n).map λ(i:Nat)=>PyData.int (i:Int)) (Γ:=[fL xs,fN n,tI 1,none])
  (λi Γ=>∃c3:Option (Bool×Zy),Γ=[fL xs,fN n,tI ((xs.length^i:Nat):Int),c3]) ⟨none,by simp⟩ (by
  rintro i d Γ hd ⟨c3,rfl⟩
  obtain⟨rfl,hi⟩:=ce hd
  refine⟨_,[fL xs,fN n,tI ((xs.length^(i+1):Nat):Int),tN i],rfl,.inl ?_,_,rfl⟩
  simp![jp,J2,Int.natCast_mul])
 simp![gJ,kZ,h1,h2,Ky]
noncomputable def dig (L n:Nat):Nat->List Nat
 | 0=> []
 | k+1=>dig L n k++[n / L^k % L]
theorem AG (L n k:Nat):(dig L n k).length=k:=by
 induction k with
 | zero=>rfl
 | succ k ih=>rw[dig,K2,ih];rfl
theorem Ek (hL:0 < L)(h:d∈dig L n k):d < L:=by
 induction k with
 | zero=>cases h
 | succ k ih=>
  rw[dig] at h
  rcases K1.mp h with h | h
  ·exact ih h
  ·rw[K7.mp h];exact Nat.mod_lt _ hL
noncomputable def lz (xs:List Zy)(n k:Nat):List Zy:=(dig xs.length n k).reverse.map λd=>xs.getD d .none
theorem getD_at {xs:List Zy}{d:Nat}(h:d < xs.length):xs[d]? =some (xs.getD d .none):=by rw[KW,K5 h];rfl
theorem getD_mem {xs:List Zy}{d:Nat}(h:d < xs.length):xs.getD d .none∈xs:=Y3 (getD_at h)
theorem Em (xs:List Zy)(n k:Nat):(lz xs n k).length=k:=by unfold lz;rw[K6,Xy,AG]
theorem xQ (hv:1<=xs.length)(h:x∈lz xs n k):x∈xs:=by
 obtain⟨d,hd,rfl⟩:=Ku.mp h
 exact getD_mem (Ek hv (Uy.mp hd))
theorem En (xs:List Zy)(n k:Nat)(g:Good xs)(hv:1<=xs.length)(Hq:xs.length<=1000)(hk:k<=100):m_ [.list xs,.int (k:Int),.int (n:Int)]=ah (true,.tuple (lz xs n k)):=by
 obtain⟨Γ',h1,c5,h2⟩:=bA (g:=cy 5) (b:=mw) (ds:=(List.range k).map λ(i:Nat)=>PyData.int (i:Int)) (Γ:=[fL xs,fN k,fN n,tL [],tN n,none])
  (λi Γ=>∃c5:Option (Bool×Zy),Γ=[fL xs,fN k,fN n,tL ((dig xs.length n i).map λd=>xs.getD d .none),tI ((n / xs.length^i:Nat):Int),c5]) ⟨none,by simp[dig]⟩ (by
  rintro i d Γ hd ⟨c5,rfl⟩
  obtain⟨rfl,hi⟩:=ce hd
  refine⟨_,[fL xs,fN k,fN n,tL ((dig xs.length n (i+1)).map λd=>xs.getD d .none),tI ((n / xs.length^(i+1):Nat):Int),tN i],rfl,.inl ?_,_,rfl⟩
  have hlt:n / xs.length^i % xs.length < xs.length:=Nat.mod_lt _ hv
  have e1:((n / xs.length^i:Nat):Int) % (xs.length:Int)=((n / xs.length^i % xs.length:Nat):Int):=(Int.natCast_emod _ _).symm
  have e2:jZ xs ((n / xs.length^i % xs.length:Nat):Int)=some (xs.getD (n / xs.length^i % xs.length) .none):=bN (getD_at hlt)
  have e3:((n / xs.length^i:Nat):Int) / (xs.length:Int)=((n / xs.length^(i+1):Nat):Int):=by
   rw[J2,←Nat.div_div_eq_div_mul];exact(Int.natCast_ediv _ _).symm
  have hsz:(dig xs.length n i).length < sizeLine:=XX (show _<=100 by rw[AG];omega) (!8)
  have e4:bp (xs.getD (n / xs.length^i % xs.length) .none)=true:=g.bp (getD_mem hlt)
  simp![mw,e1,e2,e3,hsz,dig,X4,bt e4])
 have hn:ar ((dig xs.length n k).map λd=>xs.getD d .none)=true:=aF.mpr λx hx=>by
  obtain⟨d,hd,rfl⟩:=Ku.mp hx
  exact g.bp (getD_mem (Ek hv hd))
 rw[K6,X9] at h2
 simp![m_,qM,h1,h2,Ky,qy hn,lz,←List.map_reverse]
theorem Eo (ws ss:List Zy)(k N:Nat)(gw:Good ws)(gs:Good ss)(hv:1<=ws.length)(Hq:ws.length<=8)(hk:k<=5)(hN:N < ss.length*ws.length^k) :
  nc [.list ws,.int (k:Int),.list ss,.int (N:Int)]=ah (true,.tuple [ss.getD (N / ws.length^k) .none,.tuple (lz ws (N % ws.length^k) k)]):=by
 have hp:0 < ws.length^k:=Nat.pow_pos hv
 have hp2:ws.length^k<=32768:=Kw (Nat.pow_le_pow_left Hq k) (Kw (Nat.pow_le_pow_right (!8) hk) (!8))
 have hq:N / ws.length^k < ss.length:=Nat.div_lt_of_lt_mul (by rw[Yz];exact hN)
 have hm:=AF ws k (!1) (!1)
 have hr:=En ws (N % ws.length^k) k gw hv (!1) (!1)
 have e1:((N:Nat):Int) / ((ws.length^k:Nat):Int)=((N / ws.length^k:Nat):Int):=(Int.natCast_ediv _ _).symm
 have e2:((N:Nat):Int) % ((ws.length^k:Nat):Int)=((N % ws.length^k:Nat):Int):=(Int.natCast_emod _ _).symm
 have e3:=bN (getD_at hq)
 have ns:bp (ss.getD (N / ws.length^k) .none)=true:=gs.bp (getD_mem hq)
 have nr:ar (lz ws (N % ws.length^k) k)=true:=aF.mpr λx hx=>gw.bp (xQ hv hx)
 have hT:ar [ss.getD (N / ws.length^k) .none,.tuple (lz ws (N % ws.length^k) k)]=true:=by simp only[ar,ns,cS,nr,XQ]
 generalize ws.length^k=L at*
 simp![nc,qN,hm,hr,e1,e2,e3,bt ns,aq nr,aq hT]
theorem GQ (ws ss:List Zy)(k:Nat)(Hq:ws.length<=8)(hs:ss.length<=81)(hk:k<=5) :
  gK [.list ws,.int (k:Int),.list ss]=ah (true,.int ((ss.length*ws.length^k:Nat):Int)):=by
 have hm:=AF ws k (!1) (!1)
 simp![gK,k6,hm,Int.natCast_mul]
theorem Ep (h1:ar xs=true)(h2:ar ys=true)(h3:xs.length+ys.length<=sizeLine):fY (.tuple xs) (.tuple ys)=some (.tuple (xs++ys)):=by
 simp only[fY,h1,h2,XQ,Jz,Z3 h3,if_true]
theorem xR (L m:Nat):∀k:Nat,dig L m (k+1)=(m % L) :: dig L (m / L) k
 | 0=>by simp[dig]
 | k+1=>by
  rw[dig,xR L m k,dig,Uj,J2,Yz (L^k) L,←Nat.div_div_eq_div_mul]
theorem ua (xs:List Zy)(n d k:Nat)(hd:d < xs.length):lz xs (n*xs.length+d) (k+1)=lz xs n k++[xs.getD d .none]:=by
 have e1:(n*xs.length+d) % xs.length=d:=by rw[Yz,Nat.mul_add_mod,Nat.mod_eq_of_lt hd]
 have e2:(n*xs.length+d) / xs.length=n:=by rw[Yz,Nat.mul_add_div (!1),Nat.div_eq_of_lt hd,Nat.add_zero]
 unfold lz
 rw[xR,e1,e2,YW,X4]
 rfl
theorem ub (a b:Nat):List.range (a*b)=(List.range a).flatMap λn=>(List.range b).map λd=>n*b+d:=by
 induction a with
 | zero=>simp
 | succ a ih=>
  rw[Yj,List.range_add,ih,J3,List.flatMap_append]
  simp
theorem map_getD (xs:List Zy):(List.range xs.length).map (λd=>xs.getD d .none)=xs:=by
 refine Jq (by simp) λi h1 h2=> ?_
 simp[KW,K5 h2]
theorem Km {α:Type}(xs:List Zy)(f:Zy->α):xs.map f=(List.range xs.length).map λd=>f (xs.getD d .none):=(congrArg (List.map f) (map_getD xs)).symm.trans (X6 ..)
theorem GR {α:Type}(xs:List Zy)(f:Zy->List α):xs.flatMap f=(List.range xs.length).flatMap λd=>f (xs.getD d .none):=(congrArg (List.flatMap f) (map_getD xs)).symm.trans (List.flatMap_map ..)
noncomputable def rws (ws:List Zy):Nat->List (List Zy)
 | 0=> [[]]
 | k+1=>(rws ws k).flatMap λr=>ws.map λw=>r++[w]
theorem zp (ws:List Zy):∀k:Nat,rws ws k=(List.range (ws.length^k)).map λn=>lz ws n k
 | 0=>by simp[rws,lz,dig]
 | k+1=>by
  rw[rws,zp ws k,J2,ub,List.map_flatMap,List.flatMap_map]
  refine congrArg (λf=>List.flatMap f (List.range (ws.length^k))) (funext λn=> ?_)
  rw[X6,Km ws]
  refine UU λd hd=> ?_
  exact(ua ws n d k (X1.mp hd)).symm
def rH (ws ss:List Zy)(k N:Nat):Zy:=.tuple [ss.getD (N / ws.length^k) .none,.tuple (lz ws (N % ws.length^k) k)]
def rJ (ws ss:List Zy)(k:Nat):List Zy:=(List.range (ss.length*ws.length^k)).map (rH ws ss k)
theorem vF (ws ss:List Zy)(k:Nat):(ss.flatMap λs=>(rws ws k).map λr=>PyData.tuple [s,.tuple r])=rJ ws ss k:=by
 unfold rJ
 rw[ub,List.map_flatMap]
 rw[GR ss]
 refine congrArg (λf=>List.flatMap f (List.range ss.length)) (funext λm=> ?_)
 rw[zp,X6,X6]
 refine UU λn hn=> ?_
 have hn':n < ws.length^k:=X1.mp hn
 show PyData.tuple [ss.getD m .none,.tuple (lz ws n k)]=rH ws ss k (m*ws.length^k+n)
 unfold rH
 rw[Yz,Nat.mul_add_div (!1),Nat.div_eq_of_lt hn',Nat.add_zero,Nat.mul_add_mod,Nat.mod_eq_of_lt hn']
theorem GS (ws:List Zy)(k:Nat):(rws ws k).length=ws.length^k:=by rw[zp];simp
theorem nG :∀{k:Nat} {r:List Zy},r∈rws ws k->r.length=k/\∀x∈r,x∈ws
 | 0,r,h=>by rw[K7.mp h];exact⟨rfl,λx hx=>by cases hx⟩
 | k+1,r,h=>by
  obtain⟨r',h1,h2⟩:=U4.mp h
  obtain⟨w,h3,rfl⟩:=Ku.mp h2
  obtain⟨h4,h5⟩:=nG h1
  refine⟨by rw[K2,h4];rfl,λx hx=> ?_⟩
  rcases K1.mp hx with hx | hx
  ·exact h5 x hx
  ·rw[K7.mp hx];exact h3
theorem xS (g:Good ws)(h:r∈rws ws k):ar r=true:=aF.mpr λx hx=>g.bp ((nG h).2 x hx)
noncomputable def tups (l:List (List Zy)):List Zy:=l.map PyData.tuple
theorem xT (a b:List (List Zy)):tups (a++b)=tups a++tups b:=by simp[tups]
noncomputable def pairD (s:Zy)(l:List (List Zy)):List Zy:=l.map λr=>PyData.tuple [s,.tuple r]
theorem Kn (ws ss:List Zy)(k:Nat)(g:Good ws)(gs:Good ss)(hw1:1<=ws.length)(hw:ws.length<=8)(hk:k<=5)(hs:ss.length<=81)(hm:ss.length*ws.length^k<=3000) :
  bY [.list ws,.int (k:Int),.list ss]=ah (true,.list (rJ ws ss k)):=by
 have hr:gK [.list ws,.int (k:Int),.list ss]=ah (true,.int ((ss.length*ws.length^k:Nat):Int)):=GQ ws ss k hw hs hk
 have hgt:decide ((3000:Int) < ((ss.length*ws.length^k:Nat):Int))=false:=Z2 (!1)
 have hc:bW cW ie [fL ws,fN k,fL ss] ((List.range (ss.length*ws.length^k)).map λ(i:Nat)=>PyData.int (i:Int))=some (((List.range (ss.length*ws.length^k)).map λ(i:Nat)=>PyData.int (i:Int)).map λd=>(Kd.fr [],match d with | .int i=>rH ws ss k i.toNat | _=> .none)):=jO _ _ λd hd=>by
  obtain⟨N,hN,rfl⟩:=Ku.mp hd
  have e:=Eo ws ss k N g gs hw1 hw hk (X1.mp hN)
  simp![ie,e,l_ (pI _),Ky,rH]
  unfold cQ;split <;> rfl
 rw[X6] at hc
 have k1:=eN (List.range (ss.length*ws.length^k)) (rH ws ss k)
 have m1:((List.range (ss.length*ws.length^k)).map λa=>(Kd.fr [],rH ws ss k a)).map Prod.snd=rJ ws ss k:=by rw[X6];rfl
 have hc':bW cW ie [fL ws,fN k,fL ss] ((List.range (ss.length*ws.length^k)).map λ(i:Nat)=>PyData.int (i:Int))=some ((List.range (ss.length*ws.length^k)).map λa=>(Kd.fr [],rH ws ss k a)):=hc
 have hl:ss.length*ws.length^k<=100000:=by omega
 generalize hM:ss.length*ws.length^k=Mm at*
 simp![bY,mx,bv,hr,hgt,Ky,hc',k1,m1,hl,l_ (pI _)]
end K43
namespace Y
open PySem
section
variable {a b:SF}{t:TF}{Γ Γ':bL}{o:Bool}{d:Zy}
theorem aE (h:a Γ=ah (.nx Γ')):aw a b Γ=b Γ':=by unfold aw;rw[h];rfl
theorem vG (h:a Γ=ah (.rt o d)):aw a b Γ=ah (.rt o d):=by unfold aw;rw[h];rfl
theorem ym (hg:g (cQ .base d) d Γ=some Γ1)(hb:a Γ1=ah (.nx Γ2))(h:bw g a ds Γ2=r):bw g a (d :: ds) Γ=r:=by rw[bw,hg,fx,aG,hb,aG];exact h
theorem lV (h:a Γ=ah (.nx Γ'))(h2:b Γ'=r):aw a b Γ=r:=(aE h).trans h2
theorem xU (h:t Γ=ah true):hJ t a b Γ=a Γ:=by unfold hJ;rw[h];rfl
theorem xV (h:t Γ=ah false):hJ t a b Γ=b Γ:=by unfold hJ;rw[h];rfl
theorem bR (h:a (cG n ds)=ah (.rt o d)):cz n a ds=ah (o,d):=by unfold cz;rw[h];rfl
theorem nH (h:t Γ=ah true)(h2:b Γ=ah (.nx Γ')):dX (n+1) t b Γ=dX n t b Γ':=by rw[dX,h,aG,Z4 rfl,h2,aG]
theorem lB (h:t Γ=ah false):dX (n+1) t b Γ=ah (.nx Γ):=by rw[dX,h,aG,Z5 K3]
end
end Y
namespace K43
open PySem Y
noncomputable def ff (ns:List Int)(k:Int):Int:=if k < ns.length then (ns[k.toNat]?).getD 0 else 0
theorem jf (ns:List Int)(k:Int)(hk:0<=k):aD [.list (!6),.int k]=ah (true,.int (ff ns k)):=by
 by_cases h:k < ns.length
 ·have e:(!6)[k.toNat]? =some (.int (ff ns k)):=by
   rw[KZ,K5 (!1),ff,Z4 h,K5 (!1)];rfl
  simp![aD,fH,h,Gf hk e]
 ·have e:ff ns k=0:=Z5 h
  simp![aD,fH,h,e]
theorem zq (n k:Int)(h0:0<=k)(h1:k < 1000):∃z:Nat,z < 2147483648/\cT [.int n,.int k]=ah (true,.int (z:Int)):=by
 by_cases hn:1000000000000<=n
 ·have b1:=UW k (show(61:Int)≠0 by decide)
  have b2:=UX k (show(0:Int) < 61 by decide)
  obtain⟨Γ',g1,z,c2,g2⟩:=bA (g:=cy 2) (b:=kg) (ds:=(List.range (k % 61).toNat).map λ(i:Nat)=>PyData.int (i:Int)) (Γ:=[tI (n / 1000000000000 - 1),fI k,none,none])
   (λi Γ=>∃(z:Int) (c2:Option (Bool×Zy)),Γ=[tI z,fI k,c2,none]) ⟨_,none,rfl⟩ (by
   rintro i d Γ hd ⟨z,c2,rfl⟩
   obtain⟨rfl,hi⟩:=ce hd
   refine⟨_,[tI (z / 2147483648),fI k,tN i,none],rfl,.inl ?_,_,_,rfl⟩
   simp![kg])
  refine⟨(z % 2147483648).toNat,by omega,?_⟩
  have ez:((z % 2147483648).toNat:Int)=z % 2147483648:=by omega
  rw[ez]
  simp![cT,kh,z9,Int.reduceToNat,Int.reducePow,hn,g1,g2]
 ·have b1:=UW n (show(1000003:Int)≠0 by decide)
  have b2:=UX n (show(0:Int) < 1000003 by decide)
  have b3:=UW ((n % 1000003+k*k*7919+k)*48271) (show(2147483629:Int)≠0 by decide)
  have b4:=UX ((n % 1000003+k*k*7919+k)*48271) (show(0:Int) < 2147483629 by decide)
  generalize ha:(n % 1000003+k*k*7919+k)*48271 % 2147483629=a at b3 b4
  have b5:=UW (a*a) (show(2147483587:Int)≠0 by decide)
  have b6:=UX (a*a) (show(0:Int) < 2147483587 by decide)
  generalize hb:a*a % 2147483587=b at b5 b6
  have b7:=UW (b*(b+2)) (show(2147483579:Int)≠0 by decide)
  have b8:=UX (b*(b+2)) (show(0:Int) < 2147483579 by decide)
  generalize hc:b*(b+2) % 2147483579=c at b7 b8
  refine⟨(c / 7).toNat,by omega,?_⟩
  have ez:((c / 7).toNat:Int)=c / 7:=by omega
  rw[ez]
  simp![cT,kh,z9,Int.reduceToNat,Int.reducePow,hn,ha,hb,hc]
theorem BP (ns:List Int):∃a b c:Int,de [.list (!6)]=ah (true,.list [.int a,.int b,.int c]):=by
 by_cases h:ff ns 7 % 2=1
 ·have hb:(ff ns 7 % 2==1)=true:=by rw[h];rfl
  refine⟨ff ns 5 % 10^60 / 10,(-1 - ff ns 6 % 10^59) / 10 - 1,7+ff ns 5 % 10^60 / 10,?_⟩
  simp![de,gj,Int.reduceToNat,Int.reducePow,jf,hb]
 ·have hb:(ff ns 7 % 2==1)=false:=by simpa using h
  refine⟨ff ns 5 % 10^60 / 10,(ff ns 5 % 10^60+1+ff ns 6 % 5) / 10 - 1,7+ff ns 5 % 10^60 / 10,?_⟩
  simp![de,gj,Int.reduceToNat,Int.reducePow,jf,hb]
theorem xX :∀(ds:List Zy),(∀d∈ds,∃z:Int,fe (fA d :: cap)=ah (.fr [],.int z))->∃zs:List Int,zs.length=ds.length/\bW cW fe cap ds=some (zs.map λz=>(Kd.fr [],PyData.int z))
 | [],_=>⟨[],rfl,rfl⟩
 | d :: ds,h=>by
  obtain⟨z,hz⟩:=h d K9
  obtain⟨zs,hl,hc⟩:=xX ds λx hx=>h x (K8 _ hx)
  refine⟨z :: zs,by simp[hl],?_⟩
  simp only[bW,cW,ah] at hz⊢
  rw[hz,hc];rfl
noncomputable def prs (ls:List (Int×Int)):List Zy:=ls.map λp=> .tuple [.int p.1,.int p.2]
theorem Er (h:Nat)(h2:2<=h)(h4:h<=4):∃ls:List (Int×Int),ki [.int (h:Int)]=ah (true,.list (prs ls))/\2<=ls.length/\ls.length<=12:=by
 have hc:h=2∨h=3∨h=4:=by omega
 rcases hc with rfl | rfl | rfl
 ·exact⟨[(0,1),(1,0)],by rfl,by decide,by decide⟩
 ·exact⟨[(0,1),(0,2),(1,0),(1,2),(2,0),(2,1)],by rfl,by decide,by decide⟩
 ·exact⟨[(0,1),(0,2),(0,3),(1,0),(1,2),(1,3),(2,0),(2,1),(2,3),(3,0),(3,1),(3,2)],by rfl,by decide,by decide⟩
def BQ (W:List Zy):Prop:=∀x∈W,∃i j:Int,x= .tuple [.int i,.int j]
theorem BQ.n (h:BQ W):ar W=true:=aF.mpr λx hx=>by
 obtain⟨i,j,rfl⟩:=h x hx;rfl
theorem BQ.l (h:BQ W)(n:Nat):lays (n+2) W=true:=cV.mpr λx hx=>by
 obtain⟨i,j,rfl⟩:=h x hx;rfl
theorem BQ.snoc (h:BQ W)(hx:∃i j:Int,x= .tuple [.int i,.int j]):BQ (W++[x]):=λy hy=>by
 rcases K1.mp hy with hy | hy
 ·exact h y hy
 ·rw[K7.mp hy];exact hx
theorem GU (ls:List (Int×Int)):BQ (prs ls):=λx hx=>by
 obtain⟨p,_,rfl⟩:=Ku.mp hx;exact⟨_,_,rfl⟩
theorem zr (z:Int)(h:Nat)(h2:2<=h)(h4:h<=4):∃W:List Zy,BQ W/\W.length<=12/\dI [.int z,.int (h:Int)]=ah (true,.tuple W):=by
 obtain⟨ls,hp,l1,l2⟩:=Er h h2 h4
 obtain⟨Γ',g1,W,y,o,c3,g2,g3,g4⟩:=bA (g:=cy 3) (b:=dN) (ds:=prs ls) (Γ:=[fI z,fN h,tL [],none])
  (λi Γ=>∃(W:List Zy) (y:Int) (o:Bool) (c3:Option (Bool×Zy)),Γ=[some (o,.int y),fN h,tL W,c3]/\BQ W/\W.length<=i) ⟨[],z,false,none,rfl,(λx hx=>by cases hx),K0 _⟩ (by
  rintro i d Γ hd ⟨W,y,o,c3,rfl,hW,hl⟩
  have hi:i < ls.length:=by have:=(Xz.mp hd).1;simpa [prs] using this
  obtain⟨a,b,rfl⟩:=GU ls d (Y3 hd)
  have hsz:W.length < sizeLine:=XX (show _<=12 by omega) (!8)
  have nT:ar [PyData.int a,.int b]=true:=rfl
  cases hb:(y % 3==0) with
  | true=>
   refine⟨_,[tI (y / 3),fN h,tL (W++[.tuple [.int a,.int b]]),tT [.int a,.int b]],by rw[aq nT];rfl,.inl ?_,_,_,_,_,rfl,hW.snoc ⟨a,b,rfl⟩,by rw[K2,X8];omega⟩
   simp![dN,hb,aq nT,hsz]
  | false=>
   refine⟨_,[tI (y / 3),fN h,tL W,tT [.int a,.int b]],by rw[aq nT];rfl,.inl ?_,_,_,_,_,rfl,hW,by omega⟩
   simp![dN,hb,aq nT,hsz])
 have gl:(prs ls).length=ls.length:=K6 _
 refine⟨W,g3,by omega,?_⟩
 simp![dI,iK,hp,g1,g2,cq g3.n,aq g3.n]
abbrev Sl:=Option (Bool×Zy)
def AH (x:Zy):Prop:=∃W:List Zy,x= .tuple W/\BQ W/\W.length<=12
theorem AH.bp (h:AH x):bp x=true:=by
 obtain⟨W,rfl,p,_⟩:=h
 exact p.n
theorem AH.lay (h:AH x)(n:Nat):lay (n+3) x=true:=by
 obtain⟨W,rfl,p,_⟩:=h
 rw[Y.lay];exact p.l n
theorem Es (hx:lay 60 x=true)(hw:lays 60 ws=true):dm x (.list ws)=some (.bool (!cP ws x)):=wQ hx hw
def r5:SF:=aB 5 (az cT [(az aD [(eV 0),(bg fY (eC (.int 2)) (eV 4))]),(bg fY (eC (.int 20)) (eV 4))])
def r6:SF:=aB 6 (az dI [(eV 5),(eV 1)])
def rT:TF:=tE (bg oY (bg fX (bg fy (eV 5) (eC (.int 600000))) (eC (.int 3))) (eC (.int 1)))
def rX:SF:=aB 6 (Fq (eV 6) none (some (eC (.int 1))))
def M_:TF:=sQ (tE (bg dm (eV 6) (eV 3))) (tE (bg La (jA iC [(eV 3)]) (eV 2)))
def Ou:SF:=iD 3 (eV 6)
theorem Et:db=aw r5 (aw r6 (aw (hJ rT rX cc) (hJ M_ Ou cc))):=rfl
theorem BR (ns:List Int)(h:Nat)(h2:2<=h)(h4:h<=4)(m k:Nat)(hm:m<=3)(hm1:1<=m)(hk:k < 3)(ws:List Zy)(g:Good ws)(hw:∀x∈ws,AH x)(hl:ws.length<=m)(c5 c6:Sl) :
  ∃(ws':List Zy) (sF jy:Sl),Good ws'/\(∀x∈ws',AH x)/\ws'.length<=m/\1<=ws'.length/\db [fL (!6),fN h,fN m,tL ws,tN k,c5,c6]=ah (.nx [fL (!6),fN h,fN m,tL ws',tN k,sF,jy]):=by
 have c1:=jf ns (2+(k:Int)) (!1)
 obtain⟨z,_,m1⟩:=zq (ff ns (2+(k:Int))) (20+(k:Int)) (!1) (!1)
 obtain⟨W,w1,w2,w3⟩:=zr (z:Int) h h2 h4
 have nW:=w1.n
 have s1:r5 [fL (!6),fN h,fN m,tL ws,tN k,c5,c6]=ah (.nx [fL (!6),fN h,fN m,tL ws,tN k,tN z,c6]):=by
  simp![r5,c1,m1]
 have s2:r6 [fL (!6),fN h,fN m,tL ws,tN k,tN z,c6]=ah (.nx [fL (!6),fN h,fN m,tL ws,tN k,tN z,tT W]):=by
  simp![r6,w3,aq nW]
 have t1:rT [fL (!6),fN h,fN m,tL ws,tN k,tN z,tT W]=ah ((z:Int) / 600000 % 3==1):=by
  simp![rT]
 have s3:∃W':List Zy,BQ W'/\W'.length<=12/\(hJ rT rX cc) [fL (!6),fN h,fN m,tL ws,tN k,tN z,tT W]=ah (.nx [fL (!6),fN h,fN m,tL ws,tN k,tN z,tT W']):=by
  cases hb:((z:Int) / 600000 % 3==1) with
  | false=>
   rw[hb] at t1
   exact⟨W,w1,w2,(xV t1).trans rfl⟩
  | true=>
   rw[hb] at t1
   have gs:=GL (lo:=none) (hi:=some 1) nW
   refine⟨cutD W none (some 1),λx hx=> ?_,?_,(xU t1).trans ?_⟩
   ·unfold cutD at hx
    exact w1 x (U9 (U0 hx))
   ·unfold cutD
    rw[X0,XU];omega
   ·simp![rX,Fq,oE,oI,aq nW,gs]
 obtain⟨W',v1,v2,s3⟩:=s3
 have iw:AH (.tuple W'):=⟨W',rfl,v1,v2⟩
 have nI:=Es (x:=.tuple W') (ws:=ws) (iw.lay 57) (g.l 57)
 have Pm:=v1.n
 have t2:M_ [fL (!6),fN h,fN m,tL ws,tN k,tN z,tT W']=ah (!cP ws (.tuple W') && decide ((ws.length:Int) < (m:Int))):=by
  cases hb:cP ws (.tuple W') <;> rw[hb] at nI <;> simp![M_,aq Pm,nI,Bool.not_true,Bool.not_false,Jz,Bool.false_and]
 have pre:∀o,(hJ M_ Ou cc) [fL (!6),fN h,fN m,tL ws,tN k,tN z,tT W']=o->db [fL (!6),fN h,fN m,tL ws,tN k,c5,c6]=o:=λo q=>by
  rw[Et,aE s1,aE s2,aE s3];exact q
 cases hb:(!cP ws (.tuple W') && decide ((ws.length:Int) < (m:Int))) with
 | true=>
  rw[hb] at t2
  rw[X7,Bool.not_eq_true',Z8] at hb
  have hz:ws.length < sizeLine:=X3 (show ws.length < 100 by omega) (!8)
  refine⟨ws++[.tuple W'],tN z,tT W',g.snoc iw.bp iw.lay hb.1,λx hx=> ?_,by rw[K2,X8];omega,by simp,pre _ ((xU t2).trans ?_)⟩
  ·rcases K1.mp hx with hx | hx
   ·exact hw x hx
   ·rw[K7.mp hx];exact iw
  ·simp![Ou,aq Pm,hz]
 | false=>
  rw[hb] at t2
  refine⟨ws,tN z,tT W',g,hw,hl,?_,pre _ ((xV t2).trans rfl)⟩
  cases ws with
  | nil=>
   have:(!cP [] (PyData.tuple W') && decide ((([]:List Zy).length:Int) < (m:Int)))=true:=by
    rw[Z3 (show((([]:List Zy).length:Nat):Int) < (m:Int) by simp;omega)];rfl
   rw[hb] at this
   cases this
  | cons a b=>simp
theorem GV (ns:List Int)(h:Nat)(h2:2<=h)(h4:h<=4)(m:Nat)(hm:m<=3)(hm1:1<=m):∃ws:List Zy,kX [.list (!6),.int (h:Int),.int (m:Int)]=ah (true,.list ws)/\Good ws/\(∀x∈ws,AH x)/\1<=ws.length/\ws.length<=m:=by
 have c1:=jf ns 1 (!8)
 obtain⟨w0,g0,i0,l0,e0⟩:∃w0:List Zy,Good w0/\(∀x∈w0,AH x)/\w0.length<=1/\(hJ (tE (bg oY (bg fX (az aD [(eV 0),(eC (.int 1))]) (eC (.int 2))) (eC (.int 1)))) (iD 3 (fV [])) cc) [fL (!6),fN h,fN m,tL [],none,none,none]=ah (.nx [fL (!6),fN h,fN m,tL w0,none,none,none]):=by
  cases hb:(ff ns 1 % 2==1) with
  | false=>exact⟨[],rG,(λx hx=>by cases hx),by simp,by simp![c1,hb]⟩
  | true=>
   have e:cQ (Kd.fr []) (.tuple [])= .fr []:=rfl
   have hz:0 < sizeLine:=by decide
   exact⟨[.tuple []],rG.snoc (x:=.tuple []) rfl (λ_=>rfl) rfl,λx hx=>by rw[K7.mp hx];exact⟨[],rfl,(λy hy=>by cases hy),by simp⟩,by simp,by simp![c1,hb,e,hz]⟩
 obtain⟨Γ',k1,ws,c4,c5,c6,rfl,k2,k3,k4,k5⟩:=bA (g:=cy 4) (b:=db) (ds:=(List.range m).map λ(i:Nat)=>PyData.int (i:Int)) (Γ:=[fL (!6),fN h,fN m,tL w0,none,none,none])
  (λi Γ=>∃(ws:List Zy) (c4 c5 c6:Sl),Γ=[fL (!6),fN h,fN m,tL ws,c4,c5,c6]/\Good ws/\(∀x∈ws,AH x)/\ws.length<=m/\(0 < i->1<=ws.length))
  ⟨w0,none,none,none,rfl,g0,i0,by omega,λz=>absurd z (U2 _)⟩ (by
  rintro i d Γ hd ⟨ws,c4,c5,c6,rfl,q1,q2,q3,q4⟩
  obtain⟨rfl,hi⟩:=ce hd
  obtain⟨ws',sF,jy,r1,r2,r3,r4,r5⟩:=BR ns h h2 h4 m i hm hm1 (!1) ws q1 q2 q3 c5 c6
  exact⟨_,_,rfl,.inl r5,ws',_,sF,jy,rfl,r1,r2,r3,λ_=>r4⟩)
 rw[K6,X9] at k5
 refine⟨ws,?_,k2,k3,k5 (!1),k4⟩
 have hmt:(m:Int).toNat=m:=Ky m
 have s1:(aB 3 (cF [])) (cG 7 [.list (!6),.int (h:Int),.int (m:Int)])=ah (.nx [fL (!6),fN h,fN m,tL [],none,none,none]):=rfl
 have s3:(bD (fi (eV 2)) (cy 4) db) [fL (!6),fN h,fN m,tL w0,none,none,none]=ah (.nx [fL (!6),fN h,fN m,tL ws,c4,c5,c6]):=by
  simp![hmt,k1]
 refine bR ?_
 unfold kU
 rw[aE s1,aE e0,aE s3]
 rfl
theorem Ov (a b c d:Zy):jZ [a,b,c,d] 0=some a:=rfl
theorem Ow (a b c d:Zy):jZ [a,b,c,d] 1=some b:=rfl
theorem Ox (a b c d:Zy):jZ [a,b,c,d] 2=some c:=rfl
theorem Oy (a b c d:Zy):jZ [a,b,c,d] 3=some d:=rfl
def Cb (h:Nat)(x:Zy):Prop:=∃vs:List Int,x= .tuple (vs.map PyData.int)/\vs.length=h
theorem Cb.bp (i:Cb h x):bp x=true:=by
 obtain⟨vs,rfl,_⟩:=i
 exact bG vs
theorem Cb.lay (i:Cb h x)(n:Nat):lay (n+3) x=true:=by
 obtain⟨vs,rfl,_⟩:=i
 rw[Y.lay];exact Bx vs
theorem AI (a b c q:Int):∃z:Int,jZ [PyData.int a,.int b,.int c] (q % 4 % 3)=some (.int z):=by
 have h1:=UW (q % 4) (show(3:Int)≠0 by decide)
 have h2:=UX (q % 4) (show(0:Int) < 3 by decide)
 have hc:q % 4 % 3=0∨q % 4 % 3=1∨q % 4 % 3=2:=by omega
 rcases hc with e | e | e <;> rw[e]
 ·exact⟨a,rfl⟩
 ·exact⟨b,rfl⟩
 ·exact⟨c,rfl⟩
theorem Eu (a b c q:Int)(j:Nat)(hj:j < 4):∃z:Int,bC [fN j,fL [.int a,.int b,.int c],fI q]=ah (.fr [],.int z):=by
 have hc:j=0∨j=1∨j=2∨j=3:=by omega
 rcases hc with rfl | rfl | rfl | rfl
 ·obtain⟨z,e⟩:=AI a b c (q / 1)
  exact⟨z,by simp![bC,Int.cast_ofNat_Int,Int.natCast_zero,Ov,e]⟩
 ·obtain⟨z,e⟩:=AI a b c (q / 4)
  exact⟨z,by simp![bC,Int.cast_ofNat_Int,Int.natCast_one,Ow,e]⟩
 ·obtain⟨z,e⟩:=AI a b c (q / 16)
  exact⟨z,by simp![bC,Int.cast_ofNat_Int,Ox,e]⟩
 ·obtain⟨z,e⟩:=AI a b c (q / 64)
  exact⟨z,by simp![bC,Int.cast_ofNat_Int,Oy,e]⟩
def Oz:SF:=aB 6 (az cT [(az aD [(eV 0),(bg fY (eC (.int 8)) (eV 5))]),(bg fY (eC (.int 300)) (eV 5))])
def OA:SF:=aB 7 (jA fz [(bv (fi (eV 1)) [3,6] cW bC)])
def Na:TF:=tE (bg dm (eV 7) (eV 4))
def OB:SF:=iD 4 (eV 7)
theorem zt:cf=aw Oz (aw OA (hJ Na OB cc)):=rfl
theorem xY (ns:List Int)(h:Nat)(h4:h<=4)(m:Zy)(a b c:Int)(k:Nat)(hk:k < 6)(ss:List Zy)(g:Good ss)(hs:∀x∈ss,Cb h x)(hl:ss.length<=k)(c6 c7:Sl) :
  ∃(ss':List Zy) (jy fc:Sl),Good ss'/\(∀x∈ss',Cb h x)/\ss'.length<=k+1/\1<=ss'.length/\cf [fL (!6),fN h,fA m,tL [.int a,.int b,.int c],tL ss,tN k,c6,c7]=ah (.nx [fL (!6),fN h,fA m,tL [.int a,.int b,.int c],tL ss',tN k,jy,fc]):=by
 have c1:=jf ns (8+(k:Int)) (!1)
 obtain⟨z,_,m1⟩:=zq (ff ns (8+(k:Int))) (300+(k:Int)) (!1) (!1)
 have s1:Oz [fL (!6),fN h,fA m,tL [.int a,.int b,.int c],tL ss,tN k,c6,c7]=ah (.nx [fL (!6),fN h,fA m,tL [.int a,.int b,.int c],tL ss,tN k,tN z,c7]):=by
  simp![Oz,c1,m1]
 obtain⟨zs,z1,z2⟩:=xX (fe:=bC) (cap:=[fL [.int a,.int b,.int c],fN z]) ((!2).map λ(i:Nat)=>PyData.int (i:Int)) (λd hd=>by
  obtain⟨j,hj,rfl⟩:=Ku.mp hd
  exact Eu a b c (z:Int) j (by have:=X1.mp hj;omega))
 have Pd:zs.length=h:=by simpa using z1
 have k1:=eN zs PyData.int
 have m2:(zs.map λx=>(Kd.fr [],PyData.int x)).map Prod.snd=zs.map PyData.int:=by rw[X6];rfl
 have Qs:h<=100000:=by omega
 have tl:=cq (bG zs)
 have nz:=bG zs
 have s2:OA [fL (!6),fN h,fA m,tL [.int a,.int b,.int c],tL ss,tN k,tN z,c7]=ah (.nx [fL (!6),fN h,fA m,tL [.int a,.int b,.int c],tL ss,tN k,tN z,tT (zs.map PyData.int)]):=by
  simp![OA,bv,Ky,z2,k1,m2,Qs,tl]
 have iw:Cb h (.tuple (zs.map PyData.int)):=⟨zs,rfl,Pd⟩
 have nI:=Es (x:=.tuple (zs.map PyData.int)) (ws:=ss) (iw.lay 57) (g.l 57)
 have t2:Na [fL (!6),fN h,fA m,tL [.int a,.int b,.int c],tL ss,tN k,tN z,tT (zs.map PyData.int)]=ah (!cP ss (.tuple (zs.map PyData.int))):=by
  simp![Na,aq nz,nI]
 have pre:∀o,(hJ Na OB cc) [fL (!6),fN h,fA m,tL [.int a,.int b,.int c],tL ss,tN k,tN z,tT (zs.map PyData.int)]=o->cf [fL (!6),fN h,fA m,tL [.int a,.int b,.int c],tL ss,tN k,c6,c7]=o:=λo q=>by
  rw[zt,aE s1,aE s2];exact q
 cases hb:cP ss (.tuple (zs.map PyData.int)) with
 | false=>
  rw[hb] at t2
  have hz:ss.length < sizeLine:=X3 (show ss.length < 100 by omega) (!8)
  refine⟨ss++[.tuple (zs.map PyData.int)],tN z,tT (zs.map PyData.int),g.snoc iw.bp iw.lay hb,λx hx=> ?_,by rw[K2,X8];omega,by simp,pre _ ((xU t2).trans ?_)⟩
  ·rcases K1.mp hx with hx | hx
   ·exact hs x hx
   ·rw[K7.mp hx];exact iw
  ·simp![OB,aq nz,hz]
 | true=>
  rw[hb] at t2
  refine⟨ss,tN z,tT (zs.map PyData.int),g,hs,by omega,?_,pre _ ((xV t2).trans rfl)⟩
  cases ss with
  | nil=>cases hb
  | cons a b=>simp
theorem BS (ns:List Int)(h:Nat)(h4:h<=4)(m:Nat)(hm:m<=6)(hm1:1<=m):∃ss:List Zy,jo [.list (!6),.int (h:Int),.int (m:Int)]=ah (true,.list ss)/\Good ss/\(∀x∈ss,Cb h x)/\1<=ss.length/\ss.length<=6:=by
 obtain⟨a,b,c,v1⟩:=BP ns
 obtain⟨Γ',k1,ss,c5,c6,c7,rfl,k2,k3,k4,k5⟩:=bA (g:=cy 5) (b:=cf) (ds:=(List.range m).map λ(i:Nat)=>PyData.int (i:Int)) (Γ:=[fL (!6),fN h,fN m,tL [.int a,.int b,.int c],tL [],none,none,none])
  (λi Γ=>∃(ss:List Zy) (c5 c6 c7:Sl),Γ=[fL (!6),fN h,fN m,tL [.int a,.int b,.int c],tL ss,c5,c6,c7]/\Good ss/\(∀x∈ss,Cb h x)/\ss.length<=i/\(0 < i->1<=ss.length))
  ⟨[],none,none,none,rfl,rG,(λx hx=>by cases hx),K0 _,λz=>absurd z (U2 _)⟩ (by
  rintro i d Γ hd ⟨ss,c5,c6,c7,rfl,q1,q2,q3,q4⟩
  obtain⟨rfl,hi⟩:=ce hd
  obtain⟨ss',jy,fc,r1,r2,r3,r4,r5⟩:=xY ns h h4 (.int (m:Int)) a b c i (!1) ss q1 q2 q3 c6 c7
  exact⟨_,_,rfl,.inl r5,ss',_,jy,fc,rfl,r1,r2,r3,λ_=>r4⟩)
 rw[K6,X9] at k4 k5
 refine⟨ss,?_,k2,k3,k5 (!1),by omega⟩
 have hmt:(m:Int).toNat=m:=Ky m
 have s1:(aB 3 (az de [(eV 0)])) (cG 8 [.list (!6),.int (h:Int),.int (m:Int)])=ah (.nx [fL (!6),fN h,fN m,tL [.int a,.int b,.int c],none,none,none,none]):=by
  simp![v1]
 have s2:(aB 4 (cF [])) [fL (!6),fN h,fN m,tL [.int a,.int b,.int c],none,none,none,none]=ah (.nx [fL (!6),fN h,fN m,tL [.int a,.int b,.int c],tL [],none,none,none]):=rfl
 have s3:(bD (fi (eV 2)) (cy 5) cf) [fL (!6),fN h,fN m,tL [.int a,.int b,.int c],tL [],none,none,none]=ah (.nx [fL (!6),fN h,fN m,tL [.int a,.int b,.int c],tL ss,c5,c6,c7]):=by
  simp![hmt,k1]
 refine bR ?_
 unfold jn
 rw[aE s1,aE s2,aE s3]
 rfl
theorem GW (ns:List Int):∃(h:Nat) (ws ss:List Zy) (k:Nat),2<=h/\h<=4/\Good ws/\(∀x∈ws,AH x)/\1<=ws.length/\ws.length<=3/\Good ss/\(∀x∈ss,Cb h x)/\1<=ss.length/\ss.length<=6/\k<=3/\gI [.list (!6)]=ah (false,.tuple [.int (h:Int),.list ws,.int (k:Int),.list ss]):=by
 have c0:=jf ns 0 (!8)
 have c7:=jf ns 7 (!8)
 generalize ff ns 0=z at c0
 generalize ff ns 7=y at c7
 have b1:=UW z (show(3:Int)≠0 by decide)
 have b2:=UX z (show(0:Int) < 3 by decide)
 have b3:=UW (y / 2) (show(6:Int)≠0 by decide)
 have b4:=UX (y / 2) (show(0:Int) < 6 by decide)
 obtain⟨sm,hsm⟩:=YZ (show(0:Int)<=1+y / 2 % 6 by omega)
 have hsm:1+y / 2 % 6=(sm:Int):=hsm
 obtain⟨h,m,q,hh,h2,h4,m1,m3,q1,q4,e1,e2⟩:∃(h m q:Nat),2+z % 3=(h:Int)/\2<=h/\h<=4/\1<=m/\m<=3/\1<=q/\q<=4/\jZ [PyData.int 3,.int 3,.int 2] ((h:Int) - 2)=some (.int (m:Int))/\jZ [PyData.int 4,.int 3,.int 3] ((h:Int) - 2)=some (.int (q:Int)):=by
  have hc:z % 3=0∨z % 3=1∨z % 3=2:=by omega
  rcases hc with e | e | e <;> rw[e]
  ·exact⟨2,3,4,rfl,by decide,by decide,by decide,by decide,by decide,by decide,rfl,rfl⟩
  ·exact⟨3,3,3,rfl,by decide,by decide,by decide,by decide,by decide,by decide,rfl,rfl⟩
  ·exact⟨4,2,3,rfl,by decide,by decide,by decide,by decide,by decide,by decide,rfl,rfl⟩
 have q0:(0:Int) < (q:Int):=by omega
 have d1:=UW (z / 3) (show(q:Int)≠0 by omega)
 have d2:=UX (z / 3) q0
 obtain⟨k,hk⟩:=YZ d1
 have hk:z / 3 % (q:Int)=(k:Int):=hk
 obtain⟨ws,w1,w2,w3,w4,w5⟩:=GV ns h h2 h4 m m3 m1
 obtain⟨ss,s1,s2,s3,s4,s5⟩:=BS ns h h4 sm (!1) (!1)
 refine⟨h,ws,ss,k,h2,h4,w2,w3,w4,by omega,s2,s3,s4,s5,by omega,?_⟩
 have nt:∀kk,cQ kk (.tuple [.int (h:Int),.list ws,.int (k:Int),.list ss])=kk:=λkk=>rfl
 simp![gI,kY,i6,mI,bV,c0,c7,hh,hsm,e1,e2,hk,w1,s1,nt]
theorem xZ (d0 d1 d2 d3 d4 d8 d9:Sl)(r:List Zy)(hr:ar r=true)(hrl:r.length<=10):∀(l acc:List Zy) (c7:Sl),ar l=true->acc.length+l.length<=10000->∃fc:Sl,bw (cy 7) jt l [d0,d1,d2,d3,d4,tL acc,tT r,c7,d8,d9]=
  ah (.nx [d0,d1,d2,d3,d4,tL (acc++l.map λw=> .tuple (r++[w])),tT r,fc,d8,d9])
 | [],acc,c7,_,_=>⟨c7,by simp[bw]⟩
 | w :: l,acc,c7,hn,hl=>by
  simp only[ar,X7] at hn
  rw[Kj] at hl
  obtain⟨fc,ih⟩:=xZ d0 d1 d2 d3 d4 d8 d9 r hr hrl l (acc++[.tuple (r++[w])]) (tA w) hn.2 (by rw[K2,X8];omega)
  refine⟨fc,?_⟩
  have hs:cy 7 (cQ .base w) w [d0,d1,d2,d3,d4,tL acc,tT r,c7,d8,d9]=some [d0,d1,d2,d3,d4,tL acc,tT r,tA w,d8,d9]:=by rw[bt hn.1];rfl
  have nw:ar [w]=true:=by simp only[ar,hn.1,XQ]
  have ga:=Ep hr nw (Kw (show r.length+[w].length<=100 by simp;omega) (!8))
  have hz:acc.length < sizeLine:=X3 (show acc.length < 100000 by omega) (!8)
  refine ym hs (by simp only[jt,rn,reduceIte,aq hr,bt hn.1,aq nw,ga,hz];rfl) ?_
  refine ih.trans ?_
  rw[Kq,X5];rfl
theorem x4 (ws:List Zy)(g:Good ws)(hw:ws.length<=8)(d1 d2 d3 d4 d8 d9:Sl):∀(l:List (List Zy)) (acc:List Zy) (c6 c7:Sl),(∀r∈l,ar r=true/\r.length<=10)->acc.length+l.length*ws.length<=9000->∃jy fc:Sl,bw (cy 6) gz (tups l) [fL ws,d1,d2,d3,d4,tL acc,c6,c7,d8,d9]=
  ah (.nx [fL ws,d1,d2,d3,d4,tL (acc++tups (l.flatMap λr=>ws.map λw=>r++[w])),jy,fc,d8,d9])
 | [],acc,c6,c7,_,_=>⟨c6,c7,by simp[bw,tups]⟩
 | r :: l,acc,c6,c7,hl,hb=>by
  obtain⟨h1,h2⟩:=hl r K9
  have em:(r :: l).length*ws.length=l.length*ws.length+ws.length:=by rw[Kj,Yj]
  rw[em] at hb
  obtain⟨fc,e⟩:=xZ (fL ws) d1 d2 d3 d4 d8 d9 r h1 h2 ws acc c7 g.n (!1)
  obtain⟨Ey,Ez,ih⟩:=x4 ws g hw d1 d2 d3 d4 d8 d9 l (acc++ws.map λw=> .tuple (r++[w])) (tT r) fc (λx hx=>hl x (K8 _ hx)) (by rw[K2,K6];omega)
  refine⟨Ey,Ez,?_⟩
  have hs:cy 6 (cQ .base (.tuple r)) (.tuple r) [fL ws,d1,d2,d3,d4,tL acc,c6,c7,d8,d9]=some [fL ws,d1,d2,d3,d4,tL acc,tT r,c7,d8,d9]:=by rw[aq h1];rfl
  refine ym hs (by simp only[gz,rn,reduceIte,e];rfl) ?_
  refine ih.trans ?_
  rw[List.flatMap_cons,xT,X5]
  congr 8
  simp[tups]
theorem x5 (d0 d1 d2 d3 d4 d5 d7:Sl)(s:Zy)(hs:bp s=true):∀(l:List (List Zy)) (acc:List Zy) (c6:Sl),(∀r∈l,ar r=true)->acc.length+l.length<=9000->∃jy:Sl,bw (cy 6) gA (tups l) [d0,d1,d2,d3,d4,d5,c6,d7,tL acc,tA s]=
  ah (.nx [d0,d1,d2,d3,d4,d5,jy,d7,tL (acc++pairD s l),tA s])
 | [],acc,c6,_,_=>⟨c6,by simp[bw,tups,pairD]⟩
 | r :: l,acc,c6,hl,hb=>by
  have h1:=hl r K9
  rw[Kj] at hb
  obtain⟨jy,ih⟩:=x5 d0 d1 d2 d3 d4 d5 d7 s hs l (acc++[.tuple [s,.tuple r]]) (tT r) (λx hx=>hl x (K8 _ hx)) (by rw[K2,X8];omega)
  refine⟨jy,?_⟩
  have hg:cy 6 (cQ .base (.tuple r)) (.tuple r) [d0,d1,d2,d3,d4,d5,c6,d7,tL acc,tA s]=some [d0,d1,d2,d3,d4,d5,tT r,d7,tL acc,tA s]:=by rw[aq h1];rfl
  have nt:ar [s,.tuple r]=true:=by simp only[ar,hs,cS,h1,XQ]
  have hz:acc.length < sizeLine:=X3 (show acc.length < 100000 by omega) (!8)
  refine ym hg (by simp only[gA,rn,reduceIte,aq h1,bt hs,aq nt,hz];rfl) ?_
  refine ih.trans ?_
  rw[X5];rfl
theorem x6 (d0 d1 d2 d4 d5 d7:Sl)(R:List (List Zy))(hR:∀r∈R,ar r=true)(hRl:R.length<=1000):∀(l acc:List Zy) (c6 c9:Sl) (b3:Bool),(∀s∈l,bp s=true)->acc.length+l.length*R.length<=8000->∃(jy gN:Sl) (Nb:Bool),bw (cy 9) eH l [d0,d1,d2,some (b3,.list (tups R)),d4,d5,c6,d7,tL acc,c9]=
  ah (.nx [d0,d1,d2,some (Nb,.list (tups R)),d4,d5,jy,d7,tL (acc++l.flatMap λs=>pairD s R),gN])
 | [],acc,c6,c9,b3,_,_=>⟨c6,c9,b3,by simp[bw]⟩
 | s :: l,acc,c6,c9,b3,hl,hb=>by
  have h1:=hl s K9
  have em:(s :: l).length*R.length=l.length*R.length+R.length:=by rw[Kj,Yj]
  rw[em] at hb
  have pl:(pairD s R).length=R.length:=K6 _
  obtain⟨jy,e⟩:=x5 d0 d1 d2 (fL (tups R)) d4 d5 d7 s h1 R acc c6 hR (!1)
  obtain⟨Ey,vH,OC,ih⟩:=x6 d0 d1 d2 d4 d5 d7 R hR hRl l (acc++pairD s R) jy (tA s) false (λx hx=>hl x (K8 _ hx)) (by rw[K2,pl];omega)
  refine⟨Ey,vH,OC,?_⟩
  have hg:cy 9 (cQ .base s) s [d0,d1,d2,some (b3,.list (tups R)),d4,d5,c6,d7,tL acc,c9]=some [d0,d1,d2,some (b3,.list (tups R)),d4,d5,c6,d7,tL acc,tA s]:=by rw[bt h1];rfl
  have hb2:eH [d0,d1,d2,some (b3,.list (tups R)),d4,d5,c6,d7,tL acc,tA s]=ah (.nx [d0,d1,d2,fL (tups R),d4,d5,jy,d7,tL (acc++pairD s R),tA s]):=by
   have:∀b3:Bool,eH [d0,d1,d2,some (b3,.list (tups R)),d4,d5,c6,d7,tL acc,tA s]=bw (cy 6) gA (tups R) [d0,d1,d2,fL (tups R),d4,d5,c6,d7,tL acc,tA s]:=λb3=>by cases b3 <;> rfl
   rw[this];exact e
  refine ym hg hb2 ?_
  refine ih.trans ?_
  rw[List.flatMap_cons,X5]
theorem BU (g:Good ws)(hk:k<=5):∀r∈rws ws k,ar r=true/\r.length<=10:=λr hr=>⟨xS g hr,by have:=(nG hr).1;omega⟩
theorem zu (ws ss:List Zy)(k:Nat)(g:Good ws)(gs:Good ss)(hw1:1<=ws.length)(hw:ws.length<=3)(hk:k<=3)(hs:ss.length<=6):jc [.list ws,.int (k:Int),.list ss]=ah (true,.list (rJ ws ss k)):=by
 have hp:∀i,i<=3->ws.length^i<=27:=λi hi=>Kw (Nat.pow_le_pow_left hw i) (Kw (Nat.pow_le_pow_right (!8) hi) (!8))
 have hlen:∀i,(rws ws i).length=ws.length^i:=GS ws
 obtain⟨Γ',k1,c4,c5,c6,c7,rfl⟩:=bA (g:=cy 4) (b:=eG) (ds:=(List.range k).map λ(i:Nat)=>PyData.int (i:Int)) (Γ:=[fL ws,fN k,fL ss,tL (tups (rws ws 0)),none,none,none,none,none,none])
  (λi Γ=>∃c4 c5 c6 c7:Sl,Γ=[fL ws,fN k,fL ss,tL (tups (rws ws i)),c4,c5,c6,c7,none,none]) ⟨none,none,none,none,rfl⟩ (by
  rintro i d Γ hd ⟨c4,c5,c6,c7,rfl⟩
  obtain⟨rfl,hi⟩:=ce hd
  have hl1:=hlen i
  have hp1:=hp i (!1)
  have hm:(rws ws i).length*ws.length<=81:=by rw[hl1];exact Kw (Jk hp1 hw) (!8)
  obtain⟨jy,fc,e⟩:=x4 ws g (!1) (fN k) (fL ss) (fL (tups (rws ws i))) (tN i) none none (rws ws i) [] c6 c7 (BU g (!1)) (by rw[Y6];omega)
  have el:tups ((rws ws i).flatMap λr=>ws.map λw=>r++[w])=tups (rws ws (i+1)):=rfl
  rw[YU,el] at e
  have nn:bp (.list (tups (rws ws (i+1))))=false:=rfl
  have hs3:eG [fL ws,fN k,fL ss,tL (tups (rws ws i)),tN i,c5,c6,c7,none,none]=ah (.nx [fL ws,fN k,fL ss,tL (tups (rws ws (i+1))),tN i,none,jy,fc,none,none]):=by
   have e2:(bD (jB (eV 3)) (cy 6) gz) [fL ws,fN k,fL ss,tL (tups (rws ws i)),tN i,tL [],c6,c7,none,none]=ah (.nx [fL ws,fN k,fL ss,fL (tups (rws ws i)),tN i,tL (tups (rws ws (i+1))),jy,fc,none,none]):=e
   unfold eG
   rw[aE (show(aB 5 (cF [])) _=ah (.nx [fL ws,fN k,fL ss,tL (tups (rws ws i)),tN i,tL [],c6,c7,none,none]) from rfl),aE e2]
   rfl
  exact⟨_,_,rfl,.inl hs3,tN i,none,jy,fc,rfl⟩)
 rw[K6,X9] at k1
 have hl1:=hlen k
 have hp1:=hp k hk
 have hm:ss.length*(rws ws k).length<=162:=by rw[hl1];exact Kw (Jk hs hp1) (!8)
 obtain⟨jy,gN,Nb,e⟩:=x6 (fL ws) (fN k) (fL ss) c4 c5 c7 (rws ws k) (λr hr=>xS g hr) (!1) ss [] c6 none true (λs hs'=>gs.bp hs') (by rw[Y6];omega)
 have er:([]:List Zy)++(ss.flatMap λs=>pairD s (rws ws k))=rJ ws ss k:=vF ws ss k
 rw[er] at e
 have hkt:(k:Int).toNat=k:=Ky k
 have s1:(aB 3 (cF [(fV [])])) (cG 10 [.list ws,.int (k:Int),.list ss])=ah (.nx [fL ws,fN k,fL ss,tL (tups (rws ws 0)),none,none,none,none,none,none]):=rfl
 have s2:(bD (fi (eV 1)) (cy 4) eG) [fL ws,fN k,fL ss,tL (tups (rws ws 0)),none,none,none,none,none,none]=ah (.nx [fL ws,fN k,fL ss,tL (tups (rws ws k)),c4,c5,c6,c7,none,none]):=by
  simp![hkt,k1]
 have s3:(aB 8 (cF [])) [fL ws,fN k,fL ss,tL (tups (rws ws k)),c4,c5,c6,c7,none,none]=ah (.nx [fL ws,fN k,fL ss,tL (tups (rws ws k)),c4,c5,c6,c7,tL [],none]):=rfl
 have s4:(bD (jB (eV 2)) (cy 9) eH) [fL ws,fN k,fL ss,tL (tups (rws ws k)),c4,c5,c6,c7,tL [],none]=ah (.nx [fL ws,fN k,fL ss,some (Nb,.list (tups (rws ws k))),c4,c5,jy,c7,tL (rJ ws ss k),gN]):=e
 refine bR ?_
 unfold lb
 rw[aE s1,aE s2,aE s3,aE s4]
 cases Nb <;> rfl
abbrev Rn:=List Int×List (List Zy)
noncomputable def br (p:Rn):Zy:=jx p.1 p.2
theorem x8 {ws:List Zy}(hw:∀x∈ws,AH x):∀(l:List Zy),(∀x∈l,x∈ws)->∃Ws:List (List Zy),l=Ws.map PyData.tuple/\∀W∈Ws,BQ W/\W.length<=12
 | [],_=>⟨[],rfl,λW hW=>by cases hW⟩
 | x :: l,h=>by
  obtain⟨Ws,rfl,h2⟩:=x8 hw l λy hy=>h y (K8 _ hy)
  obtain⟨W,rfl,p1,p2⟩:=hw x (h x K9)
  refine⟨W :: Ws,rfl,λV hV=> ?_⟩
  rcases Kx.mp hV with rfl | hV
  ·exact⟨p1,p2⟩
  ·exact h2 V hV
theorem uc (hw:∀x∈ws,AH x)(hs:∀x∈ss,Cb h x)(hw1:1<=ws.length)(hk:k<=5):∀(l:List Nat),(∀N∈l,N < ss.length*ws.length^k)->∃L:List Rn,l.map (rH ws ss k)=L.map br/\L.length=l.length/\∀p∈L,sE h 12 p.1 p.2/\p.2.length=k
 | [],_=>⟨[],rfl,rfl,λp hp=>by cases hp⟩
 | N :: l,hN=>by
  obtain⟨L,e1,e2,e3⟩:=uc hw hs hw1 hk l λM hM=>hN M (K8 _ hM)
  have hq:N / ws.length^k < ss.length:=Nat.div_lt_of_lt_mul (by rw[Yz];exact hN N K9)
  obtain⟨vs,ev,lv⟩:=hs _ (getD_mem hq)
  obtain⟨Ws,eW,pW⟩:=x8 hw (lz ws (N % ws.length^k) k) λx hx=>xQ hw1 hx
  have Pn:Ws.length=k:=by
   have:=congrArg List.length eW
   rw[Em,K6] at this
   exact this.symm
  refine⟨(vs,Ws) :: L,?_,by rw[Kj,Kj,e2],λp hp=> ?_⟩
  ·rw[Kq,Kq,e1]
   congr 1
   show PyData.tuple [_,.tuple _]=PyData.tuple [_,.tuple _]
   rw[ev,eW]
  ·rcases Kx.mp hp with rfl | hp
   ·exact⟨⟨lv,by rw[Pn];exact hk,λW hW=>pW W hW⟩,Pn⟩
   ·exact e3 p hp
abbrev Gp:=List (Zy×List Nat)
def a7 (G:Gp):j3:=G.map λp=>(p.1,.list (p.2.map nat))
noncomputable def kH:Gp->Zy->Nat->Gp
 | [],x,i=> [(x,[i])]
 | p :: r,x,i=>if PyData.eqv p.1 x=true then (p.1,p.2++[i]) :: r else p :: kH r x i
theorem AJ:∀(G:Gp) (x:Zy) (i:Nat),(∀p∈G,p.2.length < sizeLine)->zP (a7 G) x (.int (i:Int))=some (a7 (kH G x i))
 | [],x,i,_=>rfl
 | p :: r,x,i,h=>by
  have h1:=h p K9
  show zP ((p.1,.list (p.2.map nat)) :: a7 r) x _=_
  rw[zP,kH]
  by_cases e:PyData.eqv p.1 x=true
  ·rw[Z4 e,Z4 e]
   have hn:ar (p.2.map nat)=true:=a9 _ (λ_=>rfl) _
   have hl:(p.2.map nat).length < sizeLine:=by rw[K6];exact h1
   simp only[hn,hl,and_self,if_true]
   simp[a7,nat]
  ·rw[Z5 e,Z5 e,AJ r x i λq hq=>h q (K8 _ hq)]
   rfl
theorem x9 :∀{G:Gp} {q:Zy×List Nat},q∈kH G x i->q∈G∨q=(x,[i])∨∃p∈G,q=(p.1,p.2++[i])
 | [],q,h=>by rw[kH] at h;exact .inr (.inl (K7.mp h))
 | p :: r,q,h=>by
  rw[kH] at h
  split at h
  ·rcases Kx.mp h with h | h
   ·exact .inr (.inr ⟨p,K9,h⟩)
   ·exact .inl (K8 _ h)
  ·rcases Kx.mp h with h | h
   ·exact .inl (h ▸ K9)
   ·rcases x9 h with h | h | ⟨p',h1,h2⟩
    ·exact .inl (K8 _ h)
    ·exact .inr (.inl h)
    ·exact .inr (.inr ⟨p',K8 _ h1,h2⟩)
theorem x_ :∀{G:Gp},(kH G x i).length<=G.length+1
 | []=>by simp[kH]
 | p :: r=>by
  rw[kH]
  split
  ·simp
  ·have:=x_ (x:=x) (i:=i) (G:=r);simp only[Kj];omega
structure ya (G:Gp)(b:Nat):Prop where
 k:∀p∈G,dz p.1=true/\p.2.length<=b
 l:G.length<=b
theorem ya.add (g:ya G b)(hx:dz x=true)(i:Nat):ya (kH G x i) (b+1) where
 k:=λq hq=>by
  rcases x9 hq with h | rfl | ⟨p,hp,rfl⟩
  ·have:=g.k q h;exact⟨this.1,by omega⟩
  ·exact⟨hx,by simp⟩
  ·have:=g.k p hp;exact⟨this.1,by rw[K2,X8];omega⟩
 l:=by have:=x_ (x:=x) (i:=i) (G:=G);have:=g.l;omega
theorem ya.mono (g:ya G b)(h:b<=c):ya G c:=⟨λp hp=>⟨(g.k p hp).1,Kw (g.k p hp).2 h⟩,Kw g.l h⟩
theorem ya.f6 (g:ya G b):f6 (a7 G)=true:=Uz.mpr λp hp=>by
 obtain⟨q,hq,rfl⟩:=Ku.mp hp
 exact(g.k q hq).1
theorem EA (G:Gp):(a7 G).length=G.length:=K6 _
theorem rK (hx:pl x=true):∀{G:Gp},(∀p∈G,pl p.1=true)->(x∉G.map (·.1)/\kH G x i=G++[(x,[i])])∨∃A l B,G=A++(x,l) :: B/\kH G x i=A++(x,l++[i]) :: B
 | [],_=> .inl ⟨by simp,rfl⟩
 | p :: r,h=>by
  have hp:=h p K9
  rw[kH]
  by_cases e:PyData.eqv p.1 x=true
  ·have e':=(gE hp hx).mp e
   rw[Z4 e]
   exact .inr ⟨[],p.2,r,by rw[←e'];rfl,by rw[←e'];rfl⟩
  ·have e':p.1≠x:=λz=>e ((gE hp hx).mpr z)
   rw[Z5 e]
   rcases rK hx (G:=r) λq hq=>h q (K8 _ hq) with⟨h1,h2⟩ | ⟨A,l,B,h1,h2⟩
   ·refine .inl ⟨?_,by rw[h2];rfl⟩
    rw[Kq,Kx]
    rintro(z | z)
    ·exact e' z.symm
    ·exact h1 z
   ·exact .inr ⟨p :: A,l,B,by rw[h1];rfl,by rw[h2];rfl⟩
structure GI (E:List (Zy×Nat))(G:Gp):Prop where
 nd:(G.map (·.1)).Nodup
 p:∀p∈G,pl p.1=true
 ne:∀p∈G,p.2≠[]
 mem:∀p∈G,∀i,i∈p.2↔(p.1,i)∈E
 key:∀e∈E,∃l,(e.1,l)∈G
theorem GI.add (g:GI E G)(hx:pl x=true)(i:Nat):GI (E++[(x,i)]) (kH G x i):=by
 rcases rK (i:=i) hx g.p with⟨h1,h2⟩ | ⟨A,l,B,rfl,h2⟩
 ·rw[h2]
  have hne:∀p∈G,p.1≠x:=λp hp z=>h1 (z ▸ Ku.mpr ⟨p,hp,rfl⟩)
  refine⟨?_,?_,?_,?_,?_⟩
  ·rw[X4]
   refine XZ.mpr ⟨g.nd,by simp,?_⟩
   intro a ha b hb
   rw[Kq,J0,K7] at hb
   intro z;exact h1 (by rw[←show a=x from z.trans hb];exact ha)
  ·intro p hp
   rcases K1.mp hp with h | h
   ·exact g.p p h
   ·rw[K7.mp h];exact hx
  ·intro p hp
   rcases K1.mp hp with h | h
   ·exact g.ne p h
   ·rw[K7.mp h];simp
  ·intro p hp j
   rcases K1.mp hp with h | h
   ·rw[g.mem p h j,K1,K7]
    exact⟨.inl,λz=>z.elim id λz=>absurd (congrArg Prod.fst z) (hne p h)⟩
   ·rw[K7.mp h,K1,K7,K7]
    constructor
    ·rintro rfl;exact .inr rfl
    ·rintro(z | z)
     ·obtain⟨l,hl⟩:=g.key _ z
      exact absurd rfl (hne _ hl)
     ·exact congrArg Prod.snd z
  ·intro e he
   rcases K1.mp he with h | h
   ·obtain⟨l,hl⟩:=g.key e h
    exact⟨l,KY _ hl⟩
   ·rw[K7.mp h];exact⟨[i],Kk _ (K7.mpr rfl)⟩
 ·rw[h2]
  have nd:=g.nd
  rw[X4,Kq] at nd
  have hA:∀p∈A,p.1≠x:=λp hp=>(XZ.mp nd).2.2 _ (Ku.mpr ⟨p,hp,rfl⟩) _ K9
  have hB:∀p∈B,p.1≠x:=λp hp z=>(KQ.mp (XZ.mp nd).2.1).1 (Ku.mpr ⟨p,hp,z⟩)
  have old:∀p,p∈A∨p∈B->p∈A++(x,l) :: B/\p.1≠x:=λp hp=>hp.elim (λh=>⟨KY _ h,hA p h⟩) λh=>⟨Kk _ (K8 _ h),hB p h⟩
  have cs:∀p,p∈A++(x,l++[i]) :: B->(p∈A∨p∈B)∨p=(x,l++[i]):=λp hp=>by
   rcases K1.mp hp with h | h
   ·exact .inl (.inl h)
   ·rcases Kx.mp h with h | h
    ·exact .inr h
    ·exact .inl (.inr h)
  have xl:(x,l)∈A++(x,l) :: B:=Kk _ K9
  refine⟨?_,?_,?_,?_,?_⟩
  ·rw[X4,Kq];exact nd
  ·intro p hp
   rcases cs p hp with h | rfl
   ·exact g.p p (old p h).1
   ·exact hx
  ·intro p hp
   rcases cs p hp with h | rfl
   ·exact g.ne p (old p h).1
   ·simp
  ·intro p hp j
   rcases cs p hp with h | rfl
   ·rw[g.mem p (old p h).1 j,K1,K7]
    exact⟨.inl,λz=>z.elim id λz=>absurd (congrArg Prod.fst z) (old p h).2⟩
   ·rw[K1,K1,K7,K7,g.mem _ xl j]
    exact⟨λz=>z.elim .inl λz=> .inr (by rw[z]),λz=>z.elim .inl λz=> .inr (congrArg Prod.snd z)⟩
  ·intro e he
   rcases K1.mp he with h | h
   ·obtain⟨l',hl⟩:=g.key e h
    rcases K1.mp hl with h | h
    ·exact⟨l',KY _ h⟩
    ·rcases Kx.mp h with h | h
     ·rw[show e.1=x from congrArg Prod.fst h];exact⟨_,Kk _ K9⟩
     ·exact⟨l',Kk _ (K8 _ h)⟩
   ·rw[K7.mp h];exact⟨_,Kk _ K9⟩
def kK (h:Nat)(p:Rn):List Zy:=(!2).map (bf p.1 p.2)
def sG (i:Nat)(xs:List Zy)(G:Gp):Gp:=xs.foldl (λG x=>kH G x i) G
noncomputable def sH (h:Nat):Nat->List Rn->Gp->Gp
 | _,[],G=>G
 | i,p :: L,G=>sH h (i+1) L (sG i (kK h p) G)
noncomputable def Ko (h:Nat):Nat->List Rn->List (Zy×Nat)
 | _,[]=> []
 | i,p :: L=>(kK h p).map (λx=>(x,i))++Ko h (i+1) L
theorem GI.sG :∀{xs:List Zy} {E:List (Zy×Nat)} {G:Gp},GI E G->(∀x∈xs,pl x=true)->GI (E++xs.map λx=>(x,i)) (sG i xs G)
 | [],E,G,g,_=>by simpa [K43.sG] using g
 | x :: xs,E,G,g,h=>by
  have:=GI.sG (i:=i) (g.add (h x K9) i) λy hy=>h y (K8 _ hy)
  rw[X5] at this
  exact this
theorem Kp :∀x∈kK h p,pl x=true:=λx hx=>by
 obtain⟨k,_,rfl⟩:=Ku.mp hx
 exact ip _ _ _
theorem GI.grp :∀{L:List Rn} {i:Nat} {E:List (Zy×Nat)} {G:Gp},GI E G->GI (E++Ko h i L) (sH h i L G)
 | [],i,E,G,g=>by simpa [Ko,sH] using g
 | p :: L,i,E,G,g=>by
  have:=GI.grp (L:=L) (i:=i+1) (h:=h) (g.sG (i:=i) (Kp (h:=h) (p:=p)))
  rw[X5] at this
  exact this
theorem Kr:GI [] []:=⟨by simp,(λp hp=>by cases hp),(λp hp=>by cases hp),(λp hp=>by cases hp),(λp hp=>by cases hp)⟩
theorem AK :∀{L:List Rn} {i:Nat},(x,j)∈Ko h i L↔∃m p,L[m]? =some p/\j=i+m/\∃k,k < h/\x=bf p.1 p.2 k
 | [],i=>by simp[Ko]
 | p :: L,i=>by
  rw[Ko,K1,AK (L:=L) (i:=i+1)]
  constructor
  ·rintro(z | ⟨m,q,h1,h2,h3⟩)
   ·obtain⟨y,hy,e⟩:=Ku.mp z
    obtain⟨k,hk,rfl⟩:=Ku.mp hy
    exact⟨0,p,rfl,(congrArg Prod.snd e).symm,k,X1.mp hk,(congrArg Prod.fst e).symm⟩
   ·exact⟨m+1,q,by simpa using h1,by omega,h3⟩
  ·rintro⟨m,q,h1,h2,k,hk,rfl⟩
   cases m with
   | zero=>
    have:p=q:=by simpa using h1
    subst this
    refine .inl (Ku.mpr ⟨_,Ku.mpr ⟨k,X1.mpr hk,rfl⟩,?_⟩)
    rw[h2];rfl
   | succ m=>exact .inr ⟨m,q,by simpa using h1,by omega,k,hk,rfl⟩
theorem iz :∀{xs:List Zy},nests n xs=true↔∀x∈xs,nest n x=true
 | []=>by simp[nests]
 | x :: xs=>by rw[nests,X7,iz (xs:=xs)];simp
theorem EB (h:Nat)(W:List Zy)(H:List Nat)(k n:Nat):nest (n+1) (b9 h W H k)=true:=by
 unfold b9
 split
 ·rw[nest];exact iz.mpr λx hx=>by obtain⟨o,_,rfl⟩:=Ku.mp hx;cases n <;> rfl
 ·rfl
theorem ud :∀{R:List (List Zy)} {H:List Nat},∀x∈rows h R H,nest (n+2) x=true
 | [],H,x,hx=>by cases hx
 | W :: R,H,x,hx=>by
  rw[rows] at hx
  rcases Kx.mp hx with rfl | hx
  ·rw[nest];exact iz.mpr λy hy=>by obtain⟨o,_,rfl⟩:=Ku.mp hy;exact EB _ _ _ _ _
  ·exact ud x hx
theorem oj (vs:List Int)(Ws:List (List Zy))(hand:Nat):dz (bf vs Ws hand)=true:=by
 unfold bf
 rw[dz]
 refine iz.mpr λx hx=> ?_
 rcases Kx.mp hx with rfl | hx
 ·rfl
 rcases Kx.mp hx with rfl | hx
 ·rw[nest];refine iz.mpr λy hy=> ?_
  obtain⟨o,_,rfl⟩:=Ku.mp hy
  unfold bT
  split <;> rfl
 ·rw[K7.mp hx,nest]
  exact iz.mpr λy hy=>ud y (Uy.mp hy)
theorem om (e:bf vs Ws k=bf vs' QK k'):k=k':=by
 unfold bf at e
 injection e with e
 injection e with e _
 injection e with e
 omega
theorem vI :∀{xs:List Zy} {G:Gp} {b:Nat},ya G b->(∀x∈xs,dz x=true)->ya (sG i xs G) (b+xs.length)
 | [],G,b,g,_=>g
 | x :: xs,G,b,g,h=>by
  have:=vI (i:=i) (g.add (h x K9) i) λy hy=>h y (K8 _ hy)
  rw[Kj,show b+(xs.length+1)=b+1+xs.length by omega]
  exact this
theorem rM :∀x∈kK h p,dz x=true:=λx hx=>by
 obtain⟨k,_,rfl⟩:=Ku.mp hx
 exact oj _ _ _
theorem AL (h:Nat)(p:Rn):(kK h p).length=h:=by unfold kK;rw[K6,X9]
theorem AM :∀{L:List Rn} {i:Nat} {G:Gp} {b:Nat},ya G b->ya (sH h i L G) (b+L.length*h)
 | [],i,G,b,g=>by simpa [sH] using g
 | p :: L,i,G,b,g=>by
  have:=AM (L:=L) (i:=i+1) (h:=h) (vI (i:=i) g (rM (h:=h) (p:=p)))
  rw[AL] at this
  rw[Kj,Yj,show b+(L.length*h+h)=b+h+L.length*h by omega]
  exact this
def vw (L:List Rn)(i k:Nat):Zy:=bf (L.getD i ([],[])).1 (L.getD i ([],[])).2 k
structure EZ (n h:Nat)(vw:Nat->Nat->Zy)(G:Gp):Prop where
 g:∀p∈G,∃k,k < h/\∀i,i∈p.2↔i < n/\vw i k=p.1
 ne:∀p∈G,p.2≠[]
 get:∀i k,i < n->k < h->∃l,d6 (a7 G) (vw i k)=some (.list (l.map nat))/\(vw i k,l)∈G
 ok:ya G 1000
 hand:∀i j k k',vw i k=vw j k'->k=k'
theorem EZ.mem_of {n h:Nat}{vw:Nat->Nat->Zy}{G:Gp}(g:EZ n h vw G){a k:Nat}{l:List Nat}(hl:(vw a k,l)∈G)(b:Nat):b∈l↔b < n/\vw b k=vw a k:=by
 obtain⟨k',hk',hm⟩:=g.g _ hl
 obtain⟨i0,hi0⟩:=List.exists_mem_of_ne_nil _ (g.ne _ hl)
 have:k'=k:=g.hand _ _ _ _ ((hm i0).mp hi0).2
 subst this
 exact hm b
theorem yb (hx:pl x=true):∀{G:Gp},(∀p∈G,pl p.1=true)->(∃l,(x,l)∈G)->∃l,d6 (a7 G) x=some (.list (l.map nat))/\(x,l)∈G
 | [],_,⟨l,h⟩=>by cases h
 | p :: r,hp,⟨l,h⟩=>by
  have h1:=hp p K9
  by_cases e:PyData.eqv p.1 x=true
  ·have e':=(gE h1 hx).mp e
   refine⟨p.2,?_,by rw[←e'];exact K9⟩
   show(List.find? _ ((p.1,PyData.list (p.2.map nat)) :: a7 r)).map _=_
   rw[U5,e];rfl
  ·have:(x,l)∈r:=by
    rcases Kx.mp h with h | h
    ·exact absurd ((gE h1 hx).mpr (by rw[←h])) e
    ·exact h
   obtain⟨l',h3,h4⟩:=yb hx (G:=r) (λq hq=>hp q (K8 _ hq)) ⟨l,this⟩
   refine⟨l',?_,K8 _ h4⟩
   show(List.find? _ ((p.1,PyData.list (p.2.map nat)) :: a7 r)).map _=_
   rw[U5,Bool.eq_false_iff.mpr e];exact h3
theorem EC (L:List Rn)(hb:L.length*h<=1000):EZ L.length h (vw L) (sH h 0 L []):=by
 have gi:=GI.grp (L:=L) (i:=0) (h:=h) Kr
 rw[YU] at gi
 have ok:ya (sH h 0 L []) 1000:=(AM (L:=L) (i:=0) (h:=h) (G:=[]) (b:=0) ⟨(λp hp=>by cases hp),by simp⟩).mono (!1)
 have ev:∀{x:Zy} {j:Nat},(x,j)∈Ko h 0 L↔j < L.length/\∃k,k < h/\x=vw L j k:=by
  intro x j
  rw[AK]
  constructor
  ·rintro⟨m,p,h1,h2,k,hk,rfl⟩
   obtain rfl:j=m:=by omega
   obtain⟨hm,e⟩:=Xz.mp h1
   refine⟨hm,k,hk,?_⟩
   unfold vw
   rw[KW,h1];rfl
  ·rintro⟨hj,k,hk,rfl⟩
   refine⟨j,L[j],K5 hj,by omega,k,hk,?_⟩
   unfold vw
   rw[KW,K5 hj];rfl
 refine⟨?_,gi.ne,?_,ok,λi j k k' e=>om e⟩
 ·intro p hp
  obtain⟨i0,hi0⟩:=List.exists_mem_of_ne_nil _ (gi.ne p hp)
  obtain⟨h1,k,hk,e⟩:=ev.mp ((gi.mem p hp i0).mp hi0)
  refine⟨k,hk,λi=> ?_⟩
  rw[gi.mem p hp i,ev]
  constructor
  ·rintro⟨h2,k',hk',e'⟩
   have:k=k':=om (e.symm.trans e')
   subst this
   exact⟨h2,e'.symm⟩
  ·rintro⟨h2,e'⟩;exact⟨h2,k,hk,e'.symm⟩
 ·intro i k hi hk
  exact yb (ip _ _ _) gi.p (gi.key (vw L i k,i) (ev.mpr ⟨hi,k,hk,rfl⟩))
def E1 (h:Nat)(L:List Rn):Prop:=∀p∈L,sE h 12 p.1 p.2
theorem ku (w:sE h b p.1 p.2):bp (br p)=true:=nE w
theorem rN (hh:h<=4)(w:sE h 12 p.1 p.2):iL [.int (h:Int),br p]=ah (true,.list (kK h p)):=by
 have hc:=jO (fe:=kj) (cap:=[fA (br p)]) ((!2).map λ(i:Nat)=>PyData.int (i:Int))
  (λd=>match d with | .int k=>(.fr [],bf p.1 p.2 k.toNat) | _=>(.fr [],.none)) (λd hd=>by
   obtain⟨k,hk,rfl⟩:=Ku.mp hd
   have hk:=X1.mp hk
   have e:=w.view hh hk
   simp![kj,br,e,bt (nE w),bt (jU p.1 p.2 k),Ky])
 have e1:(((!2).map λ(i:Nat)=>PyData.int (i:Int)).map λd=>match d with | .int k=>(Kd.fr [],bf p.1 p.2 k.toNat) | _=>(Kd.fr [],PyData.none))=(!2).map λk=>(Kd.fr [],bf p.1 p.2 k):=by
  rw[X6];refine UU λk _=> ?_;simp only[Function.comp,Ky]
 rw[e1] at hc
 have k1:=eN (!2) λk=>bf p.1 p.2 k
 have e2:((!2).map λk=>(Kd.fr [],bf p.1 p.2 k)).map Prod.snd=kK h p:=by rw[X6];rfl
 have hle:h<=100000:=by omega
 simp![iL,my,bv,hc,k1,e2,hle,Ky]
theorem nJ {α:Type}(f:α->Zy)(g:α->Kd×Zy):∀(l:List α),(∀a∈l,fe (fA (f a) :: cap)=ah (g a))->bW cW fe cap (l.map f)=some (l.map g)
 | [],_=>rfl
 | a :: l,h=>by
  have h1:=h a K9
  rw[Kq,bW]
  simp only[cW,ah] at h1⊢
  rw[h1]
  simp only
  rw[nJ f g l λb hb=>h b (K8 _ hb)]
  rfl
def aS (h:Nat)(L:List Rn):List Zy:=L.map λp=> .list (kK h p)
theorem yc (hh:h<=4)(r:E1 h L)(hl:L.length<=1000):dJ [.int (h:Int),.list (L.map br)]=ah (true,.list (aS h L)):=by
 have hc:=nJ (fe:=f_) (cap:=[fN h]) br (λp=>(Kd.fr [],PyData.list (kK h p))) L (λp hp=>by
  have w:=r p hp
  have e:=rN hh w
  simp![f_,e,bt (ku w)])
 have k1:=eN L λp=>PyData.list (kK h p)
 have e2:(L.map λp=>(Kd.fr [],PyData.list (kK h p))).map Prod.snd=aS h L:=by rw[X6];rfl
 have hle:L.length<=100000:=by omega
 simp![dJ,iM,bv,hc,k1,e2,hle]
theorem Kt (h1:Γ[i]? =some (tD (a7 G)))(h2:Γ[j]? =some (some (o,.int (n:Int))))(h3:fk Γ=ah (kd,x))(hx:dz x=true)(g:ya G b)(hb:b<=1000) :
  Dd i fk j Γ=ah (.nx (Γ.set i (tD (a7 (kH G x n))))):=by
 have hs:(1000:Nat) < sizeLine:=by decide
 unfold Dd
 rw[h1]
 simp only[h3,aG,h2]
 rw[Z4 ⟨hx,g.f6,by rw[EA];have:=g.l;omega⟩,AJ G x n λp hp=>by have:=(g.k p hp).2;omega]
theorem AN (d0 d3:Sl)(i:Nat)(o:Bool):∀(xs:List Zy) (G:Gp) (b:Nat) (c4:Sl),(∀x∈xs,dz x=true/\bp x=true)->ya G b->b+xs.length<=1000->∃vN:Sl,bw (cy 4) gc xs [d0,tD (a7 G),some (o,.int (i:Int)),d3,c4]=
  ah (.nx [d0,tD (a7 (sG i xs G)),some (o,.int (i:Int)),d3,vN])
 | [],G,b,c4,_,_,_=>⟨c4,rfl⟩
 | x :: xs,G,b,c4,hx,g,hb=>by
  obtain⟨k1,k2⟩:=hx x K9
  rw[Kj] at hb
  obtain⟨vN,ih⟩:=AN d0 d3 i o xs (kH G x i) (b+1) (tA x) (λy hy=>hx y (K8 _ hy)) (g.add k1 i) (!1)
  refine⟨vN,?_⟩
  have hs:cy 4 (cQ .base x) x [d0,tD (a7 G),some (o,.int (i:Int)),d3,c4]=some [d0,tD (a7 G),some (o,.int (i:Int)),d3,tA x]:=by rw[bt k2];rfl
  have e4:eV 4 [d0,tD (a7 G),some (o,.int (i:Int)),d3,tA x]=ah (.fr [],x):=by
   show ah (cQ _ x,x)=_
   rw[bt k2]
  have hb2:gc [d0,tD (a7 G),some (o,.int (i:Int)),d3,tA x]=ah (.nx [d0,tD (a7 (kH G x i)),some (o,.int (i:Int)),d3,tA x]) :=
   Kt (i:=1) (j:=2) (Γ:=[d0,tD (a7 G),some (o,.int (i:Int)),d3,tA x]) rfl rfl e4 k1 g (!1)
  refine ym hs hb2 ?_
  exact ih
theorem KA :∀x∈kK h p,dz x=true/\bp x=true:=λx hx=>⟨rM x hx,by
 obtain⟨k,_,rfl⟩:=Ku.mp hx
 exact jU _ _ _⟩
theorem AO (d0:Sl)(h:Nat):∀(L:List Rn) (i:Nat) (G:Gp) (b:Nat) (c2 c3 c4:Sl),ya G b->b+L.length*h<=1000->∃c2' KC vN:Sl,bw (kI [2,3]) cM (dC i (aS h L)) [d0,tD (a7 G),c2,c3,c4]=
  ah (.nx [d0,tD (a7 (sH h i L G)),c2',KC,vN])
 | [],i,G,b,c2,c3,c4,_,_=>⟨c2,c3,c4,rfl⟩
 | p :: L,i,G,b,c2,c3,c4,g,hb=>by
  rw[Kj,Yj] at hb
  have vl:=AL h p
  obtain⟨vN,e⟩:=AN d0 (fL (kK h p)) i true (kK h p) G b c4 KA g (!1)
  have g2:=vI (i:=i) g (rM (h:=h) (p:=p))
  obtain⟨OD,OE,OG,ih⟩:=AO d0 h L (i+1) (sG i (kK h p) G) (b+(kK h p).length) (tN i) (fL (kK h p)) vN g2 (!1)
  refine⟨OD,OE,OG,?_⟩
  show bw (kI [2,3]) cM (.tuple [.int (i:Int),.list (kK h p)] :: dC (i+1) (aS h L)) _=_
  have hs:kI [2,3] (cQ .base (.tuple [.int (i:Int),.list (kK h p)])) (.tuple [.int (i:Int),.list (kK h p)]) [d0,tD (a7 G),c2,c3,c4]=some [d0,tD (a7 G),tN i,fL (kK h p),c4]:=rfl
  have hb2:cM [d0,tD (a7 G),tN i,fL (kK h p),c4]=ah (.nx [d0,tD (a7 (sG i (kK h p) G)),tN i,fL (kK h p),vN]):=e
  refine ym hs hb2 ?_
  exact ih
theorem ue (hb:L.length*h<=1000):dL [.list (aS h L)]=ah (true,.dict (a7 (sH h 0 L []))):=by
 obtain⟨c2,c3,c4,e⟩:=AO (fL (aS h L)) h L 0 [] 0 none none none ⟨(λp hp=>by cases hp),by simp⟩ (!1)
 refine bR ?_
 unfold iN
 rw[aE (show(aB 1 oz) (cG 5 [.list (aS h L)])=ah (.nx [fL (aS h L),tD (a7 []),none,none,none]) from rfl)]
 rw[aE (show(bD (ic (eV 0)) (kI [2,3]) cM) [fL (aS h L),tD (a7 []),none,none,none]=_ from e)]
 rfl
inductive Cn (n h:Nat)(vw:Nat->Nat->Zy):Nat->Nat->Prop
 | rel {a b k:Nat}:a < n->b < n->k < h->vw a k=vw b k->Cn n h vw a b
 | refl (a:Nat):Cn n h vw a a
 | symm {a b:Nat}:Cn n h vw a b->Cn n h vw b a
 | trans {a b c:Nat}:Cn n h vw a b->Cn n h vw b c->Cn n h vw a c
theorem Cn.closed {n h:Nat}{vw:Nat->Nat->Zy}(S:Nat->Prop)(hS:∀a b k,a < n->b < n->k < h->vw a k=vw b k->S a->S b){a b:Nat}(c:Cn n h vw a b):S a↔S b:=by
 induction c with
 | rel h1 h2 h3 h4=>exact⟨hS _ _ _ h1 h2 h3 h4,hS _ _ _ h2 h1 h3 h4.symm⟩
 | refl a=>exact Iff.rfl
 | symm _ ih=>exact ih.symm
 | trans _ _ i1 i2=>exact i1.trans i2
theorem oq {α:Type}(f:α->Zy)(p:α->Bool)(g:α->Kd×Zy):∀(l:List α),(∀a∈l,ft (fA (f a) :: cap)=ah (p a))->(∀a∈l,p a=true->fe (fA (f a) :: cap)=ah (g a))->bW ft fe cap (l.map f)=some ((l.filter p).map g)
 | [],_,_=>rfl
 | a :: l,ht,h=>by
  have h0:=ht a K9
  have ih:=oq f p g l (λb hb=>ht b (K8 _ hb)) λb hb=>h b (K8 _ hb)
  rw[Kq,bW]
  cases hp:p a with
  | true=>
   have h1:=h a K9 hp
   rw[hp] at h0
   simp only[ah] at h0 h1⊢
   rw[h0,h1]
   simp only
   rw[ih,List.filter_cons_of_pos hp];rfl
  | false=>
   rw[hp] at h0
   simp only[ah] at h0⊢
   rw[h0]
   simp only
   rw[ih,List.filter_cons_of_neg (by rw[hp];exact K3)]
theorem GX (a b:Nat):((a:Int)==(b:Int))=decide (a=b):=by
 by_cases e:a=b
 ·subst e;simp
 ·rw[Z2 e];exact beq_eq_false_iff_ne.mpr λz=>e (!1)
noncomputable def lot (n:Nat)(f:Nat->Nat)(a:Nat):List Nat:=(List.range n).filter λj=>decide (f j=a)
def lots (n:Nat)(f:Nat->Nat)(i:Nat):List Zy:=((List.range i).filter λa=>decide (f a=a)).map λa=> .list ((lot n f a).map nat)
theorem BV (n:Nat)(f:Nat->Nat)(i:Nat):lots n f (i+1)=lots n f i++(if f i=i then [.list ((lot n f i).map nat)] else []):=by
 unfold lots
 rw[J3,List.filter_append,X4]
 by_cases e:f i=i
 ·rw[Z4 e,List.filter_cons_of_pos (by simpa using e)];rfl
 ·rw[Z5 e,List.filter_cons_of_neg (by simpa using e)];rfl
theorem ED (n:Nat)(f:Nat->Nat)(i:Nat):(lots n f i).length<=i:=by
 unfold lots;rw[K6];exact Kw (Xw _ _) (by rw[X9];exact K0 _)
theorem least (P:Nat->Prop):∀n,P n->∃m,P m/\∀k,P k->m<=k:=by
 intro n
 induction n using Nat.strongRecOn with
 | _ n ih=>
  intro h
  by_cases e:∃k,k < n/\P k
  ·obtain⟨k,hk,pk⟩:=e
   exact ih k hk pk
  ·exact⟨n,h,λk pk=>Jw λz=>e ⟨k,z,pk⟩⟩
theorem EG (n h:Nat)(vw:Nat->Nat->Zy):∃f:Nat->Nat,(∀i,i < n->f i<=i/\f (f i)=f i)/\∀i j,i < n->j < n->(f i=f j↔Cn n h vw i j):=by
 have hx:=λi=>least (λj=>Cn n h vw i j) i (.refl i)
 let f:=λi=>Classical.choose (hx i)
 have f1:∀i,Cn n h vw i (f i):=λi=>(Classical.choose_spec (hx i)).1
 have f2:∀i k,Cn n h vw i k->f i<=k:=λi=>(Classical.choose_spec (hx i)).2
 have fe:∀i j,Cn n h vw i j->f i=f j:=λi j c=>Nat.le_antisymm (f2 i _ (c.trans (f1 j))) (f2 j _ (c.symm.trans (f1 i)))
 exact⟨f,λi _=>⟨f2 i i (.refl i),(fe _ _ (f1 i)).symm⟩,λi j _ _=>⟨λe=>(f1 i).trans (e ▸ (f1 j).symm),fe i j⟩⟩
noncomputable def encV (V:List Zy):j3:=V.map λx=>(x,.bool true)
noncomputable def fq (S:List (Nat×Nat)):List Zy:=S.map λp=> .tuple [.int ((p.1:Nat):Int),.int ((p.2:Nat):Int)]
theorem vJ (S:List (Nat×Nat)):ar (fq S)=true:=a9 _ (λ_=>rfl) _
theorem nK (S:List (Nat×Nat)):(fq S).length=S.length:=K6 _
def KD (V:List Zy):Prop:=∀x∈V,pl x=true/\dz x=true
theorem ou (hx:pl x=true):∀{V:List Zy},KD V->(eU (encV V) x=true↔x∈V)
 | [],_=>by simp[eU,encV]
 | y :: V,h=>by
  have ih:=ou hx (V:=V) λz hz=>h z (K8 _ hz)
  show((PyData.eqv y x || eU (encV V) x)=true)↔_
  rw[Bool.or_eq_true,ih,gE (h y K9).1 hx,Kx]
  exact⟨λz=>z.elim (λz=> .inl z.symm) .inr,λz=>z.elim (λz=> .inl z.symm) .inr⟩
theorem BW (h:KD V):f6 (encV V)=true:=Uz.mpr λp hp=>by
 obtain⟨q,hq,rfl⟩:=Ku.mp hp
 exact(h q hq).2
theorem BX (V:List Zy):dY (encV V)=true:=aF.mpr λx hx=>by
 obtain⟨p,hp,rfl⟩:=Ku.mp hx
 obtain⟨y,_,rfl⟩:=Ku.mp hp
 rfl
theorem KE (h:KD V)(hx:dz x=true):cH (encV V) x=true:=by unfold cH;rw[hx,BW h];rfl
structure SI (n h:Nat)(vw:Nat->Nat->Zy)(a:Nat)(V:List Zy)(j:Nat)(V':List Zy)(S:List (Nat×Nat)):Prop where
 v:KD V'
 l:V'.length<=V.length+j
 sl:S.length<=j*1000
 up:∀x∈V,x∈V'
 dn:∀k,k < j->vw a k∈V'
 no:∀x∈V',x∈V∨∃k,k < j/\x=vw a k
 s:∀s∈S,s.1 < h/\s.2 < n/\vw s.2 s.1=vw a s.1
 c:∀k,k < j->vw a k∈V∨∀i,i < n->vw i k=vw a k->∃k',(k',i)∈S
theorem KG {n h:Nat}{vw:Nat->Nat->Zy}{G:Gp}(gr:EZ n h vw G)(hh:h<=4)(hp:∀i k,pl (vw i k)=true/\dz (vw i k)=true/\bp (vw i k)=true)(a:Nat)(ha:a < n)(V:List Zy)(hV:KD V)(hl:V.length<=10000)(d0:Sl) :
  ∃(V':List Zy) (S:List (Nat×Nat)) (c4 c5:Sl),bw (kI [4,5]) bj (dC 0 ((!2).map (vw a))) [d0,fD (a7 G),tD (encV V),tL (fq []),none,none]=
  ah (.nx [d0,fD (a7 G),tD (encV V'),tL (fq S),c4,c5])/\SI n h vw a V h V' S:=by
 obtain⟨Γ',k1,V',S,c4,c5,rfl,si⟩:=bA (g:=kI [4,5]) (b:=bj) (ds:=dC 0 ((!2).map (vw a))) (Γ:=[d0,fD (a7 G),tD (encV V),tL (fq []),none,none])
  (λj Γ=>∃(V':List Zy) (S:List (Nat×Nat)) (c4 c5:Sl),Γ=[d0,fD (a7 G),tD (encV V'),tL (fq S),c4,c5]/\SI n h vw a V j V' S)
  ⟨V,[],none,none,rfl,hV,by omega,by simp,λx hx=>hx,(λk hk=>by omega),(λx hx=> .inl hx),(λs hs=>by cases hs),(λk hk=>by omega)⟩ (by
  rintro j d Γ hd ⟨V',S,c4,c5,rfl,si⟩
  rw[L2.jM,KZ] at hd
  have hj:j < h:=by
   apply Classical.byContradiction;intro z
   rw[XY (by rw[X9];omega)] at hd;cases hd
  rw[Y1 hj,JK] at hd
  have hd:PyData.tuple [.int (j:Int),vw a j]=d:=by simpa using hd
  subst hd
  obtain⟨p1,p2,p3⟩:=hp a j
  have nt:bp (.tuple [.int (j:Int),vw a j])=true:=by rw[cS,ar,ar,p3];rfl
  have hs:kI [4,5] (cQ .base (.tuple [.int (j:Int),vw a j])) (.tuple [.int (j:Int),vw a j]) [d0,fD (a7 G),tD (encV V'),tL (fq S),c4,c5]=some [d0,fD (a7 G),tD (encV V'),tL (fq S),tN j,tA (vw a j)]:=by
   rw[bt nt]
   show some (jg (jg _ 4 (cQ (.fr []) (.int (j:Int))) (.int (j:Int))) 5 (cQ (.fr []) (vw a j)) (vw a j))=_
   rw[mZ,bt p3];rfl
  have hK:=KE si.v p2
  by_cases hin:vw a j∈V'
  ·have hk:=(ou p1 si.v).mpr hin
   refine⟨_,_,hs,.inl ?_,V',S,tN j,tA (vw a j),rfl,?_⟩
   ·simp![bj,bt p3,cC,hK,hk]
   ·refine⟨si.v,by have:=si.l;omega,by have:=si.sl;omega,si.up,λk hk=> ?_,λx hx=> ?_,si.s,λk hk=> ?_⟩
    ·by_cases e:k=j
     ·subst e;exact hin
     ·exact si.dn k (!1)
    ·rcases si.no x hx with z | ⟨k,z1,z2⟩
     ·exact .inl z
     ·exact .inr ⟨k,by omega,z2⟩
    ·by_cases e:k=j
     ·subst e
      rcases si.no _ hin with z | ⟨k',z1,z2⟩
      ·exact .inl z
      ·have:=gr.hand _ _ _ _ z2;omega
     ·exact si.c k (!1)
  ·have hk:eU (encV V') (vw a j)=false:=Bool.eq_false_iff.mpr λz=>hin ((ou p1 si.v).mp z)
   obtain⟨l,g1,g2⟩:=gr.get a j ha hj
   have hll:l.length<=1000:=(gr.ok.k _ g2).2
   have Qt:cH (a7 G) (vw a j)=true:=by unfold cH;rw[p2,gr.ok.f6];rfl
   have hc:=nJ (fe:=cU) (cap:=[fN j]) nat (λi=>(Kd.fr [],.tuple [.int (j:Int),nat i])) l (λi hi=>by
    have nn:ar [PyData.int (j:Int),.int (i:Int)]=true:=rfl
    simp![cU,nat,aq nn])
   have k1:=eN l λi=>PyData.tuple [.int (j:Int),nat i]
   have e2:(l.map λi=>(Kd.fr [],PyData.tuple [.int (j:Int),nat i])).map Prod.snd=fq (l.map λi=>(j,i)):=by unfold fq;rw[X6,X6];rfl
   have hle:l.length<=100000:=by omega
   have nn:=vJ (l.map λi=>(j,i))
   have hsz:(fq S).length+(fq (l.map λi=>(j,i))).length<=sizeLine:=Kw (show _<=10000 by rw[nK,nK,K6];have:=si.sl;omega) (!8)
   have hvl:(encV V').length < sizeLine:=XX (show _<=20000 by unfold encV;rw[K6];have:=si.l;omega) (!8)
   have nv:=BX V'
   have ep:putK (encV V') (vw a j) (.bool true)=encV (V'++[vw a j]):=by
    unfold putK;rw[hk,Z5 K3];unfold encV;rw[X4];rfl
   have ea:fq S++fq (l.map λi=>(j,i))=fq (S++l.map λi=>(j,i)):=by unfold fq;rw[X4]
   refine⟨_,_,hs,.inl ?_,V'++[vw a j],S++l.map (λi=>(j,i)),tN j,tA (vw a j),rfl,?_⟩
   ·simp![bj,bt p3,cC,hK,hk,oA,nv,hvl,and_self,ep,mi,Qt,g1,bv,hc,k1,e2,hle,yD,Hj,nn,hsz,ea]
   ·refine⟨λx hx=> ?_,by rw[K2,X8];have:=si.l;omega,by rw[K2,K6];have:=si.sl;omega,λx hx=>KY _ (si.up x hx),λk hk=> ?_,λx hx=> ?_,λs hs=> ?_,λk hk=> ?_⟩
    ·rcases K1.mp hx with z | z
     ·exact si.v x z
     ·rw[K7.mp z];exact⟨p1,p2⟩
    ·by_cases e:k=j
     ·subst e;exact Kk _ (K7.mpr rfl)
     ·exact KY _ (si.dn k (!1))
    ·rcases K1.mp hx with z | z
     ·rcases si.no x z with z | ⟨k,z1,z2⟩
      ·exact .inl z
      ·exact .inr ⟨k,by omega,z2⟩
     ·exact .inr ⟨j,by omega,K7.mp z⟩
    ·rcases K1.mp hs with z | z
     ·exact si.s s z
     ·obtain⟨i,hi,rfl⟩:=Ku.mp z
      have:=(gr.mem_of g2 i).mp hi
      exact⟨hj,this.1,this.2⟩
    ·by_cases e:k=j
     ·subst e
      exact .inr λi hi ev=>⟨k,Kk _ (Ku.mpr ⟨i,(gr.mem_of g2 i).mpr ⟨hi,ev⟩,rfl⟩)⟩
     ·rcases si.c k (!1) with z | z
      ·exact .inl z
      ·exact .inr λi hi ev=>by
        obtain⟨k',hk'⟩:=z i hi ev
        exact⟨k',KY _ hk'⟩)
 rw[L2.c_,K6,X9] at si
 exact⟨V',S,c4,c5,k1,si⟩
theorem EH {n h:Nat}{vw:Nat->Nat->Zy}{G:Gp}(gr:EZ n h vw G)(hh:h<=4)(hp:∀i k,pl (vw i k)=true/\dz (vw i k)=true/\bp (vw i k)=true)(a:Nat)(ha:a < n)(V:List Zy)(hV:KD V)(hl:V.length<=10000) :
  ∃(V':List Zy) (S:List (Nat×Nat)),cu [.list ((!2).map (vw a)),.dict (a7 G)] (.dict (encV V))=ah (.list (fq S),.dict (encV V'))/\SI n h vw a V h V' S:=by
 obtain⟨V',S,c4,c5,e,si⟩:=KG gr hh hp a ha V hV hl (fL ((!2).map (vw a)))
 refine⟨V',S,?_,si⟩
 have e0:cr (kS 6 [.list ((!2).map (vw a)),.dict (a7 G)] (.dict (encV V)))=ah (.nx [fL ((!2).map (vw a)),fD (a7 G),tD (encV V'),tL (fq S),c4,c5]):=by
  unfold cr
  rw[aE (show(aB 3 (cF [])) (kS 6 [.list ((!2).map (vw a)),.dict (a7 G)] (.dict (encV V)))=ah (.nx [fL ((!2).map (vw a)),fD (a7 G),tD (encV V),tL (fq []),none,none]) from rfl)]
  rw[aE (show(bD (ic (eV 0)) (kI [4,5]) bj) [fL ((!2).map (vw a)),fD (a7 G),tD (encV V),tL (fq []),none,none]=_ from e)]
  rfl
 unfold cu runIO
 rw[e0];rfl
abbrev Wy:=List (Nat×Option (Nat×Nat))
noncomputable def BY:Option (Nat×Nat)->Zy
 | none=> .none
 | some p=> .tuple [.int ((p.1:Nat):Int),.int ((p.2:Nat):Int)]
noncomputable def aR (W:Wy):j3:=W.map λp=>(.int ((p.1:Nat):Int),BY p.2)
noncomputable def kW (W:Wy):List Nat:=W.map (·.1)
theorem vK (a b:Nat):PyData.eqv (.int (a:Int)) (.int (b:Int))=decide (a=b):=GX a b
theorem jV (x:Nat):∀W:Wy,eU (aR W) (.int (x:Int))=decide (x∈kW W)
 | []=>rfl
 | p :: W=>by
  show(PyData.eqv (.int ((p.1:Nat):Int)) (.int (x:Int)) || eU (aR W) (.int (x:Int)))=_
  rw[jV x W,vK]
  unfold kW
  rw[Kq,Yx]
  simp only[Bool.or_eq_true,Z8,Kx]
  exact⟨λz=>z.elim (λz=> .inl z.symm) .inr,λz=>z.elim (λz=> .inl z.symm) .inr⟩
theorem lY (W:Wy):allI (aR W)=true:=Uz.mpr λp hp=>by
 obtain⟨q,hq,rfl⟩:=Ku.mp hp;rfl
theorem rO (W:Wy)(x:Nat):cH (aR W) (.int (x:Int))=true:=by unfold cH;rw[lY];rfl
theorem ow (W:Wy):dY (aR W)=true:=aF.mpr λx hx=>by
 obtain⟨p,hp,rfl⟩:=Ku.mp hx
 obtain⟨y,_,rfl⟩:=Ku.mp hp
 show bp (BY y.2)=true
 cases y.2 <;> rfl
inductive AQ (n h:Nat)(vw:Nat->Nat->Zy)(first:Nat):Wy->Prop
 | one:first < n->AQ n h vw first [(first,none)]
 | snoc {W:Wy} {i k a:Nat}:AQ n h vw first W->a∈kW W->i∉kW W->i < n->k < h->vw i k=vw a k->AQ n h vw first (W++[(i,some (k,a))])
theorem pL (W:Wy)(e:Nat×Option (Nat×Nat)):kW (W++[e])=kW W++[e.1]:=by unfold kW;rw[X4];rfl
theorem AQ.nd {n h:Nat}{vw:Nat->Nat->Zy}{first:Nat}{W:Wy}(o:AQ n h vw first W):(kW W).Nodup/\(∀i∈kW W,i < n/\Cn n h vw first i)/\first∈kW W:=by
 induction o with
 | one h1=>exact⟨by simp[kW],λi hi=>by rw[show i=first from K7.mp hi];exact⟨h1,.refl _⟩,K7.mpr rfl⟩
 | snoc _ h1 h2 h3 h4 h5 ih=>
  obtain⟨i1,i2,i3⟩:=ih
  rw[pL]
  refine⟨XZ.mpr ⟨i1,by simp,λx hx y hy z=> ?_⟩,λx hx=> ?_,KY _ i3⟩
  ·have zz:=z.trans (K7.mp hy)
   dsimp only at zz
   subst zz;exact h2 hx
  ·rcases K1.mp hx with z | z
   ·exact i2 x z
   ·rw[K7.mp z]
    exact⟨h3,(i2 _ h1).2.trans (.rel (i2 _ h1).1 h3 h4 h5.symm)⟩
theorem rP:∀(n:Nat) (l:List Nat),l.Nodup->(∀i∈l,i < n)->l.length<=n
 | 0,l,_,h=>by
  cases l with
  | nil=>simp
  | cons a l=>exact absurd (h a K9) (!1)
 | n+1,l,nd,h=>by
  have ih:=rP n (l.erase n) (nd.erase n) λi hi=>by
   have h1:=(List.Nodup.mem_erase_iff nd).mp hi
   have:=h i h1.2
   have:=h1.1
   omega
  by_cases hm:n∈l
  ·rw[List.length_erase_of_mem hm] at ih;omega
  ·rw[List.erase_of_not_mem hm] at ih;omega
theorem AQ.len {n h:Nat}{vw:Nat->Nat->Zy}{first:Nat}{W:Wy}(o:AQ n h vw first W):W.length<=n:=by
 have:=rP n (kW W) o.nd.1 λi hi=>(o.nd.2.1 i hi).1
 unfold kW at this;rw[K6] at this;exact this
theorem EI (d0 d1 d2 d4 d5:Sl){n h:Nat}{vw:Nat->Nat->Zy}{first a:Nat}(hn:n<=1000)(o7:Bool):∀(S:List (Nat×Nat)) (W:Wy) (Fu:List Nat) (c8 c9:Sl),(∀s∈S,s.1 < h/\s.2 < n/\vw s.2 s.1=vw a s.1)->AQ n h vw first W->a∈kW W->Fu.length<=W.length->
  ∃(W':Wy) (N:List Nat) (pM gN:Sl),bw (kI [8,9]) cB (fq S) [d0,d1,d2,tD (aR W),d4,d5,tL (Fu.map nat),some (o7,.int (a:Int)),c8,c9]=
  ah (.nx [d0,d1,d2,tD (aR W'),d4,d5,tL ((Fu++N).map nat),some (o7,.int (a:Int)),pM,gN])/\AQ n h vw first W'/\kW W'=kW W++N/\∀s∈S,s.2∈kW W'
 | [],W,Fu,c8,c9,_,o,_,_=>⟨W,[],c8,c9,by rw[Xj];rfl,o,by rw[Xj],λs hs=>by cases hs⟩
 | s :: S,W,Fu,c8,c9,hS,o,ha,hF=>by
  obtain⟨s1,s2,s3⟩:=hS s K9
  have hK:=rO W s.2
  have hk:=jV s.2 W
  have Qu:=o.len
  have hs:kI [8,9] (cQ .base (.tuple [.int ((s.1:Nat):Int),.int ((s.2:Nat):Int)])) (.tuple [.int ((s.1:Nat):Int),.int ((s.2:Nat):Int)]) [d0,d1,d2,tD (aR W),d4,d5,tL (Fu.map nat),some (o7,.int (a:Int)),c8,c9]=some [d0,d1,d2,tD (aR W),d4,d5,tL (Fu.map nat),some (o7,.int (a:Int)),tN s.1,tN s.2]:=rfl
  show∃(W':Wy) (N:List Nat) (pM gN:Sl),bw (kI [8,9]) cB (.tuple [.int ((s.1:Nat):Int),.int ((s.2:Nat):Int)] :: fq S) _=_/\_
  by_cases hin:s.2∈kW W
  ·obtain⟨W',N,pM,gN,e,r1,r2,r3⟩:=EI d0 d1 d2 d4 d5 hn o7 S W Fu (tN s.1) (tN s.2) (λt ht=>hS t (K8 _ ht)) o ha hF
   refine⟨W',N,pM,gN,?_,r1,r2,λt ht=> ?_⟩
   ·rw[Z3 hin] at hk
    have hb:cB [d0,d1,d2,tD (aR W),d4,d5,tL (Fu.map nat),some (o7,.int (a:Int)),tN s.1,tN s.2]=ah (.nx [d0,d1,d2,tD (aR W),d4,d5,tL (Fu.map nat),some (o7,.int (a:Int)),tN s.1,tN s.2]):=by
     simp![cB,cC,hK,hk]
    refine ym hs hb ?_;exact e
   ·rcases Kx.mp ht with rfl | ht
    ·rw[r2];exact KY _ hin
    ·exact r3 t ht
  ·have o2:AQ n h vw first (W++[(s.2,some (s.1,a))]):=.snoc o ha hin s2 s1 s3
   have k2:kW (W++[(s.2,some (s.1,a))])=kW W++[s.2]:=pL _ _
   obtain⟨W',N,pM,gN,e,r1,r2,r3⟩:=EI d0 d1 d2 d4 d5 hn o7 S (W++[(s.2,some (s.1,a))]) (Fu++[s.2]) (tN s.1) (tN s.2) (λt ht=>hS t (K8 _ ht)) o2 (by rw[k2];exact KY _ ha) (by simp only[K2,X8];omega)
   rw[k2] at r2
   refine⟨W',s.2 :: N,pM,gN,?_,r1,by rw[r2,X5];rfl,λt ht=> ?_⟩
   ·rw[Z2 hin] at hk
    have hwl:(aR W).length < sizeLine:=XX (show _<=1000 by unfold aR;rw[K6];omega) (!8)
    have hfl:Fu.length < sizeLine:=XX (show _<=1000 by omega) (!8)
    have nv:=ow W
    have nt:ar [PyData.int ((s.1:Nat):Int),.int (a:Int)]=true:=rfl
    have ep:putK (aR W) (.int ((s.2:Nat):Int)) (.tuple [.int ((s.1:Nat):Int),.int (a:Int)])=aR (W++[(s.2,some (s.1,a))]):=by
     unfold putK;rw[hk,Z5 K3];unfold aR;rw[X4];rfl
    have ef:Fu.map nat++[.int ((s.2:Nat):Int)]=(Fu++[s.2]).map nat:=by rw[X4];rfl
    refine ym hs (by simp![cB,cC,hK,hk,oB,oA,aq nt,nt,nv,hwl,hfl,and_self,ep,ef];rfl) ?_
    rw[show Fu++s.2 :: N=Fu++[s.2]++N by rw[X5];rfl]
    exact e
   ·rcases Kx.mp ht with rfl | ht
    ·rw[r2];exact KY _ (Kk _ (K7.mpr rfl))
    ·exact r3 t ht
structure BI (n h:Nat)(vw:Nat->Nat->Zy)(first:Nat)(W:Wy)(V:List Zy)(R Fu:List Nat):Prop where
 o:AQ n h vw first W
 v:KD V
 l:V.length+h*(R.length+Fu.length)<=h*W.length
 f:Fu.length<=W.length
 a:∀x∈V,∀i k,i < n->k < h->vw i k=x->i∈kW W
 b:∀i∈kW W,i∈R∨i∈Fu∨∀k,k < h->vw i k∈V
 c:∀i,i∈R∨i∈Fu->i∈kW W
theorem HE {n h:Nat}{vw:Nat->Nat->Zy}{first:Nat}{G:Gp}(gr:EZ n h vw G)(hh:h<=4)(hp:∀i k,pl (vw i k)=true/\dz (vw i k)=true/\bp (vw i k)=true)(hn:n<=1000)(d2 d5:Sl):∀(R:List Nat) (W:Wy) (V:List Zy) (Fu:List Nat) (c7 c8 c9:Sl),BI n h vw first W V R Fu->
  ∃(W':Wy) (V':List Zy) (GY:List Nat) (fc pM gN:Sl),bw (cy 7) df (R.map nat) [fL ((List.range n).map λi=> .list ((!2).map (vw i))),fD (a7 G),d2,tD (aR W),tD (encV V),d5,tL (Fu.map nat),c7,c8,c9]=
  ah (.nx [fL ((List.range n).map λi=> .list ((!2).map (vw i))),fD (a7 G),d2,tD (aR W'),tD (encV V'),d5,tL (GY.map nat),fc,pM,gN])/\BI n h vw first W' V' [] GY/\W'.length+Fu.length=W.length+GY.length
 | [],W,V,Fu,c7,c8,c9,bi=>⟨W,V,Fu,c7,c8,c9,rfl,bi,rfl⟩
 | a :: R,W,V,Fu,c7,c8,c9,bi=>by
  have Nc:=bi.c a (.inl K9)
  have han:=(bi.o.nd.2.1 a Nc).1
  have Qu:=bi.o.len
  have hVl:V.length<=10000:=by
   have h1:=bi.l
   have h2:h*W.length<=4*1000:=Jk hh (!1)
   omega
  obtain⟨V',S,e1,si⟩:=EH gr hh hp a han V bi.v hVl
  obtain⟨W',N,pM,gN,e2,r1,r2,r3⟩:=EI (fL ((List.range n).map λi=> .list ((!2).map (vw i)))) (fD (a7 G)) d2 (tD (encV V')) d5 hn true S W Fu c8 c9 si.s bi.o Nc bi.f
  have wl:W'.length=W.length+N.length:=by
   have:=congrArg List.length r2
   unfold kW at this
   rw[K2,K6,K6] at this;exact this
  have Qv:BI n h vw first W' V' R (Fu++N):=by
   refine⟨r1,si.v,?_,by rw[K2,wl];have:=bi.f;omega,λx hx i k hi hk ev=> ?_,λi hi=> ?_,λi hi=> ?_⟩
   ·have h1:=bi.l
    have h2:=si.l
    rw[Kj] at h1
    rw[K2,wl]
    have e1:h*(R.length+1+Fu.length)=h*R.length+h+h*Fu.length:=by rw[Nat.mul_add,Nat.mul_add,Nat.mul_one]
    have e2:h*(R.length+(Fu.length+N.length))=h*R.length+(h*Fu.length+h*N.length):=by rw[Nat.mul_add,Nat.mul_add]
    have e3:h*(W.length+N.length)=h*W.length+h*N.length:=Nat.mul_add ..
    rw[e1] at h1
    rw[e2,e3]
    omega
   ·have old:∀i,i∈kW W->i∈kW W':=λi hi=>by rw[r2];exact KY _ hi
    rcases si.no x hx with z | ⟨k',z1,z2⟩
    ·exact old i (bi.a x z i k hi hk ev)
    ·have:k=k':=gr.hand _ _ _ _ (ev.trans z2)
     subst this
     rcases si.c k z1 with z | z
     ·exact old i (bi.a _ z i k hi hk (ev.trans z2))
     ·obtain⟨k',hk'⟩:=z i hi (ev.trans z2)
      exact r3 _ hk'
   ·rw[r2] at hi
    rcases K1.mp hi with z | z
    ·rcases bi.b i z with z | z | z
     ·rcases Kx.mp z with rfl | z
      ·exact .inr (.inr si.dn)
      ·exact .inl z
     ·exact .inr (.inl (KY _ z))
     ·exact .inr (.inr λk hk=>si.up _ (z k hk))
    ·exact .inr (.inl (Kk _ z))
   ·rw[r2]
    rcases hi with z | z
    ·exact KY _ (bi.c i (.inl (K8 _ z)))
    ·rcases K1.mp z with z | z
     ·exact KY _ (bi.c i (.inr z))
     ·exact Kk _ z
  obtain⟨OH,OI,OJ,Ez,KH,vH,e,q1,q2⟩:=HE gr hh hp hn d2 d5 R W' V' (Fu++N) (tN a) pM gN Qv
  refine⟨OH,OI,OJ,Ez,KH,vH,?_,q1,by rw[K2] at q2;omega⟩
  have ea:jZ ((List.range n).map λi=>PyData.list ((!2).map (vw i))) (a:Int)=some (.list ((!2).map (vw a))):=bN (by rw[KZ,Y1 han];rfl)
  have hx:dk cb (eV 0) (eV 7) [fL ((List.range n).map λi=> .list ((!2).map (vw i))),fD (a7 G),d2,tD (aR W),tD (encV V),d5,tL (Fu.map nat),tN a,c8,c9]=ah (.base,.list ((!2).map (vw a))):=by
   simp![ea]
  have hb:df [fL ((List.range n).map λi=> .list ((!2).map (vw i))),fD (a7 G),d2,tD (aR W),tD (encV V),d5,tL (Fu.map nat),tN a,c8,c9]=
    bw (kI [8,9]) cB (fq S) [fL ((List.range n).map λi=> .list ((!2).map (vw i))),fD (a7 G),d2,tD (aR W),tD (encV V'),d5,tL (Fu.map nat),tN a,c8,c9]:=by
   unfold df Ad
   show(ao _ λx=>ao (ah (Kd.base,PyData.dict (a7 G))) λy=>_)=_
   rw[hx]
   simp only[aG,e1,mq,and_self,if_true]
   rfl
  show bw (cy 7) df (.int (a:Int) :: R.map nat) _=_
  rw[bw,show cy 7 (cQ .base (.int (a:Int))) (.int (a:Int)) [fL ((List.range n).map λi=> .list ((!2).map (vw i))),fD (a7 G),d2,tD (aR W),tD (encV V),d5,tL (Fu.map nat),c7,c8,c9]=some [fL ((List.range n).map λi=> .list ((!2).map (vw i))),fD (a7 G),d2,tD (aR W),tD (encV V),d5,tL (Fu.map nat),tN a,c8,c9] from rfl,fx,aG,hb,e2,aG]
  exact e
noncomputable def eZ (n h:Nat)(vw:Nat->Nat->Zy):List Zy:=(List.range n).map λi=> .list ((!2).map (vw i))
theorem MF {n h:Nat}{vw:Nat->Nat->Zy}{first:Nat}{G:Gp}(gr:EZ n h vw G)(hh:h<=4)(hp:∀i k,pl (vw i k)=true/\dz (vw i k)=true/\bp (vw i k)=true)(hn:n<=1000)(d2:Sl):∀(m fuel:Nat) (W:Wy) (V:List Zy) (R:List Nat) (c6 c7 c8 c9:Sl),BI n h vw first W V R []->n < W.length+m->m+1<=fuel->
  ∃(W':Wy) (V':List Zy) (jy fc pM gN:Sl),dX fuel gk eB [fL (eZ n h vw),fD (a7 G),d2,tD (aR W),tD (encV V),tL (R.map nat),c6,c7,c8,c9]=
  ah (.nx [fL (eZ n h vw),fD (a7 G),d2,tD (aR W'),tD (encV V'),tL [],jy,fc,pM,gN])/\BI n h vw first W' V' [] []:=by
 intro m
 induction m with
 | zero=>
  intro fuel W V R c6 c7 c8 c9 bi hm hf
  have:=bi.o.len
  omega
 | succ m ih=>
  intro fuel W V R c6 c7 c8 c9 bi hm hf
  obtain⟨fuel,rfl⟩:∃k,fuel=k+2:=⟨fuel - 2,by omega⟩
  cases R with
  | nil=>exact⟨W,V,c6,c7,c8,c9,by rw[lB rfl];rfl,bi⟩
  | cons a R=>
   obtain⟨W',V',GY,fc,pM,gN,e,q1,q2⟩:=HE gr hh hp hn d2 (fL ((a :: R).map nat)) (a :: R) W V [] c7 c8 c9 bi
   have hb:eB [fL (eZ n h vw),fD (a7 G),d2,tD (aR W),tD (encV V),tL ((a :: R).map nat),c6,c7,c8,c9]=ah (.nx [fL (eZ n h vw),fD (a7 G),d2,tD (aR W'),tD (encV V'),tL (GY.map nat),none,fc,pM,gN]):=by
    unfold eB
    rw[aE (show(aB 6 (cF [])) _=ah (.nx [fL (eZ n h vw),fD (a7 G),d2,tD (aR W),tD (encV V),tL ((a :: R).map nat),tL ([].map nat),c7,c8,c9]) from rfl)]
    rw[aE (show(bD (jB (eV 5)) (cy 7) df) [fL (eZ n h vw),fD (a7 G),d2,tD (aR W),tD (encV V),tL ((a :: R).map nat),tL ([].map nat),c7,c8,c9]=_ from e)]
    rfl
   have hc:gk [fL (eZ n h vw),fD (a7 G),d2,tD (aR W),tD (encV V),tL ((a :: R).map nat),c6,c7,c8,c9]=ah true:=by
    have hd:decide ((0:Int) < (((a :: R).map nat).length:Nat))=true:=Z3 (by rw[K6,Kj];omega)
    show ah (decide ((0:Int) < (((a :: R).map nat).length:Nat)))=_
    rw[hd]
   rw[Y6] at q2
   have Po:BI n h vw first W' V' GY []:=⟨q1.o,q1.v,by have:=q1.l;rw[Y6] at this⊢;rw[Nat.add_zero];rw[JK] at this;exact this,by simp,q1.a,λi hi=>(q1.b i hi).elim (λz=>by cases z) λz=>z.elim .inl λz=> .inr (.inr z),λi hi=>hi.elim (λz=>q1.c i (.inr z)) λz=>by cases z⟩
   cases GY with
   | nil=>exact⟨W',V',none,fc,pM,gN,by rw[nH hc hb,lB rfl];rfl,Po⟩
   | cons b GY=>
    rw[Kj] at q2
    obtain⟨OH,OI,Ey,Ez,KH,vH,e',r⟩:=ih (fuel+1) W' V' (b :: GY) none fc pM gN Po (!1) (!1)
    exact⟨OH,OI,Ey,Ez,KH,vH,by rw[nH hc hb];exact e',r⟩
theorem AR {n h:Nat}{vw:Nat->Nat->Zy}{first:Nat}{G:Gp}(gr:EZ n h vw G)(hh:h<=4)(hp:∀i k,pl (vw i k)=true/\dz (vw i k)=true/\bp (vw i k)=true)(hn:n<=1000)(hf:first < n) :
  ∃W:Wy,jb [.list (eZ n h vw),.dict (a7 G),.int (first:Int)]=ah (true,.dict (aR W))/\AQ n h vw first W/\∀i,i < n->(i∈kW W↔Cn n h vw first i):=by
 have Qw:BI n h vw first [(first,none)] [] [first] []:=⟨.one hf,(λx hx=>by cases hx),by simp,by simp,(λx hx=>by cases hx),λi hi=> .inl hi,λi hi=>hi.elim id λz=>by cases z⟩
 obtain⟨W,V,c6,c7,c8,c9,e,bi⟩:=MF gr hh hp hn (fN first) 1000 pY [(first,none)] [] [first] none none none none Qw (by rw[X8];omega) (!8)
 refine⟨W,?_,bi.o,λi hi=>⟨λz=>(bi.o.nd.2.1 i z).2,λz=> ?_⟩⟩
 ·refine bR ?_
  unfold k8
  rw[aE (show(aB 3 (v7 (eV 2) (eC .none))) (cG 10 [.list (eZ n h vw),.dict (a7 G),.int (first:Int)])=ah (.nx [fL (eZ n h vw),fD (a7 G),fN first,tD (aR [(first,none)]),none,none,none,none,none,none]) from rfl)]
  rw[aE (show(aB 4 oz) _=ah (.nx [fL (eZ n h vw),fD (a7 G),fN first,tD (aR [(first,none)]),tD (encV []),none,none,none,none,none]) from rfl)]
  rw[aE (show(aB 5 (cF [(eV 2)])) _=ah (.nx [fL (eZ n h vw),fD (a7 G),fN first,tD (aR [(first,none)]),tD (encV []),tL ([first].map nat),none,none,none,none]) from rfl)]
  rw[aE (show(nN pY gk eB) [fL (eZ n h vw),fD (a7 G),fN first,tD (aR [(first,none)]),tD (encV []),tL ([first].map nat),none,none,none,none]=_ from e)]
  rfl
 ·have hcl:∀a b k,a < n->b < n->k < h->vw a k=vw b k->a∈kW W->b∈kW W:=λa b k ha hb hk ev Nc=>by
   rcases bi.b a Nc with z | z | z
   ·cases z
   ·cases z
   ·exact bi.a _ (z k hk) b k hb hk ev.symm
  exact(z.closed (λa=>a∈kW W) hcl).mp bi.o.nd.2.2
inductive Ch (W:Wy):Nat->List (Nat×Nat)->Prop
 | nil {i:Nat}:d6 (aR W) (.int (i:Int))=some .none->Ch W i []
 | cons {i k a:Nat} {p:List (Nat×Nat)}:d6 (aR W) (.int (i:Int))=some (.tuple [.int (k:Int),.int (a:Int)])->Ch W a p->Ch W i ((k,i) :: p)
inductive Fw (n h:Nat)(vw:Nat->Nat->Zy):Nat->List (Nat×Nat)->Nat->Prop
 | nil (a:Nat):Fw n h vw a [] a
 | cons {a i k b:Nat} {s:List (Nat×Nat)}:k < h->i < n->vw i k=vw a k->Fw n h vw i s b->Fw n h vw a ((k,i) :: s) b
theorem Fw.snoc {n h:Nat}{vw:Nat->Nat->Zy}{a b:Nat}{s:List (Nat×Nat)}(f:Fw n h vw a s b){k i:Nat}(hk:k < h)(hi:i < n)(e:vw i k=vw b k):Fw n h vw a (s++[(k,i)]) i:=by
 induction f with
 | nil a=>exact .cons hk hi e (.nil i)
 | cons h1 h2 h3 _ ih=>exact .cons h1 h2 h3 (ih e)
theorem uf (h:d6 (aR W) x=some v):d6 (aR (W++[e])) x=some v:=by
 unfold d6 at h⊢
 rw[show aR (W++[e])=aR W++aR [e] from X4,List.find?_append]
 cases hf:(aR W).find? λp=>PyData.eqv p.1 x with
 | none=>rw[hf] at h;cases h
 | some q=>rw[hf] at h;exact h
theorem Ch.mono (c:Ch W i p):Ch (W++[e]) i p:=by
 induction c with
 | nil h=>exact .nil (uf h)
 | cons h _ ih=>exact .cons (uf h) ih
theorem yd (h:i∉kW W):d6 (aR (W++[(i,o)])) (.int (i:Int))=some (BY o):=by
 have hn:(aR W).find? (λp=>PyData.eqv p.1 (.int (i:Int)))=none:=List.find?_eq_none.mpr λp hp z=>by
  obtain⟨q,hq,rfl⟩:=Ku.mp hp
  have z:PyData.eqv (.int ((q.1:Nat):Int)) (.int (i:Int))=true:=z
  rw[vK] at z
  exact h (Ku.mpr ⟨q,hq,of_decide_eq_true z⟩)
 unfold d6
 rw[show aR (W++[(i,o)])=aR W++aR [(i,o)] from X4,List.find?_append,hn,Option.none_or]
 have:PyData.eqv (.int (i:Int)) (.int (i:Int))=true:=by rw[vK];exact Z3 rfl
 show(List.find? _ ((PyData.int (i:Int),BY o) :: [])).map _=_
 rw[U5,this];rfl
theorem AQ.path {n h:Nat}{vw:Nat->Nat->Zy}{first:Nat}{W:Wy}(o:AQ n h vw first W):∀i∈kW W,∃p,Ch W i p/\p.length<=W.length/\Fw n h vw first p.reverse i/\(i=first->p=[]):=by
 induction o with
 | one h1=>
  intro i hi
  rw[show i=first from K7.mp hi]
  exact⟨[],.nil (yd (W:=[]) (by simp[kW])),by simp,.nil _,λ_=>rfl⟩
 | snoc oo h1 h2 h3 h4 h5 ih=>
  intro x hx
  rw[pL] at hx
  rcases K1.mp hx with z | z
  ·obtain⟨p,p1,p2,p3,p4⟩:=ih x z
   exact⟨p,p1.mono,by rw[K2];omega,p3,p4⟩
  ·rw[show x=_ from K7.mp z]
   obtain⟨p,p1,p2,p3,p4⟩:=ih _ h1
   refine⟨_,.cons (yd h2) p1.mono,by rw[K2,Kj];simp;omega,?_,λzz=> ?_⟩
   ·rw[YW];exact p3.snoc h4 h3 h5
   ·dsimp only at zz
    rw[zz] at h2
    exact absurd oo.nd.2.2 h2
theorem BZ (d1:Sl)(c:Ch W i p):∀(fuel:Nat) (acc:List (Nat×Nat)) (c4:Sl),p.length+1<=fuel->acc.length+p.length<=5000->∃(j:Nat) (vN:Sl),dX fuel eY iP [fD (aR W),d1,tL (fq acc),tN i,c4]=
  ah (.nx [fD (aR W),d1,tL (fq (acc++p)),tN j,vN]):=by
 induction c with
 | @nil i hg=>
  intro fuel acc c4 hf hl
  obtain⟨fuel,rfl⟩:∃k,fuel=k+1:=⟨fuel - 1,by omega⟩
  have hK:=rO W i
  refine⟨i,c4,?_⟩
  have hc:eY [fD (aR W),d1,tL (fq acc),tN i,c4]=ah false:=by
   simp![eY,i6,mI,bV,mi,hK,hg]
  rw[lB hc,Xj]
 | @cons i k a p hg _ ih=>
  intro fuel acc c4 hf hl
  rw[Kj] at hf hl
  obtain⟨fuel,rfl⟩:∃k,fuel=k+1:=⟨fuel - 1,by omega⟩
  have hK:=rO W i
  have nt:ar [PyData.int (k:Int),.int (a:Int)]=true:=rfl
  have Qx:ar [PyData.int (k:Int),.int (i:Int)]=true:=rfl
  have a0:jZ [PyData.int (k:Int),.int (a:Int)] 0=some (.int (k:Int)):=rfl
  have a1:jZ [PyData.int (k:Int),.int (a:Int)] 1=some (.int (a:Int)):=rfl
  have hc:eY [fD (aR W),d1,tL (fq acc),tN i,c4]=ah true:=by
   simp![eY,i6,mI,bV,mi,hK,hg]
  have hz:(fq acc).length < sizeLine:=XX (show _<=5000 by rw[nK];omega) (!8)
  have ea:fq acc++[.tuple [.int (k:Int),.int (i:Int)]]=fq (acc++[(k,i)]):=by unfold fq;rw[X4];rfl
  have hb:iP [fD (aR W),d1,tL (fq acc),tN i,c4]=ah (.nx [fD (aR W),d1,tL (fq (acc++[(k,i)])),tN a,tT [.int (k:Int),.int (a:Int)]]):=by
   simp![iP,i6,mI,bV,mi,hK,hg,aq nt,aq Qx,a0,a1,hz,ea]
  obtain⟨j,vN,e⟩:=ih fuel (acc++[(k,i)]) (tT [.int (k:Int),.int (a:Int)]) (!1) (by rw[K2,X8];omega)
  refine⟨j,vN,?_⟩
  rw[nH hc hb,e,X5];rfl
theorem zv (hg:g∈kW W)(c:Ch W g p)(hl:p.length<=1000):qR [.dict (aR W),.int (g:Int)]=ah (true,.list (fq p.reverse)):=by
 obtain⟨j,c4,e⟩:=BZ (fN g) c pY [] none (Kw (show p.length+1<=2000 by omega) (!8)) (by rw[Y6];omega)
 rw[YU] at e
 have hK:=rO W g
 have hk:=jV g W
 rw[Z3 hg] at hk
 have s1:(hJ (tE (bg cC (eV 1) (eV 0))) (bq (eC .none)) cc) (cG 5 [.dict (aR W),.int (g:Int)])=ah (.nx [fD (aR W),fN g,none,none,none]):=by
  simp![cC,hK,hk]
 have nn:=vJ p
 refine bR ?_
 unfold qQ
 rw[aE s1]
 rw[aE (show(aB 2 (cF [])) _=ah (.nx [fD (aR W),fN g,tL (fq []),none,none]) from rfl)]
 rw[aE (show(sf 3 1) _=ah (.nx [fD (aR W),fN g,tL (fq []),tN g,none]) from rfl)]
 rw[aE (show(nN pY eY iP) [fD (aR W),fN g,tL (fq []),tN g,none]=_ from e)]
 have er:wI (.list (fq p))=some (.list (fq p.reverse)):=by
  rw[wI,nn,Z4 rfl];unfold fq;rw[List.map_reverse]
 simp![er]
theorem AS (h:Nat)(L:List Rn):aS h L=eZ L.length h (vw L):=by
 unfold aS eZ
 refine Jq (by simp) λi h1 h2=> ?_
 have hi:i < L.length:=by rw[K6] at h1;exact h1
 simp only[List.getElem_map,List.getElem_range]
 unfold kK vw
 rw[KW,K5 hi];rfl
theorem ye (L:List Rn)(i k:Nat):pl (vw L i k)=true/\dz (vw L i k)=true/\bp (vw L i k)=true:=⟨ip _ _ _,oj _ _ _,jU _ _ _⟩
theorem rQ:∀(W P:Wy),(kW W).Nodup->(∀i∈kW W,i∉kW P)->l7 (aR P) (aR W)=aR (P++W)
 | [],P,_,_=>by rw[Xj];rfl
 | e :: W,P,nd,hd=>by
  obtain⟨n1,n2⟩:=KQ.mp (show(e.1 :: kW W).Nodup from nd)
  have hk:=jV e.1 P
  rw[Z2 (hd e.1 K9)] at hk
  have ep:putK (aR P) (.int ((e.1:Nat):Int)) (BY e.2)=aR (P++[e]):=by
   unfold putK;rw[hk,Z5 K3];unfold aR;rw[X4];rfl
  show l7 (putK (aR P) (.int ((e.1:Nat):Int)) (BY e.2)) (aR W)=_
  rw[ep,rQ W (P++[e]) n2 λi hi=> ?_,X5]
  ·rfl
  ·rw[pL,K1,K7]
   rintro(z | z)
   ·exact hd i (K8 _ hi) z
   ·exact n1 (z ▸ hi)
theorem B5 (W:Wy):((aR W).map λp=>Gu p.1)=(kW W).map λ(i:Nat)=>(i:Int):=by
 unfold aR kW;rw[X6,X6];rfl
theorem GZ (nd:(kW W).Nodup)(hm:∀i,i∈kW W↔i < n/\f i=a):qH [.dict (aR W)]=some (.list ((lot n f a).map nat)):=by
 rw[qH,Z4 (lY W),B5]
 have nl:(lot n f a).Nodup:=List.nodup_range.filter _
 have p1:(kW W).Perm (lot n f a):=(List.perm_ext_iff_of_nodup nd nl).mpr λi=>by
  rw[hm i];unfold lot;rw[Ux,X1,Z8]
 have asc:((lot n f a).map λ(i:Nat)=>(i:Int)).Pairwise (· <= ·):=by
  refine List.pairwise_map.mpr ?_
  have:(List.range n).Pairwise (λ(x y:Nat)=>(x:Int)<=(y:Int)):=List.pairwise_lt_range.imp λh=>by omega
  exact this.sublist List.filter_sublist
 have e:=PySem.W.ksm_same ((Ts.jQ ((kW W).map λ(i:Nat)=>(i:Int))).trans (p1.map _)) (Ts.qG _) asc
 rw[e,X6];rfl
section
variable {h:Nat}{L:List Rn}(hh:h<=4)(hl:L.length<=200){f:Nat->Nat}(hf:∀i,i < L.length->f i<=i/\f (f i)=f i)(hc:∀i j,i < L.length->j < L.length->(f i=f j↔Cn L.length h (vw L) i j))
include hh hl hf hc
theorem G0 (G:Gp)(gr:EZ L.length h (vw L) G)(i:Nat)(hi:i < L.length)(P:Wy)(nd:(kW P).Nodup)(hP:∀j,j∈kW P↔j < L.length/\f j < i)(c5:Sl) :
  ∃(P':Wy) (sF:Sl),bU [fL (aS h L),tD (a7 G),tD (aR P),tL (lots L.length f i),tN i,c5]=ah (.nx [fL (aS h L),tD (a7 G),tD (aR P'),tL (lots L.length f (i+1)),tN i,sF])/\(kW P').Nodup/\∀j,j∈kW P'↔j < L.length/\f j < i+1:=by
 have hfi:=hf i hi
 have hK:=rO P i
 have hk:=jV i P
 rw[BV]
 by_cases e:f i=i
 ·have hn:i∉kW P:=λz=>by have:=((hP i).mp z).2;omega
  rw[Z2 hn] at hk
  obtain⟨W,ew,o,hW⟩:=AR (first:=i) gr hh (ye L) (!1) hi
  rw[←AS] at ew
  have nW:=o.nd
  have hm:∀j,j∈kW W↔j < L.length/\f j=i:=λj=>by
   constructor
   ·intro z
    have hj:=(nW.2.1 j z).1
    exact⟨hj,((hc i j hi hj).mpr ((hW j hj).mp z)).symm.trans e⟩
   ·rintro⟨hj,ej⟩
    exact(hW j hj).mpr ((hc i j hi hj).mp (by rw[e,ej]))
  have es:=GZ nW.1 hm
  have lP:P.length<=L.length:=by
   have:=rP L.length (kW P) nd λj hj=>((hP j).mp hj).1
   unfold kW at this;rw[K6] at this;exact this
  have lW:=o.len
  have eu:v8 2 (.fr [5]) (aR P) (.dict (aR W))=some (aR (P++W)):=by
   have hsz:(aR P).length+(aR W).length<=sizeLine:=Kw (show _<=1000 by unfold aR;rw[K6,K6];omega) (!8)
   rw[v8,Z4 ⟨rfl,.inr ⟨lY P,lY W⟩,ow P,ow W,hsz⟩,rQ W P nW.1 λj hj z=> ?_]
   have:=((hP j).mp z).2
   have:=((hm j).mp hj).2
   omega
  have hz:(lots L.length f i).length < sizeLine:=XX (Kw (ED _ _ _) (show i<=1000 by omega)) (!8)
  refine⟨P++W,tD (aR W),?_,?_,λj=> ?_⟩
  ·rw[Z4 e]
   simp![bU,cC,hK,hk,ew,sR,eu,es,hz]
  ·unfold kW;rw[X4]
   exact XZ.mpr ⟨nd,nW.1,λa ha b hb z=>by
    subst z
    have:=((hP a).mp ha).2
    have:=((hm a).mp hb).2
    omega⟩
  ·unfold kW;rw[X4,K1]
   rw[show j∈P.map (·.1)↔_ from hP j,show j∈W.map (·.1)↔_ from hm j]
   constructor
   ·rintro(z | z)
    ·exact⟨z.1,by omega⟩
    ·exact⟨z.1,by omega⟩
   ·rintro⟨z1,z2⟩
    by_cases hj:f j=i
    ·exact .inr ⟨z1,hj⟩
    ·exact .inl ⟨z1,by omega⟩
 ·have hn:i∈kW P:=(hP i).mpr ⟨hi,by omega⟩
  rw[Z3 hn] at hk
  refine⟨P,c5,?_,nd,λj=> ?_⟩
  ·rw[Z5 e,Xj]
   simp![bU,cC,hK,hk]
  ·rw[hP j]
   constructor
   ·rintro⟨z1,z2⟩;exact⟨z1,by omega⟩
   ·rintro⟨z1,z2⟩
    refine⟨z1,?_⟩
    by_cases hj:f j=i
    ·have:=(hf j z1).2
     rw[hj] at this;exact absurd this e
    ·omega
theorem B6:bZ [.list (aS h L)]=ah (true,.list (lots L.length f L.length)):=by
 have hb:L.length*h<=1000:=Kw (Jk hl hh) (!8)
 have gr:=EC (h:=h) L hb
 have eg:=ue (h:=h) (L:=L) hb
 have sl:(aS h L).length=L.length:=K6 _
 generalize sH h 0 L []=G at gr eg
 obtain⟨Γ',k1,P,c4,c5,rfl,_,_⟩:=bA (g:=cy 4) (b:=bU) (ds:=(List.range L.length).map λ(i:Nat)=>PyData.int (i:Int)) (Γ:=[fL (aS h L),tD (a7 G),tD (aR []),tL [],none,none])
  (λi Γ=>∃(P:Wy) (c4 c5:Sl),Γ=[fL (aS h L),tD (a7 G),tD (aR P),tL (lots L.length f i),c4,c5]/\(kW P).Nodup/\∀j,j∈kW P↔j < L.length/\f j < i) ⟨[],none,none,rfl,by simp[kW],λj=>by simp[kW]⟩ (by
  rintro i d Γ hd ⟨P,c4,c5,rfl,nd,hP⟩
  obtain⟨rfl,hi⟩:=ce hd
  obtain⟨P',sF,e,q1,q2⟩:=G0 hh hl hf hc G gr i hi P nd hP c5
  exact⟨_,_,rfl,.inl e,P',_,sF,rfl,q1,q2⟩)
 rw[K6,X9] at k1
 have s1:(aB 1 (az dL [(eV 0)])) (cG 6 [.list (aS h L)])=ah (.nx [fL (aS h L),tD (a7 G),none,none,none,none]):=by
  simp![eg]
 have s4:(bD (fi (jA iC [(eV 0)])) (cy 4) bU) [fL (aS h L),tD (a7 G),tD (aR []),tL [],none,none]=ah (.nx [fL (aS h L),tD (a7 G),tD (aR P),tL (lots L.length f L.length),c4,c5]):=by
  simp![sl,Ky,k1]
 refine bR ?_
 unfold iO
 rw[aE s1]
 rw[aE (show(aB 2 oz) _=ah (.nx [fL (aS h L),tD (a7 G),tD (aR []),none,none,none]) from rfl)]
 rw[aE (show(aB 3 (cF [])) _=ah (.nx [fL (aS h L),tD (a7 G),tD (aR []),tL [],none,none]) from rfl)]
 rw[aE s4]
 rfl
end
noncomputable def kp (T vs:List Int):List Int:=T.filter λv=>decide (v∈vs)
theorem f9 (vs:List Int)(v:Int):cP (vs.map PyData.int) (.int v)=decide (v∈vs):=by
 unfold cP
 induction vs with
 | nil=>simp
 | cons a vs ih=>
  rw[Kq,J5,ih,show PyData.eqv (.int a) (.int v)=(a==v) from rfl]
  by_cases e:v=a
  ·subst e;simp
  ·simp[e,Ne.symm e]
theorem HF (hd:jB (eV 0) [fA d,fA (br p)]=ah (kd,T.map PyData.int))(hl:T.length<=100000)(hn:bp (br p)=true):dg [d,br p]=ah (true,.list ((kp T p.1).map PyData.int)):=by
 have hc:=oq (ft:=cg) (fe:=eV 0) (cap:=[fA (br p)]) PyData.int (λv=>decide (v∈p.1)) (λv=>(Kd.fr [],PyData.int v)) T (λv _=>by
  have a0:cb (br p) (.int 0)=some (.tuple (p.1.map PyData.int)):=rfl
  have a1:l4 (.int v) (.tuple (p.1.map PyData.int))=some (.bool (decide (v∈p.1))):=by
   rw[←f9]
   exact Am rfl (iB _ (λ_=>rfl) _)
  show cg [fI v,fA (br p)]=_
  simp![cg,bt hn,a0,aq (bG p.1),a1]) (λv _ _=>rfl)
 have k1:=eN (kp T p.1) PyData.int
 have e2:((kp T p.1).map λv=>(Kd.fr [],PyData.int v)).map Prod.snd=(kp T p.1).map PyData.int:=by rw[X6];rfl
 have hl':(T.map PyData.int).length<=100000:=by rw[K6];exact hl
 refine bR ?_
 show bq (bv (jB (eV 0)) [1] cg gT) [fA d,fA (br p)]=_
 unfold bq bv
 rw[show gT=eV 0 from rfl,hd,aG]
 rw[show hG [fA d,fA (br p)] [1]=[fA (br p)] from rfl]
 show ao (ao (mo (bW cg (eV 0) [fA (br p)] (T.map PyData.int))) _) _=_
 rw[hc]
 show ao (ao (mo (fZ ((kp T p.1).map λv=>(Kd.fr [],PyData.int v)))) _) _=_
 rw[k1]
 show ao (if (T.map PyData.int).length<=100000 then ah (Kd.fr [],PyData.list (((kp T p.1).map λv=>(Kd.fr [],PyData.int v)).map Prod.snd)) else none) _=_
 rw[Z4 hl',e2];rfl
theorem yf (hl:T.length<=100000)(hn:bp (br p)=true):dg [.tuple (T.map PyData.int),br p]=ah (true,.list ((kp T p.1).map PyData.int)):=HF (kd:=.fr []) (d:=.tuple (T.map PyData.int)) (by
 have n:=bG T
 simp![aq n]) hl hn
theorem yg (hl:T.length<=100000)(hn:bp (br p)=true):dg [.list (T.map PyData.int),br p]=ah (true,.list ((kp T p.1).map PyData.int)):=HF (d:=.list (T.map PyData.int)) rfl hl hn
noncomputable def cm (L:List Rn)(l:List Nat)(T:List Int):List Int:=l.foldl (λT i=>kp T (L.getD i ([],[])).1) T
theorem zw (T vs:List Int):(kp T vs).length<=T.length:=Xw _ _
theorem run_at (r:E1 h L)(hi:i < L.length):∃p,L[i]? =some p/\L.getD i ([],[])=p/\bp (br p)=true/\cb (.list (L.map br)) (.int (i:Int))=some (br p)/\sE h 12 p.1 p.2:=by
 have ep:L[i]? =some L[i]:=K5 hi
 have w:=r _ (Y3 ep)
 refine⟨L[i],ep,by rw[KW,ep];rfl,ku w,?_,w⟩
 show jZ _ _=_
 exact bN (by rw[KZ,ep];rfl)
theorem MG (d1:Sl)(r:E1 h L):∀(l:List Nat) (T:List Int) (c3:Sl),(∀i∈l,i < L.length)->T.length<=100000->∃KC:Sl,bw (cy 3) aV (l.map nat) [fL (L.map br),d1,tL (T.map PyData.int),c3]=ah (.nx [fL (L.map br),d1,tL ((cm L l T).map PyData.int),KC])
 | [],T,c3,_,_=>⟨c3,rfl⟩
 | i :: l,T,c3,hi,hl=>by
  obtain⟨p,ep,hp,hn,ea,w⟩:=run_at r (hi i K9)
  have e:=yg (T:=T) hl hn
  obtain⟨KC,ih⟩:=MG d1 r l (kp T p.1) (tN i) (λj hj=>hi j (K8 _ hj)) (Kw (zw _ _) hl)
  refine⟨KC,?_⟩
  have hb:aV [fL (L.map br),d1,tL (T.map PyData.int),tN i]=ah (.nx [fL (L.map br),d1,tL ((kp T p.1).map PyData.int),tN i]):=by
   simp![aV,ea,bt hn,e]
  refine ym rfl hb ?_
  refine ih.trans ?_
  unfold cm;rw[UY,hp]
theorem B7 (r:E1 h L)(hh:h<=4)(a:Nat)(l:List Nat)(hi:∀i∈a :: l,i < L.length):cX [.list (L.map br),.list ((a :: l).map nat)]=ah (true,.list ((cm L (a :: l) (L.getD a ([],[])).1).map PyData.int)):=by
 obtain⟨p,ep,hp,hn,ea,w⟩:=run_at r (hi a K9)
 have hl:p.1.length<=100000:=by rw[w.hv];omega
 have e:=yf (T:=p.1) hl hn
 obtain⟨c3,e1⟩:=MG (fL ((a :: l).map nat)) r l (kp p.1 p.1) (tN a) (λj hj=>hi j (K8 _ hj)) (Kw (zw _ _) hl)
 have a0:cb (br p) (.int 0)=some (.tuple (p.1.map PyData.int)):=rfl
 have a1:cb (.list ((a :: l).map nat)) (.int 0)=some (.int (a:Int)):=by
  show jZ ((a :: l).map nat) ((0:Nat):Int)=_
  exact bN rfl
 have n:=bG p.1
 generalize hx:(a :: l).map nat=xs at a1 e1⊢
 have s1:(aB 2 (dk cb (dk cb (eV 0) (dk cb (eV 1) (eC (.int 0)))) (eC (.int 0)))) (cG 4 [.list (L.map br),.list xs])=ah (.nx [fL (L.map br),fL xs,tT (p.1.map PyData.int),none]):=by
  show(aB 2 (dk cb (dk cb (eV 0) (dk cb (eV 1) (eC (.int 0)))) (eC (.int 0)))) [fL (L.map br),fL xs,none,none]=_
  simp![a1,ea,bt hn,a0,aq n]
 have hb:aV [fL (L.map br),fL xs,tT (p.1.map PyData.int),tN a]=ah (.nx [fL (L.map br),fL xs,tL ((kp p.1 p.1).map PyData.int),tN a]):=by
  simp![aV,ea,bt hn,aq n,e]
 have s2:(bD (jB (eV 1)) (cy 3) aV) [fL (L.map br),fL xs,tT (p.1.map PyData.int),none]=ah (.nx [fL (L.map br),fL xs,tL ((cm L l (kp p.1 p.1)).map PyData.int),c3]):=by
  show bw (cy 3) aV xs [fL (L.map br),fL xs,tT (p.1.map PyData.int),none]=_
  rw[show bw (cy 3) aV xs [fL (L.map br),fL xs,tT (p.1.map PyData.int),none]=bw (cy 3) aV (.int (a:Int) :: l.map nat) [fL (L.map br),fL xs,tT (p.1.map PyData.int),none] by rw[←hx];rfl]
  refine ym rfl hb ?_
  exact e1
 refine bR ?_
 unfold gU
 rw[aE s1,aE s2]
 rw[show cm L (a :: l) (L.getD a ([],[])).1=cm L l (kp p.1 p.1) by unfold cm;rw[UY,hp]]
 rfl
noncomputable def lk (L:List Rn)(v:Int)(i:Nat):Bool:=!decide (v∈(L.getD i ([],[])).1)
theorem MJ (r:E1 h L)(v:Int)(l:List Nat)(hi:∀i∈l,i < L.length)(hl:l.length<=100000)(hg:l.filter (lk L v)=g :: rest):gV [.list (L.map br),.list (l.map nat),.int v]=ah (true,.int (g:Int)):=by
 have hc:=oq (ft:=bB) (fe:=eV 0) (cap:=[fI v,fL (L.map br)]) nat (lk L v) (λi=>(Kd.fr [],nat i)) l (λi him=>by
  obtain⟨p,ep,hp,hn,ea,w⟩:=run_at r (hi i him)
  have a0:cb (br p) (.int 0)=some (.tuple (p.1.map PyData.int)):=rfl
  have a1:dm (.int v) (.tuple (p.1.map PyData.int))=some (.bool (lk L v i)):=by
   unfold lk
   rw[hp,←f9]
   exact kc rfl (iB _ (λ_=>rfl) _)
  show bB [fN i,fI v,fL (L.map br)]=_
  simp![bB,ea,bt hn,a0,aq (bG p.1),a1]) (λi _ _=>rfl)
 rw[hg] at hc
 have k1:=eN (g :: rest) nat
 have e2:((g :: rest).map λi=>(Kd.fr [],nat i)).map Prod.snd=(g :: rest).map nat:=by rw[X6];rfl
 have hl':(l.map nat).length<=100000:=by rw[K6];exact hl
 have ec:bv (jB (eV 1)) [2,0] bB dw [fL (L.map br),fL (l.map nat),fI v]=ah (.fr [],.list ((g :: rest).map nat)):=by
  unfold bv
  rw[show dw=eV 0 from rfl,show jB (eV 1) [fL (L.map br),fL (l.map nat),fI v]=ah (.base,l.map nat) from rfl,aG,show hG [fL (L.map br),fL (l.map nat),fI v] [2,0]=[fI v,fL (L.map br)] from rfl]
  show ao (mo (bW bB (eV 0) [fI v,fL (L.map br)] (l.map nat))) _=_
  rw[hc,fx,aG,k1,fx,aG]
  show(if (l.map nat).length<=100000 then _ else _)=_
  rw[Z4 hl',e2]
 have a1:cb (.list ((g :: rest).map nat)) (.int 0)=some (.int (g:Int)):=by
  show jZ ((g :: rest).map nat) ((0:Nat):Int)=_
  exact bN rfl
 generalize hx:(g :: rest).map nat=xs at ec a1
 refine bR ?_
 show(bq (dk cb (bv (jB (eV 1)) [2,0] bB dw) (eC (.int 0)))) [fL (L.map br),fL (l.map nat),fI v]=_
 unfold bq dk
 rw[ec,aG]
 show ao (ao (ah (Kd.fr [],PyData.int 0)) _) _=_
 rw[aG]
 show ao (ao (mo (cb (.list xs) (.int 0))) _) _=_
 rw[a1];rfl
theorem lC (L:List Rn):∀(l:List Nat) (T:List Int) (v:Int),v∈cm L l T↔v∈T/\∀i∈l,v∈(L.getD i ([],[])).1
 | [],T,v=>by simp[cm]
 | i :: l,T,v=>by
  show v∈cm L l (kp T _)↔_
  rw[lC L l,kp,Ux,decide_eq_true_iff]
  constructor
  ·rintro⟨⟨h1,h2⟩,h3⟩
   refine⟨h1,λj hj=> ?_⟩
   rcases Kx.mp hj with rfl | hj
   ·exact h2
   ·exact h3 j hj
  ·rintro⟨h1,h2⟩
   exact⟨⟨h1,h2 i K9⟩,λj hj=>h2 j (K8 _ hj)⟩
theorem MK (h0:cm L l T=[])(hv:v∈T):∃g rest,l.filter (lk L v)=g :: rest/\g∈l/\v∉(L.getD g ([],[])).1:=by
 cases e:l.filter (lk L v) with
 | nil=>
  have:v∈cm L l T:=(lC L l T v).mpr ⟨hv,λi hi=>by
   have:=List.filter_eq_nil_iff.mp e i hi
   unfold lk at this
   simpa using this⟩
  rw[h0] at this;cases this
 | cons g rest=>
  have hm:g∈l.filter (lk L v):=by rw[e];exact K9
  obtain⟨h1,h2⟩:=Ux.mp hm
  refine⟨g,rest,rfl,h1,?_⟩
  unfold lk at h2
  simpa using h2
noncomputable def vl (L:List Rn)(i:Nat):List Int:=(L.getD i ([],[])).1
def Cd (T:List Int)(d:Zy):Prop:=d= .tuple (T.map PyData.int)∨d= .list (T.map PyData.int)
theorem EJ (L:List Rn)(l m:List Nat)(T:List Int):cm L (l++m) T=cm L m (cm L l T):=List.foldl_append ..
theorem EK (L:List Rn):∀(l:List Nat) (T:List Int),(cm L l T).Sublist T
 | [],T=> .refl _
 | i :: l,T=>(EK L l (kp T _)).trans List.filter_sublist
theorem yh {n h:Nat}{vw:Nat->Nat->Zy}{a b:Nat}{s:List (Nat×Nat)}(f:Fw n h vw a s b):(∀x∈s,x.2 < n)/\((s=[]/\a=b)∨b∈s.map (·.2)):=by
 induction f with
 | nil a=>exact⟨(λx hx=>by cases hx),.inl ⟨rfl,rfl⟩⟩
 | cons h1 h2 h3 _ ih=>
  refine⟨λx hx=> ?_,.inr ?_⟩
  ·rcases Kx.mp hx with rfl | hx
   ·exact h2
   ·exact ih.1 x hx
  ·rcases ih.2 with⟨rfl,rfl⟩ | z
   ·exact K9
   ·exact K8 _ z
theorem Fw.app {n h:Nat}{vw:Nat->Nat->Zy}{a b c:Nat}{s t:List (Nat×Nat)}(f:Fw n h vw a s b)(g:Fw n h vw b t c):Fw n h vw a (s++t) c:=by
 induction f with
 | nil a=>exact g
 | cons h1 h2 h3 _ ih=>exact .cons h1 h2 h3 (ih g)
theorem part1 (d1 d2 d3 d4 d5 d7 d8:Sl)(r:E1 h L):∀(q:List (Nat×Nat)) (T:List Int) (d:Zy) (c9 dZ:Sl),(∀s∈q,s.2 < L.length)->T.length<=100000->Cd T d->∃(d':Zy) (gN iX:Sl),bw (kI [9,10]) cY (fq q) [fL (L.map br),d1,d2,d3,d4,d5,tA d,d7,d8,c9,dZ]=
  ah (.nx [fL (L.map br),d1,d2,d3,d4,d5,tA d',d7,d8,gN,iX])/\Cd (cm L (q.map (·.2)) T) d'
 | [],T,d,c9,dZ,_,_,hd=>⟨d,c9,dZ,rfl,hd⟩
 | s :: q,T,d,c9,dZ,hi,hl,hd=>by
  obtain⟨p,ep,hp,hn,ea,w⟩:=run_at r (hi s K9)
  obtain⟨d',gN,iX,ih,hd'⟩:=part1 d1 d2 d3 d4 d5 d7 d8 r q (kp T p.1) (.list ((kp T p.1).map PyData.int)) (tN s.1) (tN s.2) (λj hj=>hi j (K8 _ hj)) (Kw (zw _ _) hl) (.inr rfl)
  refine⟨d',gN,iX,?_,by rw[Kq,cm,UY,hp];exact hd'⟩
  have hb:cY [fL (L.map br),d1,d2,d3,d4,d5,tA d,d7,d8,tN s.1,tN s.2]=ah (.nx [fL (L.map br),d1,d2,d3,d4,d5,tL ((kp T p.1).map PyData.int),d7,d8,tN s.1,tN s.2]):=by
   rcases hd with rfl | rfl
   ·have e:=yf (T:=T) hl hn
    have n:=bG T
    simp![cY,ea,bt hn,aq n,e]
   ·have e:=yg (T:=T) hl hn
    simp![cY,ea,bt hn,e]
  refine ym rfl hb ?_
  exact ih
section
variable {h:Nat}{L:List Rn}(hh:h<=4)(hl:L.length<=200)(r:E1 h L){part:List Nat}(hp:∀i∈part,i < L.length)(hpl:part.length<=1000)(hc:∀i∈part,∀j∈part,Cn L.length h (vw L) i j){a:Nat}(h0:cm L part (vl L a)=[])
include hh hl r hp hpl hc h0
theorem part2 (gr:EZ L.length h (vw L) G):∀(m fuel here:Nat) (S:List (Nat×Nat)) (d:Zy) (c7 c8 c9 dZ:Sl),here∈part->Fw L.length h (vw L) a S here->Cd (cm L (S.map (·.2)) (vl L a)) d->(cm L (S.map (·.2)) (vl L a)).length<=m->m+1<=fuel->S.length+200*m<=1000->m<=4->
  ∃(S':List (Nat×Nat)) (b:Nat) (c5 c6 fc pM gN iX:Sl),dX fuel gY gX [fL (L.map br),fL (aS h L),fL (part.map nat),tD (a7 G),tL (fq S),tN here,tA d,c7,c8,c9,dZ]=
  ah (.nx [fL (L.map br),fL (aS h L),fL (part.map nat),tD (a7 G),tL (fq S'),c5,c6,fc,pM,gN,iX])/\Fw L.length h (vw L) a S' b/\cm L (S'.map (·.2)) (vl L a)=[]/\S'.length<=1000:=by
 intro m
 induction m with
 | zero=>
  intro fuel here S d c7 c8 c9 dZ ph fw hd hm hf hS _
  obtain⟨fuel,rfl⟩:∃k,fuel=k+1:=⟨fuel - 1,by omega⟩
  have e0:cm L (S.map (·.2)) (vl L a)=[]:=Yk (!1)
  rw[e0] at hd
  refine⟨S,here,tN here,tA d,c7,c8,c9,dZ,?_,fw,e0,by omega⟩
  rcases hd with rfl | rfl <;> exact lB rfl
 | succ m ih=>
  intro fuel here S d c7 c8 c9 dZ ph fw hd hm hf hS h4
  obtain⟨fuel,rfl⟩:∃k,fuel=k+1:=⟨fuel - 1,by omega⟩
  cases eT:cm L (S.map (·.2)) (vl L a) with
  | nil=>
   rw[eT] at hd
   refine⟨S,here,tN here,tA d,c7,c8,c9,dZ,?_,fw,eT,by omega⟩
   rcases hd with rfl | rfl <;> exact lB rfl
  | cons v T=>
   have ML:v∈cm L (S.map (·.2)) (vl L a):=by rw[eT];exact K9
   have hsub:∀u∈cm L (S.map (·.2)) (vl L a),u∈vl L a:=λu hu=>((lC _ _ _ _).mp hu).1
   obtain⟨g,rest,eg,gm,gv⟩:=MK h0 (hsub v ML)
   have Qy:=MJ r v part hp (!1) eg
   have hin:v∈vl L here:=by
    rcases(yh fw).2 with⟨rfl,rfl⟩ | z
    ·exact hsub v ML
    ·exact((lC _ _ _ _).mp ML).2 _ z
   have Qz:here≠g:=λz=>gv (z ▸ hin)
   obtain⟨W,ew,o,hW⟩:=AR (first:=here) gr hh (ye L) (!1) (hp here ph)
   rw[←AS] at ew
   have gW:g∈kW W:=(hW g (hp g gm)).mpr (hc here ph g gm)
   obtain⟨p,p1,p2,p3,_⟩:=o.path g gW
   have ol:=o.len
   have er:=zv gW p1 (!1)
   have pf:=yh p3
   obtain⟨d',gN,iX,e1,hd'⟩:=part1 (fL (aS h L)) (fL (part.map nat)) (tD (a7 G)) (tL (fq S)) (tN here) (tN g) (fL (fq p.reverse)) r p.reverse _ d c9 dZ pf.1 (!1) hd
   rw[←EJ,←X4] at hd'
   have QA:g∈p.reverse.map (·.2):=pf.2.elim (λz=>absurd z.2 Qz) id
   have hlt:(cm L ((S++p.reverse).map (·.2)) (vl L a)).length < (cm L (S.map (·.2)) (vl L a)).length:=by
    rw[X4,EJ]
    have sb:=EK L (p.reverse.map (·.2)) (cm L (S.map (·.2)) (vl L a))
    rcases Nat.lt_or_ge (cm L (p.reverse.map (·.2)) (cm L (S.map (·.2)) (vl L a))).length (cm L (S.map (·.2)) (vl L a)).length with z | z
    ·exact z
    ·have:=sb.eq_of_length_le z
     rw[←this] at ML
     exact absurd (((lC _ _ _ _).mp ML).2 g QA) gv
   have hrl:p.reverse.length<=200:=by rw[Xy];omega
   obtain⟨S',b,c5,c6,fc,pM,vH,yi,e2,q1,q2,q3⟩:=ih fuel g (S++p.reverse) d' (tN g) (fL (fq p.reverse)) gN iX gm (fw.app p3) hd' (!1) (!1) (by rw[K2];omega) (!1)
   refine⟨S',b,c5,c6,fc,pM,vH,yi,?_,q1,q2,q3⟩
   have nn:=vJ p.reverse
   have hz:(fq S).length+(fq p.reverse).length<=sizeLine:=Kw (show _<=5000 by rw[nK,nK];omega) (!8)
   have ee:fq S++fq p.reverse=fq (S++p.reverse):=by unfold fq;rw[X4]
   rw[eT] at hd
   have a0:cb d (.int 0)=some (.int v)/\iC [d]=some (.int ((T.length+1:Nat):Int)):=by
    rcases hd with rfl | rfl
    ·exact⟨bN (xs:=(v :: T).map PyData.int) (j:=0) rfl,by rw[wN,K6];rfl⟩
    ·exact⟨bN (xs:=(v :: T).map PyData.int) (j:=0) rfl,by rw[tQ,K6];rfl⟩
   refine(nH ?_ ?_).trans e2
   ·have hd0:decide ((0:Int) < ((T.length+1:Nat):Int))=true:=Z3 (!1)
    simp![gY,a0.2,hd0]
   ·unfold gX
    refine lV (by simp![a0.1,Qy];rfl) ?_
    refine lV (by simp![ew,er];rfl) ?_
    refine lV e1 (lV (Γ':=[fL (L.map br),fL (aS h L),fL (part.map nat),tD (a7 G),tL (fq (S++p.reverse)),tN here,tA d',tN g,fL (fq p.reverse),gN,iX]) ?_ rfl)
    rw[←ee]
    show(if ar (fq p.reverse)=true/\(fq S).length+(fq p.reverse).length<=sizeLine then _ else _)=_
    rw[Z4 ⟨nn,hz⟩];rfl
end
structure Nd (h:Nat)(L:List Rn)(l:List Nat):Prop where
 i:∀x∈l,x < L.length
 c:∀i∈l,∀j∈l,Cn L.length h (vw L) i j
 n:l≠[]
 l:l.length<=200
noncomputable def gd (L:List Rn)(l:List Nat):List Int:=cm L l (vl L (l.headD 0))
section
variable {h:Nat}{L:List Rn}(hh:h<=4)(hl:L.length<=200)(r:E1 h L)
include hh hl r
theorem zx (p:Nd h L (a :: l))(h0:gd L (a :: l)=[]):∃(S:List (Nat×Nat)) (b:Nat),gn [.list (L.map br),.list (aS h L),.list ((a :: l).map nat)]=ah (true,.list (fq S))/\Fw L.length h (vw L) a S b/\cm L (S.map (·.2)) (vl L a)=[]/\S.length<=1000:=by
 have hb:L.length*h<=1000:=Kw (Jk hl hh) (!8)
 have eg:=ue (h:=h) (L:=L) hb
 obtain⟨q,ep,hp,hn,ea,w⟩:=run_at r (p.i a K9)
 have hv:vl L a=q.1:=congrArg Prod.fst hp
 obtain⟨S,b,c5,c6,c7,c8,c9,dZ,e,q1,q2,q3⟩:=part2 hh hl r p.i (by have:=p.l;omega) p.c h0 (EC (h:=h) L hb) 4 pY a [] (.tuple ((vl L a).map PyData.int)) none none none none K9 (.nil a) (.inl rfl) (by show(vl L a).length<=4;rw[hv,w.hv];exact hh) (!8) (by simp) (!1)
 refine⟨S,b,?_,q1,q2,q3⟩
 rw[hv] at e
 have a1:cb (.list ((a :: l).map nat)) (.int 0)=some (.int (a:Int)):=by
  show jZ ((a :: l).map nat) ((0:Nat):Int)=_
  exact bN rfl
 have a0:cb (br q) (.int 0)=some (.tuple (q.1.map PyData.int)):=rfl
 have n:=bG q.1
 generalize (a :: l).map nat=xs at a1 e⊢
 refine bR ?_
 unfold jq
 refine lV (by simp![eg,Nat.reduceSub,Nat.reduceAdd];rfl) (lV rfl ?_)
 refine lV (by simp![a1];rfl) ?_
 refine lV (by simp![ea,bt hn,a0,aq n];rfl) ?_
 exact lV e rfl
end
structure TB (h:Nat)(L:List Rn)(cv:Nat->Int)(kvs:j3)(b:Nat):Prop where
 l:kvs.length<=b
 e:∀p∈kvs,∃i k,i < L.length/\k < h/\p.1=vw L i k/\p.2= .int (cv i)
theorem TB.t (t:TB h L cv kvs b):f6 kvs=true:=Uz.mpr λp hp=>by
 obtain⟨i,k,_,_,e,_⟩:=t.e p hp
 rw[e];exact(ye L i k).2.1
theorem TB.v (t:TB h L cv kvs b):dY kvs=true:=aF.mpr λx hx=>by
 obtain⟨p,hp,rfl⟩:=Ku.mp hx
 obtain⟨i,k,_,_,_,e⟩:=t.e p hp
 rw[e];rfl
theorem TB.put (t:TB h L cv kvs b)(hi:i < L.length)(hk:k < h):TB h L cv (putK kvs (vw L i k) (.int (cv i))) (b+1):=by
 have h3:=t.l
 unfold putK
 split
 ·refine⟨by rw[K6];omega,λp hp=> ?_⟩
  obtain⟨q,hq,rfl⟩:=Ku.mp hp
  split
  ·rename_i hc
   obtain⟨i',k',_,_,e,_⟩:=t.e q hq
   rw[e] at hc
   exact⟨i,k,hi,hk,e.trans ((gE (ye L i' k').1 (ye L i k).1).mp hc),rfl⟩
  ·exact t.e q hq
 ·refine⟨by rw[K2,X8];omega,λp hp=> ?_⟩
  rcases K1.mp hp with hp | hp
  ·exact t.e p hp
  ·rw[K7.mp hp];exact⟨i,k,hi,hk,rfl,rfl⟩
theorem EL (h:eU kvs y=true):eU (putK kvs x v) y=true:=by
 obtain⟨p,hp,e⟩:=Y8.mp h
 unfold putK
 split
 ·refine Y8.mpr ⟨_,Ku.mpr ⟨p,hp,rfl⟩,?_⟩
  split <;> exact e
 ·exact Y8.mpr ⟨p,KY _ hp,e⟩
theorem G1 (hx:pl x=true):eU (putK kvs x v) x=true:=by
 by_cases h:eU kvs x=true
 ·exact EL h
 ·unfold putK;rw[Z5 h]
  exact Y8.mpr ⟨_,Kk _ (K7.mpr rfl),vB x hx⟩
theorem TB.get (t:TB h L cv kvs b)(hcv:∀i j k k',i < L.length->j < L.length->k < h->vw L i k=vw L j k'->cv i=cv j)(hi:i < L.length)(hk:k < h)(hs:eU kvs (vw L i k)=true):d6 kvs (vw L i k)=some (.int (cv i)):=by
 unfold d6
 cases e:kvs.find? λp=>PyData.eqv p.1 (vw L i k) with
 | none=>
  obtain⟨p,hp,e1⟩:=Y8.mp hs
  exact absurd e1 (List.find?_eq_none.mp e p hp)
 | some p=>
  obtain⟨i',k',h1,h2,h3,h4⟩:=t.e p (List.mem_of_find?_eq_some e)
  have hc:=List.find?_some e
  rw[h3] at hc
  have ev:=(gE (ye L i' k').1 (ye L i k).1).mp hc
  show some p.2=_
  rw[h4,hcv i' i k' k h1 hi h2 ev]
theorem HG (d0 d1 d2 d3 d4 d5 d7 d9:Sl)(hi:i < L.length)(C:List Zy):∀(ks:List Nat) (kvs:j3) (b:Nat) (dZ:Sl),(∀k∈ks,k < h)->TB h L cv kvs b->b+ks.length<=1000000->∃(kvs':j3) (iX:Sl),bw (cy 10) nh (ks.map (vw L i)) [d0,d1,d2,d3,d4,d5,tD kvs,d7,tL (.int (cv i) :: C),d9,dZ]=
  ah (.nx [d0,d1,d2,d3,d4,d5,tD kvs',d7,tL (.int (cv i) :: C),d9,iX])/\TB h L cv kvs' (b+ks.length)/\(∀y,eU kvs y=true->eU kvs' y=true)/\∀k∈ks,eU kvs' (vw L i k)=true
 | [],kvs,b,dZ,_,t,_=>⟨kvs,dZ,rfl,t,λ_ h=>h,λk hk=>by cases hk⟩
 | k :: ks,kvs,b,dZ,hx,t,hb=>by
  obtain⟨x0,x1,x2⟩:=ye L i k
  rw[Kj] at hb⊢
  obtain⟨kvs',iX,ih,t',u',w'⟩:=HG d0 d1 d2 d3 d4 d5 d7 d9 hi C ks (putK kvs (vw L i k) (.int (cv i))) (b+1) (tA (vw L i k)) (λy hy=>hx y (K8 _ hy)) (t.put hi (hx k K9)) (!1)
  refine⟨kvs',iX,?_,by rw[show b+(ks.length+1)=b+1+ks.length by omega];exact t',λy hy=>u' y (EL hy),λy hy=> ?_⟩
  ·have hK:cH kvs (vw L i k)=true:=by unfold cH;rw[x1,t.t];rfl
   have hz:kvs.length < sizeLine:=XX (Kw t.l (show b<=1000000 by omega)) (!8)
   have a0:jZ (.int (cv i) :: C) 0=some (.int (cv i)):=bN (j:=0) rfl
   have hb:nh [d0,d1,d2,d3,d4,d5,tD kvs,d7,tL (.int (cv i) :: C),d9,tA (vw L i k)]=ah (.nx [d0,d1,d2,d3,d4,d5,tD (putK kvs (vw L i k) (.int (cv i))),d7,tL (.int (cv i) :: C),d9,tA (vw L i k)]):=by
    simp![nh,oB,oA,a0,bt x2,hK,t.v,hz,and_self]
   refine ym (by rw[bt x2];rfl) hb ?_
   exact ih
  ·rcases Kx.mp hy with rfl | hy
   ·exact u' _ (G1 x0)
   ·exact w' y hy
theorem KI (hi:i < L.length):kK h L[i]=(!2).map (vw L i):=by
 unfold kK vw;rw[KW,K5 hi];rfl
theorem G2 {h:Nat}{L:List Rn}{i:Nat}(hi:i < L.length):cb (.list (aS h L)) (.int (i:Int))=some (.list (kK h L[i])):=by
 show jZ (aS h L) (i:Int)=_
 exact bN (by unfold aS;rw[KZ,K5 hi];rfl)
theorem HH (d0 d1 d2 d3 d4 d7:Sl)(c:Int)(C:List Zy)(hh:h<=4):∀(l:List Nat) (kvs:j3) (b:Nat) (o5:Bool) (c9 dZ:Sl),(∀i∈l,i < L.length/\cv i=c)->TB h L cv kvs b->b+l.length*4<=1000000->∃(kvs':j3) (o5':Bool) (gN iX:Sl),bw (cy 9) ni (l.map nat) [d0,d1,d2,d3,d4,some (o5,.list (aS h L)),tD kvs,d7,tL (.int c :: C),c9,dZ]=
  ah (.nx [d0,d1,d2,d3,d4,some (o5',.list (aS h L)),tD kvs',d7,tL (.int c :: C),gN,iX])/\TB h L cv kvs' (b+l.length*4)/\(∀y,eU kvs y=true->eU kvs' y=true)/\∀i∈l,∀k,k < h->eU kvs' (vw L i k)=true
 | [],kvs,b,o5,c9,dZ,_,t,_=>⟨kvs,o5,c9,dZ,rfl,t,λ_ h=>h,λi hi=>by cases hi⟩
 | i :: l,kvs,b,o5,c9,dZ,hi,t,hb=>by
  obtain⟨ii,rfl⟩:=hi i K9
  rw[Kj] at hb⊢
  obtain⟨k1,iX,e1,t1,u1,w1⟩:=HG d0 d1 d2 d3 d4 (fL (aS h L)) d7 (tN i) ii C (!2) kvs b dZ (λk hk=>X1.mp hk) t (by rw[X9];omega)
  rw[X9] at t1
  obtain⟨k2,o5',gN,yi,ih,t2,u2,w2⟩:=HH d0 d1 d2 d3 d4 d7 (cv i) C hh l k1 (b+4) false (tN i) iX (λj hj=>hi j (K8 _ hj)) ⟨by have:=t1.l;omega,t1.e⟩ (!1)
  refine⟨k2,o5',gN,yi,?_,by rw[show b+(l.length+1)*4=b+4+l.length*4 by omega];exact t2,λy hy=>u2 y (u1 y hy),λj hj k hk=> ?_⟩
  ·have sa:=G2 (h:=h) ii
   rw[KI ii] at sa
   have hb:∀o5:Bool,ni [d0,d1,d2,d3,d4,some (o5,.list (aS h L)),tD kvs,d7,tL (.int (cv i) :: C),tN i,dZ]=ah (.nx [d0,d1,d2,d3,d4,fL (aS h L),tD k1,d7,tL (.int (cv i) :: C),tN i,iX]):=λo5=>by
    unfold ni bD
    have hx:jB (dk cb (eV 5) (eV 9)) [d0,d1,d2,d3,d4,some (o5,.list (aS h L)),tD kvs,d7,tL (.int (cv i) :: C),tN i,dZ]=ah (if o5=true then .fr [5] else .base,(!2).map (vw L i)):=by
     show ao (ao (mo (cb (.list (aS h L)) (.int (i:Int)))) _) _=_
     rw[sa];cases o5 <;> rfl
    rw[hx,aG]
    cases o5 <;> exact e1
   refine ym rfl (hb _) ?_
   exact ih
  ·rcases Kx.mp hj with rfl | hj
   ·exact u2 _ (w1 k (X1.mpr hk))
   ·exact w2 j hj k hk
noncomputable def Cc (L:List Rn)(ls:List (List Nat)):Bool:=ls.all λl=> !(gd L l).isEmpty
def E2 (ls:List (List Nat)):List Zy:=ls.map λl=> .list (l.map nat)
section
variable {h:Nat}{L:List Rn}(hh:h<=4)(hl:L.length<=200)(r:E1 h L)
include hh hl r
theorem HI (d0 d1 d2 d3:Sl) :∀(ls:List (List Nat)) (kvs:j3) (b:Nat) (o5:Bool) (c7 c8 c9 dZ:Sl),(∀l∈ls,Nd h L l/\∀i∈l,cv i=(gd L l).headD 0)->TB h L cv kvs b->b+ls.length*800<=1000000->
  (Cc L ls=true->∃(kvs':j3) (o5':Bool) (fc pM gN iX:Sl),bw (cy 7) cw (E2 ls) [d0,d1,d2,d3,tL (L.map br),some (o5,.list (aS h L)),tD kvs,c7,c8,c9,dZ]=
   ah (.nx [d0,d1,d2,d3,tL (L.map br),some (o5',.list (aS h L)),tD kvs',fc,pM,gN,iX])/\TB h L cv kvs' (b+ls.length*800)/\(∀y,eU kvs y=true->eU kvs' y=true)/\∀l∈ls,∀i∈l,∀k,k < h->eU kvs' (vw L i k)=true)/\
  (Cc L ls=false->∃ds,bw (cy 7) cw (E2 ls) [d0,d1,d2,d3,tL (L.map br),some (o5,.list (aS h L)),tD kvs,c7,c8,c9,dZ]=ah (.rt true (.tuple (.str (Str.ofString "row") :: ds))))
 | [],kvs,b,o5,c7,c8,c9,dZ,_,t,_=>⟨λ_=>⟨kvs,o5,c7,c8,c9,dZ,rfl,t,λ_ h=>h,λl hl=>by cases hl⟩,λz=>by cases z⟩
 | l :: ls,kvs,b,o5,c7,c8,c9,dZ,hP,t,hb=>by
  obtain⟨p,pc⟩:=hP l K9
  rw[Kj] at hb
  obtain⟨a,m,rfl⟩:∃a m,l=a :: m:=by
   cases l with
   | nil=>exact absurd rfl p.n
   | cons a m=>exact⟨a,m,rfl⟩
  have ec:=B7 r hh a m p.i
  have ec:cX [.list (L.map br),.list ((a :: m).map nat)]=ah (true,.list ((gd L (a :: m)).map PyData.int)):=ec
  have MM:bw (cy 7) cw (E2 ((a :: m) :: ls)) [d0,d1,d2,d3,tL (L.map br),some (o5,.list (aS h L)),tD kvs,c7,c8,c9,dZ]=ao (cw [d0,d1,d2,d3,tL (L.map br),some (o5,.list (aS h L)),tD kvs,fL ((a :: m).map nat),c8,c9,dZ]) λo=>match o with
   | .nx Γ'=>bw (cy 7) cw (E2 ls) Γ'
   | .ct Γ'=>bw (cy 7) cw (E2 ls) Γ'
   | .bk Γ'=>ah (.nx Γ')
   | .rt o d=>ah (.rt o d):=rfl
  rw[MM]
  have pl:=p.l
  have s1:(aB 8 (az cX [(eV 4),(eV 7)])) [d0,d1,d2,d3,tL (L.map br),some (o5,.list (aS h L)),tD kvs,fL ((a :: m).map nat),c8,c9,dZ]=ah (.nx [d0,d1,d2,d3,tL (L.map br),some (o5,.list (aS h L)),tD kvs,fL ((a :: m).map nat),tL ((gd L (a :: m)).map PyData.int),c9,dZ]):=by
   generalize (a :: m).map nat=xs at ec⊢
   simp![ec]
  cases hg:gd L (a :: m) with
  | nil=>
   have hag:Cc L ((a :: m) :: ls)=false:=by unfold Cc;rw[List.all_cons,hg];rfl
   refine⟨λz=>(by rw[hag] at z;cases z),λ_=> ?_⟩
   obtain⟨S,b',e,_⟩:=zx hh hl r p hg
   refine⟨[.int (a:Int),.list (fq S)],?_⟩
   rw[hg] at s1
   have a1:cb (.list ((a :: m).map nat)) (.int 0)=some (.int (a:Int)):=by
    show jZ ((a :: m).map nat) ((0:Nat):Int)=_
    exact bN rfl
   have hB:cw [d0,d1,d2,d3,tL (L.map br),some (o5,.list (aS h L)),tD kvs,fL ((a :: m).map nat),c8,c9,dZ]=ah (.rt true (.tuple [.str (Str.ofString "row"),.int (a:Int),.list (fq S)])):=by
    unfold cw
    rw[aE s1]
    generalize (a :: m).map nat=xs at e a1⊢
    refine(vG ((xU rfl).trans ?_)).trans rfl
    unfold bq fV
    simp![a1,e,cQ.eq_1,ite_self]
   rw[hB,aG]
  | cons c C=>
   have hag:Cc L ((a :: m) :: ls)=Cc L ls:=by unfold Cc;rw[List.all_cons,hg];rfl
   rw[hag]
   rw[hg] at s1
   obtain⟨k1,o1,gN,iX,e1,t1,u1,w1⟩:=HH d0 d1 d2 d3 (tL (L.map br)) (fL ((a :: m).map nat)) c (C.map PyData.int) hh (a :: m) kvs b o5 c9 dZ (λi hi=>⟨p.i i hi,(pc i hi).trans (by rw[hg];rfl)⟩) t (!1)
   have hB:cw [d0,d1,d2,d3,tL (L.map br),some (o5,.list (aS h L)),tD kvs,fL ((a :: m).map nat),c8,c9,dZ]=ah (.nx [d0,d1,d2,d3,tL (L.map br),some (o1,.list (aS h L)),tD k1,fL ((a :: m).map nat),tL ((c :: C).map PyData.int),gN,iX]):=by
    unfold cw
    rw[aE s1]
    have hq:(((((c :: C).map PyData.int).length:Nat):Int)==0)=false:=by
     rw[beq_eq_false_iff_ne,K6,Kj];omega
    rw[←Kq] at e1
    generalize (c :: C).map PyData.int=xs at e1 hq⊢
    have ei:(hJ (tE (bg oY (jA iC [(eV 8)]) (eC (.int 0)))) (bq (fV [(eC (.str (Str.ofString "row"))),(dk cb (eV 7) (eC (.int 0))),(az gn [(eV 4),(eV 5),(eV 7)])])) cc) [d0,d1,d2,d3,tL (L.map br),some (o5,.list (aS h L)),tD kvs,fL ((a :: m).map nat),tL xs,c9,dZ]=ah (.nx [d0,d1,d2,d3,tL (L.map br),some (o5,.list (aS h L)),tD kvs,fL ((a :: m).map nat),tL xs,c9,dZ]):=by
     generalize (a :: m).map nat=ys
     simp![hq]
    rw[aE ei]
    exact e1
   rw[hB,aG]
   obtain⟨q1,q2⟩:=HI d0 d1 d2 d3 ls k1 (b+(a :: m).length*4) o1 (fL ((a :: m).map nat)) (tL ((c :: C).map PyData.int)) gN iX (λx hx=>hP x (K8 _ hx)) t1 (!1)
   refine⟨λz=> ?_,q2⟩
   obtain⟨k2,o2,fc,pM,vH,yi,e2,t2,u2,w2⟩:=q1 z
   refine⟨k2,o2,fc,pM,vH,yi,e2,⟨by have:=t2.l;rw[Kj];omega,t2.e⟩,λy hy=>u2 y (u1 y hy),λl hl i hi k hk=> ?_⟩
   rcases Kx.mp hl with rfl | hl
   ·exact u2 _ (w1 i hi k hk)
   ·exact w2 l hl i hi k hk
theorem G3 {ws ss:List Zy}{k:Nat}(ea:bY [.list ws,.int (k:Int),.list ss]=ah (true,.list (L.map br))){ls:List (List Nat)}{cv:Nat->Int}(hP:∀l∈ls,Nd h L l/\∀i∈l,cv i=(gd L l).headD 0)(hls:ls.length<=200)(ej:bZ [.list (aS h L)]=ah (true,.list (E2 ls))) :
  (Cc L ls=true->∃kvs,fJ [.int (h:Int),.list ws,.int (k:Int),.list ss]=ah (false,.tuple [.str (!9),.dict kvs])/\TB h L cv kvs 1000000/\∀l∈ls,∀i∈l,∀k,k < h->eU kvs (vw L i k)=true)/\
  (Cc L ls=false->∃ds,fJ [.int (h:Int),.list ws,.int (k:Int),.list ss]=ah (true,.tuple (.str (Str.ofString "row") :: ds))):=by
 have ev:=yc hh r (!1)
 have s1:(aB 4 (az bY [(eV 1),(eV 2),(eV 3)])) (cG 11 [.int (h:Int),.list ws,.int (k:Int),.list ss])=ah (.nx [fN h,fL ws,fN k,fL ss,tL (L.map br),none,none,none,none,none,none]):=by
  simp![ea,Nat.reduceSub,Nat.reduceAdd]
 have s2:(aB 5 (az dJ [(eV 0),(eV 4)])) [fN h,fL ws,fN k,fL ss,tL (L.map br),none,none,none,none,none,none]=ah (.nx [fN h,fL ws,fN k,fL ss,tL (L.map br),tL (aS h L),none,none,none,none,none]):=by
  simp![ev]
 have eq:u7 (cG 11 [.int (h:Int),.list ws,.int (k:Int),.list ss])=aw (bD (jB (az bZ [(eV 5)])) (cy 7) cw) (bq (fV [(eC (.str (!9))),(eV 6)])) [fN h,fL ws,fN k,fL ss,tL (L.map br),tL (aS h L),tD [],none,none,none,none]:=by
  unfold u7
  rw[aE s1,aE s2];rfl
 obtain⟨p1,p2⟩:=HI hh hl r (fN h) (fL ws) (fN k) (fL ss) ls [] 0 true none none none none hP ⟨K0 _,λp hp=>by cases hp⟩ (!1)
 have ef:(bD (jB (az bZ [(eV 5)])) (cy 7) cw) [fN h,fL ws,fN k,fL ss,tL (L.map br),tL (aS h L),tD [],none,none,none,none]=bw (cy 7) cw (E2 ls) [fN h,fL ws,fN k,fL ss,tL (L.map br),tL (aS h L),tD [],none,none,none,none]:=by
  unfold bD
  have hx:jB (az bZ [(eV 5)]) [fN h,fL ws,fN k,fL ss,tL (L.map br),tL (aS h L),tD [],none,none,none,none]=ah (.fr [],E2 ls):=by
   simp![ej]
  rw[hx,aG];rfl
 refine⟨λhag=> ?_,λhag=> ?_⟩
 ·obtain⟨kvs,o5,c7,c8,c9,dZ,e,t,_,w⟩:=p1 hag
  refine⟨kvs,bR ?_,⟨by have:=t.l;omega,t.e⟩,w⟩
  rw[eq,aE (ef.trans e)];rfl
 ·obtain⟨ds,e⟩:=p2 hag
  refine⟨ds,bR ?_⟩
  rw[eq,vG (ef.trans e)]
end
structure Sv (h:Nat)(kvs:j3)(p:Rn)(c:Int):Prop where
 w:sE h 12 p.1 p.2
 g:∀k,k < h->d6 kvs (bf p.1 p.2 k)=some (.int c)
 c:c∈p.1
theorem AT (h:d6 kvs x=some v):eU kvs x=true:=by
 unfold d6 at h
 cases e:kvs.find? λp=>PyData.eqv p.1 x with
 | none=>rw[e] at h;cases h
 | some p=>exact Y8.mpr ⟨p,List.mem_of_find?_eq_some e,List.find?_some (p:=λ(p:Zy×Zy)=>PyData.eqv p.1 x) e⟩
theorem lD (t:f6 kvs=true)(vs:List Int)(Ws:List (List Zy))(k:Nat):cH kvs (bf vs Ws k)=true:=by unfold cH;rw[oj,t];rfl
theorem EM {α:Type}:∀l:List α,u6 [.list (l.map λ_=> .bool true)]=some (.bool true)
 | []=>rfl
 | a :: l=>by
  have ih:Option.map (λl=>PyData.bool (l.all id)) ((l.map λ_=>PyData.bool true).mapM md)=some (.bool true):=EM l
  show Option.map (λl=>PyData.bool (l.all id)) ((.bool true :: l.map λ_=>PyData.bool true).mapM md)=_
  rw[List.mapM_cons,show md (.bool true)=some true from rfl]
  cases e:(l.map λ_=>PyData.bool true).mapM md with
  | none=>rw[e] at ih;cases ih
  | some m=>rw[e] at ih;exact ih
theorem AU (hh:h<=4)(hi:it Γ=ah (kd,(!2).map f))(hE:∀k,k < h->fe (fA (f k) :: hG Γ ix)=ah (.fr [],.bool true)):jA u6 [bv it ix cW fe] Γ=ah (.fr [],.bool true):=by
 have hc:=nJ (fe:=fe) (cap:=hG Γ ix) f (λ_=>(Kd.fr [],PyData.bool true)) (!2) λk hk=>hE k (X1.mp hk)
 have k1:=eN (!2) λ_=>PyData.bool true
 have hl:((!2).map f).length<=100000:=by rw[K6,X9];omega
 have ec:bv it ix cW fe Γ=ah (.fr [],.list ((!2).map λ_=> .bool true)):=by
  unfold bv
  rw[hi,aG,hc,fx,aG,k1,fx,aG]
  rw[Z4 hl,X6];rfl
 unfold jA eArgs eArgs
 rw[ec]
 show ao (mo (u6 [.list ((!2).map λ_=> .bool true)])) _=_
 rw[EM];rfl
section
variable {h:Nat}{kvs:j3}(hh:h<=4)(h1:1<=h)(t:f6 kvs=true)
include hh h1 t
theorem B8 (s:Sv h kvs p c):la [.int (h:Int),br p,.dict kvs]=ah (true,.bool true):=by
 have ev:=rN hh s.w
 have nr:=ku s.w
 have v0:cb (.list (kK h p)) (.int 0)=some (bf p.1 p.2 0):=by
  show jZ (kK h p) ((0:Nat):Int)=_
  refine bN ?_
  unfold kK;rw[KZ,Y1 h1];rfl
 have g0:mi (.dict kvs) (bf p.1 p.2 0)=some (.int c):=by
  show(if cH kvs (bf p.1 p.2 0)=true then _ else _)=_
  rw[Z4 (lD t _ _ _)];exact s.g 0 h1
 have a0:cb (br p) (.int 0)=some (.tuple (p.1.map PyData.int)):=rfl
 have a1:l4 (.int c) (.tuple (p.1.map PyData.int))=some (.bool true):=by
  rw[show l4 (.int c) (.tuple (p.1.map PyData.int))=_ from Am rfl (iB _ (λ_=>rfl) _),K43.f9,Z3 s.c]
 refine bR ?_
 unfold k_
 refine lV (Γ':=[fN h,fA (br p),fD kvs,tL (kK h p),none]) (by simp![ev,bt nr,Nat.reduceSub]) ?_
 refine lV ((xV ?_).trans rfl) ?_
 ·unfold vX tE
  rw[AU (f:=bf p.1 p.2) (kd:=.fr [3]) hh rfl λk hk=> ?_]
  ·rfl
  ·show jr [fA (bf p.1 p.2 k),fD kvs]=_
   have e:l4 (bf p.1 p.2 k) (.dict kvs)=some (.bool true):=by
    show(if cH kvs (bf p.1 p.2 k)=true then _ else _)=_
    rw[Z4 (lD t _ _ _),AT (s.g k hk)]
   simp![jr,e]
 ·refine lV (Γ':=[fN h,fA (br p),fD kvs,tL (kK h p),tI c]) (by simp![v0,g0,bt (jU p.1 p.2 0)]) ?_
  have e2:jA u6 [bv (jB (eV 3)) [4,2] cW eF] [fN h,fA (br p),fD kvs,tL (kK h p),tI c]=ah (.fr [],.bool true):=AU (f:=bf p.1 p.2) (kd:=.fr [3]) hh rfl λk hk=>by
   show eF [fA (bf p.1 p.2 k),fI c,fD kvs]=_
   have e:mi (.dict kvs) (bf p.1 p.2 k)=some (.int c):=by
    show(if cH kvs (bf p.1 p.2 k)=true then _ else _)=_
    rw[Z4 (lD t _ _ _)];exact s.g k hk
   have eb:(c==c)=true:=beq_self_eq_true _
   simp![eF,e,bt (jU p.1 p.2 k),eb]
  have e1:bg l4 (eV 4) (dk cb (eV 1) (eC (.int 0))) [fN h,fA (br p),fD kvs,tL (kK h p),tI c]=ah (.fr [],.bool true):=by
   simp![a0,a1,bt nr]
  unfold bq Fl
  rw[e1,aG]
  show ao (jA u6 [bv (jB (eV 3)) [4,2] cW eF] _) _=_
  rw[e2];rfl
theorem ug (d1 d2 d3:Sl):∀(L:List Rn) (i:Nat) (c5 c6:Sl),(∀p∈L,∃c,Sv h kvs p c)->∃sF jy:Sl,bw (kI [5,6]) n6 (dC i (L.map br)) [fN h,d1,d2,d3,fD kvs,c5,c6]=ah (.nx [fN h,d1,d2,d3,fD kvs,sF,jy])
 | [],i,c5,c6,_=>⟨c5,c6,rfl⟩
 | p :: L,i,c5,c6,hp=>by
  obtain⟨c,s⟩:=hp p K9
  have e:=B8 hh h1 t s
  have nr:=ku s.w
  obtain⟨sF,jy,ih⟩:=ug d1 d2 d3 L (i+1) (tN i) (tA (br p)) λq hq=>hp q (K8 _ hq)
  refine⟨sF,jy,?_⟩
  have nt:bp (.tuple [.int (i:Int),br p])=true:=by rw[cS,ar,ar,nr];rfl
  have hs:kI [5,6] (cQ .base (.tuple [.int (i:Int),br p])) (.tuple [.int (i:Int),br p]) [fN h,d1,d2,d3,fD kvs,c5,c6]=some [fN h,d1,d2,d3,fD kvs,tN i,tA (br p)]:=by
   rw[bt nt]
   show some (jg (jg _ 5 (cQ (.fr []) (.int (i:Int))) (.int (i:Int))) 6 (cQ (.fr []) (br p)) (br p))=_
   rw[mZ,bt nr];rfl
  refine ym hs (Γ2:=[fN h,d1,d2,d3,fD kvs,tN i,tA (br p)]) ?_ ih
  simp![n6,e,bt nr]
theorem EN {ws ss:List Zy}{k:Nat}{L:List Rn}(ea:bY [.list ws,.int (k:Int),.list ss]=ah (true,.list (L.map br)))(hp:∀p∈L,∃c,Sv h kvs p c):pK [.int (h:Int),.list ws,.int (k:Int),.list ss,.dict kvs]=ah (true,.none):=by
 obtain⟨c5,c6,e⟩:=ug hh h1 t (fL ws) (fN k) (fL ss) L 0 none none hp
 refine bR ?_
 unfold u9
 refine lV (by
  unfold bD
  rw[show ic (az bY [(eV 1),(eV 2),(eV 3)]) (cG 7 [.int (h:Int),.list ws,.int (k:Int),.list ss,.dict kvs])=ah (.fr [],dC 0 (L.map br)) by
   unfold ic
   rw[show az bY [(eV 1),(eV 2),(eV 3)] (cG 7 [.int (h:Int),.list ws,.int (k:Int),.list ss,.dict kvs])=ah (.fr [],.list (L.map br)) by
    simp![ea,Nat.reduceSub,Nat.reduceAdd]]
   rfl,aG]
  exact e) rfl
theorem Pp (d1:Sl)(s:Sv h kvs p c)(i:Nat):∀(ks:List Nat) (m:Nat) (c6 c7:Sl),(∀k∈ks,k < h)->m+ks.length<=1000->∃jy fc:Sl,bw (cy 6) fK (ks.map nat) [fN h,d1,fD kvs,tN i,tA (br p),tL (List.replicate m (.int c)),c6,c7]=ah (.nx [fN h,d1,fD kvs,tN i,tA (br p),tL (List.replicate (m+ks.length) (.int c)),jy,fc])
 | [],m,c6,c7,_,_=>⟨c6,c7,rfl⟩
 | k :: ks,m,c6,c7,hk,hm=>by
  have kk:=hk k K9
  rw[Kj] at hm⊢
  have ev:=zo s.w hh kk
  have ev:gL [br p,.int (k:Int)]=ah (true,bf p.1 p.2 k):=ev
  have nr:=ku s.w
  have nv:=jU p.1 p.2 k
  have e1:cC (bf p.1 p.2 k) (.dict kvs)=some (.bool false):=by
   show(if cH kvs (bf p.1 p.2 k)=true then _ else _)=_
   rw[Z4 (lD t _ _ _),AT (s.g k kk)];rfl
  have e2:mi (.dict kvs) (bf p.1 p.2 k)=some (.int c):=by
   show(if cH kvs (bf p.1 p.2 k)=true then _ else _)=_
   rw[Z4 (lD t _ _ _)];exact s.g k kk
  obtain⟨jy,fc,ih⟩:=Pp d1 s i ks (m+1) (tN k) (tA (bf p.1 p.2 k)) (λj hj=>hk j (K8 _ hj)) (!1)
  refine⟨jy,fc,?_⟩
  rw[show m+(ks.length+1)=m+1+ks.length by omega]
  have hz:(List.replicate m (PyData.int c)).length < sizeLine:=XX (show _<=1000 by rw[Uq];omega) (!8)
  have er:List.replicate m (PyData.int c)++[.int c]=List.replicate (m+1) (.int c):=List.replicate_succ'.symm
  generalize List.replicate (m+1) (PyData.int c)=Z at er ih
  generalize List.replicate m (PyData.int c)=Y at hz er⊢
  have hb:fK [fN h,d1,fD kvs,tN i,tA (br p),tL Y,tN k,c7]=ah (.nx [fN h,d1,fD kvs,tN i,tA (br p),tL Z,tN k,tA (bf p.1 p.2 k)]):=by
   simp![fK,ev,bt nr,bt nv,e1,e2,hz,er]
  exact ym rfl hb ih
theorem QB (s:Sv h kvs p c)(d1 c5 c6 c7:Sl)(i:Nat):∃sF jy fc:Sl,fM [fN h,d1,fD kvs,tN i,tA (br p),c5,c6,c7]=ah (.nx [fN h,d1,fD kvs,tN i,tA (br p),sF,jy,fc]):=by
 obtain⟨jy,fc,e⟩:=Pp hh h1 t d1 s i (!2) 0 c6 c7 (λk hk=>X1.mp hk) (by rw[X9];omega)
 rw[X9,JK] at e
 have nr:=ku s.w
 obtain⟨X,hX⟩:∃X,X=List.replicate h (PyData.int c):=⟨_,rfl⟩
 rw[←hX] at e
 refine⟨tL X,jy,fc,?_⟩
 have lX:lay 60 (.list X)=true:=by
  rw[hX,lay];exact cV.mpr λx hx=>by rw[List.eq_of_mem_replicate hx];rfl
 have nX:ar X=true:=by rw[hX];exact aF.mpr λx hx=>by rw[List.eq_of_mem_replicate hx];rfl
 have e1:IP (.list X) none (some 1)=some (.list [.int c]):=by
  rw[rC nX,show(1:Int)=((1:Nat):Int) from rfl,t4 (by rw[hX,Uq];exact h1),hX]
  obtain⟨g,rfl⟩:∃g,h=g+1:=⟨h - 1,by omega⟩
  rfl
 have e2:yz [.int c] (.int (h:Int))=ah (.fr [],.list X):=by
  rw[xO ⟨rfl,by omega,by omega,Kw (show _<=1000 by rw[X8,Ky];omega) (!8)⟩,Ky,hX,List.flatten_replicate_singleton]
 have e3:A8 (.list X) (.list X)=some (.bool false):=by rw[Ht lX lX,AE 60 _ lX];rfl
 have e4:cb (.list X) (.int 0)=some (.int c):=by
  show jZ X ((0:Nat):Int)=_
  exact bN (by rw[hX,YJ,Z4 (!1)])
 have a0:cb (br p) (.int 0)=some (.tuple (p.1.map PyData.int)):=rfl
 have a1:dm (.int c) (.tuple (p.1.map PyData.int))=some (.bool false):=by
  rw[kc rfl (iB _ (λ_=>rfl) _),K43.f9,Z3 s.c];rfl
 unfold fM
 refine lV rfl (lV (Γ':=[fN h,d1,fD kvs,tN i,tA (br p),tL X,jy,fc]) ?_ ((xV ?_).trans rfl))
 ·simp![Ky]
  exact e
 ·simp![Fq,oE,oI,e1,yA,isNew,e2,e3,e4,a0,a1,bt nr]
theorem EO (d1:Sl):∀(L:List Rn) (i:Nat) (c3 c4 c5 c6 c7:Sl),(∀p∈L,∃c,Sv h kvs p c)->∃KC vN sF jy fc:Sl,bw (kI [3,4]) fM (dC i (L.map br)) [fN h,d1,fD kvs,c3,c4,c5,c6,c7]=ah (.nx [fN h,d1,fD kvs,KC,vN,sF,jy,fc])
 | [],i,c3,c4,c5,c6,c7,_=>⟨c3,c4,c5,c6,c7,rfl⟩
 | p :: L,i,c3,c4,c5,c6,c7,hp=>by
  obtain⟨c,s⟩:=hp p K9
  have nr:=ku s.w
  obtain⟨sF,jy,fc,e⟩:=QB hh h1 t s d1 c5 c6 c7 i
  obtain⟨e3,e4,e5,e6,e7,ih⟩:=EO d1 L (i+1) (tN i) (tA (br p)) sF jy fc λq hq=>hp q (K8 _ hq)
  refine⟨e3,e4,e5,e6,e7,?_⟩
  have nt:bp (.tuple [.int (i:Int),br p])=true:=by rw[cS,ar,ar,nr];rfl
  have hs:kI [3,4] (cQ .base (.tuple [.int (i:Int),br p])) (.tuple [.int (i:Int),br p]) [fN h,d1,fD kvs,c3,c4,c5,c6,c7]=some [fN h,d1,fD kvs,tN i,tA (br p),c5,c6,c7]:=by
   rw[bt nt]
   show some (jg (jg _ 3 (cQ (.fr []) (.int (i:Int))) (.int (i:Int))) 4 (cQ (.fr []) (br p)) (br p))=_
   rw[mZ,bt nr];rfl
  exact ym hs e ih
theorem yj {L:List Rn}(hp:∀p∈L,∃c,Sv h kvs p c):ig [.int (h:Int),.list (L.map br),.dict kvs]=ah (true,.none):=by
 obtain⟨c3,c4,c5,c6,c7,e⟩:=EO hh h1 t (fL (L.map br)) L 0 none none none none none hp
 exact bR (lV e rfl)
end
def pt (n:Nat)(f:Nat->Nat):List (List Nat):=((List.range n).filter λa=>decide (f a=a)).map (lot n f)
theorem G4 (n:Nat)(f:Nat->Nat):lots n f n=E2 (pt n f):=by unfold lots E2 pt;rw[X6];rfl
theorem gF :i∈lot n f a↔i < n/\f i=a:=by unfold lot;rw[Ux,X1,Z8]
theorem ox :l∈pt n f↔∃a,(a < n/\f a=a)/\lot n f a=l:=by unfold pt;simp only[Ku,Ux,X1,Z8]
def Ag (h:Nat)(L:List Rn):Prop:=∀a,a < L.length->∃v,∀b,b < L.length->Cn L.length h (vw L) a b->v∈vl L b
section
variable {h:Nat}{L:List Rn}(hl:L.length<=200){f:Nat->Nat}(hf:∀i,i < L.length->f i<=i/\f (f i)=f i)(hc:∀i j,i < L.length->j < L.length->(f i=f j↔Cn L.length h (vw L) i j))
theorem KL (n:Nat)(f:Nat->Nat):(pt n f).length<=n:=by
 unfold pt;rw[K6]
 exact Kw (Xw _ _) (by rw[X9];exact K0 _)
include hl hc in
theorem MN:∀l∈pt L.length f,Nd h L l:=λl hm=>by
 obtain⟨a,⟨ha,hfa⟩,rfl⟩:=ox.mp hm
 refine⟨λi hi=>(gF.mp hi).1,λi hi j hj=> ?_,List.ne_nil_of_mem (gF.mpr ⟨ha,hfa⟩),?_⟩
 ·obtain⟨i1,i2⟩:=gF.mp hi
  obtain⟨j1,j2⟩:=gF.mp hj
  exact(hc i j i1 j1).mp (i2.trans j2.symm)
 ·unfold lot
  exact Kw (Xw _ _) (by rw[X9];exact hl)
include hf hc in
theorem KN:Cc L (pt L.length f)=true↔Ag h L:=by
 unfold Cc
 rw[Uz]
 constructor
 ·intro H a ha
  obtain⟨f1,f2⟩:=hf a ha
  have:=H _ (ox.mpr ⟨f a,⟨by omega,f2⟩,rfl⟩)
  cases e:gd L (lot L.length f (f a)) with
  | nil=>rw[e] at this;cases this
  | cons v T=>
   refine⟨v,λb hb c=> ?_⟩
   have hv:v∈gd L (lot L.length f (f a)):=by rw[e];exact K9
   exact((lC _ _ _ _).mp hv).2 b (gF.mpr ⟨hb,((hc a b ha hb).mpr c).symm⟩)
 ·intro H l hm
  obtain⟨a,⟨ha,hfa⟩,rfl⟩:=ox.mp hm
  obtain⟨v,hv⟩:=H a ha
  have hall:∀i∈lot L.length f a,v∈vl L i:=λi hi=>by
   obtain⟨i1,i2⟩:=gF.mp hi
   exact hv i i1 ((hc a i ha i1).mp (hfa.trans i2.symm))
  have ham:a∈lot L.length f a:=gF.mpr ⟨ha,hfa⟩
  have:v∈gd L (lot L.length f a):=(lC _ _ _ _).mpr ⟨hall _ (by
   cases e:lot L.length f a with
   | nil=>rw[e] at ham;cases ham
   | cons x y=>exact K9),hall⟩
  cases e:gd L (lot L.length f a) with
  | nil=>rw[e] at this;cases this
  | cons x y=>rfl
end
theorem Cn.map {n h n':Nat}{vw OL:Nat->Nat->Zy}(φ:Nat->Nat)(hφ:∀a b k,a < n'->b < n'->k < h->OL a k=OL b k->Cn n h vw (φ a) (φ b)){a b:Nat}(c:Cn n' h OL a b):Cn n h vw (φ a) (φ b):=by
 induction c with
 | rel h1 h2 h3 h4=>exact hφ _ _ _ h1 h2 h3 h4
 | refl a=>exact .refl _
 | symm _ ih=>exact ih.symm
 | trans _ _ i1 i2=>exact i1.trans i2
structure Rk (h:Nat)(ws ss:List Zy)(k:Nat)(L:List Rn):Prop where
 e:rJ ws ss k=L.map br
 l:L.length=ss.length*ws.length^k
 r:∀p∈L,sE h 12 p.1 p.2/\p.2.length=k
theorem Rk.at (q:Rk h ws ss k L)(hN:N < L.length):∃p,L.getD N ([],[])=p/\sE h 12 p.1 p.2/\p.2.length=k/\ss.getD (N / ws.length^k) .none= .tuple (p.1.map PyData.int)/\lz ws (N % ws.length^k) k=p.2.map PyData.tuple:=by
 have ep:L[N]? =some L[N]:=K5 hN
 have e1:(L.map br)[N]? =some (br L[N]):=by rw[KZ,ep];rfl
 have e2:(rJ ws ss k)[N]? =some (rH ws ss k N):=by
  unfold rJ;rw[KZ,Y1 (q.l ▸ hN)];rfl
 rw[q.e,e1] at e2
 have e3:=Option.some.inj e2
 unfold br jx rH at e3
 simp only[PyData.tuple.injEq,List.cons.injEq,and_true] at e3
 obtain⟨w1,w2⟩:=q.r _ (Y3 ep)
 exact⟨L[N],by rw[KW,ep];rfl,w1,w2,e3.1.symm,e3.2.symm⟩
theorem map_inj {α:Type}{f:α->Zy}(hf:∀x y,f x=f y->x=y):∀{l m:List α},l.map f=m.map f->l=m
 | [],[],_=>rfl
 | [],_ :: _,h=>by cases h
 | _ :: _,[],h=>by cases h
 | a :: l,b :: m,h=>by
  rw[Kq,Kq,List.cons.injEq] at h
  rw[hf a b h.1,map_inj hf h.2]
theorem vL (hw:1<=ws.length)(q:Rk h ws ss k L)(q':Rk h ws ss (k+1) L')(hN:N < L'.length):N / ws.length < L.length/\vl L' N=vl L (N / ws.length)/\(L'.getD N ([],[])).2.take k=(L.getD (N / ws.length) ([],[])).2:=by
 have hd:N / ws.length < L.length:=by
  rw[q.l,Nat.div_lt_iff_lt_mul (!1),Nat.mul_assoc,←J2,←q'.l];exact hN
 obtain⟨p,e1,_,e3,e4,e5⟩:=q.at hd
 obtain⟨p',f1,_,f3,f4,f5⟩:=q'.at hN
 rw[Nat.div_div_eq_div_mul,Yz,←J2,f4] at e4
 have em:N % ws.length^(k+1)=N / ws.length % ws.length^k*ws.length+N % ws.length:=by
  rw[Nat.pow_succ',Nat.mod_mul,Nat.add_comm,Yz]
 rw[em,ua _ _ _ _ (Nat.mod_lt _ (!1)),e5] at f5
 refine⟨hd,?_,?_⟩
 ·unfold vl;rw[e1,f1]
  exact map_inj (λx y h=>by cases h;rfl) (PyData.tuple.inj e4)
 ·rw[e1,f1]
  refine map_inj (f:=PyData.tuple) (λx y h=>by cases h;rfl) ?_
  rw[List.map_take,←f5,List.take_left' (by rw[K6,e3])]
theorem G5 (hh:h<=4)(hw:1<=ws.length)(q:Rk h ws ss k L)(q':Rk h ws ss (k+1) L')(H:Ag h L):Ag h L':=λa ha=>by
 obtain⟨a1,a2,a3⟩:=vL hw q q' ha
 obtain⟨v,hv⟩:=H _ a1
 refine⟨v,λb hb c=> ?_⟩
 obtain⟨b1,b2,b3⟩:=vL hw q q' hb
 rw[b2]
 refine hv _ b1 (c.map (λN=>N / ws.length) λx y k' hx hy hk' e=> ?_)
 obtain⟨x1,x2,x3⟩:=vL hw q q' hx
 obtain⟨y1,y2,y3⟩:=vL hw q q' hy
 refine .rel x1 y1 hk' ?_
 obtain⟨p,p1,p2,p3,_⟩:=q'.at hx
 obtain⟨p',r1,r2,r3,_⟩:=q'.at hy
 unfold vl at x2 y2
 unfold vw at e⊢
 rw[←x3,←y3,←x2,←y2]
 rw[p1,r1] at e⊢
 have hs:mf p.1 p'.1 p.2 p'.2 k'=true:=(gE (ip _ _ _) (ip _ _ _)).mpr e
 have:=D9 (by rw[p2.hv];exact hh) (p2.hv.trans r2.hv.symm) (p3.trans r3.symm) (by rw[p2.hv];exact hk') (i:=k) (!1) hs
 exact(gE (ip _ _ _) (ip _ _ _)).mp this
theorem G6 :∀{k:Nat} {r:List Zy},r.length=k->(∀x∈r,x∈ws)->r∈rws ws k:=by
 intro k
 induction k with
 | zero=>intro r hr _;rw[Yk hr];exact K7.mpr rfl
 | succ k ih=>
  intro r hr hm
  have hne:r≠[]:=λz=>by rw[z] at hr;cases hr
  have e:=List.dropLast_concat_getLast hne
  refine U4.mpr ⟨r.dropLast,ih (by rw[List.length_dropLast,hr];rfl) λx hx=>hm x (List.dropLast_subset _ hx),Ku.mpr ⟨r.getLast hne,hm _ (List.getLast_mem hne),e⟩⟩
theorem ER (hw:∀x∈ws',x∈ws)(hs:∀x∈ss',x∈ss)(q:Rk h ws ss k L)(q':Rk h ws' ss' k L')(hp:p∈L'):∃i,i < L.length/\L.getD i ([],[])=p:=by
 have h1:br p∈L.map br:=by
  have h0:br p∈L'.map br:=Ku.mpr ⟨p,hp,rfl⟩
  rw[←q'.e,←vF] at h0
  rw[←q.e,←vF]
  obtain⟨s,hs1,h2⟩:=U4.mp h0
  obtain⟨r,hr,e⟩:=Ku.mp h2
  exact U4.mpr ⟨s,hs s hs1,Ku.mpr ⟨r,G6 (nG hr).1 λx hx=>hw x ((nG hr).2 x hx),e⟩⟩
 obtain⟨p',hp',e⟩:=Ku.mp h1
 obtain⟨i,hi,ei⟩:=List.mem_iff_getElem.mp hp'
 refine⟨i,hi,?_⟩
 rw[KW,K5 hi,ei]
 unfold br jx at e
 simp only[PyData.tuple.injEq,List.cons.injEq,and_true] at e
 show p'=p
 rw[←Prod.eta p',←Prod.eta p]
 rw[map_inj (λx y h=>by cases h;rfl) e.1,map_inj (f:=PyData.tuple) (λx y h=>by cases h;rfl) e.2]
theorem G7 (hw:∀x∈ws',x∈ws)(hs:∀x∈ss',x∈ss)(q:Rk h ws ss k L)(q':Rk h ws' ss' k L')(H:Ag h L):Ag h L':=by
 have hx:∀a,∃i,a < L'.length->i < L.length/\L.getD i ([],[])=L'.getD a ([],[]):=λa=>by
  by_cases ha:a < L'.length
  ·obtain⟨i,h1,h2⟩:=ER hw hs q q' (U1 ha)
   exact⟨i,λ_=>⟨h1,by rw[h2,KW,K5 ha];rfl⟩⟩
  ·exact⟨0,λz=>absurd z ha⟩
 obtain⟨φ,hφ⟩:∃φ:Nat->Nat,∀a,a < L'.length->φ a < L.length/\L.getD (φ a) ([],[])=L'.getD a ([],[]):=⟨λa=>Classical.choose (hx a),λa=>Classical.choose_spec (hx a)⟩
 intro a ha
 obtain⟨v,hv⟩:=H _ (hφ a ha).1
 refine⟨v,λb hb c=> ?_⟩
 have:=hv _ (hφ b hb).1 (c.map φ λx y k' h1 h2 hk e=> .rel (hφ x h1).1 (hφ y h2).1 hk (by unfold vw at e⊢;rw[(hφ x h1).2,(hφ y h2).2];exact e))
 unfold vl at this⊢
 rw[(hφ b hb).2] at this;exact this
structure PK (h:Nat)(ws ss:List Zy)(k:Nat)(L:List Rn):Prop where
 q:Rk h ws ss k L
 a:bY [.list ws,.int (k:Int),.list ss]=ah (true,.list (L.map br))
 t:Ag h L->∃(kvs:j3) (cv:Nat->Int),fJ [.int (h:Int),.list ws,.int (k:Int),.list ss]=ah (false,.tuple [.str (!9),.dict kvs])/\f6 kvs=true/\∀i,i < L.length->cv i∈vl L i/\∀k,k < h->d6 kvs (vw L i k)=some (.int (cv i))
 r:¬ Ag h L->∃ds,fJ [.int (h:Int),.list ws,.int (k:Int),.list ss]=ah (true,.tuple (.str (Str.ofString "row") :: ds))
structure Cs (h:Nat)(ws ss:List Zy):Prop where
 gw:Good ws
 iw:∀x∈ws,AH x
 w1:1<=ws.length
 w3:ws.length<=3
 gs:Good ss
 is:∀x∈ss,Cb h x
 s6:ss.length<=6
theorem ES (h4:h<=4)(c:Cs h ws ss)(hk:k<=3):∃L,PK h ws ss k L:=by
 have hp:ws.length^k<=27:=Kw (Nat.pow_le_pow_left c.w3 k) (Kw (Nat.pow_le_pow_right (!8) hk) (!8))
 have hN:ss.length*ws.length^k<=162:=Kw (Jk c.s6 hp) (!8)
 have w1:=c.w1
 have w3:=c.w3
 have s6:=c.s6
 obtain⟨L,eL,lL,rL⟩:=uc c.iw c.is c.w1 (!1) (List.range (ss.length*ws.length^k)) (λN hN=>X1.mp hN)
 rw[X9] at lL
 have eL:rJ ws ss k=L.map br:=eL
 have rr:E1 h L:=λp hp=>(rL p hp).1
 have hl:L.length<=200:=by omega
 obtain⟨f,hf,hcn⟩:=EG L.length h (vw L)
 have ej:=B6 h4 hl hf hcn
 rw[G4] at ej
 have ea:=Kn ws ss k c.gw c.gs c.w1 (!1) (!1) (!1) (!1)
 rw[eL] at ea
 have hP:=MN hl hcn
 have hag:=KN hf hcn
 obtain⟨p1,p2⟩:=G3 h4 hl rr ea (cv:=λi=>(gd L (lot L.length f (f i))).headD 0) (λl hm=>⟨hP l hm,λi hi=>by
  obtain⟨a,_,rfl⟩:=ox.mp hm
  rw[(gF.mp hi).2]⟩) (Kw (KL _ _) hl) ej
 refine⟨L,⟨eL,lL,rL⟩,ea,λH=> ?_,λH=>p2 (by cases e:Cc L (pt L.length f);rfl;exact absurd (hag.mp e) H)⟩
 obtain⟨kvs,e,t,w⟩:=p1 (hag.mpr H)
 refine⟨kvs,_,e,t.t,λi hi=>⟨?_,λk' hk'=>t.get (λa b x y ha hb hx ev=> ?_) hi hk' (w _ (ox.mpr ⟨f i,⟨by have:=hf i hi;omega,(hf i hi).2⟩,rfl⟩) i (gF.mpr ⟨hi,rfl⟩) k' hk')⟩⟩
 ·have hm:=(Uz.mp (hag.mpr H)) _ (ox.mpr ⟨f i,⟨by have:=hf i hi;omega,(hf i hi).2⟩,rfl⟩)
  cases e:gd L (lot L.length f (f i)) with
  | nil=>rw[e] at hm;cases hm
  | cons v T=>
   have hv:v∈gd L (lot L.length f (f i)):=by rw[e];exact K9
   exact((lC _ _ _ _).mp hv).2 i (gF.mpr ⟨hi,rfl⟩)
 ·have hxy:x=y:=om ev
  subst hxy
  show(gd L (lot L.length f (f a))).headD 0=(gd L (lot L.length f (f b))).headD 0
  rw[(hcn a b ha hb).mpr (.rel ha hb hx ev)]
theorem AV {α β:Type}{f:α->Option β}{g:α->β}:∀{l:List α},(∀k∈l,f k=some (g k))->l.filterMap f=l.map g
 | [],_=>rfl
 | a :: l,h=>by rw[U6,h a K9,Kq,AV λk hk=>h k (K8 _ hk)]
theorem ET (xs:List Zy):pZ xs none none (some (-1))=xs.reverse:=by
 have e0:pZ xs none none (some (-1))=((List.range xs.length).map λ(k:Nat)=>((xs.length:Int) - 1+ -1*(k:Int)).toNat).filterMap (xs[·]?):=by
  show(sliceRange ((xs.length:Int) - 1) (-1) (-1)).filterMap (xs[·]?)=_
  unfold sliceRange
  have hc:(if (-1:Int) > 0 then (if (xs.length:Int) - 1 < -1 then (-1 - ((xs.length:Int) - 1)+ -1 - 1) / -1 else 0) else (if (xs.length:Int) - 1 > -1 then ((xs.length:Int) - 1 - -1 - -1 - 1) / (- -1) else 0))=(xs.length:Int):=by
   rw[Z5 (!1),show(- -1:Int)=1 from rfl,Int.ediv_one]
   split <;> omega
  simp only[hc,Ky]
 rw[e0,List.filterMap_map]
 have e1:∀k∈List.range xs.length,((xs[·]?) ∘ λ(k:Nat)=>((xs.length:Int) - 1+ -1*(k:Int)).toNat) k=some (xs.reverse.getD k .none):=λk hk=>by
  have hk':=X1.mp hk
  have e:((xs.length:Int) - 1+ -1*(k:Int)).toNat=xs.length - 1 - k:=by omega
  simp only[Function.comp,e]
  rw[KW,JZ hk',K5 (!1)]
  rfl
 have e2:(List.range xs.length).filterMap ((xs[·]?) ∘ λ(k:Nat)=>((xs.length:Int) - 1+ -1*(k:Int)).toNat)=(List.range xs.length).map λk=>xs.reverse.getD k .none:=by
  exact AV e1
 rw[e2]
 refine Jq (by simp) λi h1 h2=> ?_
 simp[KW,K5 h2]
theorem B9 (h:ar xs=true)(h0:st≠some 0):IQ (.list xs) lo hi st=some (.list (pZ xs lo hi st)):=Z4 ⟨h,h0⟩
theorem eq_nil (h:lays 59 xs=true):oY (.list xs) (.list [])=some (.bool xs.isEmpty):=by
 rw[Al (by rw[lay];exact h) rfl]
 cases xs <;> rfl
theorem AW (xs:List Zy)(z:Int)(g:Good xs)(h1:1<=xs.length)(h6:xs.length<=6):∃ys,i_ [.list xs,.int z]=ah (true,.list ys)/\1<=ys.length/\ys.length<=xs.length/\∀y∈ys,y∈xs:=by
 have sub:∀{ys:List Zy},(∀y∈ys,y∈xs)->ar ys=true/\lays 59 ys=true:=λhy=>⟨aF.mpr λx hx=>g.bp (hy x hx),cV.mpr λx hx=>g.lay (hy x hx) 56⟩
 obtain⟨Γ',e1,ys,c3,h2⟩:=bA (g:=cy 3) (b:=eA) (ds:=(List.range xs.length).map λ(i:Nat)=>PyData.int (i:Int)) (Γ:=[fL xs,fI z,tL [],none])
  (λi Γ=>∃ys c3,Γ=[fL xs,fI z,tL ys,c3]/\(∀y∈ys,y∈xs)/\ys.length<=i) ⟨[],none,rfl,(λy hy=>by cases hy),K0 _⟩ (by
  rintro i d Γ hd ⟨ys,c3,rfl,hy,hl⟩
  obtain⟨rfl,hi⟩:=ce hd
  obtain⟨m,m1,m2,m3⟩:∃m:Int,jZ [PyData.int 1,.int 2,.int 4,.int 8,.int 16,.int 32] (i:Int)=some (.int m)/\0 < m/\m < 100:=by
   have:i < 6:=by omega
   rcases(by omega:i=0∨i=1∨i=2∨i=3∨i=4∨i=5) with rfl | rfl | rfl | rfl | rfl | rfl
   ·exact⟨1,rfl,by decide,by decide⟩
   ·exact⟨2,rfl,by decide,by decide⟩
   ·exact⟨4,rfl,by decide,by decide⟩
   ·exact⟨8,rfl,by decide,by decide⟩
   ·exact⟨16,rfl,by decide,by decide⟩
   ·exact⟨32,rfl,by decide,by decide⟩
  have ea:jZ xs (i:Int)=some xs[i]:=bN (K5 hi)
  have nx:=g.bp (U1 hi)
  have hz:ys.length < sizeLine:=XX (show _<=6 by omega) (!8)
  cases hb:(z / m % 2==1) with
  | true=>
   refine⟨_,[fL xs,fI z,tL (ys++[xs[i]]),tN i],rfl,.inl ?_,_,_,rfl,λy hm=> ?_,by rw[K2,X8];omega⟩
   ·simp![eA,m1,hb,ea,bt nx,hz]
   ·rcases K1.mp hm with hm | hm
    ·exact hy y hm
    ·rw[K7.mp hm];exact U1 hi
  | false=>
   refine⟨_,[fL xs,fI z,tL ys,tN i],rfl,.inl ?_,_,_,rfl,hy,by omega⟩
   simp![eA,m1,hb])
 rw[K6,X9] at h2
 obtain⟨rfl,hy,hl⟩:=h2
 have fin:∀(us:List Zy) (c3:Sl),(∀y∈us,y∈xs)->(bq (Fs (eV 2) none none (some (B_ A9 (eC (.int 1)))))) [fL xs,fI z,tL us,c3]=ah (.rt true (.list us.reverse)):=λus c3 hu=>by
  have:=B9 (lo:=none) (hi:=none) (st:=some (-1)) (sub hu).1 (!8)
  rw[ET] at this
  simp![Fs,oE,oI,this]
 have hx:∀us:List Zy,(∀y∈us,y∈xs)->∀y∈us.reverse,y∈xs:=λus hu y hy=>hu y (Uy.mp hy)
 have s2:(bD (fi (jA iC [(eV 0)])) (cy 3) eA) [fL xs,fI z,tL [],none]=ah (.nx [fL xs,fI z,tL ys,c3]):=by
  simp![Ky,e1]
 have e3:=eq_nil (sub hy).2
 cases hT:ys.isEmpty with
 | false=>
  rw[hT] at e3
  refine⟨ys.reverse,bR (lV rfl (lV s2 (lV (Γ':=[fL xs,fI z,tL ys,c3]) ?_ (fin ys c3 hy)))),?_,by rw[Xy];exact hl,hx ys hy⟩
  ·simp![e3]
  ·rw[Xy]
   cases ys with
   | nil=>cases hT
   | cons a b=>rw[Kj];omega
 | true=>
  rw[hT] at e3
  have b1:=UW z (show(xs.length:Int)≠0 by omega)
  have b2:=UX z (show(0:Int) < xs.length by omega)
  obtain⟨j,hj⟩:=YZ b1
  rw[hj] at b2
  have j2:j < xs.length:=by omega
  have hd:cutD xs (some (j:Int)) none=xs.drop j:=BK (!1)
  have ht:cutD (xs.drop j) none (some ((1:Nat):Int))=(xs.drop j).take 1:=t4 (by rw[XU];omega)
  have hu:∀y∈(xs.drop j).take 1,y∈xs:=λy hy=>U9 (U0 hy)
  have q1:=rC (lo:=some (j:Int)) (hi:=none) g.n
  rw[hd] at q1
  have q2:=rC (lo:=none) (hi:=some 1) (xs:=xs.drop j) (sub λy hy=>U9 hy).1
  rw[show(1:Int)=((1:Nat):Int) from rfl,ht] at q2
  refine⟨((xs.drop j).take 1).reverse,bR (lV rfl (lV s2 (lV (Γ':=[fL xs,fI z,tL ((xs.drop j).take 1),c3]) ?_ (fin _ c3 hu)))),?_,?_,hx _ hu⟩
  ·have q2:IP (.list (xs.drop j)) none (some 1)=some (.list ((xs.drop j).take 1)):=q2
   simp![e3,Fq,oE,oI,hj,q1,q2]
  ·rw[Xy,X0,XU];omega
  ·rw[Xy,X0,XU];omega
theorem G8:oY (.str (!9)) (.str (Str.ofString "row"))=some (.bool false):=by
 rw[Al (!5) (!5)];exact congrArg (λb=>some (PyData.bool b)) (!5)
theorem G9:oY (.str (Str.ofString "row")) (.str (Str.ofString "row"))=some (.bool true):=by
 rw[Al (!5) (!5)];exact congrArg (λb=>some (PyData.bool b)) (!5)
theorem KO:oY (.str (!9)) (.str (!9))=some (.bool true):=by
 rw[Al (!5) (!5)];exact congrArg (λb=>some (PyData.bool b)) (!5)
theorem KP:A8 (.str (!9)) (.str (!9))=some (.bool false):=by
 rw[Ht (!5) (!5)];exact congrArg (λb=>some (PyData.bool b)) (!5)
theorem AX (x:Zy)(ds:List Zy):cb (.tuple (x :: ds)) (.int 0)=some x:=by
 show jZ (x :: ds) ((0:Nat):Int)=_
 exact bN rfl
theorem Cs.less (c:Cs h ws ss)(w1:1<=ws'.length)(w2:ws'.length<=ws.length)(hw:∀x∈ws',x∈ws)(s2:ss'.length<=ss.length)(hs:∀x∈ss',x∈ss):Cs h ws' ss' where
 gw:=⟨aF.mpr λx hx=>c.gw.bp (hw x hx),λn=>cV.mpr λx hx=>c.gw.lay (hw x hx) n⟩
 iw:=λx hx=>c.iw x (hw x hx)
 w1:=w1
 w3:=Kw w2 c.w3
 gs:=⟨aF.mpr λx hx=>c.gs.bp (hs x hx),λn=>cV.mpr λx hx=>c.gs.lay (hs x hx) n⟩
 is:=λx hx=>c.is x (hs x hx)
 s6:=Kw s2 c.s6
theorem main (ns:List Int)(hns:ns.length<=63):∃o,tX [.list (!6)]=some (.ok (o,.bool true)):=by
 obtain⟨h,ws,ss,k,h2,h4,gw,iw,hw1,hw,gs,is,hs1,hs,hk,ec⟩:=GW ns
 have cs:Cs h ws ss:=⟨gw,iw,hw1,hw,gs,is,hs⟩
 have c1:=jf ns 14 (!8)
 obtain⟨z,_,m1⟩:=zq (ff ns 14) 14 (!8) (!8)
 obtain⟨ws',ew,wa,wb,wc⟩:=AW ws (z:Int) gw hw1 (!1)
 obtain⟨ss',es,sa,sb,sc⟩:=AW ss ((z:Int) / 64) gs hs1 hs
 have cs':=cs.less wa wb wc sb sc
 obtain⟨L,P⟩:=ES h4 cs hk
 obtain⟨L',P'⟩:=ES h4 cs' hk
 have er:=zu ws' ss' k cs'.gw cs'.gs cs'.w1 cs'.w3 hk cs'.s6
 rw[P'.q.e] at er
 obtain⟨s0,hs0⟩:∃s0,s0=PyData.list (!6):=⟨_,rfl⟩
 have hn0:cQ (.base) s0= .base:=by rw[hs0];rfl
 rw[←hs0] at ec c1⊢
 have nT:bp (.tuple [.int (h:Int),.list ws,.int (k:Int),.list ss])=false:=by rw[cS];simp only[ar,pI,Bool.false_and,Bool.and_false]
 refine⟨true,bR ?_⟩
 unfold DV
 refine lV (Γ':=[fA s0,fN h,fL ws,fN k,fL ss,none,none,none,none,none]) (by
  unfold Fp
  rw[show az gI [(eV 0)] (cG 10 [s0])=ah (.any,.tuple [.int (h:Int),.list ws,.int (k:Int),.list ss]) by simp![hn0,ec,l_ nT]];rfl) ?_
 refine lV (by simp![hn0,c1,m1];rfl) ?_
 refine lV (by simp![ew];rfl) ?_
 refine lV (by simp![es];rfl) ?_
 by_cases H:Ag h L
 ·obtain⟨kvs,cv,ep,t,g⟩:=P.t H
  obtain⟨kvs',QC,ep',_,_⟩:=P'.t (G7 wc sc P.q P'.q H)
  have hp:∀p∈L',∃c,Sv h kvs p c:=λp hp=>by
   obtain⟨i,hi,ei⟩:=ER wc sc P.q P'.q hp
   obtain⟨g1,g2⟩:=g i hi
   refine⟨cv i,(P'.q.r p hp).1,λk' hk'=> ?_,?_⟩
   ·have:=g2 k' hk'
    unfold vw at this;rw[ei] at this;exact this
   ·unfold vl at g1;rw[ei] at g1;exact g1
  have ef:=EN h4 (!1) t P'.a hp
  have el:=yj h4 (!1) t hp
  have nD:bp (.tuple [.str (!9),.dict kvs])=false:=rfl
  have nD':bp (.tuple [.str (!9),.dict kvs'])=false:=rfl
  have x1:cb (.tuple [.str (!9),.dict kvs]) (.int 1)=some (.dict kvs):=rfl
  have x0:=AX (.str (!9)) [.dict kvs]
  have OM:=AX (.str (!9)) [.dict kvs']
  have q1:=G8
  have q2:=KP
  have q3:=KO
  have e9:(bq (K_ (bg Fo (eV 3) (eC (.int 2))) (bg oY (dk cb (az fJ [(eV 1),(eV 2),(bg fY (eV 3) (eC (.int 1))),(eV 4)]) (eC (.int 0))) (eC (.str (!9)))))) [fA s0,fN h,fL ws,fN k,fL ss,fN z,fL ws',fL ss',fA (.tuple [.str (!9),.dict kvs]),fA (.tuple [.str (!9),.dict kvs'])]=ah (.rt true (.bool true)):=by
   by_cases hk2:k<=2
   ·obtain⟨L2,P2⟩:=ES (k:=k+1) h4 cs (!1)
    obtain⟨ON,QL,MO,_,_⟩:=P2.t (G5 h4 hw1 P.q P2.q H)
    have x2:=AX (.str (!9)) [.dict ON]
    have MO:fJ [.int (h:Int),.list ws,.int ((k:Int)+1),.list ss]=ah (false,.tuple [.str (!9),.dict ON]):=MO
    have hd:decide ((2:Int) < k)=false:=Z2 (!1)
    generalize PyData.str (!9)=x at MO x2 q3⊢
    generalize PyData.tuple [x,.dict ON]=y at MO x2
    simp![K_,hd,MO,x2,q3]
   ·have hd:decide ((2:Int) < k)=true:=Z3 (!1)
    simp![K_,hd]
  refine lV (Γ':=[fA s0,fN h,fL ws,fN k,fL ss,fN z,fL ws',fL ss',fA (.tuple [.str (!9),.dict kvs]),none]) (by
   unfold aB
   rw[show az fJ [(eV 1),(eV 2),(eV 3),(eV 4)] _=ah (.any,.tuple [.str (!9),.dict kvs]) by simp![ep,l_ nD]];rfl) ?_
  refine lV (Γ':=[fA s0,fN h,fL ws,fN k,fL ss,fN z,fL ws',fL ss',fA (.tuple [.str (!9),.dict kvs]),fA (.tuple [.str (!9),.dict kvs'])]) (by
   unfold aB
   rw[show az fJ [(eV 1),(eV 6),(eV 3),(eV 7)] _=ah (.any,.tuple [.str (!9),.dict kvs']) by simp![ep',l_ nD']];rfl) ?_
  generalize PyData.str (!9)=x at x0 OM x1 nD nD' q1 q2 e9⊢
  generalize hy:PyData.tuple [x,.dict kvs]=y at x0 x1 nD e9⊢
  generalize hy':PyData.tuple [x,.dict kvs']=y' at OM nD' e9⊢
  refine lV (by simp![l_ nD,x0,q1];rfl) ?_
  refine lV (by simp![l_ nD,l_ nD',OM,x1,q2,ef];rfl) ?_
  refine lV (by simp![l_ nD,x1,er,el]) e9
 ·obtain⟨ds,ep⟩:=P.r H
  have x0:=AX (.str (Str.ofString "row")) ds
  have q1:=G9
  have fin:∀(c0 c1 c2 c3 c4 c5 c6 c7 c9:Sl) (o:Bool),aw (hJ (tE (bg oY (dk cb (eV 8) (eC (.int 0))) (eC (.str (Str.ofString "row"))))) (bq (eC (.bool true))) cc) (aw (hJ (CB (tE (bg A8 (dk cb (eV 9) (eC (.int 0))) (eC (.str (!9))))) (tE (bg jY (az pK [(eV 1),(eV 6),(eV 3),(eV 7),(dk cb (eV 8) (eC (.int 1)))]) (eC .none)))) (bq (eC (.bool false))) cc) (aw (hJ (tE (bg jY (az ig [(eV 1),(az jc [(eV 6),(eV 3),(eV 7)]),(dk cb (eV 8) (eC (.int 1)))]) (eC .none))) (bq (eC (.bool false))) cc) (bq (K_ (bg Fo (eV 3) (eC (.int 2))) (bg oY (dk cb (az fJ [(eV 1),(eV 2),(bg fY (eV 3) (eC (.int 1))),(eV 4)]) (eC (.int 0))) (eC (.str (!9)))))))) [c0,c1,c2,c3,c4,c5,c6,c7,some (o,.tuple (.str (Str.ofString "row") :: ds)),c9]=ah (.rt true (.bool true)):=λc0 c1 c2 c3 c4 c5 c6 c7 c9 o=>by
   refine vG ((xU ?_).trans rfl)
   generalize PyData.str (Str.ofString "row")=x at x0 q1⊢
   generalize PyData.tuple (x :: ds)=y at x0⊢
   simp![x0,q1]
  refine lV (Γ':=[fA s0,fN h,fL ws,fN k,fL ss,tN z,tL ws',tL ss',tT (.str (Str.ofString "row") :: ds),none]) (by
   generalize PyData.str (Str.ofString "row") :: ds=y at ep⊢
   simp![ep,cQ.eq_1,ite_self]) ?_
  by_cases H':Ag h L'
  ·obtain⟨kvs',QC,ep',_,_⟩:=P'.t H'
   refine lV (by
    unfold aB
    rw[show az fJ [(eV 1),(eV 6),(eV 3),(eV 7)] _=ah (.any,.tuple [.str (!9),.dict kvs']) by simp![ep',l_ (show bp (.tuple [.str (!9),.dict kvs'])=false from rfl)]];rfl) ?_
   exact fin ..
  ·obtain⟨ds',ep'⟩:=P'.r H'
   refine lV (Γ':=[fA s0,fN h,fL ws,fN k,fL ss,tN z,tL ws',tL ss',tT (.str (Str.ofString "row") :: ds),tT (.str (Str.ofString "row") :: ds')]) (by
    generalize PyData.str (Str.ofString "row") :: ds'=y at ep'⊢
    simp![ep',cQ.eq_1,ite_self]) ?_
   exact fin ..
end K43
namespace PySem.W.Fast
theorem tw12281078807847982273:1=1:=rfl
theorem tw16026551355796089479:1=1:=rfl
theorem tw7118053832764486306:1=1:=rfl
theorem tw911311907606107411:1=1:=rfl
theorem tw11253918948764848703:1=1:=rfl
theorem tw10201985872880539684:1=1:=rfl
theorem tw1904989877022376707:1=1:=rfl
theorem tw5949656760609375202:1=1:=rfl
theorem tw12656695398874623014:1=1:=rfl
theorem tw12549968602176245019:1=1:=rfl
theorem tw12033620441130767177:1=1:=rfl
theorem tw14028632587357707769:1=1:=rfl
theorem tw12324224623652890397:1=1:=rfl
theorem tw6428385367940361921:1=1:=rfl
theorem tw4314643564952581367:1=1:=rfl
theorem tw6999964180986637446:1=1:=rfl
theorem tw18349153151718547403:1=1:=rfl
theorem tw14704895090245381356:1=1:=rfl
theorem tw14506780151271893300:1=1:=rfl
theorem tw9456354386257824188:1=1:=rfl
theorem tw6587445156631942857:1=1:=rfl
theorem tw14110513297000979683:1=1:=rfl
theorem tw9567222566750730322:1=1:=rfl
theorem tw1126694113159518496:1=1:=rfl
theorem tw5855187276124384246:1=1:=rfl
theorem tw733790249114710796:1=1:=rfl
theorem tw16278832561199525562:1=1:=rfl
theorem tw3124658180185699666:1=1:=rfl
theorem tw2707534096625236578:1=1:=rfl
theorem tw2266350425698004594:1=1:=rfl
theorem tw13653497287477367646:1=1:=rfl
theorem tw9581274379276343101:1=1:=rfl
theorem tw11765819944359551539:1=1:=rfl
theorem tw12853385747234938884:1=1:=rfl
theorem tw17023964597860098705:1=1:=rfl
theorem tw6459387184465020830:1=1:=rfl
theorem tw1372587219191406322:1=1:=rfl
theorem tw12704718380644166318:1=1:=rfl
theorem tw12663782863427585392:1=1:=rfl
theorem tw16876808525105469101:1=1:=rfl
theorem tw375708690944499100:1=1:=rfl
theorem tw3451648951163008300:1=1:=rfl
theorem tw3370717736997250544:1=1:=rfl
theorem tw5523730963827465869:1=1:=rfl
theorem tw11347445773062653137:1=1:=rfl
theorem tw3925539541099868083:1=1:=rfl
theorem tw2116534742199450466:1=1:=rfl
theorem tw14878276640042959543:1=1:=rfl
theorem tw8353354283516959264:1=1:=rfl
theorem tw9595713635843043357:1=1:=rfl
theorem tw13177128132826622059:1=1:=rfl
theorem tw15396389085748928085:1=1:=rfl
theorem tw6753910278773085868:1=1:=rfl
theorem tw8346036689399021988:1=1:=rfl
theorem tw4462221610680550371:1=1:=rfl
theorem tw11404355433855783455:1=1:=rfl
theorem tw9710719426203179469:1=1:=rfl
theorem tw7144589673166149008:1=1:=rfl
theorem tw10925064968007056623:1=1:=rfl
theorem tw7639514238599687382:1=1:=rfl
theorem tw3183365856019350855:1=1:=rfl
theorem tw16928520293329439389:1=1:=rfl
theorem tw4280597000960947767:1=1:=rfl
theorem tw5603270865702951511:1=1:=rfl
theorem tw17734632236955210482:1=1:=rfl
theorem tw8328318281508018578:1=1:=rfl
theorem tw4463507816902084209:1=1:=rfl
theorem tw8629532788258034663:1=1:=rfl
theorem tw11457755047773101157:1=1:=rfl
theorem tw18273725790474073097:1=1:=rfl
theorem tw697148479117554860:1=1:=rfl
theorem tw7507347952226624611:1=1:=rfl
theorem tw18178258937394747047:1=1:=rfl
theorem tw14503768635861799083:1=1:=rfl
theorem tw1491035409295365004:1=1:=rfl
theorem tw14293485771161307272:1=1:=rfl
theorem tw18139394541448890573:1=1:=rfl
theorem tw15699262140699043478:1=1:=rfl
theorem tw15952758639048276395:1=1:=rfl
theorem tw4497138827757483832:1=1:=rfl
theorem tw2215037712362946198:1=1:=rfl
theorem tw16252541906714706761:1=1:=rfl
theorem tw13214041315007373031:1=1:=rfl
theorem tw8495365030238959664:1=1:=rfl
theorem tw17524090331285024362:1=1:=rfl
theorem tw5482537243344457272:1=1:=rfl
theorem tw12972742743589088801:1=1:=rfl
theorem tw8664164644247439773:1=1:=rfl
theorem tw13661118181959652215:1=1:=rfl
theorem tw13448513113425327462:1=1:=rfl
theorem tw1858811249002192357:1=1:=rfl
theorem tw766052025717801855:1=1:=rfl
theorem tw4464785967458484746:1=1:=rfl
theorem tw18195507484098890940:1=1:=rfl
theorem tw4870997670135913403:1=1:=rfl
theorem tw17770258686356614362:1=1:=rfl
theorem tw12171930158677243004:1=1:=rfl
theorem tw18388606585995481519:1=1:=rfl
theorem tw9446465864998505026:1=1:=rfl
theorem tw5671345451829227824:1=1:=rfl
theorem tw18394588620808076983:1=1:=rfl
theorem tw1467525971252777098:1=1:=rfl
theorem tw15203350410669624274:1=1:=rfl
theorem tw14330237942546002096:1=1:=rfl
theorem tw7987375435261601667:1=1:=rfl
theorem tw6856802101912141977:1=1:=rfl
theorem tw17335893679180315542:1=1:=rfl
theorem tw16157230982996137222:1=1:=rfl
theorem tw6926415693956617522:1=1:=rfl
theorem tw1289661893890900017:1=1:=rfl
theorem tw13767366325531971920:1=1:=rfl
theorem tw8005582749881297243:1=1:=rfl
theorem tw3160894558921434204:1=1:=rfl
theorem tw16842874128597538207:1=1:=rfl
theorem tw15258530529828922036:1=1:=rfl
theorem tw10688423414693151660:1=1:=rfl
theorem tw5639510843067845336:1=1:=rfl
theorem tw32581402350540964:1=1:=rfl
theorem tw2689202095194638099:1=1:=rfl
theorem tw912195974331233954:1=1:=rfl
theorem tw17416678210466826007:1=1:=rfl
theorem tw8125794794878126784:1=1:=rfl
theorem tw52269028229213898:1=1:=rfl
theorem tw15870015506114468463:1=1:=rfl
theorem tw3977885327766018094:1=1:=rfl
end PySem.W.Fast
open PySem PySem.W PyProof.Rows
set_option maxRecDepth 100000 in
set_option maxHeartbeats 0 in
theorem PySem.Challenge.cw_losspact_k43_whole_lesser_roads_holds : PySem.Challenge.rw_losspact_k43_whole_lesser_roads.Holds := by
  w_on; o_law; k_head; (case hw => w_witness2)
  k_fill
  refine K43.walk K43.main (l:=PySem.Challenge.rw_losspact_k43_whole_lesser_roads) rfl rfl (fun w h Y => PySem.W.kIn_of Y) ?F
  case F =>
    intro w mg fa h KX G hmg
    refine' K43.all_mk KX G hmg (.mk ..) (.mk ..) (.mk ..) (.mk ..) (.mk ..) (.mk ..) (.mk ..) (.mk ..) (.mk ..) (.mk ..) (.mk ..) (.mk ..) (.mk ..) (.mk ..) (.mk ..) (.mk ..) (.mk ..) (.mk ..) (.mk ..) (.mk ..) (.mk ..) (.mk ..) (.mk ..) (.mk ..) (.mk ..) (.mk ..) (.mk ..) (.mk ..) (.mk ..) (.mk ..) (.mk ..) (.mk ..) (.mk ..) (.mk ..) (.mk ..) (.mk ..) (.mk ..) ..
    any_goals k_is

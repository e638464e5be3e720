import PyProof.Rows.All
import Wide.All
import OpenK.AllK
import Wide.FinOn
import Lean
import PyProof.EqAt
import PyProof.EqKinds
import PyProof.TupleCall
import PyProof.P3In
import PyProof.NeData
import KE.KMinKey
import PyProof.Rows.CallKwBuiltin
import PyProof.LayNew
import PyProof.EnumFor
import PyProof.EnumMake
import PyProof.EnumStmt
import KE.KRevIter
import KE.KRevSl
import PyProof.StationsW
import PyProof.RulesAs
import KE.KTryMore
import PyProof.Rows.TopTwo
import PyProof.NsDelKeeps
import PyProof.ExcArgsOwn
import KE.KIsAll
import PyProof.AutoListH
import PyProof.SetRoads
import PyProof.SetNew
import PyProof.ListRange
import PyProof.Rows.TupDisplay
import PyProof.Draws
import PyProof.ZipIter
import PyProof.TupleIter
import PyProof.AttrMissSeq
import KE.KDictOf
import PySem.Challenge.RW_waithands_k36_what_beats_told
set_option Elab.async false
set_option linter.all false
set_option maxRecDepth 100000
section
open PySem PySem.Spec PyProof.Rows
abbrev aW:=@wpAny_bind
abbrev eF:=@List.getElem?_eq_getElem
abbrev b7:=@List.length_map
abbrev dW:=@Heap.get?_push_of_some
abbrev cT:=@List.getElem?_map
abbrev dH:=@List.mem_singleton
abbrev gk:=@List.mem_cons_of_mem
abbrev gA:=@lookup_relabel_local
abbrev i_:=@List.getElem?_eq_some_iff
abbrev jD:=@List.getD_eq_getElem?_getD
abbrev bF:=@List.mem_cons
abbrev cB:=@List.length_append
abbrev aZ:=@wpAny_pure
abbrev bD:=@Nat.le_refl
abbrev dz:=@List.mem_of_getElem?
abbrev dw:=@Heap.get?_push_size
abbrev cY:=@List.mem_cons_self
abbrev cg:=@Heap.lt_size
abbrev dU:=@List.not_mem_nil
abbrev eU:=@List.size_toArray
abbrev gJ:=@List.mem_append_right
abbrev cO:=@List.mem_map
abbrev aX:=@if_neg
abbrev eQ:=@List.mem_append
abbrev gw:=@List.length_cons
abbrev gq:=@List.map_append
abbrev bx:=@if_pos
abbrev fJ:=@Nat.ne_of_lt
abbrev jE:=@Bool.false_ne_true
abbrev g8:=@Heap.size_push
abbrev iW:=@List.nodup_cons
abbrev gZ:=@List.map_cons
abbrev j5:=@List.length_take
abbrev j4:=@List.all_eq_true
abbrev gm:=@Nat.zero_le
abbrev mJ:=@Nat.lt_of_lt_of_le
abbrev ik:=@Nat.le_trans
abbrev lG:=@List.lookup_cons
abbrev qR:=@List.length_replicate
abbrev nF:=@of_decide_eq_true
abbrev j0:=@decide_eq_true
abbrev mH:=@decide_eq_false
abbrev mG:=@List.mem_filter
abbrev xV:=@List.getElem?_append_right
abbrev pY:=@List.nodup_append
abbrev oO:=@List.getElem_mem
abbrev iV:=@wpAny_field
abbrev pX:=@List.take_length
abbrev wj:=@List.mem_of_mem_take
abbrev tu:=@Int.toNat_natCast
abbrev uG:=@wpAny_Call_Name_kw
abbrev mF:=@Nat.le_of_lt
abbrev uF:=@wpAny_newObj_type
abbrev oN:=@wpAny_holding
abbrev DK:=@List.getElem?_append_left
abbrev qQ:=@wpAny_seqItems
abbrev uE:=@List.length_drop
abbrev DG:=@wpAny_callSpecial?_slot
abbrev qP:=@List.sum_cons
abbrev uD:=@List.length_nil
abbrev uA:=@List.append_nil
abbrev sZ:=@Nat.lt_irrefl
abbrev wg:=@Int.emod_nonneg
abbrev Be:=@Int.emod_lt_of_pos
abbrev xU:=@wpAny_call_entry
abbrev xT:=@Bool.and_eq_true
abbrev Bd:=@wpAny_truthy_bool
abbrev oM:=@wpAny_mono
abbrev GK:=@Heap.get?_update_other
abbrev KJ:=@List.mem_or_eq_of_mem_set
abbrev KH:=@List.drop_eq_getElem_cons
abbrev GJ:=@List.mem_append_left
abbrev Dz:=@wpAny_pyIter_list
abbrev Dy:=@Nat.lt_succ_of_lt
abbrev Dw:=@List.append_assoc
abbrev Dv:=@Nat.lt_succ_self
abbrev Du:=@List.drop_length
abbrev GF:=@wpAny_setField_rec
abbrev GD:=@Bool.false_eq_true
abbrev Dt:=@List.forIn_cons
abbrev v_:=@wpAny_of_eq
abbrev KD:=@List.mem_of_mem_drop
abbrev Bc:=@wpAny_standAt
abbrev Oz:=@Option.isSome_iff_exists
abbrev Kz:=@List.replicate_succ
abbrev pW:=@congrArg
abbrev Ky:=@of_decide_eq_false
abbrev Bb:=@List.map_map
abbrev Ox:=@List.getElem?_of_mem
abbrev Ds:=@Nat.ne_of_gt
abbrev Kw:=@Nat.le_add_right
abbrev Ow:=@List.filterMap_cons
abbrev GC:=@List.any_cons
abbrev Kv:=@List.nil_append
abbrev Ku:=@List.length_set
abbrev Ks:=@List.find?_cons
abbrev Kr:=@Bool.eq_iff_iff
abbrev qT:=@wpAny_rule
abbrev DY:=@List.getElem?_drop
abbrev Jq:=@wpAny_getItem_str_slice
abbrev Jp:=@List.getElem?_replicate
abbrev Jo:=@List.getElem?_cons_zero
abbrev zL:=@wpAny_tryCatch
abbrev Jm:=@Option.map_eq_some_iff
abbrev Jl:=@List.take_of_length_le
abbrev zH:=@List.mem_range
abbrev wy:=@List.map_set
abbrev Jk:=@List.getElem?_eq_none
abbrev Jj:=@Heap.get?_update_self
abbrev zE:=@List.map_drop
abbrev wu:=@wpAny_letGo
abbrev O3:=@List.drop_append_of_le_length
abbrev DX:=@wpAny_passesOwn
abbrev DW:=@Nat.min_le_left
abbrev DR:=@List.of_mem_zip
abbrev zx:=@Nat.sub_self
abbrev zu:=@Nat.lt_trans
abbrev zq:=@List.map_nil
abbrev Ji:=@wpAny_pyIter_tuple
abbrev DQ:=@wpAny_bindName
abbrev DP:=@List.forIn_nil
abbrev O2:=@Array.getElem?_eq_getElem
abbrev zp:=@Nat.le_succ
abbrev Jh:=@Nat.le_of_succ_le
abbrev Jg:=@List.flatten_cons
abbrev zm:=@Int.le_refl
abbrev Jf:=@wpAny_pyIter_zip
abbrev O1:=@List.getElem?_cons_succ
abbrev Je:=@List.any_eq_true
abbrev DN:=@wpAny_typeOf
abbrev OJ:=@wpAny_pyIter_rangeiter
abbrev OD:=@List.getElem?_set_self
end
namespace L2
open PySem PySem.Spec PyProof.Rows
abbrev Key:=Sum Int Str
def zQ:Key->Value->Bool
 | .inl k,v=>Value.isInt k v
 | .inr x,v=>Value.isStrOf x v
def acU (w:World):Key->Int
 | .inl k=>hashInt k
 | .inr x=>hashStr w x
theorem dg:∀{k:Key} {v:Value},zQ k v=true->(∃i t,k=Sum.inl i/\v=Value.int i t)\/(∃x t,k=Sum.inr x/\v=Value.str x t)
 | .inl i,v,h=>by
  obtain⟨t,e⟩:=Value.isInt_shape (k:=i) (v:=v) h;exact .inl ⟨i,t,rfl,e⟩
 | .inr x,v,h=>by
  obtain⟨t,e⟩:=Value.isStrOf_shape (x:=x) (v:=v) h;exact .inr ⟨x,t,rfl,e⟩
theorem Lp (i:Int) (t:Tok):zQ (.inl i) (.int i t)=true:=by simp[zQ,Value.isInt]
theorem Ln (x:Str) (t:Tok):zQ (.inr x) (.str x t)=true:=by simp[zQ,Value.isStrOf]
theorem Xk (a b:Int):decide ((Sum.inl a:Key)=Sum.inl b)=(a==b):=by
 by_cases e:a=b
 ·subst e; simp
 ·have h:¬(Sum.inl a:Key)=Sum.inl b:=fun q=>e (Sum.inl.inj q);rw[mH h];exact(beq_eq_false_iff_ne.mpr e).symm
theorem Xh (a b:Str):decide ((Sum.inr a:Key)=Sum.inr b)=decide (a=b):=by
 by_cases e:a=b
 ·subst e; simp
 ·have h:¬(Sum.inr a:Key)=Sum.inr b:=fun q=>e (Sum.inr.inj q);rw[mH h,mH e]
theorem Xj (a:Int) (b:Str):decide ((Sum.inl a:Key)=Sum.inr b)=false:=mH (fun q=>nomatch q)
theorem Xi (a:Str) (b:Int):decide ((Sum.inr a:Key)=Sum.inl b)=false:=mH (fun q=>nomatch q)
def d9 (prog:Program) (w:World):PySem.KeyKind prog w Key where
 is:=zQ
 hash:=acU w
 inj:=fun v a b ha hb=>by
  rcases dg ha with⟨i,t,rfl,rfl⟩ | ⟨x,t,rfl,rfl⟩
  ·rcases dg hb with⟨j,u,rfl,e⟩ | ⟨y,u,rfl,e⟩
   ·injection e with e1 _; rw[e1]
   ·exact nomatch e
  ·rcases dg hb with⟨j,u,rfl,e⟩ | ⟨y,u,rfl,e⟩
   ·exact nomatch e
   ·injection e with e1 _; rw[e1]
 byValue:=fun k v h=>by
  rcases dg h with⟨i,t,rfl,rfl⟩ | ⟨x,t,rfl,rfl⟩ <;> rfl
 pyHash:=fun hv h=>by
  rcases dg hv with⟨i,t,rfl,rfl⟩ | ⟨x,t,rfl,rfl⟩
  ·exact wpAny_pyHash_int h
  ·exact wpAny_pyHash_str h
 eqBool:=fun hu hv h=>by
  rcases dg hu with⟨i,t,rfl,rfl⟩ | ⟨x,t,rfl,rfl⟩
  ·rcases dg hv with⟨j,u,rfl,rfl⟩ | ⟨y,u,rfl,rfl⟩
   ·rw[Xk] at h; exact wpAny_eqBool_int h
   ·rw[Xj] at h; exact SeqAt.EqAt.int_str i t y u _ _ _ _ h
  ·rcases dg hv with⟨j,u,rfl,rfl⟩ | ⟨y,u,rfl,rfl⟩
   ·rw[Xi] at h; exact SeqAt.EqAt.str_int x t j u _ _ _ _ h
   ·rw[Xh] at h; exact wpAny_eqBool_str h
 «strs»:=fun k x t v h=>by
  rcases dg h with⟨i,u,rfl,e⟩ | ⟨y,u,rfl,e⟩
  ·exact nomatch e
  ·injection e with e1 _
   subst e1;cases v <;> rfl
theorem Er (prog:Program) (w:World) (i:Int) (t:Tok):(d9 prog w).is (.inl i) (.int i t)=true:=Lp i t
theorem Ep (prog:Program) (w:World) (x:Str) (t:Tok):(d9 prog w).is (.inr x) (.str x t)=true:=Ln x t
inductive V where
 | non | bl (b:Bool) | int (i:Int) | str (x:Str) | Mq (b:Array UInt8) | flt (b:UInt64) | ref (a:Addr) | ty (n:String)
 deriving DecidableEq
def RelV:V->Value->Prop
 | .non,u=>u=Value.none
 | .bl b,u=>u=Value.bool b
 | .int i,u=>∃t,u=Value.int i t
 | .str x,u=>∃t,u=Value.str x t
 | .Mq b,u=>∃t,u=Value.bytes b t
 | .flt b,u=>∃t,u=Value.float b t
 | .ref a,u=>u=Value.ref a
 | .ty n,u=>u=Value.type n
abbrev Vals:List V->List Value->Prop:=Paired RelV
theorem Vals.length {xs:List V} {us:List Value} (r:Vals xs us):xs.length=us.length:=Paired.length r
theorem Vals.get:∀{xs:List V} {us:List Value} {i:Nat} {x:V},Vals xs us->xs[i]?=some x->∃u,us[i]?=some u/\RelV x u
 | _,_,_,_,.nil,e=>by simp at e
 | _,_,0,_,.cons r _,e=>by simp at e; subst e; exact⟨_,rfl,r⟩
 | _,_,i+1,x,.cons _ t,e=>by
  obtain⟨u,h1,h2⟩:=Vals.get (i:=i) (x:=x) t (by simpa using e)
  exact⟨u,by simpa using h1,h2⟩
theorem Vals.set {x:V} {u:Value} (r:RelV x u):∀{xs:List V} {us:List Value} (i:Nat),Vals xs us->Vals (xs.set i x) (us.set i u)
 | _,_,_,.nil=>.nil
 | _,_,0,.cons _ t=>.cons r t
 | _,_,i+1,.cons q t=>.cons q (Vals.set r i t)
theorem Vals.append:∀{xs ys:List V} {us ws:List Value},Vals xs us->Vals ys ws->Vals (xs++ys) (us++ws)
 | _,_,_,_,.nil,s=>s
 | _,_,_,_,.cons r t,s=>.cons r (Vals.append t s)
theorem Vals.take:∀{xs:List V} {us:List Value} (n:Nat),Vals xs us->Vals (xs.take n) (us.take n)
 | _,_,0,_=>.nil
 | _,_,_+1,.nil=>.nil
 | _,_,n+1,.cons r t=>.cons r (Vals.take n t)
theorem Vals.drop:∀{xs:List V} {us:List Value} (n:Nat),Vals xs us->Vals (xs.drop n) (us.drop n)
 | _,_,0,r=>r
 | _,_,_+1,.nil=>.nil
 | _,_,n+1,.cons _ t=>Vals.drop n t
def oY:Option V->Option Value->Prop
 | some v,some u=>RelV v u
 | none,none=>True
 | _,_=>False
def KV {κ:Type}:List (κ×V)->List (κ×Value)->Prop:=Paired fun(p:κ×V) (q:κ×Value)=>p.1=q.1/\RelV p.2 q.2
def kV:Key->V
 | .inl i=>.int i
 | .inr x=>.str x
inductive HO where
 | lst (xs:List V)
 | tup (xs:List V)
 | dK (kvs:List (Key×V)) | dT (kvs:List (List Key×V))
 | set (S:Int->Bool) (n:Nat)
 | ins (C dx:Addr) (fs:List (Str×V))
 | own (x:Addr)
 | xd (fs:List (Str×V))
 | met (f x:Addr)
 | ZW (lo hi:Int)
 | rW (o:Obj) (u:HO)
 | V1 (ps:Array Value)
 | ext (φ:Heap->Prop)
abbrev Hp:=Addr->Option HO
def upd (H:Hp) (a:Addr) (o:HO):Hp:=fun b=>if b=a then some o else H b
theorem aD {H:Hp} {a:Addr} {o:HO}:upd H a o a=some o:=by unfold upd; rw[bx rfl]
theorem aL {H:Hp} {a b:Addr} {o:HO} (h:b≠a):upd H a o b=H b:=by unfold upd; rw[aX h]
theorem Io {H:Hp} {a:Addr} {o u:HO}:upd (upd H a o) a u=upd H a u:=by
 funext b; unfold upd; split <;> rfl
theorem aap {H:Hp} {a b:Addr} {o u:HO} (h:H a=some o) (h':H b=some u) (d:o≠u):a≠b:=by
 intro e; subst e; rw[h] at h'; exact d (Option.some.inj h')
theorem cH {H:Hp} {a b:Addr} {o:HO} (h:H a=some o) (h':H b=none):a≠b:=by
 intro e; subst e; rw[h] at h'; cases h'
section
variable (P:Program) (w:World)
def cF (H:Hp) (h:Heap) (a:Addr):HO->Prop
 | .lst xs=>xs.length<=sizeLine/\∃(its:List Value) (n:Nat),Vals xs its/\h.get? a=some { cls:=.type "list",data:=.seq its.toArray n }
 | .tup xs=>xs.length<=sizeLine/\∃its:List Value,Vals xs its/\IsTup h a its.toArray
 | .dK kvs=>kvs.length<=sizeLine/\(a==sysModules)=false/\∃vs,KV kvs vs/\h.DictOf (d9 P w) a vs
 | .dT kvs=>kvs.length<=sizeLine/\(a==sysModules)=false/\∃xs:List (List Key×Addr×Value),
   Paired (fun(p:List Key×V) (q:List Key×Addr×Value)=>p.1=q.1/\H q.2.1=some (.tup (p.1.map kV))/\RelV p.2 q.2.2) kvs xs /\
   ∃o es ep,h.get? a=some o/\o.ExactDict/\o.data=.dict es ep/\es.toList=xs.map (entryOfKey (tupleKind (d9 P w)))/\(xs.map (·.1)).Nodup
 | .set S n=>h.SetOf (intKind P w) a S n
 | .ins C dx fs=>H dx=some (.own a)/\fs.length<=1000/\dx≠a/\h.get? a=some (PySem.W.instObj C dx) /\
   ∃mA,h.Ns1 dx mA/\(∀f,oY (fs.lookup f) (mA f))/\PySem.Within mA (fs.map (·.1))
 | .own _=>∃o,h.get? a=some o
 | .xd fs=>∃mA,h.Ns1 a mA/\∀f,oY (fs.lookup f) (mA f)
 | .ZW lo hi=>∃t u v,h.get? a=some { cls:=.type "range",data:=.fields #[.int lo t,.int hi u,.int 1 v] }
 | .rW o u=>h.get? a=some o/\cF H h a u
 | .V1 ps=>h.get? a=some { cls:=.none,data:=.fields ps }
 | .met f x=>h.get? a=some (PySem.W.methodObj (.ref f) (.ref x))
 | .ext φ=>φ h/\(∃o,h.get? a=some o)/\∀h1 h2:Heap,φ h1->(∀o,h1.get? a=some o->h2.get? a=some o)->φ h2
def n_ (H:Hp) (h:Heap):Prop:=∀a o,H a=some o->cF P w H h a o
end
section
variable {P:Program} {w:World} {H H':Hp} {h h':Heap} {a:Addr} {o:HO}
theorem cF.lt (x:cF P w H h a o):a<h.objs.size:=by
 cases o with
 | lst xs=>obtain⟨_,_,_,_,e⟩:=x; exact cg e
 | tup xs=>obtain⟨_,_,_,p⟩:=x; exact p.lt
 | dK kvs=>obtain⟨_,_,_,_,o,_,_,e,_⟩:=x; exact cg e
 | dT kvs=>obtain⟨_,_,_,_,o,_,_,e,_⟩:=x; exact cg e
 | set S n=>obtain⟨o,_,_,_,e,_⟩:=x; exact cg e
 | ins C dx fs=>obtain⟨_,_,_,e,_⟩:=x; exact cg e
 | own y=>obtain⟨_,e⟩:=x; exact cg e
 | xd fs=>obtain⟨_,⟨_,_,_,e,_⟩,_⟩:=x; exact cg e
 | ZW lo hi=>obtain⟨_,_,_,e⟩:=x; exact cg e
 | rW ob u=>obtain⟨e,_⟩:=x; exact cg e
 | V1 ps=>exact cg (show h.get? a=some _ from x)
 | met f y=>exact cg (show h.get? a=some _ from x)
 | ext φ=>obtain⟨_,⟨_,e⟩,_⟩:=x; exact cg e
theorem Paired.W9 {α β:Type} {F G:α->β->Prop}:∀{l₁:List α} {l₂:List β},Paired F l₁ l₂->(∀a b,F a b->G a b)->Paired G l₁ l₂
 | _,_,.nil,_=>.nil
 | _,_,.cons r t,f=>.cons (f _ _ r) (Paired.W9 t f)
theorem cF.stay (x:cF P w H h a o) (k:∀b u,(b=a\/H b=some (.own a))->h.get? b=some u->h'.get? b=some u)
  (ho:∀b,H b=some (.own a)->H' b=some (.own a)) (ht:∀b xs,H b=some (.tup xs)->H' b=some (.tup xs)):cF P w H' h' a o:=by
 induction o with
 | lst xs=>obtain⟨z,its,n,r,e⟩:=x; exact⟨z,its,n,r,k _ _ (.inl rfl) e⟩
 | tup xs=>obtain⟨z,its,r,ob,e,c⟩:=x; exact⟨z,its,r,ob,k _ _ (.inl rfl) e,c⟩
 | dK kvs=>obtain⟨z,y,vs,r,ob,es,ep,e,c⟩:=x; exact⟨z,y,vs,r,ob,es,ep,k _ _ (.inl rfl) e,c⟩
 | dT kvs=>
  obtain⟨z,y,xs,r,ob,es,ep,e,c⟩:=x;exact⟨z,y,xs,Paired.W9 r fun p q z=>⟨z.1,ht _ _ z.2.1,z.2.2⟩,ob,es,ep,k _ _ (.inl rfl) e,c⟩
 | set S n=>obtain⟨ob,es,ep,t,e,c⟩:=x; exact⟨ob,es,ep,t,k _ _ (.inl rfl) e,c⟩
 | ins C dx fs=>
  obtain⟨d,z,ne,e,mA,⟨od,es,ep,e2,c⟩,r⟩:=x;exact⟨ho _ d,z,ne,k _ _ (.inl rfl) e,mA,⟨od,es,ep,k _ _ (.inr d) e2,c⟩,r⟩
 | own y=>obtain⟨ob,e⟩:=x; exact⟨ob,k _ _ (.inl rfl) e⟩
 | xd fs=>obtain⟨mA,⟨od,es,ep,e,c⟩,r⟩:=x; exact⟨mA,⟨od,es,ep,k _ _ (.inl rfl) e,c⟩,r⟩
 | ZW lo hi=>obtain⟨t,u,v,e⟩:=x; exact⟨t,u,v,k _ _ (.inl rfl) e⟩
 | rW ob u ih=>obtain⟨e,q⟩:=x; exact⟨k _ _ (.inl rfl) e,ih q⟩
 | V1 ps=>
  have e:h.get? a=some { cls:=.none,data:=.fields ps }:=x;show h'.get? a=some { cls:=.none,data:=.fields ps };exact k a _ (.inl rfl) e
 | met f y=>
  have e:h.get? a=some (PySem.W.methodObj (.ref f) (.ref y)):=x;show h'.get? a=some (PySem.W.methodObj (.ref f) (.ref y));exact k a _ (.inl rfl) e
 | ext φ=>obtain⟨p,⟨o,e⟩,st⟩:=x; exact⟨st _ _ p fun o q=>k _ _ (.inl rfl) q,⟨o,k _ _ (.inl rfl) e⟩,st⟩
theorem n_.lt (x:n_ P w H h) (e:H a=some o):a<h.objs.size:=(x a o e).lt
theorem n_.fresh (x:n_ P w H h) (e:h.objs.size<=a):H a=none:=by
 cases q:H a with
 | none=>rfl
 | some u=>exact absurd (mJ (x.lt q) e) (sZ _)
theorem n_.kept (x:n_ P w H h) (k:∀b u,h.get? b=some u->h'.get? b=some u):n_ P w H h':=fun a o e=>
 (x a o e).stay (fun b u _ q=>k b u q) (fun _ q=>q) fun _ _ q=>q
theorem n_.laid (x:n_ P w H h) (k:∀b u,h.get? b=some u->h'.get? b=some u) (hp:h.objs.size<=a) (new:cF P w (upd H a o) h' a o):n_ P w (upd H a o) h':=fun b u e=>by
 have hn:=x.fresh hp;by_cases hb:b=a
 ·subst hb; rw[aD] at e; cases e; exact new
 ·rw[aL hb] at e;exact(x b u e).stay (fun c v _ q=>k c v q) (fun c q=>by rw[aL (cH q hn)]; exact q) fun c xs q=>by rw[aL (cH q hn)]; exact q
end
def Rd (H:Hp) (a:Addr) (u:HO):Prop:=H a=some u\/∃o,H a=some (.rW o u)
theorem Rd.ok {P:Program} {w:World} {H:Hp} {h:Heap} {a:Addr} {u:HO} (r:Rd H a u) (x:n_ P w H h):cF P w H h a u:=by
 rcases r with r | ⟨o,r⟩
 ·exact x a u r
 ·obtain⟨_,q⟩:=x a _ r;exact q
def Mut:Option HO->Prop
 | some (.lst _)=>True
 | some (.dK _)=>True
 | some (.dT _)=>True
 | some (.set _ _)=>True
 | some (.ins _ _ _)=>True
 | some (.ext _)=>True
 | _=>False
section
variable {P:Program} {w:World} {H:Hp} {h h':Heap} {x e:Addr} {o':HO}
theorem n_.write (ok:n_ P w H h) (mu:Mut (H x)) (he:e=x\/H e=some (.own x)) (k:∀b u,b≠e->h.get? b=some u->h'.get? b=some u) (heo:∃u,h'.get? e=some u)
  (new:cF P w (upd H x o') h' x o'):n_ P w (upd H x o') h':=fun b u q=>by
 have aam:∀c y,H c=some (.own y)->c≠x:=fun c y r z=>by subst z; rw[r] at mu; exact mu
 have acL:∀c xs,H c=some (.tup xs)->c≠x:=fun c xs r z=>by subst z; rw[r] at mu; exact mu
 by_cases hb:b=x
 ·subst hb; rw[aD] at q; cases q; exact new
 ·rw[aL hb] at q;by_cases hbe:b=e
  ·have q':H b=some (.own x):=by
    rcases he with z | z
    ·exact absurd (hbe.trans z) hb
    ·rw[hbe]; exact z
   rw[q] at q'; cases q';obtain⟨v,hv⟩:=heo;exact⟨v,by rw[hbe]; exact hv⟩
  ·refine(ok b u q).stay (fun c v hc r=>k c v ?_ r) (fun c r=>by rw[aL (aam c b r)]; exact r) fun c xs r=>by rw[aL (acL c xs r)]; exact r
   rcases hc with rfl | hc
   ·exact hbe
   ·rintro rfl;rcases he with z | z
    ·exact aam c b hc z
    ·rw[hc] at z; cases z; exact hb rfl
end
structure Un (fs ex:List Addr) (H H':Hp) (h h':Heap):Prop where
 keep:∀b o,h.get? b=some o->H b=none->b∉fs->b∉ex->h'.get? b=some o
 slot:∀b o,h.get? b=some o->H b=none->b∈fs->b∉ex->∃sl,h'.get? b=some { o with slots:=sl }
 free:∀b o,h.get? b=some o->H b=none->b∉ex->H' b=none
 there:∀b o,h.get? b=some o->b∉ex->∃o',h'.get? b=some o'
 tups:∀b xs,H b=some (.tup xs)->H' b=some (.tup xs)
 xm:∀b o u,H b=some (.rW o u)->H' b=some (.rW o u)
 Aq:∀b ps,H b=some (.V1 ps)->∃more,H' b=some (.V1 (ps++more))
section
variable {fs fs' ex ex':List Addr} {H H1 H2:Hp} {h h1 h2 h':Heap} {a x e:Addr} {o:HO}
theorem Un.any (u:Un fs ex H H1 h h1) {b:Addr} {ob:Obj} (q:h.get? b=some ob) (n:H b=none) (hx:b∉ex):∃sl,h1.get? b=some { ob with slots:=sl }:=by
 by_cases hb:b∈fs
 ·exact u.slot b ob q n hb hx
 ·exact⟨ob.slots,u.keep b ob q n hb hx⟩
theorem Un.kept (k:∀b u,h.get? b=some u->h'.get? b=some u):Un fs ex H H h h':=
 ⟨fun b ob q _ _ _=>k b ob q,fun b ob q _ _ _=>⟨ob.slots,k b ob q⟩,fun _ _ _ n _=>n,fun b ob q _=>⟨ob,k b ob q⟩,fun _ _ q=>q,fun _ _ _ q=>q,fun _ ps q=>⟨#[],by rw[q]; simp⟩⟩
theorem Un.refl:Un fs ex H H h h:=Un.kept fun _ _ q=>q
theorem Un.laid (k:∀b u,h.get? b=some u->h'.get? b=some u) (hp:h.objs.size<=a) (hn:H a=none):Un fs ex H (upd H a o) h h' where
 keep:=fun b u q _ _ _=>k b u q
 slot:=fun b u q _ _ _=>⟨u.slots,k b u q⟩
 free:=fun b u q n _=>by rw[aL (fJ (mJ (cg q) hp))]; exact n
 there:=fun b u q _=>⟨u,k b u q⟩
 tups:=fun b xs q=>by rw[aL (cH q hn)]; exact q
 xm:=fun b u xs q=>by rw[aL (cH q hn)]; exact q
 Aq:=fun b ps q=>⟨#[],by rw[aL (cH q hn),q]; simp⟩
theorem Un.write (mu:Mut (H x)) (he:e=x\/H e=some (.own x)) (k:∀b u,b≠e->h.get? b=some u->h'.get? b=some u) (heo:∃u,h'.get? e=some u):Un fs ex H (upd H x o) h h':=by
 have hx:∀b,H b=none->b≠x:=fun b n z=>by subst z; rw[n] at mu; exact mu
 have hb:∀b,H b=none->b≠e:=fun b n z=>by
  subst z;rcases he with r | r
  ·exact hx b n r
  ·rw[n] at r; cases r
 have hm:∀b u,H b=some u->¬Mut (some u)->b≠x:=fun b u q nm z=>by subst z; rw[q] at mu; exact nm mu
 refine⟨fun b u q n _ _=>k b u (hb b n) q,fun b u q n _ _=>⟨u.slots,k b u (hb b n) q⟩,fun b u q n _=>by rw[aL (hx b n)]; exact n,fun b u q _=>?_,
  fun b xs q=>by rw[aL (hm b _ q fun z=>z)]; exact q,fun b u xs q=>by rw[aL (hm b _ q fun z=>z)]; exact q,fun b ps q=>⟨#[],by rw[aL (hm b _ q fun z=>z),q]; simp⟩⟩
 by_cases hbe:b=e
 ·subst hbe; exact heo
 ·exact⟨u,k b u hbe q⟩
end
def trk (h:Heap) (H:Hp):List Addr:=(List.range h.objs.size).filter fun a=>(H a).isSome
def BW (h:Heap) (H:Hp):Heap:=PySem.W.hideAll h (trk h H)
theorem Lr (h:Heap) (H:Hp):(BW h H).objs.size=h.objs.size:=PySem.W.hideAll_size _ _
theorem Ql {h:Heap} {H:Hp} {b:Addr} {o:Obj} (e:h.get? b=some o) (n:H b=none):(BW h H).get? b=some o:=
 PySem.W.hideAll_get _ e fun hm=>by
  have q:(H b).isSome=true:=(mG.mp hm).2;rw[n] at q; simp at q
theorem S5 {h:Heap} {H:Hp} {b:Addr} {o:Obj} (e:(BW h H).get? b=some o):h.get? b=some o/\H b=none:=by
 have e':h.get? b=some o:=PySem.W.of_hideAll (trk h H) e;refine⟨e',?_⟩;cases q:H b with
 | none=>rfl
 | some x=>
  have hm:b∈trk h H:=mG.mpr ⟨zH.mpr (cg e'),by simp[q]⟩
  have z:(BW h H).get? b=none:=PySem.W.hideAll_none (trk h H) hm;rw[z] at e; cases e
def Ud (g h:Heap) (L:Addr):List (Addr×Obj):=(List.range h.objs.size).filterMap fun a=>if a=L\/(g.get? a).isSome=true then none else(h.get? a).map fun o=>(a,o)
def rest (g h:Heap) (L d:Addr):List (Addr×Obj):=(Ud g h L).filter fun p=>decide (p.1≠d)
structure Mod (K:PySem.W.Frag) (mg:Str->Option Value) (base:Heap):Prop where
 Vj:K.In base
 glob:base.Ns mainGlobals mg
 blt:∃mb,base.Ns builtinsNs mb/\∀x:Str,x ≠ "__name__" -> mb x=bootBuiltins x
 nolimit:base.NoLimit
structure Cx where
 prog:Program
 w:World
 K:PySem.W.Frag
 mg:Str->Option Value
 base:Heap
 A:Around
 N:List Str
 s₀:Shared
 H₀:Hp
 env:Env
 outer:List Env
 stack:List Env
 ex:List Addr
 fn:Str->Bool
 calm:Bool
 pn:List (Addr×Obj)
 xe:Value->Shared->Prop
def frs (l:List Env):List Addr:=l.filterMap (·.frame)
abbrev Cx.fs (X:Cx):List Addr:=frs X.outer
def Vis (sc:Scope) (x:Str):Prop:=sc.names.lookup x=some .local\/sc.names.lookup x=some .cell\/sc.names.lookup x=some .free
def Loc (sc:Scope) (x:Str):Prop:=sc.names.lookup x=some .local\/sc.names.lookup x=some .cell
def Look (env:Env) (h:Heap) (m:Str->Option Value) (x:Str) (u:Value):Prop:=
 (env.kindOf x=some .local/\m x=some u)\/((env.kindOf x=some .cell\/env.kindOf x=some .free)/\∃c,env.cells.lookup x=some c/\h.IsCell c (some u))
structure Cx.Ok (X:Cx):Prop where
 mod:Mod X.K X.mg X.base
 kind:X.env.scope.kind=.function
 glob:X.env.globals=mainGlobals
 blt:X.env.builtins=builtinsNs
 above:X.s₀.heap.objs.size<=X.env.locals
 inj:∀x y c,X.env.cells.lookup x=some c->X.env.cells.lookup y=some c->x=y
 has:∀x,(X.env.kindOf x=some .cell\/X.env.kindOf x=some .free)->∃c,X.env.cells.lookup x=some c
 cab:∀x c,X.fn x=true->X.env.cells.lookup x=some c->X.s₀.heap.objs.size<=c
 hd:X.calm=true->X.A.handled=none
 frames:X.A.frames=some X.stack
 stk:X.stack=X.outer\/(X.stack=X.env::X.outer/\X.env.frame=some X.env.locals)
 exf:∀b∈X.ex,b≠X.env.locals/\∀x c,X.env.cells.lookup x=some c->c≠b
 bs:∀b o,X.base.get? b=some o->X.s₀.heap.get? b=some o/\X.H₀ b=none
 MJ:X.base.objs.size<=X.s₀.heap.objs.size
 Hf:∀b o,X.base.get? b=some o->b∉X.ex
 LQ:∀b∈X.ex,b∉X.fs
 uP:X.s₀.heap.FunFrames X.base X.outer
 Xx:∀b∈X.fs,X.H₀ b=none
structure Inv (X:Cx) (pins:List (Addr×Obj)) (σ:List (Option V)) (H:Hp) (s:Shared):Prop where
 ok:X.Ok
 os:s.os=X.s₀.os
 bare:AllBare s.gens
 base:Un X.fs X.ex X.H₀ H X.s₀.heap s.heap
 loc:∃m,s.heap.Ns X.env.locals m/\∀(i:Nat) (x:Str) (v:V),X.N[i]?=some x->σ[i]?=some (some v)->Vis X.env.scope x->∃u,RelV v u/\Look X.env s.heap m x u
 cell:∀x c,X.env.cells.lookup x=some c->∃v,s.heap.IsCell c v
 free:H X.env.locals=none
 kJ:∀x c,X.env.cells.lookup x=some c->H c=none
 pin:∀p∈X.pn++pins,s.heap.get? p.1=some p.2/\H p.1=none/\p.1≠X.env.locals/\p.1∉X.fs/\∀v,p.2.data≠.cell v
 hok:n_ X.prog X.w H s.heap
 len:σ.length=X.N.length
section
variable {X:Cx} {pins:List (Addr×Obj)} {σ:List (Option V)} {H H':Hp} {s:Shared} {h':Heap}
theorem Cx.Ok.acO (ok:X.Ok) {b:Addr} {o:Obj} (e:X.base.get? b=some o):b∉X.fs:=fun hb=>by
 have:=(ok.uP.mem hb).1;rw[e] at this; cases this
theorem Inv.bs (I:Inv X pins σ H s):∀b o,X.base.get? b=some o->s.heap.get? b=some o/\H b=none:=fun b o e=>
 ⟨I.base.keep b o (I.ok.bs b o e).1 (I.ok.bs b o e).2 (I.ok.acO e) (I.ok.Hf b o e),I.base.free b o (I.ok.bs b o e).1 (I.ok.bs b o e).2 (I.ok.Hf b o e)⟩
theorem Inv.bk (I:Inv X pins σ H s):∀b o,X.base.get? b=some o->s.heap.get? b=some o:=fun b o e=>(I.bs b o e).1
theorem Inv.mod (I:Inv X pins σ H s):Mod X.K X.mg X.base:=I.ok.mod
theorem Inv.mU (I:Inv X pins σ H s):X.K.In s.heap:=I.ok.mod.Vj.keeps I.bk
theorem Inv.fr (I:Inv X pins σ H s):∃m,Fr X.base X.env.locals s.heap m:=
 let ⟨m,hn,_⟩:=I.loc
 ⟨m,hn,I.bk,ik I.ok.MJ I.ok.above⟩
theorem Inv.lt (I:Inv X pins σ H s):X.env.locals<s.heap.objs.size:=let ⟨_,hn,_⟩:=I.loc; hn.lt
theorem Inv.sz (I:Inv X pins σ H s):X.s₀.heap.objs.size<=s.heap.objs.size:=ik I.ok.above (mF I.lt)
theorem Inv.acN (I:Inv X pins σ H s) {a:Addr} (h:s.heap.objs.size<=a):a∉X.fs:=fun hb=>by
 obtain⟨_,o,ho,_⟩:=I.ok.uP.mem hb;exact absurd (mJ (cg ho) (ik I.sz h)) (sZ _)
theorem Inv.XR (I:Inv X pins σ H s):∀x c,X.env.cells.lookup x=some c->c≠X.env.locals:=fun x c e z=>by
 obtain⟨v,o,ho,hd⟩:=I.cell x c e;obtain⟨m,⟨o',es,ep,ho',hd',_⟩,_⟩:=I.loc;rw[z,ho'] at ho; cases ho; rw[hd'] at hd; cases hd
theorem Inv.uP (I:Inv X pins σ H s):s.heap.FunFrames X.base X.outer:=by
 have all:∀(l:List Env),(∀b∈frs l,b∈X.fs)->X.s₀.heap.FunFrames X.base l->s.heap.FunFrames X.base l:=by
  intro l
  induction l with
  | nil=>intro _ _; trivial
  | cons env r ih=>
   intro hs hl;obtain⟨hk,⟨L,o,hf,hn,ho,hd⟩,hr⟩:=hl;have hL:L∈X.fs:=hs L (by unfold frs; rw[Ow,hf]; exact cY)
   obtain⟨sl,e⟩:=I.base.slot L o ho (I.ok.Xx L hL) hL fun z=>I.ok.LQ L z hL;exact⟨hk,⟨L,_,hf,hn,e,hd⟩,ih (fun b hb=>hs b (by unfold frs; rw[Ow,hf]; exact gk _ hb)) hr⟩
 exact all X.outer (fun _ hb=>hb) I.ok.uP
theorem Inv.stack (I:Inv X pins σ H s):s.heap.FunFrames X.base X.stack:=by
 rcases I.ok.stk with e | ⟨e,hf⟩
 ·rw[e]; exact I.uP
 ·rw[e];obtain⟨m,hn,_⟩:=I.loc;refine .cons (by rw[I.ok.kind]; decide) hf hn ?_ I.uP
  exact Heap.get?_none_of_le (ik I.ok.MJ I.ok.above)
theorem Inv.Gn (I:Inv X pins σ H s):∀b∈frs X.stack,b∈X.env.locals::X.fs:=fun b hb=>by
 rcases I.ok.stk with e | ⟨e,hf⟩
 ·rw[e] at hb; exact gk _ hb
 ·rw[e] at hb;unfold frs at hb;rw[Ow,hf] at hb;exact hb
theorem Inv.Iz (I:Inv X pins σ H s):∀b∈frs X.stack,H b=none:=fun b hb=>by
 rcases bF.mp (I.Gn b hb) with e | hb
 ·rw[e]; exact I.free
 ·obtain⟨_,o,ho,_⟩:=I.ok.uP.mem hb;exact I.base.free b o ho (I.ok.Xx b hb) fun z=>I.ok.LQ b z hb
theorem Inv.step {g':Array GenState} {t':Nat} {d':Drawn} {ch:List Addr} (I:Inv X pins σ H s)
  (hch:∀b∈ch,(b∈X.ex\/X.s₀.heap.objs.size<=b)/\b≠X.env.locals/\(∀x c,X.env.cells.lookup x=some c->c≠b)/\∀p∈X.pn++pins,p.1≠b)
  (keep:∀b o,b≠X.env.locals->b∉X.fs->b∉ch->s.heap.get? b=some o->H b=none->h'.get? b=some o)
  (slot:∀b o,b≠X.env.locals->b∈X.fs->b∉ch->s.heap.get? b=some o->H b=none->∃sl,h'.get? b=some { o with slots:=sl }) (free:∀b o,b∉ch->s.heap.get? b=some o->H b=none->H' b=none)
  (there:∀b o,b∉ch->s.heap.get? b=some o->∃o',h'.get? b=some o')
  (tups:∀b xs,H b=some (.tup xs)->H' b=some (.tup xs)) (xm:∀b o u,H b=some (.rW o u)->H' b=some (.rW o u)) (Aq:∀b ps,H b=some (.V1 ps)->∃more,H' b=some (.V1 (ps++more)))
  (ns:∀m,s.heap.Ns X.env.locals m->h'.Ns X.env.locals m) (hok:n_ X.prog X.w H' h') (hg:AllBare g') :
  Inv X pins σ H' { s with heap:=h',gens:=g',drawn:=d',toks:=t' }:=by
 have neL:∀b o,X.s₀.heap.get? b=some o->b≠X.env.locals:=fun b o e=>fJ (mJ (cg e) I.ok.above)
 have neC:∀b o,X.s₀.heap.get? b=some o->b∉X.ex->b∉ch:=fun b o e hx hb=>by
  rcases(hch b hb).1 with z | z
  ·exact hx z
  ·exact absurd (mJ (cg e) z) (sZ _)
 have cellK:∀x c,X.env.cells.lookup x=some c->∀v,s.heap.IsCell c v->h'.IsCell c v:=fun x c e v ⟨o,ho,hd⟩=>by
  have nch:c∉ch:=fun z=>(hch c z).2.2.1 x c e rfl;by_cases hc:c∈X.fs
  ·obtain⟨sl,q⟩:=slot c o (I.XR x c e) hc nch ho (I.kJ x c e);exact⟨_,q,hd⟩
  ·exact⟨o,keep c o (I.XR x c e) hc nch ho (I.kJ x c e),hd⟩
 refine⟨I.ok,I.os,hg,⟨fun b o e n hb hx=>?_,fun b o e n hb hx=>?_,fun b o e n hx=>?_,fun b o e hx=>?_,fun b xs e=>tups b xs (I.base.tups b xs e),fun b o xs e=>xm b o xs (I.base.xm b o xs e),fun b ps e=>?_⟩,?_,fun x c e=>?_,?_,fun x c e=>?_,fun p hp=>?_,hok,I.len⟩
 ·exact keep b o (neL b o e) hb (neC b o e hx) (I.base.keep b o e n hb hx) (I.base.free b o e n hx)
 ·obtain⟨sl,e1⟩:=I.base.slot b o e n hb hx;obtain⟨sl',e2⟩:=slot b _ (neL b o e) hb (neC b o e hx) e1 (I.base.free b o e n hx);exact⟨sl',e2⟩
 ·obtain⟨o',e1⟩:=I.base.there b o e hx;exact free b o' (neC b o e hx) e1 (I.base.free b o e n hx)
 ·obtain⟨o',e1⟩:=I.base.there b o e hx;exact there b o' (neC b o e hx) e1
 ·obtain⟨m1,e1⟩:=I.base.Aq b ps e;obtain⟨m2,e2⟩:=Aq b _ e1;exact⟨m1++m2,by rw[e2,Array.append_assoc]⟩
 ·obtain⟨m,hn,hl⟩:=I.loc;refine⟨m,ns m hn,fun i x v e1 e2 e3=>?_⟩;obtain⟨u,r,l⟩:=hl i x v e1 e2 e3;refine⟨u,r,?_⟩;rcases l with l | ⟨k,c,e,z⟩
  ·exact .inl l
  ·exact .inr ⟨k,c,e,cellK x c e _ z⟩
 ·obtain⟨v,z⟩:=I.cell x c e;exact⟨v,cellK x c e v z⟩
 ·obtain⟨m,⟨o,_,_,ho,_⟩,_⟩:=I.loc;exact free _ o (fun z=>(hch _ z).2.1 rfl) ho I.free
 ·obtain⟨v,o,ho,hd⟩:=I.cell x c e;exact free c o (fun z=>(hch c z).2.2.1 x c e rfl) ho (I.kJ x c e)
 ·obtain⟨e,n,ne,nf,d⟩:=I.pin p hp;have nch:p.1∉ch:=fun z=>(hch p.1 z).2.2.2 p hp rfl;exact⟨keep p.1 p.2 ne nf nch e n,free p.1 p.2 nch e n,ne,nf,d⟩
theorem Inv.un {t':Nat} (I:Inv X pins σ H s) (u:Un X.fs [] H H' s.heap h') (hok:n_ X.prog X.w H' h'):Inv X pins σ H' { s with heap:=h',toks:=t' }:=by
 obtain⟨m,⟨o,es,ep,ho,r⟩,_⟩:=id I.loc;obtain⟨sl,hL⟩:=u.any ho I.free (by simp)
 exact I.step (g':=s.gens) (d':=s.drawn) (ch:=[]) (fun _ z=>nomatch z) (fun b o _ hb _ e n=>u.keep b o e n hb (by simp)) (fun b o _ hb _ e n=>u.slot b o e n hb (by simp)) (fun b o _ e n=>u.free b o e n (by simp)) (fun b o _ e=>u.there b o e (by simp)) u.tups u.xm u.Aq (fun m' hm=>by
  obtain⟨o',es',ep',ho',r'⟩:=hm;rw[ho] at ho'; cases ho'
  exact⟨_,es',ep',hL,r'⟩) hok I.bare
theorem Inv.call {g':Array GenState} {t':Nat} {d':Drawn} {ch:List Addr} (I:Inv X pins σ H s) (u:Un (frs X.stack) ch H H' s.heap h') (hok:n_ X.prog X.w H' h') (hg:AllBare g')
  (hch:∀b∈ch,(b∈X.ex\/X.s₀.heap.objs.size<=b)/\b≠X.env.locals/\(∀x c,X.env.cells.lookup x=some c->c≠b)/\∀p∈X.pn++pins,p.1≠b) :
  Inv X pins σ H' { s with heap:=h',gens:=g',drawn:=d',toks:=t' }:=by
 obtain⟨m,⟨o,es,ep,ho,r⟩,_⟩:=id I.loc;obtain⟨sl,hL⟩:=u.any ho I.free fun z=>(hch _ z).2.1 rfl
 exact I.step (ch:=ch) hch (fun b o hL hb hc e n=>u.keep b o e n (fun z=>(bF.mp (I.Gn b z)).elim hL hb) hc) (fun b o _ _ hc e n=>u.any e n hc) (fun b o hc e n=>u.free b o e n hc) (fun b o hc e=>u.there b o e hc) u.tups u.xm u.Aq (fun m' hm=>by
  obtain⟨o',es',ep',ho',r'⟩:=hm;rw[ho] at ho'; cases ho'
  exact⟨_,es',ep',hL,r'⟩) hok hg
theorem Inv.turned {t':Nat} {it:Addr} (I:Inv X pins σ H s) (k:∀b o,b≠it->s.heap.get? b=some o->h'.get? b=some o) (hn:H it=none) (hL:it≠X.env.locals)
  (h1:it∈X.ex\/X.s₀.heap.objs.size<=it) (h2:∀x c,X.env.cells.lookup x=some c->c≠it) (h3:∀p∈X.pn++pins,p.1≠it):Inv X pins σ H { s with heap:=h',toks:=t' }:=by
 have nit:∀b u,H b=some u->b≠it:=fun b u e z=>by rw[z,hn] at e; cases e
 refine I.step (g':=s.gens) (d':=s.drawn) (ch:=[it]) (fun b hb=>?_) (fun b o _ _ hc e _=>k b o (fun z=>hc (by simp[z])) e) (fun b o _ _ hc e _=>⟨o.slots,k b o (fun z=>hc (by simp[z])) e⟩) (fun _ _ _ _ n=>n)
  (fun b o hc e=>⟨o,k b o (fun z=>hc (by simp[z])) e⟩) (fun _ _ e=>e) (fun _ _ _ e=>e) (fun b ps e=>⟨#[],by rw[e]; simp⟩) (fun m hm=>?_) (fun b u e=>?_) I.bare
 ·have e:b=it:=by simpa using hb
  subst e;exact⟨h1,hL,h2,h3⟩
 ·obtain⟨o,es,ep,ho,r⟩:=hm;exact⟨o,es,ep,k _ o (Ne.symm hL) ho,r⟩
 ·refine(I.hok b u e).stay (fun c v hc q=>k c v ?_ q) (fun _ q=>q) fun _ _ q=>q;rcases hc with z | z
  ·rw[z]; exact nit b u e
  ·exact nit c _ z
theorem Inv.tok (I:Inv X pins σ H s) (t:Nat):Inv X pins σ H { s with toks:=t }:=I.un (h':=s.heap) (t':=t) Un.refl I.hok
theorem Inv.kept {t':Nat} (I:Inv X pins σ H s) (k:∀b u,s.heap.get? b=some u->h'.get? b=some u):Inv X pins σ H { s with heap:=h',toks:=t' }:=I.un (Un.kept k) (I.hok.kept k)
theorem Inv.laid {a:Addr} {o:HO} {t':Nat} (I:Inv X pins σ H s) (k:∀b u,s.heap.get? b=some u->h'.get? b=some u) (hp:s.heap.objs.size<=a) (new:cF X.prog X.w (upd H a o) h' a o) :
  Inv X pins σ (upd H a o) { s with heap:=h',toks:=t' }:=I.un (Un.laid k hp (I.hok.fresh hp)) (I.hok.laid k hp new)
theorem Inv.write {x e:Addr} {o:HO} {t':Nat} (I:Inv X pins σ H s) (mu:Mut (H x)) (he:e=x\/H e=some (.own x)) (k:∀b u,b≠e->s.heap.get? b=some u->h'.get? b=some u) (heo:∃u,h'.get? e=some u)
  (new:cF X.prog X.w (upd H x o) h' x o):Inv X pins σ (upd H x o) { s with heap:=h',toks:=t' }:=I.un (Un.write mu he k heo) (I.hok.write mu he k heo new)
theorem Inv.weak {σ':List (Option V)} (I:Inv X pins σ H s) (hl:σ'.length=σ.length) (w:∀(i:Nat) v,σ'[i]?=some (some v)->σ[i]?=some (some v)):Inv X pins σ' H s:=
 ⟨I.ok,I.os,I.bare,I.base,let ⟨m,hn,hl'⟩:=I.loc; ⟨m,hn,fun i x v e1 e2 e3=>hl' i x v e1 (w i v e2) e3⟩,I.cell,I.free,I.kJ,I.pin,I.hok,hl.trans I.len⟩
theorem Inv.Js {Vd:List (Addr×Obj)} (I:Inv X pins σ H s) (h:∀p∈Vd,s.heap.get? p.1=some p.2/\H p.1=none/\p.1≠X.env.locals/\p.1∉X.fs/\∀v,p.2.data≠.cell v):Inv X Vd σ H s:=
 ⟨I.ok,I.os,I.bare,I.base,I.loc,I.cell,I.free,I.kJ,fun p hp=>(eQ.mp hp).elim (fun z=>I.pin p (GJ _ z)) (h p),I.hok,I.len⟩
theorem El {N:List Str} (hN:N.Nodup) {i j:Nat} {x:Str} (a:N[i]?=some x) (b:N[j]?=some x):i=j:=by
 obtain⟨h1,e1⟩:=i_.mp a;obtain⟨h2,e2⟩:=i_.mp b;exact(List.getElem_inj hN).mp (e1.trans e2.symm)
theorem Kf {M:Model} {A:Around} {E:Value->Shared->Prop} {i:Nat} {x:Str} {v:V} {u:Value} {Q:Unit->Shared->Prop} (I:Inv X pins σ H s) (hN:X.N.Nodup) (hi:X.N[i]?=some x) (hx:Loc X.env.scope x) (r:RelV v u)
  (h:∀s',Inv X pins (σ.set i (some v)) H s'->(∃a,Heap.SameBut a s.heap s'.heap/\(a=X.env.locals\/X.env.cells.lookup x=some a))->Q () s') (hf:X.fn x=true\/X.env.scope.names.lookup x=some .local:=by first | exact .inl rfl | exact .inr rfl | assumption):wpAny M A (storeName X.env x u) Q E s:=by
 obtain⟨m,hn,hl⟩:=id I.loc;have hcls:(X.env.scope.kind==.class || (X.env.scope.kind==.module&&X.env.locals != X.env.globals))=false:=by rw[I.ok.kind]; rfl
 have hiσ:i<σ.length:=by rw[I.len]; exact(i_.mp hi).1
 have XR:=I.XR
 have tracked:∀{a:Addr} {h':Heap},(∃o,s.heap.get? a=some o/\H a=none)->Heap.SameBut a s.heap h'->n_ X.prog X.w H h':=fun {a h'} ha hs b ob e=>by
  obtain⟨_,_,hfree⟩:=ha;refine(I.hok b ob e).stay (fun c w' hc q=>(hs.2 c ?_).trans q) (fun _ q=>q) fun _ _ q=>q;rintro rfl;rcases hc with rfl | hc
  ·rw[hfree] at e; cases e
  ·rw[hfree] at hc; cases hc
 rcases hx with hk | hk
 ·refine wpAny_storeName_local hk hn (fun h' hn' hs=>?_) hcls;obtain⟨oL,_,_,hoL,_⟩:=id hn;refine h _ ⟨I.ok,I.os,I.bare,⟨fun b o e n hb hx=>?_,fun b o e n hb hx=>?_,I.base.free,fun b o e hx=>?_,I.base.tups,I.base.xm,I.base.Aq⟩,⟨_,hn',fun j y v' e1 e2 e3=>?_⟩,fun y c e=>?_,I.free,I.kJ,fun p hp=>?_,tracked ⟨oL,hoL,I.free⟩ hs,by simpa using I.len⟩ ⟨_,hs,.inl rfl⟩
  ·exact(hs.2 b (fJ (mJ (cg e) I.ok.above))).trans (I.base.keep b o e n hb hx)
  ·obtain⟨sl,e1⟩:=I.base.slot b o e n hb hx;exact⟨sl,(hs.2 b (fJ (mJ (cg e) I.ok.above))).trans e1⟩
  ·obtain⟨o',e1⟩:=I.base.there b o e hx;exact⟨o',(hs.2 b (fJ (mJ (cg e) I.ok.above))).trans e1⟩
  ·by_cases hj:j=i
   ·subst hj;rw[hi] at e1; cases e1;rw[OD hiσ] at e2;cases e2;exact⟨u,r,.inl ⟨hk,by simp⟩⟩
   ·rw[List.getElem?_set_ne (Ne.symm hj)] at e2;obtain⟨u',r',q⟩:=hl j y v' e1 e2 e3;refine⟨u',r',?_⟩;rcases q with⟨k,e⟩ | ⟨k,c,e,z⟩
    ·refine .inl ⟨k,?_⟩;have:y≠x:=fun e=>hj (El hN e1 (e▸hi));simp[this,e]
    ·exact .inr ⟨k,c,e,z.sameBut hs (XR y c e)⟩
  ·obtain⟨w',z⟩:=I.cell y c e;exact⟨w',z.sameBut hs (XR y c e)⟩
  ·obtain⟨e,n,ne,nf,d⟩:=I.pin p hp;exact⟨(hs.2 p.1 ne).trans e,n,ne,nf,d⟩
 ·have hfn:X.fn x=true:=by
   rcases hf with z | z
   ·exact z
   ·rw[z] at hk; cases hk
  obtain⟨c,hc⟩:=I.ok.has x (.inl hk);obtain⟨w',z⟩:=I.cell x c hc;refine wpAny_storeName_cell I.ok.kind hk hc z (fun h' hc' hs=>?_);obtain⟨oc,hoc,ac6⟩:=id z;refine h { s with heap:=h' } ⟨I.ok,I.os,I.bare,⟨fun b o e n hb hx=>?_,fun b o e n hb hx=>?_,I.base.free,fun b o e hx=>?_,I.base.tups,I.base.xm,I.base.Aq⟩,⟨m,hn.sameBut hs (Ne.symm (XR x c hc)),fun j y v' e1 e2 e3=>?_⟩,fun y c' e=>?_,I.free,I.kJ,fun p hp=>?_,tracked ⟨oc,hoc,I.kJ x c hc⟩ hs,by simpa using I.len⟩ ⟨c,hs,.inr hc⟩
  ·exact(hs.2 b (fJ (mJ (cg e) (I.ok.cab x c hfn hc)))).trans (I.base.keep b o e n hb hx)
  ·obtain⟨sl,e1⟩:=I.base.slot b o e n hb hx;exact⟨sl,(hs.2 b (fJ (mJ (cg e) (I.ok.cab x c hfn hc)))).trans e1⟩
  ·obtain⟨o',e1⟩:=I.base.there b o e hx;exact⟨o',(hs.2 b (fJ (mJ (cg e) (I.ok.cab x c hfn hc)))).trans e1⟩
  ·by_cases hj:j=i
   ·subst hj;rw[hi] at e1; cases e1;rw[OD hiσ] at e2;cases e2;exact⟨u,r,.inr ⟨.inl hk,c,hc,hc'⟩⟩
   ·rw[List.getElem?_set_ne (Ne.symm hj)] at e2;obtain⟨u',r',q⟩:=hl j y v' e1 e2 e3;refine⟨u',r',?_⟩;rcases q with q | ⟨k,c',e,z'⟩
    ·exact .inl q
    ·refine .inr ⟨k,c',e,z'.sameBut hs ?_⟩;rintro rfl;exact hj (El hN e1 (I.ok.inj _ _ _ e hc▸hi))
  ·by_cases hcc:c'=c
   ·subst hcc; exact⟨_,hc'⟩
   ·obtain⟨w2,z2⟩:=I.cell y c' e;exact⟨w2,z2.sameBut hs hcc⟩
  ·obtain⟨e,n,ne,nf,d⟩:=I.pin p hp;refine⟨(hs.2 p.1 ?_).trans e,n,ne,nf,d⟩;intro q;rw[q,hoc] at e;have q':oc=p.2:=Option.some.inj e;exact d w' (by rw[<- q']; exact ac6)
theorem iC {M:Model} {A:Around} {E:Value->Shared->Prop} {i:Nat} {x:Str} {v:V} {u:Value} {Q:Unit->Shared->Prop} (I:Inv X pins σ H s) (hN:X.N.Nodup) (hi:X.N[i]?=some x) (hx:Loc X.env.scope x) (r:RelV v u)
  (h:∀s',Inv X pins (σ.set i (some v)) H s'->Q () s') (hf:X.fn x=true\/X.env.scope.names.lookup x=some .local:=by first | exact .inl rfl | exact .inr rfl | assumption):wpAny M A (storeName X.env x u) Q E s:=
 Kf I hN hi hx r (fun s' I' _=>h s' I') hf
theorem Inv.call' {s':Shared} {ch:List Addr} (I:Inv X pins σ H s) (ho:s'.os=s.os) (u:Un (frs X.stack) ch H H' s.heap s'.heap) (hok:n_ X.prog X.w H' s'.heap) (hg:AllBare s'.gens)
  (hch:∀b∈ch,(b∈X.ex\/X.s₀.heap.objs.size<=b)/\b≠X.env.locals/\(∀x c,X.env.cells.lookup x=some c->c≠b)/\∀p∈X.pn++pins,p.1≠b):Inv X pins σ H' s':=by
 obtain⟨h',g',d',t',o'⟩:=s';have e:o'=s.os:=ho;subst e;exact I.call (g':=g') (t':=t') (d':=d') u hok hg hch
end
abbrev XK:=Value->Option Addr->Hp->Prop
abbrev St:=List (Option V)
abbrev VK:=V->Hp->Prop
abbrev TE:=St->Hp->VK->Prop
abbrev TT:=St->Hp->(Bool->Hp->Prop)->Prop
abbrev TA:=St->Hp->(List V->Hp->Prop)->Prop
structure Ends where
 nx:St->Hp->Prop
 rt:VK
 bk:St->Hp->Prop:=fun _ _=>False
 ct:St->Hp->Prop:=fun _ _=>False
abbrev TS:=Ends->St->Hp->Prop
def EP (X:Cx) (pins:List (Addr×Obj)) (σ:St) (Q:VK) (u:Value) (s':Shared):Prop:=∃v H',Inv X pins σ H' s'/\RelV v u/\Q v H'
def TP (X:Cx) (pins:List (Addr×Obj)) (σ:St) (Q:Bool->Hp->Prop) (b:Bool) (s':Shared):Prop:=∃H',Inv X pins σ H' s'/\Q b H'
def AP (X:Cx) (pins:List (Addr×Obj)) (σ:St) (Q:List V->Hp->Prop) (us:List Value) (s':Shared):Prop:=∃vs H',Inv X pins σ H' s'/\Vals vs us/\Q vs H'
def SP (X:Cx) (pins:List (Addr×Obj)) (D:Ends) (f:Flow) (s':Shared):Prop:=
 match f with
 | .next=>∃σ' H',Inv X pins σ' H' s'/\D.nx σ' H'
 | .brk=>∃σ' H',Inv X pins σ' H' s'/\D.bk σ' H'
 | .cont=>∃σ' H',Inv X pins σ' H' s'/\D.ct σ' H'
 | .ret u=>∃v σ' H',Inv X pins σ' H' s'/\RelV v u/\D.rt v H'
structure PE (X:Cx) (e:Expr) (t:TE):Prop where
 mk ::
 go :
 ∀(pins:List (Addr×Obj)) (s:Shared) (σ:St) (H:Hp) (Q:VK),Inv X pins σ H s->t σ H Q->wpAny (model X.prog X.w) X.A (eval e X.env) (EP X pins σ Q) X.xe s
instance {X:Cx} {e:Expr} {t:TE}:CoeFun (PE X e t) (fun _=>
 ∀(pins:List (Addr×Obj)) (s:Shared) (σ:St) (H:Hp) (Q:VK),Inv X pins σ H s->t σ H Q->wpAny (model X.prog X.w) X.A (eval e X.env) (EP X pins σ Q) X.xe s):=⟨PE.go⟩
structure PT (X:Cx) (e:Expr) (t:TT):Prop where
 mk ::
 go :
 ∀(pins:List (Addr×Obj)) (s:Shared) (σ:St) (H:Hp) (Q:Bool->Hp->Prop),Inv X pins σ H s->t σ H Q->wpAny (model X.prog X.w) X.A (isTrue e X.env (eval e X.env)) (TP X pins σ Q) X.xe s
instance {X:Cx} {e:Expr} {t:TT}:CoeFun (PT X e t) (fun _=>
 ∀(pins:List (Addr×Obj)) (s:Shared) (σ:St) (H:Hp) (Q:Bool->Hp->Prop),Inv X pins σ H s->t σ H Q->wpAny (model X.prog X.w) X.A (isTrue e X.env (eval e X.env)) (TP X pins σ Q) X.xe s):=⟨PT.go⟩
structure PW (X:Cx) (e:Expr) (t:TT):Prop where
 mk ::
 go :
 ∀(whole:Sem Value) (pins:List (Addr×Obj)) (s:Shared) (σ:St) (H:Hp) (Q:Bool->Hp->Prop),Inv X pins σ H s->t σ H Q->wpAny (model X.prog X.w) X.A (isTrue e X.env whole) (TP X pins σ Q) X.xe s
instance {X:Cx} {e:Expr} {t:TT}:CoeFun (PW X e t) (fun _=>
 ∀(whole:Sem Value) (pins:List (Addr×Obj)) (s:Shared) (σ:St) (H:Hp) (Q:Bool->Hp->Prop),Inv X pins σ H s->t σ H Q->wpAny (model X.prog X.w) X.A (isTrue e X.env whole) (TP X pins σ Q) X.xe s):=⟨PW.go⟩
theorem PW.pt {X:Cx} {e:Expr} {t:TT} (h:PW X e t):PT X e t:=.mk <| h _
structure PA (X:Cx) (es:List Expr) (t:TA):Prop where
 mk ::
 go :
 ∀(pos:Pos) (pins:List (Addr×Obj)) (s:Shared) (σ:St) (H:Hp) (Q:List V->Hp->Prop),Inv X pins σ H s->t σ H Q->wpAny (model X.prog X.w) X.A (spliced (backTo pos (starEach es X.env))) (AP X pins σ Q) X.xe s
instance {X:Cx} {es:List Expr} {t:TA}:CoeFun (PA X es t) (fun _=>
 ∀(pos:Pos) (pins:List (Addr×Obj)) (s:Shared) (σ:St) (H:Hp) (Q:List V->Hp->Prop),Inv X pins σ H s->t σ H Q->wpAny (model X.prog X.w) X.A (spliced (backTo pos (starEach es X.env))) (AP X pins σ Q) X.xe s):=⟨PA.go⟩
structure PS (X:Cx) (st:Stmt) (t:TS):Prop where
 mk ::
 go :
 ∀(pins:List (Addr×Obj)) (s:Shared) (σ:St) (H:Hp) (D:Ends),Inv X pins σ H s->t D σ H->wpAny (model X.prog X.w) X.A (exec st X.env) (SP X pins D) X.xe s
instance {X:Cx} {st:Stmt} {t:TS}:CoeFun (PS X st t) (fun _=>
 ∀(pins:List (Addr×Obj)) (s:Shared) (σ:St) (H:Hp) (D:Ends),Inv X pins σ H s->t D σ H->wpAny (model X.prog X.w) X.A (exec st X.env) (SP X pins D) X.xe s):=⟨PS.go⟩
structure Fv (X:Cx) (st:List Stmt) (t:TS):Prop where
 mk ::
 go :
 ∀(pins:List (Addr×Obj)) (s:Shared) (σ:St) (H:Hp) (D:Ends),Inv X pins σ H s->t D σ H->wpAny (model X.prog X.w) X.A (execs st X.env) (SP X pins D) X.xe s
instance {X:Cx} {st:List Stmt} {t:TS}:CoeFun (Fv X st t) (fun _=>
 ∀(pins:List (Addr×Obj)) (s:Shared) (σ:St) (H:Hp) (D:Ends),Inv X pins σ H s->t D σ H->wpAny (model X.prog X.w) X.A (execs st X.env) (SP X pins D) X.xe s):=⟨Fv.go⟩
theorem cM {α:Type} {t:Sem α} {Q Q':α->Shared->Prop} {M:Model} {A:Around} {E:Value->Shared->Prop} {s:Shared} (h:wpAny M A t Q E s) (hQ:∀a s,Q a s->Q' a s):wpAny M A t Q' E s:=oM h hQ fun _ _ x=>x
section
variable {X:Cx}
def mD (i:Nat):TE:=fun σ H Q=>match σ[i]? with
 | some (some v)=>Q v H
 | _=>False
theorem mD.ex {i:Nat} {σ:St} {H:Hp} {Q:VK} (h:mD i σ H Q):∃v,σ[i]?=some (some v)/\Q v H:=by
 unfold mD at h;split at h
 ·rename_i v e;exact⟨v,e,h⟩
 ·exact h.elim
def tC (v:V):TE:=fun _ H Q=>Q v H
theorem Wx {i:Nat} {x:Str} {pos:Pos} (hN:X.N[i]?=some x) (hv:Vis X.env.scope x) (hd:(x==("__debug__" : Str))=false:=by decide) (hcd:(x==("__classdict__" : Str))=false:=by decide):PE X (.Name x pos) (mD i):=by
 refine .mk ?_;intro pins s σ H Q I h;obtain⟨v,e,h⟩:=mD.ex h;obtain⟨m,hn,hl⟩:=I.loc;obtain⟨u,r,l⟩:=hl i x v hN e hv;have fin:EP X pins σ Q u s:=⟨v,H,I,r,h⟩;rcases l with⟨hk,hm⟩ | ⟨hk,c,hc,hcell⟩
 ·exact wpAny_Name (wpAny_loadName_local I.ok.kind hk hn hm fin) hd
 ·rcases hk with hk | hk
  ·exact wpAny_Name (wpAny_loadName_cell I.ok.kind hk hc hcell fin) hd
  ·exact wpAny_Name (wpAny_loadName_free I.ok.kind hk hc hcell fin hcd) hd
theorem aC {i j pos}:PE X (.Constant (.int i) j pos) (tC (.int i)):=.mk <| fun _ _ _ H _ I h=>wpAny_Constant_int ⟨.int i,H,I.tok _,⟨_,rfl⟩,h⟩
theorem pI {b j pos}:PE X (.Constant (.bool b) j pos) (tC (.bl b)):=.mk <| fun _ _ _ H _ I h=>Constant_bool ⟨.bl b,H,I,rfl,h⟩
theorem fZ {j pos}:PE X (.Constant .none j pos) (tC .non):=.mk <| fun _ _ _ H _ I h=>Constant_none ⟨.non,H,I,rfl,h⟩
theorem fY {x j pos}:PE X (.Constant (.str x) j pos) (tC (.str x)):=.mk <| fun _ _ _ H _ I h=>Calls.Constant_str ⟨.str x,H,I.tok _,⟨_,rfl⟩,h⟩
def Gl (X:Cx) (x:Str):Prop:=X.env.kindOf x=some .globalImplicit
theorem BP {E:Value->Shared->Prop} {pins:List (Addr×Obj)} {s:Shared} {σ:St} {H:Hp} {x:Str} {u:Value} {pos:Pos} {Q:Value->Shared->Prop} (I:Inv X pins σ H s) (hg:Gl X x) (hm:X.mg x=some u) (h:Q u s)
  (hd:(x==("__debug__" : Str))=false:=by decide):wpAny (model X.prog X.w) X.A (eval (.Name x pos) X.env) Q E s:=
 Calls.Name_function_global I.ok.kind hg (Calls.loadGlobal_global (by rw[I.ok.glob]; exact I.mod.glob.keeps I.bk) hm h) hd
theorem iK {E:Value->Shared->Prop} {pins:List (Addr×Obj)} {s:Shared} {σ:St} {H:Hp} {x:Str} {u:Value} {pos:Pos} {Q:Value->Shared->Prop} (I:Inv X pins σ H s) (hg:Gl X x) (hm:X.mg x=none) (hv:bootBuiltins x=some u) (h:Q u s)
  (hn:x ≠ "__name__" := by decide) (hd:(x==("__debug__" : Str))=false:=by decide):wpAny (model X.prog X.w) X.A (eval (.Name x pos) X.env) Q E s:=by
 obtain⟨mb,h1,h2⟩:=I.mod.blt;exact Calls.Name_function_global I.ok.kind hg (Calls.loadGlobal_builtin (by rw[I.ok.glob]; exact I.mod.glob.keeps I.bk) hm (by rw[I.ok.blt]; exact h1.keeps I.bk) ((h2 x hn).trans hv) h) hd
theorem Bm {x:Str} {v:V} {u:Value} {pos:Pos} (hg:Gl X x) (hm:X.mg x=some u) (r:RelV v u) (hd:(x==("__debug__" : Str))=false:=by decide):PE X (.Name x pos) (tC v):=
 .mk <| fun _ _ _ H _ I h=>BP I hg hm ⟨v,H,I,r,h⟩ hd
theorem Su {x:Str} {v:V} {u:Value} {pos:Pos} (hg:Gl X x) (hm:X.mg x=none) (hv:bootBuiltins x=some u) (r:RelV v u) (hn:x ≠ "__name__" := by decide) (hd:(x==("__debug__" : Str))=false:=by decide):PE X (.Name x pos) (tC v):=
 .mk <| fun _ _ _ H _ I h=>iK I hg hm hv ⟨v,H,I,r,h⟩ hn hd
variable {a b:Expr} {ta tb:TE} {pos:Pos}
def tB (t:TE):TT:=fun σ H Q=>t σ H fun x H1=>∃c,x=.bl c/\Q c H1
theorem dY {e:Expr} {t:TE} (h:PE X e t) (he:∀whole,isTrue e X.env whole=(do let v <- whole; standAt e.pos; holding [v] (truthy v)):=by intro _; rfl):PT X e (tB t):=by
 refine .mk ?_;intro pins s σ H Q I hw;refine isTrue_plain (cM (h pins s σ H _ I hw) fun v s1 ⟨x,H1,I1,r1,q1⟩=>?_) (he _);obtain⟨d,rfl,q⟩:=q1;cases r1;exact Bd ⟨H1,I1,q⟩
variable {tA tB':TT} {rest:List Expr}
def Zw (t u:TT):TT:=fun σ H Q=>t σ H fun c H1=>if c=true then u σ H1 Q else Q false H1
def tOr (t u:TT):TT:=fun σ H Q=>t σ H fun c H1=>if c=true then Q true H1 else u σ H1 Q
def Zo (t:TT):TT:=fun σ H Q=>t σ H fun c H1=>Q (!c) H1
theorem uY (ha:PT X a tA):PW X (.BoolOp .And [a] pos) tA:=by
 refine .mk ?_;intro wh pins s σ H Q I h;refine isTrue_and (cM (ha pins s σ H Q I h) fun c s1 e=>?_);cases c with
 | true=>exact isTrue_and_nil e
 | false=>exact e
theorem lH (ha:PT X a tA):PW X (.BoolOp .Or [a] pos) tA:=by
 refine .mk ?_;intro wh pins s σ H Q I h;refine isTrue_or (cM (ha pins s σ H Q I h) fun c s1 e=>?_);cases c with
 | false=>exact isTrue_or_nil e
 | true=>exact e
theorem Bf (ha:PT X a tA) (hb:PW X (.BoolOp .And (b::rest) pos) tB'):PW X (.BoolOp .And (a::b::rest) pos) (Zw tA tB'):=by
 refine .mk ?_;intro wh pins s σ H Q I h;refine isTrue_and (cM (ha pins s σ H _ I h) fun c s1 qx=>?_);obtain⟨H1,I1,q1⟩:=qx;cases c with
 | true=>exact hb wh pins s1 σ H1 Q I1 q1
 | false=>exact⟨H1,I1,q1⟩
theorem qU (ha:PT X a tA) (hb:PW X (.BoolOp .Or (b::rest) pos) tB'):PW X (.BoolOp .Or (a::b::rest) pos) (tOr tA tB'):=by
 refine .mk ?_;intro wh pins s σ H Q I h;refine isTrue_or (cM (ha pins s σ H _ I h) fun c s1 qx=>?_);obtain⟨H1,I1,q1⟩:=qx;cases c with
 | true=>exact⟨H1,I1,q1⟩
 | false=>exact hb wh pins s1 σ H1 Q I1 q1
theorem lJ (ha:PT X a tA):PT X (.UnaryOp .Not a pos) (Zo tA):=by
 refine .mk ?_;intro pins s σ H Q I h;exact isTrue_not (ha pins s σ H (fun c H1=>Q (!c) H1) I h)
def UL (ta tb:TE):TE:=fun σ H Q=>ta σ H fun x H1=>∃c,x=.bl c/\if c=true then tb σ H1 Q else Q (.bl false) H1
def ach (ta tb:TE):TE:=fun σ H Q=>ta σ H fun x H1=>∃c,x=.bl c/\if c=true then Q (.bl true) H1 else tb σ H1 Q
def Uw (ta:TE):TE:=fun σ H Q=>ta σ H fun x H1=>∃c,x=.bl c/\Q (.bl (!c)) H1
theorem GR {op} {t:TE} (h:PE X a t):PE X (.BoolOp op [a] pos) t:=.mk <| fun pins s σ H Q I hw=>BoolOp_one (h pins s σ H Q I hw)
theorem wC (ha:PE X a ta) (hb:PE X (.BoolOp .And (b::rest) pos) tb):PE X (.BoolOp .And (a::b::rest) pos) (UL ta tb):=by
 refine .mk ?_;intro pins s σ H Q I h;refine BoolOp_and (cM (ha pins s σ H _ I h) fun v s1 qx=>?_);obtain⟨x,H1,I1,r1,q1⟩:=qx;obtain⟨c,rfl,q1⟩:=q1;cases r1;refine Bd ?_;cases c with
 | true=>exact hb pins s1 σ H1 Q I1 q1
 | false=>exact⟨.bl false,H1,I1,rfl,q1⟩
theorem Wy (ha:PE X a ta):PE X (.UnaryOp .Not a pos) (Uw ta):=by
 refine .mk ?_;intro pins s σ H Q I h;refine UnaryOp_ (cM (ha pins s σ H _ I h) fun v s1 qx=>?_);obtain⟨x,H1,I1,r1,q1⟩:=qx;obtain⟨c,rfl,q1⟩:=q1;cases r1;exact not_of (Bd ⟨.bl (!c),H1,I1,rfl,q1⟩)
def Zr (t:TT) (ta tb:TE):TE:=fun σ H Q=>t σ H fun c H1=>if c=true then ta σ H1 Q else tb σ H1 Q
theorem dI {c:Expr} (hc:PT X c tA) (ha:PE X a ta) (hb:PE X b tb):PE X (.IfExp c a b pos) (Zr tA ta tb):=by
 refine .mk ?_;intro pins s σ H Q I h;refine wpAny_IfExp (cM (hc pins s σ H _ I h) fun d s1 qx=>?_);obtain⟨H1,I1,q1⟩:=qx;cases d with
 | true=>exact ha pins s1 σ H1 Q I1 q1
 | false=>exact hb pins s1 σ H1 Q I1 q1
end
def b_ (K:PySem.W.Frag) (H:Hp) (a:Addr) (xs:List V):Prop:=
 Rd H a (.lst xs) \/
  ∃(o:Obj) (its:Array Value) (n:Nat),K.lookup a=some o/\o.cls=.type "list" /\ o.dict=none/\o.data=.seq its n/\its.size<=sizeLine/\Vals xs its.toList
def e_ (K:PySem.W.Frag) (H:Hp) (a:Addr) (xs:List V):Prop:=
 Rd H a (.tup xs) \/
  ∃(o:Obj) (its:Array Value) (n:Nat),K.lookup a=some o/\o.cls=.type "tuple" /\ o.data=.seq its n/\its.size<=sizeLine/\Vals xs its.toList
def ad0:Value->Option V
 | .none=>some .non
 | .bool b=>some (.bl b)
 | .int i _=>some (.int i)
 | .str x _=>some (.str x)
 | .bytes b _=>some (.Mq b)
 | .float b _=>some (.flt b)
 | .ref a=>some (.ref a)
 | .type n=>some (.ty n)
 | _=>none
theorem RelV.abs {x:V} {u:Value} (r:RelV x u):ad0 u=some x:=by
 cases x with
 | non=>cases r; rfl
 | bl _=>cases r; rfl
 | int _=>obtain⟨t,rfl⟩:=r; rfl
 | str _=>obtain⟨t,rfl⟩:=r; rfl
 | Mq _=>obtain⟨t,rfl⟩:=r; rfl
 | flt _=>obtain⟨t,rfl⟩:=r; rfl
 | ref _=>cases r; rfl
 | ty _=>cases r; rfl
theorem RelV.inj {x y:V} {u:Value} (r:RelV x u) (q:RelV y u):x=y:=Option.some.inj (r.abs.symm.trans q.abs)
theorem Vals.inj:∀{xs ys:List V} {us:List Value},Vals xs us->Vals ys us->xs=ys
 | _,_,_,.nil,.nil=>rfl
 | _,_,_,.cons r t,.cons r' t'=>by rw[r.inj r',Vals.inj t t']
section
variable {X:Cx} {pins:List (Addr×Obj)} {σ:St} {H:Hp} {s:Shared} {a:Addr} {xs ys:List V}
theorem b_.of {K:PySem.W.Frag} (h:H a=some (.lst xs)):b_ K H a xs:=.inl (.inl h)
theorem e_.of {K:PySem.W.Frag} (h:H a=some (.tup xs)):e_ K H a xs:=.inl (.inl h)
theorem Inv.list (I:Inv X pins σ H s) (h:b_ X.K H a xs):∃its:List Value,Vals xs its/\PlainL s.heap a its.toArray/\xs.length<=sizeLine:=by
 rcases h with h | ⟨o,its,n,hk,hc,hd,hs,hz,r⟩
 ·obtain⟨z,its,n,r,e⟩:=h.ok I.hok;exact⟨its,r,⟨_,n,e,rfl,rfl,rfl⟩,z⟩
 ·refine⟨its.toList,r,⟨o,n,I.mU a o hk,hc,hd,by simpa using hs⟩,?_⟩
  have e:=r.length;simp only[Array.length_toList] at e;omega
theorem Inv.tuple (I:Inv X pins σ H s) (h:e_ X.K H a xs):∃its:List Value,Vals xs its/\IsTup s.heap a its.toArray/\xs.length<=sizeLine:=by
 rcases h with h | ⟨o,its,n,hk,hc,hs,hz,r⟩
 ·obtain⟨z,its,r,p⟩:=h.ok I.hok;exact⟨its,r,p,z⟩
 ·refine⟨its.toList,r,⟨o,I.mU a o hk,hc,n,by simpa using hs⟩,?_⟩
  have e:=r.length;simp only[Array.length_toList] at e;omega
theorem Inv.wY (I:Inv X pins σ H s) (h:b_ X.K H a xs) (h':b_ X.K H a ys):xs=ys:=by
 obtain⟨its,r,⟨o,n,e,_,_,d⟩,_⟩:=I.list h;obtain⟨its',r',⟨o',n',e',_,_,d'⟩,_⟩:=I.list h';rw[e] at e'; cases e';rw[d] at d';injection d' with d1 _
 have:its=its':=by simpa using pW Array.toList d1
 subst this;exact r.inj r'
theorem Inv.yP (I:Inv X pins σ H s) (h:e_ X.K H a xs) (h':e_ X.K H a ys):xs=ys:=by
 obtain⟨its,r,⟨o,e,_,n,d⟩,_⟩:=I.tuple h;obtain⟨its',r',⟨o',e',_,n',d'⟩,_⟩:=I.tuple h';rw[e] at e'; cases e';rw[d] at d';injection d' with d1 _
 have:its=its':=by simpa using pW Array.toList d1
 subst this;exact r.inj r'
end
abbrev Cx.wish (X:Cx) (E:Value->Shared->Prop):Cx:={ X with xe:=E }
abbrev Cx.Yq (X:Cx):Cx:=X.wish fun _ _=>False
theorem Cx.Ok.wish {X:Cx} (ok:X.Ok) (E:Value->Shared->Prop):(X.wish E).Ok:=
 ⟨ok.mod,ok.kind,ok.glob,ok.blt,ok.above,ok.inj,ok.has,ok.cab,ok.hd,ok.frames,ok.stk,ok.exf,ok.bs,ok.MJ,ok.Hf,ok.LQ,ok.uP,ok.Xx⟩
theorem Cx.Ok.mV {X:Cx} {E:Value->Shared->Prop} (ok:(X.wish E).Ok):X.Ok:=
 ⟨ok.mod,ok.kind,ok.glob,ok.blt,ok.above,ok.inj,ok.has,ok.cab,ok.hd,ok.frames,ok.stk,ok.exf,ok.bs,ok.MJ,ok.Hf,ok.LQ,ok.uP,ok.Xx⟩
section
variable {X:Cx} {pins:List (Addr×Obj)} {σ:St} {H:Hp} {s:Shared} {E:Value->Shared->Prop}
theorem Inv.wish (I:Inv X pins σ H s) (E:Value->Shared->Prop):Inv (X.wish E) pins σ H s:=⟨I.ok.wish E,I.os,I.bare,I.base,I.loc,I.cell,I.free,I.kJ,I.pin,I.hok,I.len⟩
theorem Inv.mV (I:Inv (X.wish E) pins σ H s):Inv X pins σ H s:=⟨I.ok.mV,I.os,I.bare,I.base,I.loc,I.cell,I.free,I.kJ,I.pin,I.hok,I.len⟩
theorem SP.mV {D:Ends} {f:Flow} {s':Shared} (h:SP (X.wish E) pins D f s'):SP X pins D f s':=by
 cases f with
 | next=>obtain⟨σ',H',I,q⟩:=h; exact⟨σ',H',I.mV,q⟩
 | brk=>obtain⟨σ',H',I,q⟩:=h; exact⟨σ',H',I.mV,q⟩
 | cont=>obtain⟨σ',H',I,q⟩:=h; exact⟨σ',H',I.mV,q⟩
 | ret u=>obtain⟨v,σ',H',I,r,q⟩:=h; exact⟨v,σ',H',I.mV,r,q⟩
theorem Fv.Yq {st:List Stmt} {t:TS} (h:Fv X.Yq st t):Fv X st t:=.mk <| fun pins s σ H D I hw=>
 oM (h pins s σ H D (I.wish _) hw) (fun _ _ q=>q.mV) fun _ _ z=>False.elim z
end
section
variable {X:Cx} {st:Stmt} {rest:List Stmt} {t u:TS} {e:Expr} {te:TE} {pos:Pos}
def Ux:TS:=fun D σ H=>D.nx σ H
def uy (t u:TS):TS:=fun D σ H=>t { D with nx:=u D } σ H
theorem bH:Fv X [] Ux:=.mk <| fun _ _ σ H _ I h=>wpAny_execs_nil ⟨σ,H,I,h⟩
theorem aq (h1:PS X st t) (h2:Fv X rest u):Fv X (st::rest) (uy t u):=by
 refine .mk ?_;intro pins s σ H D I h;refine wpAny_execs_cons (cM (h1 pins s σ H { D with nx:=u D } I h) fun f s1 q=>?_)
 cases f with
 | next=>
  obtain⟨σ',H',I',q⟩:=q;exact h2 pins s1 σ' H' D I' q
 | ret v=>exact q
 | brk=>exact q
 | cont=>exact q
theorem aF (h1:PS X st t):Fv X [st] t:=by
 refine .mk ?_;intro pins s σ H D I h;refine wpAny_execs_cons (cM (h1 pins s σ H D I h) fun f s1 q=>?_);cases f with
 | next=>exact wpAny_execs_nil q
 | ret v=>exact q
 | brk=>exact q
 | cont=>exact q
theorem Inv.quiet {pins:List (Addr×Obj)} {σ:St} {H:Hp} {s:Shared} (I:Inv X pins σ H s):interactive X.env=false:=by simp[interactive,I.ok.kind]
def UG (te:TE):TS:=fun D σ H=>te σ H fun _ H1=>D.nx σ H1
theorem bC (he:PE X e te) (hs:swapsWith e none pos.line X.env=pure false:=by rfl):PS X (.Expr e pos) (UG te):=by
 refine .mk ?_;intro pins s σ H D I h;exact wpAny_Expr_any (cM (he pins s σ H _ I h) fun v s1 ⟨x,H1,I1,r1,q1⟩=>⟨σ,H1,I1,q1⟩) I.quiet hs
def Zk (te:TE):TS:=fun D σ H=>te σ H D.rt
theorem a_ (he:PE X e te):PS X (.Return (some e) pos) (Zk te):=by
 refine .mk ?_;intro pins s σ H D I h;exact wpAny_Return_some (cM (he pins s σ H _ I h) fun v s1 ⟨x,H1,I1,r1,q1⟩=>⟨x,σ,H1,I1,r1,q1⟩)
def Zj:TS:=fun D _ H=>D.rt .non H
def RC (c:TT) (t u:TS):TS:=fun D σ H=>c σ H fun b H1=>if b=true then t D σ H1 else u D σ H1
theorem cL {c:Expr} {a b:List Stmt} {tc:TT} (hc:PT X c tc) (ha:Fv X a t) (hb:Fv X b u):PS X (.If c a b pos) (RC tc t u):=by
 refine .mk ?_;intro pins s σ H D I h;refine wpAny_If (cM (hc pins s σ H _ I h) fun d s1 qx=>?_);obtain⟨H1,I1,q1⟩:=qx;cases d with
 | true=>exact ha pins s1 σ H1 D I1 q1
 | false=>exact hb pins s1 σ H1 D I1 q1
end
abbrev TG:=V->St->Hp->(St->Hp->Prop)->Prop
abbrev Q0:=List V->St->Hp->(St->Hp->Prop)->Prop
structure PG (X:Cx) (target:Expr) (t:TG):Prop where
 mk ::
 go :
 ∀(pins:List (Addr×Obj)) (s:Shared) (σ:St) (H:Hp) (v:V) (u:Value) (Q:St->Hp->Prop),Inv X pins σ H s->RelV v u->t v σ H Q ->
  wpAny (model X.prog X.w) X.A (assign target X.env u) (fun _ s'=>∃σ' H',Inv X pins σ' H' s'/\Q σ' H') X.xe s
instance {X:Cx} {target:Expr} {t:TG}:CoeFun (PG X target t) (fun _=>
 ∀(pins:List (Addr×Obj)) (s:Shared) (σ:St) (H:Hp) (v:V) (u:Value) (Q:St->Hp->Prop),Inv X pins σ H s->RelV v u->t v σ H Q ->
  wpAny (model X.prog X.w) X.A (assign target X.env u) (fun _ s'=>∃σ' H',Inv X pins σ' H' s'/\Q σ' H') X.xe s):=⟨PG.go⟩
structure Yb (X:Cx) (ts:List Expr) (t:Q0):Prop where
 mk ::
 go :
 ∀(pins:List (Addr×Obj)) (s:Shared) (σ:St) (H:Hp) (vs:List V) (us:List Value) (Q:St->Hp->Prop),Inv X pins σ H s->Vals vs us->t vs σ H Q ->
  wpAny (model X.prog X.w) X.A (assignInOrder ((assignEach ts X.env).map (·.2)) us) (fun _ s'=>∃σ' H',Inv X pins σ' H' s'/\Q σ' H') X.xe s
instance {X:Cx} {ts:List Expr} {t:Q0}:CoeFun (Yb X ts t) (fun _=>
 ∀(pins:List (Addr×Obj)) (s:Shared) (σ:St) (H:Hp) (vs:List V) (us:List Value) (Q:St->Hp->Prop),Inv X pins σ H s->Vals vs us->t vs σ H Q ->
  wpAny (model X.prog X.w) X.A (assignInOrder ((assignEach ts X.env).map (·.2)) us) (fun _ s'=>∃σ' H',Inv X pins σ' H' s'/\Q σ' H') X.xe s):=⟨Yb.go⟩
abbrev Ms:=V->V->V->Hp->(Hp->Prop)->Prop
structure Mu (X:Cx) (t:Ms):Prop where
 mk ::
 go :
 ∀(pins:List (Addr×Obj)) (s:Shared) (σ:St) (H:Hp) (o i v:V) (ov iv u:Value) (Q:Hp->Prop),Inv X pins σ H s->RelV o ov->RelV i iv->RelV v u->t o i v H Q ->
  wpAny (model X.prog X.w) X.A (setItem ov iv u) (fun _ s'=>∃H',Inv X pins σ H' s'/\Q H') X.xe s
instance {X:Cx} {t:Ms}:CoeFun (Mu X t) (fun _=>
 ∀(pins:List (Addr×Obj)) (s:Shared) (σ:St) (H:Hp) (o i v:V) (ov iv u:Value) (Q:Hp->Prop),Inv X pins σ H s->RelV o ov->RelV i iv->RelV v u->t o i v H Q ->
  wpAny (model X.prog X.w) X.A (setItem ov iv u) (fun _ s'=>∃H',Inv X pins σ H' s'/\Q H') X.xe s):=⟨Mu.go⟩
abbrev YF:=V->V->Hp->VK->Prop
def PIp (X:Cx) (op:Operator) (t:YF):Prop:=
 ∀(pins:List (Addr×Obj)) (s:Shared) (σ:St) (H:Hp) (x y:V) (v u:Value) (Q:VK),Inv X pins σ H s->RelV x v->RelV y u->t x y H Q ->
  wpAny (model X.prog X.w) X.A (inplaceOp op v u) (EP X pins σ Q) X.xe s
section
variable {X:Cx} {pos:Pos}
def fU (i:Nat):TG:=fun v σ H Q=>Q (σ.set i (some v)) H
theorem aH {i:Nat} {x:Str} (hN:X.N.Nodup) (hi:X.N[i]?=some x) (hx:Loc X.env.scope x) (hf:X.fn x=true\/X.env.scope.names.lookup x=some .local:=by first | exact .inl rfl | exact .inr rfl | assumption):PG X (.Name x pos) (fU i):=by
 refine .mk ?_;intro pins s σ H v u Q I r h;exact wpAny_assign_Name (iC I hN hi hx r (fun s' I'=>⟨_,H,I',h⟩) hf)
def Cd:Q0:=fun vs σ H Q=>match vs with
 | []=>Q σ H
 | _=>False
theorem Cd.ex {vs:List V} {σ:St} {H:Hp} {Q:St->Hp->Prop} (h:Cd vs σ H Q):vs=[]/\Q σ H:=by
 cases vs with
 | nil=>exact⟨rfl,h⟩
 | cons a b=>exact h.elim
def jN (t:TG) (u:Q0):Q0:=fun vs σ H Q=>match vs with
 | v::r=>t v σ H fun σ' H'=>u r σ' H' Q
 | []=>False
theorem jN.ex {t:TG} {u:Q0} {vs:List V} {σ:St} {H:Hp} {Q:St->Hp->Prop} (h:jN t u vs σ H Q):∃v r,vs=v::r/\t v σ H fun σ' H'=>u r σ' H' Q:=by
 cases vs with
 | nil=>exact h.elim
 | cons a b=>exact⟨a,b,rfl,h⟩
theorem bR:Yb X [] Cd:=by
 refine .mk ?_;intro pins s σ H vs us Q I r h;obtain⟨e,h⟩:=Cd.ex h;subst e;cases r;exact assignInOrder_nil ⟨σ,H,I,h⟩
theorem aJ {e:Expr} {es:List Expr} {t:TG} {u:Q0} (h1:PG X e t) (h2:Yb X es u)
  (hs:(assignEach (e::es) X.env).map (·.2)=assign e X.env::(assignEach es X.env).map (·.2):=by rfl):Yb X (e::es) (jN t u):=by
 refine .mk ?_;intro pins s σ H vs us Q I r h;obtain⟨v,vr,e1,h⟩:=jN.ex h;subst e1;cases r with
 | cons r rr=>
  rw[hs];refine assignInOrder_cons (cM (h1 pins s σ H _ _ _ I r h) fun _ s1 qx=>?_);obtain⟨σ1,H1,I1,q1⟩:=qx;exact h2 pins s1 σ1 H1 _ _ Q I1 rr q1
def Ly (K:PySem.W.Frag) (n:Nat) (t:Q0):TG:=fun v σ H Q=>∃a xs,v=.ref a/\e_ K H a xs/\xs.length=n/\t xs σ H Q
theorem Ww {es:List Expr} {k:Nat} {t:Q0} {n:Nat} (hc:X.calm=true) (h:Yb X es t)
  (hn:(assignEach es X.env).length=n:=by rfl) (hst:(assignEach es X.env).findIdx? (·.1)=none:=by rfl):PG X (.Tuple es k pos) (Ly X.K n t):=by
 refine .mk ?_;intro pins s σ H v u Q I r hw;obtain⟨a,xs,e1,hq,hl,hw⟩:=hw;subst e1;cases r;obtain⟨its,rv,ht,hz⟩:=I.tuple hq;refine assign_Tuple_tuple (I.ok.hd hc) ht (by simp[hn,<- hl,rv.length]) hst fun h' hx=>?_
 have I1:Inv X pins σ H { s with heap:=h' }:=I.kept (t':=s.toks) fun b o e=>hx b o (fJ (cg e)) e
 exact h pins _ σ H xs _ Q I1 (by simpa using rv) hw
def aaI (to ti:TE) (t:Ms):TG:=fun v σ H Q=>to σ H fun o H1=>ti σ H1 fun i H2=>t o i v H2 fun H3=>Q σ H3
theorem pZ {o i:Expr} {to ti:TE} {t:Ms} (ho:PE X o to) (hi:PE X i ti) (hs:Mu X t)
  (ha:∀v,assign (.Subscript o i pos) X.env v=(do
   let ov <- holding [v] (eval o X.env)
   let iv <- holding [v,ov] (eval i X.env)
   standAt pos
   holding [v,ov,iv] (setItem ov iv v)
   release [v,ov,iv] []):=by intro _; rfl):PG X (.Subscript o i pos) (aaI to ti t):=by
 refine .mk ?_;intro pins s σ H v u Q I r h;rw[ha];refine aW (oN (cM (ho pins s σ H _ I h) fun ov s1 qx=>?_));obtain⟨x,H1,I1,r1,q1⟩:=qx;refine aW (oN (cM (hi pins s1 σ H1 _ I1 q1) fun iv s2 qx=>?_));obtain⟨y,H2,I2,r2,q2⟩:=qx;refine aW (Bc (aW (oN (cM (hs pins s2 σ H2 x y v ov iv u _ I2 r1 r2 r q2) fun _ s3 qx=>?_))));obtain⟨H3,I3,q3⟩:=qx;exact wpAny_release ⟨σ,H3,I3,q3⟩
def Av (te:TE) (g:TG):TS:=fun D σ H=>te σ H fun x H1=>g x σ H1 D.nx
theorem eX {tg e:Expr} {te:TE} {g:TG} (he:PE X e te) (hg:PG X tg g) (hs:swapsWithSole [tg] e pos.line X.env=pure false:=by rfl) (hw:swappedStores [tg] e X.env=pure none:=by rfl)
  (h1:(assignEach [tg] X.env).map (·.2)=[assign tg X.env]:=by rfl):PS X (.Assign [tg] e pos) (Av te g):=by
 refine .mk ?_;intro pins s σ H D I h;refine wpAny_Assign_stores (cM (he pins s σ H _ I h) fun v s1 ⟨x,H1,I1,r1,q1⟩=>?_) hs hw;rw[h1];exact cM (hg pins s1 σ H1 x v _ I1 r1 q1) fun _ s2 q=>q
theorem aU {i:Nat} {x:Str} {e:Expr} {te:TE} {pos':Pos} (hN:X.N.Nodup) (hi:X.N[i]?=some x) (hx:Loc X.env.scope x) (he:PE X e te) (hs:swapsWith e (some (.Name x pos')) pos.line X.env=pure false:=by rfl) (hf:X.fn x=true\/X.env.scope.names.lookup x=some .local:=by first | exact .inl rfl | exact .inr rfl | assumption) :
  PS X (.Assign [.Name x pos'] e pos) (Av te (fU i)):=by
 refine .mk ?_;intro pins s σ H D I h;refine wpAny_Assign_Name (cM (he pins s σ H _ I h) fun v s1 ⟨y,H1,I1,r1,q1⟩=>?_) hs;exact iC I1 hN hi hx r1 (fun s2 I2=>⟨_,H1,I2,q1⟩) hf
def Zm (i j:Nat) (ta:TA):TS:=fun D σ H=>ta σ H fun vs H1=>∃v w,vs=[v,w]/\D.nx ((σ.set i (some v)).set j (some w)) H1
theorem tG {i j:Nat} {x y:Str} {a b:Expr} {ta:TA} {px py pt:Pos} {kt k2 Wn} (hc:X.calm=true) (hN:X.N.Nodup) (hi:X.N[i]?=some x) (hj:X.N[j]?=some y) (hij:i≠j)
  (hx:X.env.scope.names.lookup x=some .local) (hy:X.env.scope.names.lookup y=some .local) (ha:PA X [a,b] ta)
  (hw:swappedStores [.Tuple [.Name x px,.Name y py] kt pt] (.Tuple [a,b] k2 Wn) X.env=pure (some [x,y]))
  (hs:swapsWithSole [.Tuple [.Name x px,.Name y py] kt pt] (.Tuple [a,b] k2 Wn) pos.line X.env=pure false:=by rfl) :
  PS X (.Assign [.Tuple [.Name x px,.Name y py] kt pt] (.Tuple [a,b] k2 Wn) pos) (Zm i j ta):=by
 refine .mk ?_;intro pins s σ H D I h;rw[exec_Assign_arm];refine aW (Bc ?_);rw[hs];refine aW (aZ ?_);rw[aX (by decide)]
 refine aW (Tuple_ (cM (ha _ pins s σ H _ I h) fun us s1 qx=>?_));obtain⟨vs,H1,I1,r1,q1⟩:=qx;obtain⟨v,w,e1,q1⟩:=q1;subst e1
 obtain⟨u1,u2,rfl,rv,Dq⟩:∃u1 u2,us=[u1,u2]/\RelV v u1/\RelV w u2:=by
  cases r1 with
  | cons p q=>
   cases q with
   | cons p' q'=>
    cases q';exact⟨_,_,rfl,p,p'⟩
 refine uF ?_ (by show 2<=sizeLine; decide)
 have I2:Inv X pins σ H1 { s1 with heap:=s1.heap.push { cls:=.type "tuple",data:=.seq [u1,u2].toArray } }:=I1.kept (t':=s1.toks) fun b o e=>dW _ e
 rw[hw];refine aW (aZ ?_);show wpAny (model X.prog X.w) X.A (do rule "assign.swapped-stores"; let items <- unpackItems (.ref s1.heap.objs.size) 2 none; assignInOrder [fun v=>bindName X.env y v,fun v=>bindName X.env x v] items.reverse; pure Flow.next) _ _ _
 refine aW (qT (aW (unpackItems_tuple (items:=#[u1,u2]) (I.ok.hd hc) (IsTup.new s1.heap _) fun h' hx'=>?_)));have I3:=I2.kept (h':=h') (t':=s1.toks) fun b o e=>hx' b o (fJ (cg e)) e;show wpAny _ _ (assignInOrder [fun v=>bindName X.env y v,fun v=>bindName X.env x v] [u2,u1] >>= fun _=>pure Flow.next) _ _ _;refine aW (assignInOrder_cons (DQ (iC I3 hN hj (.inl hy) Dq (fun s2 I4=>?_) (.inr hy))));refine assignInOrder_cons (DQ (iC I4 hN hi (.inl hx) rv (fun s3 I5=>assignInOrder_nil (aZ ?_)) (.inr hx)));rw[List.set_comm _ _ (Ne.symm hij)] at I5;exact⟨_,H1,I5,q1⟩
def Zv (i:Nat) (te:TE) (ti:YF):TS:=fun D σ H=>∃x,σ[i]?=some (some x)/\te σ H fun y H1=>ti x y H1 fun z H2=>D.nx (σ.set i (some z)) H2
theorem Bh {i:Nat} {x:Str} {e:Expr} {te:TE} {op:Operator} {ti:YF} {pos':Pos} (hN:X.N.Nodup) (hi:X.N[i]?=some x) (hx:Loc X.env.scope x) (he:PE X e te) (ho:PIp X op ti) (hf:X.fn x=true\/X.env.scope.names.lookup x=some .local:=by first | exact .inl rfl | exact .inr rfl | assumption) :
  PS X (.AugAssign (.Name x pos') op e pos) (Zv i te ti):=by
 refine .mk ?_;intro pins s σ H D I h;obtain⟨v,e1,h⟩:=h;obtain⟨m,hn,hl⟩:=I.loc;have vis:Vis X.env.scope x:=by rcases hx with k | k; exact .inl k; exact .inr (.inl k)
 obtain⟨u,r,l⟩:=hl i x v hi e1 vis;refine wpAny_AugAssign_Name ?_
 have go:wpAny (model X.prog X.w) X.A (eval e X.env) (fun w s₂=>wpAny (model X.prog X.w) X.A (inplaceOp op u w) (fun r s₃=>wpAny (model X.prog X.w) X.A (storeName X.env x r) (fun _=>SP X pins D .next) X.xe s₃) X.xe s₂) X.xe s:=by
  refine cM (he pins s σ H _ I h) fun w s1 qx=>?_;obtain⟨y,H1,I1,r1,q1⟩:=qx;refine cM (ho pins s1 σ H1 v y u w _ I1 r r1 q1) fun z s2 qx=>?_;obtain⟨zv,H2,I2,r2,q2⟩:=qx;exact iC I2 hN hi hx r2 (fun s3 I3=>⟨_,H2,I3,q2⟩) hf
 rcases l with⟨hk,hm⟩ | ⟨hk,c,hc,hcell⟩
 ·exact wpAny_loadName_local I.ok.kind hk hn hm go
 ·rcases hk with hk | hk
  ·exact wpAny_loadName_cell I.ok.kind hk hc hcell go
  ·rcases hx with k | k
   ·have:X.env.scope.names.lookup x=some .free:=hk;rw[k] at this; cases this
   ·have:X.env.scope.names.lookup x=some .free:=hk;rw[k] at this; cases this
def UJ (to ti te:TE) (Ry:V->V->Hp->VK->Prop) (tip:YF) (Rv:Ms):TS:=fun D σ H=>to σ H fun o H1=>ti σ H1 fun i H2=>Ry o i H2 fun x H3=>te σ H3 fun y H4=>tip x y H4 fun z H5=>Rv o i z H5 fun H6=>D.nx σ H6
def aa5 (X:Cx) (t:V->V->Hp->VK->Prop):Prop:=
 ∀(pins:List (Addr×Obj)) (s:Shared) (σ:St) (H:Hp) (o i:V) (ov iv:Value) (Q:VK),Inv X pins σ H s->RelV o ov->RelV i iv->t o i H Q ->
  wpAny (model X.prog X.w) X.A (getItem ov iv) (EP X pins σ Q) X.xe s
theorem R3 {o i e:Expr} {to ti te:TE} {Ry:V->V->Hp->VK->Prop} {tip:YF} {Rv:Ms} {op:Operator} {tpos:Pos} (ho:PE X o to) (hi:PE X i ti) (hg:aa5 X Ry) (he:PE X e te) (hp:PIp X op tip) (hs:Mu X Rv)
  (ha:∀ov iv new,augStore i ov iv new=(do holding [new,ov,iv] (setItem ov iv new); release [new,ov,iv] []; pure .next):=by intros; rfl):PS X (.AugAssign (.Subscript o i tpos) op e pos) (UJ to ti te Ry tip Rv):=by
 refine .mk ?_;intro pins s σ H D I h;refine wpAny_AugAssign_SubscriptAny (cM (ho pins s σ H _ I h) fun ov s1 ⟨x1,H1,I1,r1,q1⟩=>?_) ha;refine cM (hi pins s1 σ H1 _ I1 q1) fun iv s2 qx=>?_;obtain⟨x2,H2,I2,r2,q2⟩:=qx;refine cM (hg pins s2 σ H2 x1 x2 ov iv _ I2 r1 r2 q2) fun old s3 qx=>?_;obtain⟨x3,H3,I3,r3,q3⟩:=qx;refine cM (he pins s3 σ H3 _ I3 q3) fun v s4 qx=>?_;obtain⟨x4,H4,I4,r4,q4⟩:=qx;refine cM (hp pins s4 σ H4 x3 x4 old v _ I4 r3 r4 q4) fun new s5 qx=>?_;obtain⟨x5,H5,I5,r5,q5⟩:=qx;exact cM (hs pins s5 σ H5 x1 x2 x5 ov iv new _ I5 r1 r2 r5 q5) fun _ s6 ⟨H6,I6,q6⟩=>⟨σ,H6,I6,q6⟩
def ipI (f:Int->Int->Int):YF:=fun x y H Q=>∃i j,x=.int i/\y=.int j/\Q (.int (f i j)) H
theorem Qh:PIp X .Add (ipI fun i j=>i+j):=by
 intro pins s σ H x y v u Q I r1 r2 h;obtain⟨i,j,e1,e2,q⟩:=h;subst e1; subst e2;obtain⟨t,rfl⟩:=r1;obtain⟨t',rfl⟩:=r2;exact iadd_int ⟨.int _,H,I.tok _,⟨_,rfl⟩,q⟩
theorem Hs:PIp X .Sub (ipI fun i j=>i-j):=by
 intro pins s σ H x y v u Q I r1 r2 h;obtain⟨i,j,e1,e2,q⟩:=h;subst e1; subst e2;obtain⟨t,rfl⟩:=r1;obtain⟨t',rfl⟩:=r2;exact isub_int ⟨.int _,H,I.tok _,⟨_,rfl⟩,q⟩
end
section
variable {X:Cx} {pos:Pos}
end
structure It where
 go:Nat->Hp->Prop
 Fx:Nat->Hp->V->Hp->Prop
 stop:Nat->Hp->Prop
def gb (X:Cx) (pins:List (Addr×Obj)) (H:Hp) (b:Addr):Prop:=
 H b=none/\b≠X.env.locals/\b∉X.fs/\(b∈X.ex\/X.s₀.heap.objs.size<=b)/\(∀x c,X.env.cells.lookup x=some c->c≠b)/\∀p∈X.pn++pins,p.1≠b
theorem Inv.tL {X:Cx} {pins:List (Addr×Obj)} {σ:St} {H H':Hp} {s:Shared} {b:Addr} (I:Inv X pins σ H s) (hb:s.heap.objs.size<=b) (hn:H' b=none):gb X pins H' b:=by
 refine⟨hn,Ds (mJ I.lt hb),I.acN hb,.inr (ik I.sz hb),fun x c e z=>?_,fun p hp z=>?_⟩
 ·obtain⟨v,q⟩:=I.cell x c e;exact absurd (mJ q.lt (by rw[z]; exact hb)) (sZ _)
 ·exact absurd (mJ (cg (I.pin p hp).1) (by rw[z]; exact hb)) (sZ _)
structure Turn (P:Program) (w:World) (K:PySem.W.Frag) (tg:Expr) (J:It) (fp:List Addr) (it:Addr) (tn:Nat->Heap->Prop):Prop where
 mem:it∈fp
 obj:∀i h,tn i h->∀b∈fp,∃o,h.get? b=some o/\∀v,o.data≠.cell v
 keep:∀i h h',tn i h->(∀b∈fp,∀o,h.get? b=some o->h'.get? b=some o)->tn i h'
 item:∀(X:Cx),X.prog=P->X.w=w->X.K=K->X.calm=true->∀(i:Nat) (pins:List (Addr×Obj)) (s:Shared) (σ:St) (H:Hp) (E:Value->Shared->Prop),Inv X pins σ H s->(∀b∈fp,gb X pins H b)->tn i s.heap->J.go i H ->
  wpAny (model P w) X.A (pyNext (.ref it)) (fun r s1=>∃u,r=some u /\
   wpAny (model P w) X.A (letOwnedTupleGo tg (.ref it) u) (fun _ s2=>∃x H',Inv X pins σ H' s2/\RelV x u/\J.Fx i H x H'/\tn (i+1) s2.heap/\∀b∈fp,H' b=none) E s1) E s
 done:∀(X:Cx),X.prog=P->X.w=w->X.K=K->X.calm=true->∀(i:Nat) (pins:List (Addr×Obj)) (s:Shared) (σ:St) (H:Hp) (E:Value->Shared->Prop),Inv X pins σ H s->(∀b∈fp,gb X pins H b)->tn i s.heap->J.stop i H ->
  wpAny (model P w) X.A (pyNext (.ref it)) (fun r s1=>r=none/\Inv X pins σ H s1) E s
 self:∀(A:Around) (i:Nat) (s:Shared) (Q:Value->Shared->Prop) (E:Value->Shared->Prop),tn i s.heap->Q (.ref it) s->wpAny (model P w) A (pyIter (.ref it)) Q E s
abbrev TI:=St->Hp->(It->Hp->Prop)->Prop
def PIE (X:Cx) (pins:List (Addr×Obj)) (σ:St) (tg:Expr) (R:It->Hp->Prop) (itv:Value) (s2:Shared):Prop:=
 ∃(it:Addr) (fp:List Addr) (tn:Nat->Heap->Prop) (J:It) (H':Hp),itv=.ref it/\Inv X pins σ H' s2/\Turn X.prog X.w X.K tg J fp it tn/\tn 0 s2.heap/\(∀b∈fp,gb X pins H' b)/\R J H'
structure PI (X:Cx) (tg iter:Expr) (wi:TI):Prop where
 mk ::
 go :
 ∀(pins:List (Addr×Obj)) (s:Shared) (σ:St) (H:Hp) (R:It->Hp->Prop),Inv X pins σ H s->wi σ H R ->
  wpAny (model X.prog X.w) X.A (eval iter X.env) (fun v s1=>wpAny (model X.prog X.w) X.A (pyIter v) (PIE X pins σ tg R) X.xe s1) X.xe s
instance {X:Cx} {tg iter:Expr} {wi:TI}:CoeFun (PI X tg iter wi) (fun _=>
 ∀(pins:List (Addr×Obj)) (s:Shared) (σ:St) (H:Hp) (R:It->Hp->Prop),Inv X pins σ H s->wi σ H R ->
  wpAny (model X.prog X.w) X.A (eval iter X.env) (fun v s1=>wpAny (model X.prog X.w) X.A (pyIter v) (PIE X pins σ tg R) X.xe s1) X.xe s):=⟨PI.go⟩
theorem zX {M:Model} {A:Around} {E:Value->Shared->Prop} {s:Shared} {tg:Expr} {it:Addr} {u:Value} {o:Obj} {n:String} {vs:Array Value} {Q:Unit->Shared->Prop} (ho:s.heap.get? it=some o) (hc:o.cls=.type n) (hd:o.data=.fields vs)
  (hn:["enumerate","zip","dict_itemiterator","dict_reverseitemiterator","odict_iterator","itertools.zip_longest","itertools.pairwise"].contains n=false) (hQ:Q () s):wpAny M A (letOwnedTupleGo tg (.ref it) u) Q E s:=by
 unfold letOwnedTupleGo;cases tg <;> first
  | exact aZ hQ
  | (cases u <;> first
    | exact aZ hQ
    | (refine aW (wpAny_load ho ?_)
       rw[hc,hd];show wpAny M A (if(["enumerate","zip","dict_itemiterator","dict_reverseitemiterator","odict_iterator","itertools.zip_longest","itertools.pairwise"].contains n&&vs[0]?==some (rawInt _))=true then _ else _) Q E s
       rw[aX (by intro h; rw[hn,Bool.false_and] at h; cases h)]
       exact aZ hQ))
def Vz (K:PySem.W.Frag) (a:Addr):It:=
 ⟨fun i H=>∃xs x,b_ K H a xs/\xs[i]?=some x,fun i H x H'=>H'=H/\∀xs,b_ K H a xs->xs[i]?=some x,fun i H=>∃xs,b_ K H a xs/\xs.length<=i⟩
def Vy (K:PySem.W.Frag) (a:Addr):It:=
 ⟨fun i H=>∃xs x,e_ K H a xs/\xs[i]?=some x,fun i H x H'=>H'=H/\∀xs,e_ K H a xs->xs[i]?=some x,fun i H=>∃xs,e_ K H a xs/\xs.length<=i⟩
def MP (lo:Int) (n:Nat):It:=⟨fun i _=>i<n,fun i H x H'=>H'=H/\x=.int (lo+i),fun i _=>n<=i⟩
theorem Ka {P:Program} {w:World} {K:PySem.W.Frag} {tg:Expr} (a it:Addr):Turn P w K tg (Vz K a) [it] it (fun i h=>h.IsListIter it a i) where
 mem:=by simp
 obj:=fun i h st b hb=>by
  have e:b=it:=by simpa using hb
  subst e;obtain⟨o,e,c,d⟩:=st;exact⟨o,e,fun v z=>by rw[d] at z; cases z⟩
 keep:=fun i h h' st k=>st.at fun o e=>k it (by simp) o e
 item:=by
  intro X hP hw hK hc i pins s σ H E I hf st hg;subst hP hw hK;obtain⟨xs,x,hq,hx⟩:=hg;obtain⟨its,rv,p,hz⟩:=I.list hq;obtain⟨u,hu,ru⟩:=rv.get hx;obtain⟨f0,f1,f2,f3,f4,f5⟩:=hf it (by simp)
  refine wpAny_pyNext_list_item st p.isList (x:=u) (by simpa using hu) fun h' st' sb=>?_
  have I1:Inv X pins σ H { s with heap:=h' }:=I.turned (t':=s.toks) (fun b o hb e=>(sb.2 b hb).trans e) f0 f1 f3 f4 f5
  obtain⟨o,e,c,d⟩:=id st';exact⟨u,rfl,zX (s:={ s with heap:=h' }) e c d (by decide) ⟨x,H,I1,ru,⟨rfl,fun ys hy=>by rw[I.wY hy hq]; exact hx⟩,st',fun b hb=>(hf b hb).1⟩⟩
 done:=by
  intro X hP hw hK hc i pins s σ H E I hf st hg;subst hP hw hK;obtain⟨xs,hq,hx⟩:=hg;obtain⟨its,rv,p,hz⟩:=I.list hq;obtain⟨f0,f1,f2,f3,f4,f5⟩:=hf it (by simp)
  have hl:=rv.length;exact wpAny_pyNext_list_end (I.ok.hd hc) st p.isList (by simp; omega) fun h' eb=>⟨rfl,I.turned (t':=s.toks) (fun b o hb e=>eb b o hb e) f0 f1 f3 f4 f5⟩
 self:=fun _ _ _ _ _ st h=>wpAny_pyIter_listiter st h
theorem Gf {P:Program} {w:World} {K:PySem.W.Frag} {tg:Expr} (a it:Addr):Turn P w K tg (Vy K a) [it] it (fun i h=>h.IsTupleIter it a i) where
 mem:=by simp
 obj:=fun i h st b hb=>by
  have e:b=it:=by simpa using hb
  subst e;obtain⟨o,e,c,d⟩:=st;exact⟨o,e,fun v z=>by rw[d] at z; cases z⟩
 keep:=fun i h h' st k=>st.at fun o e=>k it (by simp) o e
 item:=by
  intro X hP hw hK hc i pins s σ H E I hf st hg;subst hP hw hK;obtain⟨xs,x,hq,hx⟩:=hg;obtain⟨its,rv,p,hz⟩:=I.tuple hq;obtain⟨u,hu,ru⟩:=rv.get hx;obtain⟨f0,f1,f2,f3,f4,f5⟩:=hf it (by simp)
  refine wpAny_pyNext_tuple_item st (show s.heap.IsTuple a its.toArray from p) (x:=u) (by simpa using hu) fun h' st' sb=>?_
  have I1:Inv X pins σ H { s with heap:=h' }:=I.turned (t':=s.toks) (fun b o hb e=>(sb.2 b hb).trans e) f0 f1 f3 f4 f5
  obtain⟨o,e,c,d⟩:=id st';exact⟨u,rfl,zX (s:={ s with heap:=h' }) e c d (by decide) ⟨x,H,I1,ru,⟨rfl,fun ys hy=>by rw[I.yP hy hq]; exact hx⟩,st',fun b hb=>(hf b hb).1⟩⟩
 done:=by
  intro X hP hw hK hc i pins s σ H E I hf st hg;subst hP hw hK;obtain⟨xs,hq,hx⟩:=hg;obtain⟨its,rv,p,hz⟩:=I.tuple hq;obtain⟨f0,f1,f2,f3,f4,f5⟩:=hf it (by simp)
  have hl:=rv.length;exact wpAny_pyNext_tuple_end (I.ok.hd hc) st (show s.heap.IsTuple a its.toArray from p) (by simp; omega) fun h' eb=>⟨rfl,I.turned (t':=s.toks) (fun b o hb e=>eb b o hb e) f0 f1 f3 f4 f5⟩
 self:=fun _ _ _ _ _ st h=>wpAny_pyIter_tupleiter st h
theorem Gh {P:Program} {w:World} {K:PySem.W.Frag} {tg:Expr} (it:Addr) (lo:Int) (n:Nat):Turn P w K tg (MP lo n) [it] it (fun i h=>IsRangeIter h it (lo+(i:Nat)*1) ((n:Int)-(i:Nat)) 1) where
 mem:=by simp
 obj:=fun i h st b hb=>by
  have e:b=it:=by simpa using hb
  subst e
  exact⟨_,st,fun v z=>by
   have z':Data.fields _=Data.cell v:=z
   cases z'⟩
 keep:=fun i h h' st k=>k it (by simp) _ st
 item:=by
  intro X hP hw hK hc i pins s σ H E I hf st hg;subst hP hw hK;obtain⟨f0,f1,f2,f3,f4,f5⟩:=hf it (by simp)
  have W:=Walks.range (prog:=X.prog) (w:=X.w) (I.ok.hd hc) it lo 1 n;refine W.item i s _ _ hg st fun v h' tk hv st' kk=>?_;obtain⟨t,rfl⟩:=hv;have I1:Inv X pins σ H { s with heap:=h',toks:=tk }:=I.turned (fun b o hb e=>kk b o (by simpa using hb) e) f0 f1 f3 f4 f5
  refine⟨_,rfl,zX (s:={ s with heap:=h',toks:=tk }) (n:="range_iterator") st' rfl rfl (by decide) ⟨.int (lo+i),H,I1,⟨t,?_⟩,⟨rfl,rfl⟩,st',fun b hb=>(hf b hb).1⟩⟩
  rw[Int.mul_one]
 done:=by
  intro X hP hw hK hc i pins s σ H E I hf st hg;subst hP hw hK;obtain⟨f0,f1,f2,f3,f4,f5⟩:=hf it (by simp)
  exact wpAny_pyNext_range_end (I.ok.hd hc) st (by have:n<=i:=hg; omega) fun h' eb=>⟨rfl,I.turned (t':=s.toks) (fun b o hb e=>eb b o hb e) f0 f1 f3 f4 f5⟩
 self:=fun _ _ _ _ _ st h=>OJ st h
section
variable {X:Cx} {tg:Expr}
def jM (K:PySem.W.Frag) (tl:TE):TI:=fun σ H R=>tl σ H fun x H1=>∃a,x=.ref a/\(∃xs,b_ K H1 a xs)/\R (Vz K a) H1
def Eu (K:PySem.W.Frag) (tl:TE):TI:=fun σ H R=>tl σ H fun x H1=>∃a,x=.ref a/\(∃xs,e_ K H1 a xs)/\R (Vy K a) H1
theorem R9 {l:Expr} {tl:TE} (hl:PE X l tl):PI X tg l (jM X.K tl):=by
 refine .mk ?_;intro pins s σ H R I h;refine cM (hl pins s σ H _ I h) fun v s1 qx=>?_;obtain⟨x,H1,I1,r1,q1⟩:=qx;obtain⟨a,e,⟨xs,hq⟩,q⟩:=q1;subst e;cases r1;obtain⟨its,rv,p,hz⟩:=I1.list hq;refine Dz p.isList ?_;refine⟨s1.heap.objs.size,[s1.heap.objs.size],_,_,H1,rfl,I1.kept (t':=s1.toks) fun b o e=>dW _ e,Ka a _,⟨_,dw _ rfl,rfl,rfl⟩,fun b hb=>?_,q⟩;have e:b=s1.heap.objs.size:=by simpa using hb
 subst e;exact I1.tL (bD _) (I1.hok.fresh (bD _))
theorem Ws {l:Expr} {tl:TE} (hl:PE X l tl):PI X tg l (Eu X.K tl):=by
 refine .mk ?_;intro pins s σ H R I h;refine cM (hl pins s σ H _ I h) fun v s1 qx=>?_;obtain⟨x,H1,I1,r1,q1⟩:=qx;obtain⟨a,e,⟨xs,hq⟩,q⟩:=q1;subst e;cases r1;obtain⟨its,rv,p,hz⟩:=I1.tuple hq;refine Ji (show s1.heap.IsTuple a its.toArray from p) ?_;refine⟨s1.heap.objs.size,[s1.heap.objs.size],_,_,H1,rfl,I1.kept (t':=s1.toks) fun b o e=>dW _ e,Gf a _,⟨_,dw _ rfl,rfl,rfl⟩,fun b hb=>?_,q⟩;have e:b=s1.heap.objs.size:=by simpa using hb
 subst e;exact I1.tL (bD _) (I1.hok.fresh (bD _))
theorem Ou {pins:List (Addr×Obj)} {σ:St} {H:Hp} {s:Shared} {R:It->Hp->Prop} {E:Value->Shared->Prop} {lo hi:Int} {t u v:Tok} {tk:Nat} (I:Inv X pins σ H s) (h1:-(2 ^ 62)<=lo) (h2:lo<2 ^ 62) (h3:-(2 ^ 62)<=hi) (h4:hi<2 ^ 62)
  (q:R (MP lo (hi-lo).toNat) H):wpAny (model X.prog X.w) X.A (pyIter (.ref s.heap.objs.size)) (PIE X pins σ tg R) E { s with heap:=s.heap.push { cls:=.type "range",data:=.fields #[.int lo t,.int hi u,.int 1 v] },toks:=tk }:=by
 refine wpAny_pyIter_range (IsRange.new ..) (small_one h1 h2 h3 h4) ?_;have I1:Inv X pins σ H { s with heap:=s.heap.push { cls:=.type "range",data:=.fields #[.int lo t,.int hi u,.int 1 v] },toks:=tk }:=I.kept fun b o e=>dW _ e
 refine⟨(s.heap.push { cls:=.type "range",data:=.fields #[.int lo t,.int hi u,.int 1 v] }).objs.size,[(s.heap.push { cls:=.type "range",data:=.fields #[.int lo t,.int hi u,.int 1 v] }).objs.size],_,_,H,rfl,
  I1.kept (t':=tk) fun b o e=>dW _ e,Gh _ lo (hi-lo).toNat,?_,fun b hb=>?_,q⟩
 ·have e1:lo+((0:Nat):Int)*1=lo:=by simp
  have e2:(((hi-lo).toNat:Nat):Int)-((0:Nat):Int)=Builtin.Range.rangeSize lo hi 1:=by rw[rangeSize_one]; split <;> omega
  show IsRangeIter _ _ (lo+((0:Nat):Int)*1) ((((hi-lo).toNat:Nat):Int)-((0:Nat):Int)) 1;rw[e1,e2];exact dw _ rfl
 ·have e:b=(s.heap.push { cls:=.type "range",data:=.fields #[.int lo t,.int hi u,.int 1 v] }).objs.size:=by simpa using hb
  subst e;exact I1.tL (bD _) (I1.hok.fresh (bD _))
def zW (ta:TA):TI:=fun σ H R=>ta σ H fun vs H1=>∃j:Int,vs=[.int j]/\-(2 ^ 62)<=j/\j<2 ^ 62/\R (MP 0 j.toNat) H1
theorem eG {a:Expr} {ta:TA} {p pos:Pos} (hg:Gl X "range") (hm:X.mg "range" = none) (ha:PA X [a] ta) (hs:starEach [a] X.env=[(false,eval a X.env)]:=by rfl):PI X tg (.Call (.Name "range" p) [a] [] pos) (zW ta):=by
 refine .mk ?_;intro pins s σ H R I h;refine Call_ (iK I hg hm boot_range (PyProof.Rows.callWith_type1 (cM (ha pos pins s σ H _ I h) fun us s1 ⟨vs,H1,I1,r1,q1⟩=>?_) hs rfl));obtain⟨j,e,q1,q2,q⟩:=q1;subst e;cases r1 with
 | cons r rr=>
  cases rr;obtain⟨t,rfl⟩:=r;exact call_range_1 (Ou I1 (by omega) (by omega) q1 q2 (by simpa using q))
def Gk (wi:TI) (g:TG) (tb:TS):TS:=fun D σ H=>wi σ H fun J H1=>∃W:Nat->Nat->St->Hp->Prop,(∃m,W 0 m σ H1)/\∀i m σ H,W i m σ H ->
 (J.stop i H/\D.nx σ H)\/(J.go i H/\∃N:St->Hp->Prop,(∀σ' H',N σ' H'->∃m',m'<m/\W (i+1) m' σ' H')/\∀x H',J.Fx i H x H'->g x σ H' fun σ2 H2=>tb { D with nx:=N,ct:=N,bk:=D.nx } σ2 H2)
def Bj (fp:List Addr) (h:Heap):List (Addr×Obj):=fp.filterMap fun b=>(h.get? b).map fun o=>(b,o)
theorem dB {fp:List Addr} {h:Heap} {b:Addr} {o:Obj} (hb:b∈fp) (e:h.get? b=some o):(b,o)∈Bj fp h:=List.mem_filterMap.mpr ⟨b,hb,by rw[e]; rfl⟩
theorem Lf {fp:List Addr} {h:Heap} {p:Addr×Obj} (hp:p∈Bj fp h):p.1∈fp/\h.get? p.1=some p.2:=by
 obtain⟨b,hb,e⟩:=List.mem_filterMap.mp hp;cases q:h.get? b with
 | none=>rw[q] at e; cases e
 | some o=>
  rw[q] at e;have e':(b,o)=p:=Option.some.inj e;subst e';exact⟨hb,q⟩
theorem Inv.pinned {pins:List (Addr×Obj)} {σ:St} {H:Hp} {s:Shared} {fp:List Addr} (I:Inv X pins σ H s) (hf:∀b∈fp,gb X pins H b) (ho:∀b∈fp,∃o,s.heap.get? b=some o/\∀v,o.data≠.cell v):Inv X (pins++Bj fp s.heap) σ H s:=
 I.Js fun p hp=>(eQ.mp hp).elim (fun z=>I.pin p (gJ _ z)) fun z=>by
  obtain⟨hb,e⟩:=Lf z;obtain⟨f0,f1,f2,_⟩:=hf p.1 hb;obtain⟨o,e',d⟩:=ho p.1 hb;rw[e] at e'; cases e';exact⟨e,f0,f1,f2,d⟩
theorem Inv.iB {pins pl:List (Addr×Obj)} {σ:St} {H:Hp} {s:Shared} (I:Inv X (pins++pl) σ H s):Inv X pins σ H s:=I.Js fun p hp=>I.pin p (gJ _ (GJ _ hp))
theorem gK {iter:Expr} {body:List Stmt} {wi:TI} {g:TG} {tb:TS} {pos:Pos} (hp:PassesOwn (model X.prog X.w) X.A X.env X.xe) (hc:X.calm=true) (hi:PI X tg iter wi) (hg:PG X tg g) (hb:Fv X body tb)
  (hs:∀x,foldedSetIterable iter X.env x=pure x:=by intro _; rfl):PS X (.For tg iter body [] pos) (Gk wi g tb):=by
 refine .mk ?_;intro pins s σ H D I h;refine wpAny_For (cM (hi pins s σ H _ I h) fun v s1 h1=>cM h1 fun itv s2 h2=>?_) hs;obtain⟨it,fp,tn,J,H2,e,I2,T,st2,f2,W,⟨m0,w0⟩,turn⟩:=h2;subst e;have stat:∀{H':Hp},(∀b∈fp,H' b=none)->∀b∈fp,gb X pins H' b:=fun hn b hb=>⟨hn b hb,(f2 b hb).2⟩;refine codeAny_forLoop_any (fun n s'=>∃i σ' H',Inv X pins σ' H' s'/\tn i s'.heap/\(∀b∈fp,H' b=none)/\W i n σ' H') ?_ m0 ⟨0,σ,H2,I2,st2,fun b hb=>(f2 b hb).1,w0⟩;rintro n s3 ⟨i,σ3,H3,I3,st3,fr3,w3⟩;rcases turn i n σ3 H3 w3 with⟨stop,qn⟩ | ⟨go,N,hN,step⟩
 ·refine DX hp (cM (T.done X rfl rfl rfl hc i pins s3 σ3 H3 X.xe I3 (stat fr3) st3 stop) fun r s4 qx=>?_);obtain⟨hr,I4⟩:=qx;subst hr;exact wpAny_execs_nil ⟨σ3,H3,I4,qn⟩
 ·refine DX hp (cM (T.item X rfl rfl rfl hc i pins s3 σ3 H3 X.xe I3 (stat fr3) st3 go) fun r s4 qx=>?_);obtain⟨u,hr,h4⟩:=qx;subst hr;refine DX hp (cM h4 fun _ s5 qx=>?_);obtain⟨x,H5,I5,r5,y5,RG,Xy⟩:=qx;have I5':=I5.pinned (stat Xy) (T.obj _ _ RG);refine DX hp (cM (hg _ s5 σ3 H5 x u _ I5' r5 (step x H5 y5)) fun _ s6 qx=>?_);obtain⟨σ6,H6,I6,q6⟩:=qx;refine DX hp (cM (hb _ s6 σ6 H6 _ I6 q6) fun f s7 q7=>?_)
  have again:∀{σ7:St} {H7:Hp},Inv X (pins++Bj fp s5.heap) σ7 H7 s7->N σ7 H7->∃m,m<n/\∃i σ' H',Inv X pins σ' H' s7/\tn i s7.heap/\(∀b∈fp,H' b=none)/\W i m σ' H':=fun {σ7 H7} I7 n7=>by
   obtain⟨m',hm,w7⟩:=hN σ7 H7 n7;refine⟨m',hm,i+1,σ7,H7,I7.iB,T.keep _ _ _ RG fun b hb o e=>(I7.pin (b,o) (gJ _ (gJ _ (dB hb e)))).1,fun b hb=>?_,w7⟩;obtain⟨o,e,d⟩:=T.obj _ _ RG b hb;exact(I7.pin (b,o) (gJ _ (gJ _ (dB hb e)))).2.1
  cases f with
  | next=>obtain⟨σ7,H7,I7,n7⟩:=q7; exact again I7 n7
  | cont=>obtain⟨σ7,H7,I7,n7⟩:=q7; exact again I7 n7
  | brk=>obtain⟨σ7,H7,I7,q7⟩:=q7; exact⟨σ7,H7,I7.iB,q7⟩
  | ret v=>obtain⟨x7,σ7,H7,I7,r7,q7⟩:=q7; exact⟨x7,σ7,H7,I7.iB,r7,q7⟩
end
theorem Qt {K:PySem.W.Frag} {a:Addr} {xs:List V} {g:TG} {tb:TS} {D:Ends} {σ:St} {H:Hp} (Pv:Nat->St->Hp->Prop) (h0:Pv 0 σ H) (hl:∀i σ H,i<=xs.length->Pv i σ H->b_ K H a xs)
  (hs:∀i x σ H,xs[i]?=some x->Pv i σ H->g x σ H fun σ2 H2=>tb { D with nx:=Pv (i+1),ct:=Pv (i+1),bk:=D.nx } σ2 H2) (hd:∀σ H,Pv xs.length σ H->D.nx σ H) :
  ∃W:Nat->Nat->St->Hp->Prop,(∃m,W 0 m σ H)/\∀i m σ H,W i m σ H ->
   ((Vz K a).stop i H/\D.nx σ H)\/((Vz K a).go i H/\∃N:St->Hp->Prop,(∀σ' H',N σ' H'->∃m',m'<m/\W (i+1) m' σ' H')/\∀x H',(Vz K a).Fx i H x H'->g x σ H' fun σ2 H2=>tb { D with nx:=N,ct:=N,bk:=D.nx } σ2 H2):=by
 refine⟨fun i m σ H=>m=xs.length-i/\i<=xs.length/\Pv i σ H,⟨xs.length,by simp,gm _,h0⟩,?_⟩
 rintro i m σ H ⟨rfl,hi,p⟩;have q:=hl i σ H hi p;by_cases hlt:i<xs.length
 ·refine .inr ⟨⟨xs,xs[i],q,by simp[hlt]⟩,Pv (i+1),fun σ' H' p'=>⟨xs.length-(i+1),by omega,rfl,hlt,p'⟩,fun x H' y=>?_⟩
  obtain⟨e,y⟩:=y;subst e;exact hs i x σ _ (y xs q) p
 ·have e:i=xs.length:=by omega
  subst e;exact .inl ⟨⟨xs,q,bD _⟩,hd σ H p⟩
theorem TF {K:PySem.W.Frag} {a:Addr} {xs:List V} {g:TG} {tb:TS} {D:Ends} {σ:St} {H:Hp} (Pv:Nat->St->Hp->Prop) (h0:Pv 0 σ H) (hl:∀i σ H,i<=xs.length->Pv i σ H->e_ K H a xs)
  (hs:∀i x σ H,xs[i]?=some x->Pv i σ H->g x σ H fun σ2 H2=>tb { D with nx:=Pv (i+1),ct:=Pv (i+1),bk:=D.nx } σ2 H2) (hd:∀σ H,Pv xs.length σ H->D.nx σ H) :
  ∃W:Nat->Nat->St->Hp->Prop,(∃m,W 0 m σ H)/\∀i m σ H,W i m σ H ->
   ((Vy K a).stop i H/\D.nx σ H)\/((Vy K a).go i H/\∃N:St->Hp->Prop,(∀σ' H',N σ' H'->∃m',m'<m/\W (i+1) m' σ' H')/\∀x H',(Vy K a).Fx i H x H'->g x σ H' fun σ2 H2=>tb { D with nx:=N,ct:=N,bk:=D.nx } σ2 H2):=by
 refine⟨fun i m σ H=>m=xs.length-i/\i<=xs.length/\Pv i σ H,⟨xs.length,by simp,gm _,h0⟩,?_⟩
 rintro i m σ H ⟨rfl,hi,p⟩;have q:=hl i σ H hi p;by_cases hlt:i<xs.length
 ·refine .inr ⟨⟨xs,xs[i],q,by simp[hlt]⟩,Pv (i+1),fun σ' H' p'=>⟨xs.length-(i+1),by omega,rfl,hlt,p'⟩,fun x H' y=>?_⟩
  obtain⟨e,y⟩:=y;subst e;exact hs i x σ _ (y xs q) p
 ·have e:i=xs.length:=by omega
  subst e;exact .inl ⟨⟨xs,q,bD _⟩,hd σ H p⟩
theorem zZ {lo:Int} {n:Nat} {g:TG} {tb:TS} {D:Ends} {σ:St} {H:Hp} (Pv:Nat->St->Hp->Prop) (h0:Pv 0 σ H)
  (hs:∀i σ H,i<n->Pv i σ H->g (.int (lo+i)) σ H fun σ2 H2=>tb { D with nx:=Pv (i+1),ct:=Pv (i+1),bk:=D.nx } σ2 H2) (hd:∀σ H,Pv n σ H->D.nx σ H) :
  ∃W:Nat->Nat->St->Hp->Prop,(∃m,W 0 m σ H)/\∀i m σ H,W i m σ H ->
   ((MP lo n).stop i H/\D.nx σ H)\/((MP lo n).go i H/\∃N:St->Hp->Prop,(∀σ' H',N σ' H'->∃m',m'<m/\W (i+1) m' σ' H')/\∀x H',(MP lo n).Fx i H x H'->g x σ H' fun σ2 H2=>tb { D with nx:=N,ct:=N,bk:=D.nx } σ2 H2):=by
 refine⟨fun i m σ H=>m=n-i/\i<=n/\Pv i σ H,⟨n,by simp,gm _,h0⟩,?_⟩
 rintro i m σ H ⟨rfl,hi,p⟩;by_cases hlt:i<n
 ·refine .inr ⟨hlt,Pv (i+1),fun σ' H' p'=>⟨n-(i+1),by omega,rfl,hlt,p'⟩,fun x H' y=>?_⟩
  obtain⟨e,y⟩:=y;subst e y;exact hs i σ _ hlt p
 ·have e:i=n:=by omega
  subst e;exact .inl ⟨bD _,hd σ H p⟩
abbrev R2:=V->V->Hp->VK->Prop
structure mL (X:Cx) (f:Value->Value->Sem Value) (r:R2):Prop where
 mk ::
 go :
 ∀(pins:List (Addr×Obj)) (s:Shared) (σ:St) (H:Hp) (x y:V) (v u:Value) (Q:VK),Inv X pins σ H s->RelV x v->RelV y u->r x y H Q ->
  wpAny (model X.prog X.w) X.A (f v u) (EP X pins σ Q) X.xe s
instance {X:Cx} {f:Value->Value->Sem Value} {r:R2}:CoeFun (mL X f r) (fun _=>
 ∀(pins:List (Addr×Obj)) (s:Shared) (σ:St) (H:Hp) (x y:V) (v u:Value) (Q:VK),Inv X pins σ H s->RelV x v->RelV y u->r x y H Q ->
  wpAny (model X.prog X.w) X.A (f v u) (EP X pins σ Q) X.xe s):=⟨mL.go⟩
structure UnR (X:Cx) (f:Value->Sem Value) (r:V->Hp->VK->Prop):Prop where
 mk ::
 go :
 ∀(pins:List (Addr×Obj)) (s:Shared) (σ:St) (H:Hp) (x:V) (v:Value) (Q:VK),Inv X pins σ H s->RelV x v->r x H Q ->
  wpAny (model X.prog X.w) X.A (f v) (EP X pins σ Q) X.xe s
instance {X:Cx} {f:Value->Sem Value} {r:V->Hp->VK->Prop}:CoeFun (UnR X f r) (fun _=>
 ∀(pins:List (Addr×Obj)) (s:Shared) (σ:St) (H:Hp) (x:V) (v:Value) (Q:VK),Inv X pins σ H s->RelV x v->r x H Q ->
  wpAny (model X.prog X.w) X.A (f v) (EP X pins σ Q) X.xe s):=⟨UnR.go⟩
structure cV (X:Cx) (f:Value) (r:List V->Hp->VK->Prop):Prop where
 mk ::
 go :
 ∀(pins:List (Addr×Obj)) (s:Shared) (σ:St) (H:Hp) (xs:List V) (us:List Value) (Q:VK),Inv X pins σ H s->Vals xs us->r xs H Q ->
  wpAny (model X.prog X.w) X.A (call f us) (EP X pins σ Q) X.xe s
instance {X:Cx} {f:Value} {r:List V->Hp->VK->Prop}:CoeFun (cV X f r) (fun _=>
 ∀(pins:List (Addr×Obj)) (s:Shared) (σ:St) (H:Hp) (xs:List V) (us:List Value) (Q:VK),Inv X pins σ H s->Vals xs us->r xs H Q ->
  wpAny (model X.prog X.w) X.A (call f us) (EP X pins σ Q) X.xe s):=⟨cV.go⟩
def RB (r:R2) (ta tb:TE):TE:=fun σ H Q=>ta σ H fun x H1=>tb σ H1 fun y H2=>r x y H2 Q
def tUn (r:V->Hp->VK->Prop) (ta:TE):TE:=fun σ H Q=>ta σ H fun x H1=>r x H1 Q
def rI (C:Int->Int->Prop) (g:Int->Int->V):R2:=fun x y H Q=>∃i j,x=.int i/\y=.int j/\C i j/\Q (g i j) H
def RZ (g:Int->Int->V):R2:=fun x y H Q=>∃i j,x=.int i/\y=.int j/\Q (g i j) H
def rU (g:Int->V):V->Hp->VK->Prop:=fun x H Q=>∃i,x=.int i/\Q (g i) H
section
variable {X:Cx} {a b c:Expr} {ta tb tc:TE} {pos:Pos}
theorem X3 (ha:PE X a ta) (hb:PE X b tb) {pins:List (Addr×Obj)} {s:Shared} {σ:St} {H:Hp} {R:V->V->Hp->Prop} (I:Inv X pins σ H s)
  (h:ta σ H fun x H1=>tb σ H1 fun y H2=>R x y H2) {Q:Value->Shared->Prop} {f:Value->Value->Sem Value}
  (hf:∀v u s2 x y H2,Inv X pins σ H2 s2->RelV x v->RelV y u->R x y H2->wpAny (model X.prog X.w) X.A (f v u) Q X.xe s2) :
  wpAny (model X.prog X.w) X.A (eval a X.env) (fun v s₁=>wpAny (model X.prog X.w) X.A (eval b X.env) (fun u s₂=>wpAny (model X.prog X.w) X.A (f v u) Q X.xe s₂) X.xe s₁) X.xe s:=by
 refine cM (ha pins s σ H _ I h) fun v s1 qx=>?_;obtain⟨x,H1,I1,r1,q1⟩:=qx;refine cM (hb pins s1 σ H1 _ I1 q1) fun u s2 qx=>?_;obtain⟨y,H2,I2,r2,q2⟩:=qx;exact hf v u s2 x y H2 I2 r1 r2 q2
theorem aQ {op:Operator} {r:R2} (ho:mL X (binaryOp op) r) (ha:PE X a ta) (hb:PE X b tb):PE X (.BinOp a op b pos) (RB r ta tb):=by
 refine .mk ?_;intro pins s σ H Q I h;exact wpAny_BinOp (X3 ha hb I h fun v u s2 x y H2 I2 rx ry q=>ho pins s2 σ H2 x y v u Q I2 rx ry q)
theorem Ve {op:UnaryOp} {r:V->Hp->VK->Prop} (ho:UnR X (unaryOp op) r) (ha:PE X a ta):PE X (.UnaryOp op a pos) (tUn r ta):=by
 refine .mk ?_;intro pins s σ H Q I h;exact UnaryOp_ (cM (ha pins s σ H _ I h) fun v s1 ⟨x,H1,I1,r1,q1⟩=>ho pins s1 σ H1 x v Q I1 r1 q1)
theorem opI {f:Value->Value->Sem Value} {C:Int->Int->Prop} {g:Int->Int->Int}
  (rule:∀(i j:Int) (t u:Tok) (s:Shared) (Q:Value->Shared->Prop) (E:Value->Shared->Prop),C i j->Q (.int (g i j) s.toks) { s with toks:=s.toks+1 }->wpAny (model X.prog X.w) X.A (f (.int i t) (.int j u)) Q E s) :
  mL X f (rI C fun i j=>.int (g i j)):=by
 refine .mk ?_;intro pins s σ H x y v u Q I rx ry h;obtain⟨i,j,rfl,rfl,hc,q⟩:=h;obtain⟨t,rfl⟩:=rx;obtain⟨t',rfl⟩:=ry;exact rule i j t t' s _ _ hc ⟨.int (g i j),H,I.tok _,⟨_,rfl⟩,q⟩
theorem aag {f:Value->Value->Sem Value} {g:Int->Int->Int}
  (rule:∀(i j:Int) (t u:Tok) (s:Shared) (Q:Value->Shared->Prop) (E:Value->Shared->Prop),Q (.int (g i j) s.toks) { s with toks:=s.toks+1 }->wpAny (model X.prog X.w) X.A (f (.int i t) (.int j u)) Q E s) :
  mL X f (RZ fun i j=>.int (g i j)):=by
 refine .mk ?_;intro pins s σ H x y v u Q I rx ry h;obtain⟨i,j,rfl,rfl,q⟩:=h;obtain⟨t,rfl⟩:=rx;obtain⟨t',rfl⟩:=ry;exact rule i j t t' s _ _ ⟨.int (g i j),H,I.tok _,⟨_,rfl⟩,q⟩
theorem SJ {f:Value->Value->Sem Value} {g:Int->Int->Bool}
  (rule:∀(i j:Int) (t u:Tok) (s:Shared) (Q:Value->Shared->Prop) (E:Value->Shared->Prop),Q (.bool (g i j)) s->wpAny (model X.prog X.w) X.A (f (.int i t) (.int j u)) Q E s) :
  mL X f (RZ fun i j=>.bl (g i j)):=by
 refine .mk ?_;intro pins s σ H x y v u Q I rx ry h;obtain⟨i,j,rfl,rfl,q⟩:=h;obtain⟨t,rfl⟩:=rx;obtain⟨t',rfl⟩:=ry;exact rule i j t t' s _ _ ⟨.bl (g i j),H,I,rfl,q⟩
def aei (i j:Int):Prop:=0<j/\j<1073741824
def aeh (i j:Int):Prop:=0<=j/\j<=1000000/\i.natAbs<2 ^ 64
def Uo (i j:Int):Prop:=(-(2 ^ 64)<i/\i<2 ^ 64)\/(-(2 ^ 64)<j/\j<2 ^ 64)
theorem Uo.ok {i j:Int} (h:Uo i j):IntMulOk i j:=by
 rcases h with⟨h1,h2⟩ | ⟨h1,h2⟩
 ·exact .of_left (intBits_le_64 h1 h2)
 ·exact .of_right (intBits_le_64 h1 h2)
theorem bB:mL X (binaryOp .Add) (RZ fun i j=>.int (i+j)):=aag fun _ _ _ _ _ _ _ q=>add_int q
theorem j6:mL X (binaryOp .Sub) (RZ fun i j=>.int (i-j)):=aag fun _ _ _ _ _ _ _ q=>sub_int q
theorem j7:mL X (binaryOp .Mult) (rI Uo fun i j=>.int (i*j)):=opI fun _ _ _ _ _ _ _ hc q=>mul_int q hc.ok
theorem Sx:mL X (binaryOp .FloorDiv) (rI aei fun i j=>.int (i / j)):=opI fun i j _ _ _ _ _ hc q=>by
 have h1:(0:Int)<j:=hc.1;have h2:j<1073741824:=hc.2;exact floordiv_int (by omega) (by rw[Int.fdiv_eq_ediv_of_nonneg i (by omega)]; exact q) (.inl (PyProof.noPylong_small (by omega)))
theorem lL:mL X (binaryOp .Mod) (rI (fun _ j=>0<j) fun i j=>.int (i % j)):=opI fun i j _ _ _ _ _ hc q=>by
 have h1:(0:Int)<j:=hc;exact mod_int' (by omega) (by rw[Int.fmod_eq_emod_of_nonneg i (by omega)]; exact q)
theorem p_:mL X (binaryOp .Pow) (rI aeh fun i j=>.int (i ^ j.toNat)):=opI fun _ _ _ _ _ _ _ hc q=>pow_int_small hc.1 hc.2.1 hc.2.2 q
theorem unI {f:Value->Sem Value} {g:Int->Int}
  (rule:∀(i:Int) (t:Tok) (s:Shared) (Q:Value->Shared->Prop) (E:Value->Shared->Prop),Q (.int (g i) s.toks) { s with toks:=s.toks+1 }->wpAny (model X.prog X.w) X.A (f (.int i t)) Q E s) :
  UnR X f (rU fun i=>.int (g i)):=by
 refine .mk ?_;intro pins s σ H x v Q I rx h;obtain⟨i,rfl,q⟩:=h;obtain⟨t,rfl⟩:=rx;exact rule i t s _ _ ⟨.int (g i),H,I.tok _,⟨_,rfl⟩,q⟩
theorem Nf:UnR X (unaryOp .USub) (rU fun i=>.int (-i)):=unI fun _ _ _ _ _ q=>neg_int q
end
def Ko:V->V->Bool
 | .non,.non=>true | .non,.int _=>true | .int _,.non=>true | .non,.bl _=>true | .bl _,.non=>true | .non,.str _=>true | .str _,.non=>true
 | .int _,.int _=>true | .bl _,.bl _=>true | .str _,.str _=>true | .Mq _,.Mq _=>true
 | .int _,.str _=>true | .str _,.int _=>true | .bl _,.str _=>true | .str _,.bl _=>true
 | _,_=>false
def Z9:R2:=fun x y H Q=>Ko x y=true/\Q (.bl (decide (x=y))) H
def Z2:R2:=fun x y H Q=>Ko x y=true/\Q (.bl (!decide (x=y))) H
theorem JX {i j:Int}:decide (V.int i=V.int j)=(i==j):=by
 rw[Kr];simp
theorem Qz {i j:Bool}:decide (V.bl i=V.bl j)=(i==j):=by
 rw[Kr];simp
theorem JW {i j:Str}:decide (V.str i=V.str j)=(i==j):=by
 rw[Kr];simp
theorem JZ {i j:Array UInt8}:decide (V.Mq i=V.Mq j)=(i.toList==j.toList):=by
 rw[Kr];cases i;cases j;simp
section
variable {X:Cx} {a b c:Expr} {ta tb tc:TE} {pos:Pos}
theorem bN {pins:List (Addr×Obj)} {σ:St} {H:Hp} {s:Shared} {Q:VK} {k k':Bool} (I:Inv X pins σ H s) (q:Q (.bl k) H) (e:k=k'):EP X pins σ Q (.bool k') s:=by
 subst e;exact⟨.bl k,H,I,rfl,q⟩
theorem gC:mL X (compareOp .Eq) Z9:=by
 refine .mk ?_;intro pins s σ H x y v u Q I rx ry h;obtain⟨hs,q⟩:=h;cases x with
 | non=>
  cases rx;cases y with
  | non=>cases ry; exact PySem.EqNone.eq_none_none (bN I q (by simp))
  | bl j=>cases ry; exact PySem.EqNone.eq_none_bool (bN I q (by simp))
  | int j=>obtain⟨t',rfl⟩:=ry; exact PySem.EqNone.eq_none_int (bN I q (by simp))
  | str j=>obtain⟨t',rfl⟩:=ry; exact PySem.EqNone.eq_none_str (bN I q (by simp))
  | _=>exact absurd (show false=true from hs) jE
 | bl i=>
  cases rx;cases y with
  | non=>cases ry; exact PySem.EqNone.eq_bool_none (bN I q (by simp))
  | bl j=>cases ry; exact eq_bool (bN I q Qz)
  | str j=>obtain⟨t',rfl⟩:=ry; exact PySem.EqMixed.eq_bool_str (bN I q (by simp))
  | _=>exact absurd (show false=true from hs) jE
 | int i=>
  obtain⟨t,rfl⟩:=rx;cases y with
  | non=>cases ry; exact PySem.EqNone.eq_int_none (bN I q (by simp))
  | int j=>obtain⟨t',rfl⟩:=ry; exact eq_int (bN I q JX)
  | str j=>obtain⟨t',rfl⟩:=ry; exact PySem.EqMixed.eq_int_str (bN I q (by simp))
  | _=>exact absurd (show false=true from hs) jE
 | str i=>
  obtain⟨t,rfl⟩:=rx;cases y with
  | non=>cases ry; exact PySem.EqNone.eq_str_none (bN I q (by simp))
  | bl j=>cases ry; exact PySem.EqMixed.eq_str_bool (bN I q (by simp))
  | int j=>obtain⟨t',rfl⟩:=ry; exact PySem.EqMixed.eq_str_int (bN I q (by simp))
  | str j=>obtain⟨t',rfl⟩:=ry; exact eq_str (bN I q JW)
  | _=>exact absurd (show false=true from hs) jE
 | Mq i=>
  obtain⟨t,rfl⟩:=rx;cases y with
  | Mq j=>obtain⟨t',rfl⟩:=ry; exact PySem.W.eq_bytes (bN I q JZ)
  | _=>exact absurd (show false=true from hs) jE
 | _=>cases y <;> exact absurd (show false=true from hs) jE
theorem wF:mL X (compareOp .NotEq) Z2:=by
 refine .mk ?_;intro pins s σ H x y v u Q I rx ry h;obtain⟨hs,q⟩:=h;cases x with
 | non=>
  cases rx;cases y with
  | non=>cases ry; exact PySem.EqNone.ne_none_none (bN I q (by simp))
  | bl j=>cases ry; exact PySem.EqNone.ne_none_bool (bN I q (by simp))
  | int j=>obtain⟨t',rfl⟩:=ry; exact PySem.EqNone.ne_none_int (bN I q (by simp))
  | str j=>obtain⟨t',rfl⟩:=ry; exact PySem.EqNone.ne_none_str (bN I q (by simp))
  | _=>exact absurd (show false=true from hs) jE
 | bl i=>
  cases rx;cases y with
  | non=>cases ry; exact PySem.EqNone.ne_bool_none (bN I q (by simp))
  | bl j=>cases ry; exact ne_bool (bN I q (pW not Qz))
  | str j=>obtain⟨t',rfl⟩:=ry; exact PySem.EqMixed.ne_bool_str (bN I q (by simp))
  | _=>exact absurd (show false=true from hs) jE
 | int i=>
  obtain⟨t,rfl⟩:=rx;cases y with
  | non=>cases ry; exact PySem.EqNone.ne_int_none (bN I q (by simp))
  | int j=>obtain⟨t',rfl⟩:=ry; exact ne_int (bN I q (pW not JX))
  | str j=>obtain⟨t',rfl⟩:=ry; exact PySem.EqMixed.ne_int_str (bN I q (by simp))
  | _=>exact absurd (show false=true from hs) jE
 | str i=>
  obtain⟨t,rfl⟩:=rx;cases y with
  | non=>cases ry; exact PySem.EqNone.ne_str_none (bN I q (by simp))
  | bl j=>cases ry; exact PySem.EqMixed.ne_str_bool (bN I q (by simp))
  | int j=>obtain⟨t',rfl⟩:=ry; exact PySem.EqMixed.ne_str_int (bN I q (by simp))
  | str j=>obtain⟨t',rfl⟩:=ry; exact ne_str (bN I q (pW not JW))
  | _=>exact absurd (show false=true from hs) jE
 | Mq i=>
  obtain⟨t,rfl⟩:=rx;cases y with
  | Mq j=>obtain⟨t',rfl⟩:=ry; exact PySem.W.ne_bytes (bN I q (pW not JZ))
  | _=>exact absurd (show false=true from hs) jE
 | _=>cases y <;> exact absurd (show false=true from hs) jE
theorem wG:mL X (compareOp .Lt) (RZ fun i j=>.bl (decide (i<j))):=SJ fun _ _ _ _ _ _ _ q=>lt_int q
theorem Ed:mL X (compareOp .LtE) (RZ fun i j=>.bl (decide (i<=j))):=SJ fun _ _ _ _ _ _ _ q=>le_int q
theorem zO:mL X (compareOp .Gt) (RZ fun i j=>.bl (decide (j<i))):=SJ fun _ _ _ _ _ _ _ q=>gt_int q
theorem aaf:mL X (compareOp .GtE) (RZ fun i j=>.bl (decide (j<=i))):=SJ fun _ _ _ _ _ _ _ q=>ge_int q
theorem KZ:mL X (compareOp .In) (fun x y H Q=>∃i j,x=.str i/\y=.str j/\Q (.bl (!(Builtin.Str.occurrences j i 0 j.length 1).isEmpty)) H):=by
 refine .mk ?_;intro pins s σ H x y v u Q I rx ry h;obtain⟨i,j,rfl,rfl,q⟩:=h;obtain⟨t,rfl⟩:=rx;obtain⟨t',rfl⟩:=ry;exact in_str (bN I q rfl)
theorem wH:mL X (compareOp .Is) (fun x y H Q=>y=.non/\Q (.bl (decide (x=.non))) H):=by
 refine .mk ?_;intro pins s σ H x y v u Q I rx ry h;obtain⟨rfl,q⟩:=h;cases ry;refine is_none_gen (bN I q ?_);cases x <;> first
  | (cases rx; rfl)
  | (obtain⟨t,rfl⟩:=rx; rfl)
theorem uZ:mL X (compareOp .IsNot) (fun x y H Q=>y=.non/\Q (.bl (!decide (x=.non))) H):=by
 refine .mk ?_;intro pins s σ H x y v u Q I rx ry h;obtain⟨rfl,q⟩:=h;cases ry;refine isnot_none_gen (bN I q ?_);cases x <;> first
  | (cases rx; rfl)
  | (obtain⟨t,rfl⟩:=rx; rfl)
theorem bf (b:Expr) {op:CmpOp} (h:op≠.In:=by decide) (h2:op≠.NotIn:=by decide):behindInMarks op b=false:=by
 have e1:(op==CmpOp.In)=false:=by cases op <;> first | rfl | exact absurd rfl h
 have e2:(op==CmpOp.NotIn)=false:=by cases op <;> first | rfl | exact absurd rfl h2
 cases b <;> simp[behindInMarks,e1,e2]
theorem dZ {op:CmpOp} {r:R2} (ho:mL X (compareOp op) r) (ha:PE X a ta) (hb:PE X b tb) (hm:behindInMarks op b=false):PE X (.Compare a [op] [b] pos) (RB r ta tb):=by
 refine .mk ?_;intro pins s σ H Q I h;exact wpAny_Compare1 (X3 ha hb I h fun v u s2 x y H2 I2 rx ry q=>ho pins s2 σ H2 x y v u Q I2 rx ry q) hm
def Nt (t:TE):TT:=fun σ H Q=>t σ H fun x H'=>∃k,x=.bl k/\Q k H'
theorem bh {op:CmpOp} {r:R2} (ho:mL X (compareOp op) r) (ha:PE X a ta) (hb:PE X b tb) (hm:behindInMarks op b=false):PT X (.Compare a [op] [b] pos) (Nt (RB r ta tb)):=by
 refine .mk ?_;intro pins s σ H Q I h
 refine wpAny_isTrue_Compare1 (cM (ha pins s σ H _ I h) fun v s1 ⟨x,H1,I1,r1,q1⟩=>cM (hb pins s1 σ H1 _ I1 q1) fun u s2 ⟨y,H2,I2,r2,q2⟩=>
  cM (ho pins s2 σ H2 x y v u _ I2 r1 r2 q2) fun c s3 ⟨z,H3,I3,r3,k,e,q3⟩=>?_) hm
 subst e;cases r3;exact Bd ⟨H3,I3,q3⟩
def Ny (r r':R2) (ta tb tc:TE):TE:=fun σ H Q=>ta σ H fun x H1=>tb σ H1 fun y H2=>r x y H2 fun z H3=>∃k,z=.bl k /\
 (if k=true then tc σ H3 fun w' H4=>r' y w' H4 Q else Q (.bl false) H3)
theorem D_ {op op':CmpOp} {r r':R2} (ho:mL X (compareOp op) r) (ho':mL X (compareOp op') r') (ha:PE X a ta) (hb:PE X b tb) (hc:PE X c tc)
  (hm:lastMarks [op,op'] [b,c]=false:=by with_unfolding_all rfl):PT X (.Compare a [op,op'] [b,c] pos) (Nt (Ny r r' ta tb tc)):=by
 refine .mk ?_;intro pins s σ H Q I h
 refine isTrue_chain (cM (ha pins s σ H _ I h) fun v s1 ⟨x,H1,I1,r1,q1⟩=>test_link (cM (hb pins s1 σ H1 _ I1 q1) fun u s2 ⟨y,H2,I2,r2,q2⟩=>
  cM (ho pins s2 σ H2 x y v u _ I2 r1 r2 q2) fun d s3 ⟨z,H3,I3,r3,k,e,q3⟩=>?_)) hm
 subst e;cases r3;refine Bd ?_;cases k with
 | false=>
  obtain⟨k',e',q'⟩:=q3;cases e';exact ite_ff ⟨H3,I3,q'⟩
 | true=>
  refine ite_tt (test_last (cM (hc pins s3 σ H3 _ I3 q3) fun w' s4 ⟨z',H4,I4,r4,q4⟩=>cM (ho' pins s4 σ H4 y z' u w' _ I4 r2 r4 q4) fun d' s5 qx=>?_));obtain⟨z2,H5,I5,r5,k2,e2,q5⟩:=qx;subst e2;cases r5;exact Bd ⟨H5,I5,q5⟩
def ad4 (K:PySem.W.Frag) (x:V) (H:Hp) (k:Bool):Prop:=
 match x with
 | .non=>k=false
 | .bl b=>k=b
 | .int i=>k=(i != 0)
 | .str y=>y.length<=sizeLine/\k=((y.length:Int) != 0)
 | .Mq y=>y.size<=sizeLine/\k=((y.size:Int) != 0)
 | .ref p=>(∃xs,b_ K H p xs/\k = !xs.isEmpty)\/(∃xs,e_ K H p xs/\k = !xs.isEmpty)\/∃kvs,H p=some (.dK kvs)/\k = !kvs.isEmpty
 | _=>False
theorem qg:(sizeLine:Nat)<2 ^ 63:=by rw[sizeLine_eq]; decide
theorem qb:mL X (binaryOp .Add) (fun x y H Q=>∃i j,x=.str i/\y=.str j/\i.length+j.length<=sizeLine/\Q (.str (i++j)) H):=by
 refine .mk ?_;intro pins s σ H x y v u Q I rx ry h;obtain⟨i,j,rfl,rfl,hz,q⟩:=h;obtain⟨t,rfl⟩:=rx;obtain⟨t',rfl⟩:=ry;exact add_str (fun t' tk=>⟨.str (i++j),H,I.tok _,⟨_,rfl⟩,q⟩) hz
theorem vals1 {x:V} {us:List Value} (r:Vals [x] us):∃u,us=[u]/\RelV x u:=by
 cases r with
 | cons r1 r2=>cases r2; exact⟨_,rfl,r1⟩
theorem vals2 {x y:V} {us:List Value} (r:Vals [x,y] us):∃u w',us=[u,w']/\RelV x u/\RelV y w':=by
 cases r with
 | cons r1 r2=>
  cases r2 with
  | cons r3 r4=>cases r4; exact⟨_,_,rfl,r1,r3⟩
theorem Fd:cV X (.builtin "abs") (fun xs H Q=>∃i,xs=[.int i]/\Q (.int (if i<0 then -i else i)) H):=by
 refine .mk ?_;intro pins s σ H xs us Q I r h;obtain⟨i,rfl,q⟩:=h;obtain⟨u,rfl,t,rfl⟩:=vals1 r;exact call_abs_int fun u tk=>⟨.int (if i<0 then -i else i),H,I.tok _,⟨_,rfl⟩,q⟩
theorem kY (hc:X.calm=true):cV X (.builtin "max") (fun xs H Q=>∃i j,xs=[.int i,.int j]/\Q (.int (if j>i then j else i)) H):=by
 refine .mk ?_;intro pins s σ H xs us Q I r h;obtain⟨i,j,rfl,q⟩:=h;obtain⟨u,w',rfl,⟨t,rfl⟩,⟨t',rfl⟩⟩:=vals2 r;refine max_two_ints (I.ok.hd hc) fun h' tk k=>⟨_,H,I.kept k,?_,q⟩;by_cases hj:j>i
 ·rw[bx hj,bx hj]; exact⟨_,rfl⟩
 ·rw[aX hj,aX hj]; exact⟨_,rfl⟩
theorem fO (hc:X.calm=true):cV X (.builtin "min") (fun xs H Q=>∃i j,xs=[.int i,.int j]/\Q (.int (if j<i then j else i)) H):=by
 refine .mk ?_;intro pins s σ H xs us Q I r h;obtain⟨i,j,rfl,q⟩:=h;obtain⟨u,w',rfl,⟨t,rfl⟩,⟨t',rfl⟩⟩:=vals2 r;refine min_two_ints (I.ok.hd hc) fun h' tk k=>⟨_,H,I.kept k,?_,q⟩;by_cases hj:j<i
 ·rw[bx hj,bx hj]; exact⟨_,rfl⟩
 ·rw[aX hj,aX hj]; exact⟨_,rfl⟩
end
structure Ib (h:Heap) (x dx C:Addr) (mA:Str->Option Value):Prop where
 obj:h.get? x=some (PySem.W.instObj C dx)
 ns:h.Ns1 dx mA
 ne:dx≠x
theorem Lk {h:Heap} {dx:Addr} {mA:Str->Option Value} (n:h.Ns1 dx mA):∃od,h.get? dx=some od/\∀name,PySem.W.lookIn name od=some (mA name):=by
 obtain⟨o,es,ep,ho,hd,hk,_,hm⟩:=n;refine⟨o,ho,fun name=>?_⟩;have e:=hm name;unfold nsFind findBy at e;rw[<- Array.find?_toList] at e;unfold PySem.W.lookIn;rw[hd];dsimp only;split
 ·rename_i y q;rw[q] at e;exact pW some e
 ·rename_i q;rw[q] at e
  have a:es.toList.any (·.refKey)=false:=by
   rw[List.any_eq_false];intro y hy;obtain⟨z,t,hkey⟩:=hk y (Array.mem_toList_iff.mp hy);simp[DictEntry.refKey,hkey]
  have a':¬es.toList.any (·.refKey)=true:=by rw[a]; exact jE
  rw[aX a'];exact pW some e
theorem Ib.look {h:Heap} {x dx C:Addr} {mA:Str->Option Value} (I:Ib h x dx C mA):∃od,PySem.W.InstAt h x (PySem.W.instObj C dx) C (some od)/\∀name,PySem.W.lookIn name od=some (mA name):=
 let ⟨od,ho,hl⟩:=Lk I.ns
 ⟨od,⟨I.obj,rfl,rfl,ho⟩,hl⟩
section
variable {prog:Program} {w:World} {A:Around} {E:Value->Shared->Prop} {s:Shared} {K:PySem.W.Frag} {x dx C f:Addr} {mA:Str->Option Value} {name:Str} {v:Value}
theorem get_map {expr:Bool} {Q:Value->Shared->Prop} (X:K.In s.heap) (I:Ib s.heap x dx C mA) (hg:PySem.W.plainGet K C name=true) (hh:PySem.W.hasDictIn K C=true)
  (ha:PySem.W.findIn K (.ref C) name=some none) (hv:mA name=some v) (hv':PySem.W.handedIn v=true) (h:Q v { s with toks:=s.toks+1 }) :
  wpAny (model prog w) A (getAttr (.ref x) name expr) Q E s:=by
 obtain⟨od,J,hl⟩:=I.look;exact PySem.W.get_value X J (PySem.W.plainGet_of hg).1 (PySem.W.findObj_own hh ha rfl (by rw[hl,hv])) hv' h
theorem Qq {pl:Sem Bool} {Q:Value×List Value->Shared->Prop} (X:K.In s.heap) (I:Ib s.heap x dx C mA) (hg:PySem.W.plainGet K C name=true)
  (hf:PySem.W.findIn K (.ref C) name=some (some (.ref f))) (ht:PySem.W.isFn K (.ref f)=true) (hv:mA name=none) (h:Q (.ref f,[.ref x]) s) :
  wpAny (model prog w) A (getMethod (.ref x) name pl) Q E s:=by
 obtain⟨od,J,hl⟩:=I.look;exact PySem.W.method_fn X J (PySem.W.plainGet_of hg).1 (PySem.W.plainGet_of hg).2 hf (beq_iff_eq.mp ht) (by show(PySem.W.lookIn name od).map (·.isSome)=some false; rw[hl,hv]; rfl) h
theorem RJ {ns:List Str} {Q:Unit->Shared->Prop} (X:K.In s.heap) (I:Ib s.heap x dx C mA)
  (hs:PySem.W.findIn K (.ref C) "__setattr__" = some (some (.builtin "object.__setattr__"))) (hp:PySem.W.plainOver K C=true) (ht:PySem.W.takerIn K C name=some none) (hh:PySem.W.hasDictIn K C=true)
  (hw:PySem.Within mA ns) (hsz:ns.length<=sizeLine)
  (h:∀h',Ib h' x dx C (fun y=>if y=name then some v else mA y)->Heap.SameBut dx s.heap h'->Q () { s with heap:=h',toks:=s.toks+2 }) :
  wpAny (model prog w) A (setAttr (.ref x) name v) Q E s:=by
 obtain⟨od,J,hl⟩:=I.look;refine PySem.W.set_plain X J hs (PySem.W.osa_open (s:={ s with toks:=s.toks+1 }) (r:=none) X J hp ht fun b=>?_)
 obtain⟨cd,hc,hd'⟩:=PySem.W.any_some hh;have hx:s.heap.get? x=some ⟨.ref C,some dx,.plain,#[]⟩:=I.obj;refine aW (aZ (aW (aW (wpAny_loadPart hx (aW (PySem.W.Looks.here (s:={ s with toks:=s.toks+1 }) (PySem.W.looks_clsIn X hc) ?_))))))
 rw[hd'];refine aZ (a:=some dx) (aW (aZ (aW ?_)));refine wpAny_nsSet1 (s:={ s with toks:=s.toks+1 }) I.ns fun h' hn2 hs2=>?_
 obtain⟨oD,esD,epD,hoD,hdD,hcD⟩:=hn2.count (PySem.Within.cons name v hw);refine aW (wpAny_lookBehind hoD (by rw[hdD]; exact pastItsLine_dict (ik hcD (by rw[gw]; omega))) ?_)
 exact aZ (h _ ⟨(hs2.2 _ (Ne.symm I.ne)).trans I.obj,hn2,I.ne⟩ hs2)
theorem PN {R:Result->Shared->Prop} {vs:List Value} {kw:List (Str×Value)} (X:K.In s.heap) (hm:PySem.W.makesIn K C=true)
  (hi:PySem.W.findIn K (.ref C) "__init__" = some (some (.ref f))) (hf:PySem.W.typeIn K (.ref f)=some (.type "function"))
  (h:codeAny (model prog w) (A.under (.builtin "type.__call__" ⟨.ref C::vs,kw⟩)) (.call (.ref f) ⟨.ref (s.heap.objs.size+1)::vs,kw⟩) (PySem.W.InitBack (s.heap.objs.size+1) R)
   { s with heap:=(s.heap.push PySem.W.emptyDict).push (PySem.W.instObj C s.heap.objs.size) }) :
  codeAny (model prog w) A (.call (.ref C) ⟨vs,kw⟩) R s:=by
 obtain⟨hh,g,d,t,os⟩:=s;exact PySem.W.make_core (PySem.W.makes_of X hm) (PySem.W.looks_findIn X hi) (fun self=>PySem.W.bind_fn X self hf) (.inl rfl) h
end
def jl (f:Str) (v:V):List (Str×V)->List (Str×V)
 | []=>[(f,v)]
 | (g,x)::r=>if g=f then(g,v)::r else(g,x)::jl f v r
theorem ug (f g:Str) (v:V):∀fs:List (Str×V),(jl f v fs).lookup g=if g=f then some v else fs.lookup g
 | []=>by
  show List.lookup g [(f,v)]=_;by_cases h:g=f
  ·have hb:(g==f)=true:=beq_iff_eq.mpr h;simp only[List.lookup,hb,bx h]
  ·have hb:(g==f)=false:=beq_eq_false_iff_ne.mpr h;simp only[List.lookup,hb,aX h]
 | (k,x)::r=>by
  have ih:=ug f g v r;rw[show jl f v ((k,x)::r)=(if k=f then(k,v)::r else(k,x)::jl f v r) from rfl]
  by_cases hk:k=f
  ·rw[bx hk];by_cases h:g=k
   ·have hb:(g==k)=true:=beq_iff_eq.mpr h;simp only[List.lookup,hb,bx (h.trans hk)]
   ·have hb:(g==k)=false:=beq_eq_false_iff_ne.mpr h;simp only[List.lookup,hb,aX (fun e:g=f=>h (e.trans hk.symm))]
  ·rw[aX hk];by_cases h:g=k
   ·have hb:(g==k)=true:=beq_iff_eq.mpr h;simp only[List.lookup,hb,aX (fun e:g=f=>hk (h.symm.trans e))]
   ·have hb:(g==k)=false:=beq_eq_false_iff_ne.mpr h;simp only[List.lookup,hb];exact ih
theorem tK (f:Str) (v:V):∀fs:List (Str×V),f∈(jl f v fs).map (·.1)/\∀g,g∈fs.map (·.1)->g∈(jl f v fs).map (·.1)
 | []=>⟨by simp[jl],fun g h=>by simp at h⟩
 | (k,x)::r=>by
  obtain⟨i1,i2⟩:=tK f v r;rw[show jl f v ((k,x)::r)=(if k=f then(k,v)::r else(k,x)::jl f v r) from rfl]
  by_cases hk:k=f
  ·rw[bx hk];subst hk;exact⟨by simp,fun g h=>by simpa using h⟩
  ·rw[aX hk];refine⟨?_,fun g h=>?_⟩
   ·rw[gZ];exact gk _ i1
   ·rw[gZ] at h ⊢;rcases bF.mp h with e | e
    ·exact bF.mpr (.inl e)
    ·exact gk _ (i2 g e)
theorem uh (f:Str) (v:V):∀fs:List (Str×V),(jl f v fs).length<=fs.length+1
 | []=>by simp[jl]
 | (k,x)::r=>by
  have ih:=uh f v r;rw[show jl f v ((k,x)::r)=(if k=f then(k,v)::r else(k,x)::jl f v r) from rfl]
  by_cases hk:k=f
  ·rw[bx hk,gw,gw]; omega
  ·rw[aX hk,gw,gw]; omega
theorem oY.some_of {v:V} {o:Option Value} (r:oY (some v) o):∃u,o=some u/\RelV v u:=by
 cases o with
 | none=>exact(show False from r).elim
 | some u=>exact⟨u,rfl,r⟩
theorem oY.none_of {o:Option Value} (r:oY none o):o=none:=by
 cases o with
 | none=>rfl
 | some u=>exact(show False from r).elim
theorem Lw {v:V} {u:Value} (r:RelV v u):PySem.W.handedIn u=true:=by
 cases v with
 | non=>cases(show u=Value.none from r); rfl
 | bl b=>cases(show u=Value.bool b from r); rfl
 | int i=>obtain⟨t,e⟩:=(show ∃t,u=Value.int i t from r); cases e; rfl
 | str x=>obtain⟨t,e⟩:=(show ∃t,u=Value.str x t from r); cases e; rfl
 | Mq b=>obtain⟨t,e⟩:=(show ∃t,u=Value.bytes b t from r); cases e; rfl
 | flt b=>obtain⟨t,e⟩:=(show ∃t,u=Value.float b t from r); cases e; rfl
 | ref a=>cases(show u=Value.ref a from r); rfl
 | ty n=>cases(show u=Value.type n from r); rfl
section
variable {P:Program} {w:World} {H H':Hp} {h h':Heap} {a C dx:Addr} {fs fs':List (Str×V)}
theorem rn (hok:n_ P w H h) (e:H a=some (.ins C dx fs)):∃mA,Ib h a dx C mA/\(∀f,oY (fs.lookup f) (mA f))/\PySem.Within mA (fs.map (·.1))/\fs.length<=1000/\H dx=some (.own a):=by
 obtain⟨d,z,ne,ob,mA,n,r,q⟩:=(show cF P w H h a (.ins C dx fs) from hok a _ e);exact⟨mA,⟨ob,n,ne⟩,r,q,z,d⟩
end
structure Fw (K:PySem.W.Frag) (C:Addr):Prop where
 pg:PySem.W.plainGet K C Str.empty=true
 hd:PySem.W.hasDictIn K C=true
 po:PySem.W.plainOver K C=true
 sa:PySem.W.findIn K (.ref C) "__setattr__" = some (some (.builtin "object.__setattr__"))
theorem Fw.get {K:PySem.W.Frag} {C:Addr} (c:Fw K C) (f:Str):PySem.W.plainGet K C f=true:=c.pg
def cX (K:PySem.W.Frag) (C:Addr) (f:Str):Prop:=PySem.W.findIn K (.ref C) f=some none
theorem cX.taker {K:PySem.W.Frag} {C:Addr} {f:Str} (n:cX K C f):PySem.W.takerIn K C f=some none:=by
 unfold PySem.W.takerIn;rw[show PySem.W.findIn K (.ref C) f=some none from n];rfl
structure Con (K:PySem.W.Frag) (C:Addr) (f:Str) (v:V) (u:Value):Prop where
 at_:PySem.W.findIn K (.ref C) f=some (some u)
 rel:RelV v u
 get:PySem.W.specialIn K u "__get__" = some none
 cp:PySem.W.copiedNames.contains f=false
structure Meth (K:PySem.W.Frag) (C:Addr) (m:Str) (f:Addr):Prop where
 at_:PySem.W.findIn K (.ref C) m=some (some (.ref f))
 fn:PySem.W.isFn K (.ref f)=true
 kp:PySem.W.keepIn K (.ref f)=true
section
variable {X:Cx} {pins:List (Addr×Obj)} {σ:St} {H:Hp} {s:Shared} {a C dx:Addr} {fs:List (Str×V)} {f:Str} {v:V} {A:Around} {E:Value->Shared->Prop}
theorem Hv {b:Bool} {Q:Value->Shared->Prop} (I:Inv X pins σ H s) (e:H a=some (.ins C dx fs)) (c:Fw X.K C) (n:cX X.K C f) (l:fs.lookup f=some v)
  (h:∀u s',Inv X pins σ H s'->RelV v u->Q u s'):wpAny (model X.prog X.w) A (getAttr (.ref a) f b) Q E s:=by
 obtain⟨mA,O,r,_,_,_⟩:=rn I.hok e;obtain⟨u,hu,ru⟩:=oY.some_of (v:=v) (o:=mA f) (by rw[<- l]; exact r f)
 exact get_map I.mU O (c.get f) c.hd n hu (Lw ru) (h u _ (I.tok _) ru)
theorem xf {m:Str} {g:Addr} {pl:Sem Bool} {Q:Value×List Value->Shared->Prop} (I:Inv X pins σ H s) (e:H a=some (.ins C dx fs)) (c:Fw X.K C) (k:Meth X.K C m g) (l:fs.lookup m=none)
  (h:Q (.ref g,[.ref a]) s):wpAny (model X.prog X.w) A (getMethod (.ref a) m pl) Q E s:=by
 obtain⟨mA,O,r,_,_,_⟩:=rn I.hok e;have hn:mA m=none:=oY.none_of (by rw[<- l]; exact r m)
 exact Qq I.mU O (c.get m) k.at_ k.fn hn h
theorem Gv {y:V} {u:Value} {Q:Unit->Shared->Prop} (I:Inv X pins σ H s) (e:H a=some (.ins C dx fs)) (c:Fw X.K C) (n:cX X.K C f) (hl:fs.length<1000) (ry:RelV y u)
  (h:∀s',Inv X pins σ (upd H a (.ins C dx (jl f y fs))) s'->Q () s'):wpAny (model X.prog X.w) A (setAttr (.ref a) f u) Q E s:=by
 obtain⟨mA,O,r,wi,_,ho⟩:=rn I.hok e;have hz:(fs.map (·.1)).length<=sizeLine:=by rw[b7,sizeLine_eq]; omega
 refine RJ I.mU O c.sa c.po n.taker c.hd wi hz fun h' O' sb=>h _ ?_;have hd:∃o,h'.get? dx=some o:=let ⟨o,_,_,e',_⟩:=O'.ns; ⟨o,e'⟩;refine I.write (x:=a) (e:=dx) (by rw[e]; exact True.intro) (.inr ho) (fun b q hb z=>(sb.2 b hb).trans z) hd ?_
 refine⟨by rw[aL O.ne]; exact ho,?_,O.ne,O'.obj,_,O'.ns,fun g=>?_,fun g hg=>?_⟩
 ·have:=uh f y fs; omega
 ·show oY ((jl f y fs).lookup g) (if g=f then some u else mA g)
  rw[ug];by_cases q:g=f
  ·rw[bx q,bx q]; exact ry
  ·rw[aX q,aX q]; exact r g
 ·by_cases q:g=f
  ·rw[q]; exact(tK f y fs).1
  ·refine(tK f y fs).2 g (wi g fun z=>hg ?_);show(if g=f then some u else mA g)=none
   rw[aX q]; exact z
theorem Inv.made (I:Inv X pins σ H s):Inv X pins σ (upd (upd H s.heap.objs.size (.own (s.heap.objs.size+1))) (s.heap.objs.size+1) (.ins C s.heap.objs.size []))
  { s with heap:=(s.heap.push PySem.W.emptyDict).push (PySem.W.instObj C s.heap.objs.size) }:=by
 have e1:(s.heap.push PySem.W.emptyDict).get? s.heap.objs.size=some PySem.W.emptyDict:=dw s.heap rfl
 have e2:((s.heap.push PySem.W.emptyDict).push (PySem.W.instObj C s.heap.objs.size)).get? (s.heap.objs.size+1)=some (PySem.W.instObj C s.heap.objs.size):=by
  have:=dw (s.heap.push PySem.W.emptyDict) (o:=PySem.W.instObj C s.heap.objs.size) rfl
  rwa [g8] at this
 have e3:(s.heap.push PySem.W.emptyDict).Ns s.heap.objs.size (fun _=>none):=⟨PySem.W.emptyDict,#[],_,e1,rfl,(fun e he=>absurd he (by simp)),fun _=>rfl⟩
 have I1:=I.laid (a:=s.heap.objs.size) (o:=.own (s.heap.objs.size+1)) (h':=s.heap.push PySem.W.emptyDict) (t':=s.toks) (fun b u q=>dW _ q) (bD _) ⟨_,e1⟩;refine I1.laid (a:=s.heap.objs.size+1) (o:=.ins C s.heap.objs.size []) (t':=s.toks) (fun b u q=>dW _ q) (Nat.le_of_eq (g8 _ _)) ?_;have ne:s.heap.objs.size≠s.heap.objs.size+1:=fJ (Dv _);refine⟨by rw[aL ne,aD],gm _,ne,e2,fun _=>none,(Heap.Ns1.of_empty e3).at fun o q=>dW _ q,fun _=>True.intro,fun y hy=>absurd rfl hy⟩
theorem Uc {prog:Program} {w:World} {env:Env} {e:Expr} {f:Str} {pos:Pos} {s:Shared} {Q:Value->Shared->Prop} (hb:attributeBase e f env (eval e env)=eval e env)
  (h:wpAny (model prog w) A (eval e env) (fun o s₁=>wpAny (model prog w) A (getAttr o f true) Q E s₁) E s):wpAny (model prog w) A (eval (.Attribute e f pos) env) Q E s:=
 Attribute_any_ h (by rw[arm_eval_Attribute,hb])
end
def V5 (K:PySem.W.Frag) (ta:TE) (f:Str):TE:=fun σ H Q=>ta σ H fun x H1=>∃a C dx fs v,x=.ref a/\H1 a=some (.ins C dx fs)/\Fw K C/\cX K C f/\fs.lookup f=some v/\Q v H1
def Wg (K:PySem.W.Frag) (ta tv:TE) (f:Str):TS:=fun D σ H=>tv σ H fun y H1=>ta σ H1 fun x H2=>∃a C dx fs,x=.ref a/\H2 a=some (.ins C dx fs)/\Fw K C/\cX K C f/\fs.length<1000 /\
 D.nx σ (upd H2 a (.ins C dx (jl f y fs)))
def abb (X:Cx) (op:Operator) (rd:V->V->Hp->VK->Prop):Prop:=
 ∀(pins:List (Addr×Obj)) (s:Shared) (σ:St) (H:Hp) (x y:V) (u v:Value) (Q:VK),Inv X pins σ H s->RelV x u->RelV y v->rd x y H Q->wpAny (model X.prog X.w) X.A (inplaceOp op u v) (EP X pins σ Q) X.xe s
section
variable {X:Cx} {o e value:Expr} {f:Str} {pos pos' tpos:Pos} {ta tv:TE}
theorem Wz (he:PE X e ta) (hb:attributeBase e f X.env (eval e X.env)=eval e X.env):PE X (.Attribute e f pos) (V5 X.K ta f):=by
 refine .mk ?_;intro pins s σ H Q I h;refine Uc hb (cM (he pins s σ H _ I h) fun u s1 qx=>?_);obtain⟨x,H1,I1,rx,a,C,dx,fs,v,ex,ea,c,n,l,q⟩:=qx;subst ex;obtain rfl:u=Value.ref a:=rx;exact Hv I1 ea c n l fun u' s2 I2 ru=>⟨v,H1,I2,ru,q⟩
theorem Wo (ha:PE X o ta) (hv:PE X value tv) (hs:swapsWith value (some (.Attribute o f pos')) pos.line X.env=pure false):PS X (.Assign [.Attribute o f pos'] value pos) (Wg X.K ta tv f):=by
 refine .mk ?_;intro pins s σ H D I h;refine plainObj_wpAny_Assign_Attribute (cM (hv pins s σ H _ I h) fun u s1 ⟨y,H1,I1,ry,q⟩=>cM (ha pins s1 σ H1 _ I1 q) fun ov s2 ⟨x,H2,I2,rx,a,C,dx,fs,ex,ea,c,n,l,q2⟩=>?_) hs;subst ex;obtain rfl:ov=Value.ref a:=rx;exact Gv I2 ea c n l ry fun s3 I3=>⟨σ,_,I3,q2⟩
def acE:V->V->Hp->VK->Prop:=fun x y H Q=>∃i j,x=.int i/\y=.int j/\Q (.int (i+j)) H
theorem Xn:abb X .Add acE:=by
 rintro pins s σ H x y u v Q I rx ry ⟨i,j,rfl,rfl,q⟩;obtain⟨t,rfl⟩:=(show ∃t,u=Value.int i t from rx);obtain⟨t',rfl⟩:=(show ∃t',v=Value.int j t' from ry);exact PyProof.Rows.iadd_int ⟨.int (i+j),H,I.tok _,⟨_,rfl⟩,q⟩
end
section
variable {X:Cx} {pins:List (Addr×Obj)} {σ:St} {H:Hp} {s:Shared} {A:Around} {E:Value->Shared->Prop} {Q:Value->Shared->Prop} {c:Value} {b:Bool}
inductive qw (K:PySem.W.Frag) (H:Hp):V->Value->Prop where
 | non:qw K H .non (.type "NoneType")
 | bl (x:Bool):qw K H (.bl x) (.type "bool")
 | int (i:Int):qw K H (.int i) (.type "int")
 | str (x:Str):qw K H (.str x) (.type "str")
 | flt (x:UInt64):qw K H (.flt x) (.type "float")
 | lst {a:Addr} {xs:List V} (e:H a=some (.lst xs)):qw K H (.ref a) (.type "list")
 | rW {a:Addr} {o:Obj} {xs:List V} (e:H a=some (.rW o (.lst xs))):qw K H (.ref a) (.type "list")
 | tup {a:Addr} {xs:List V} (e:H a=some (.tup xs)):qw K H (.ref a) (.type "tuple")
 | dK {a:Addr} {kvs:List (Key×V)} (e:H a=some (.dK kvs)):qw K H (.ref a) (.type "dict")
 | dT {a:Addr} {kvs:List (List Key×V)} (e:H a=some (.dT kvs)):qw K H (.ref a) (.type "dict")
 | ins {a C dx:Addr} {fs:List (Str×V)} (e:H a=some (.ins C dx fs)) (cl:Fw K C) (ha:PySem.W.findIn K (.ref C) "__class__" = some (some (.builtin "object.__class__")))
   (hn:PySem.W.specialIn K (.builtin "object.__class__") "__get__" = some (some (.builtin "getset_descriptor.__get__"))) (htk:PySem.W.takesIn K (.builtin "object.__class__")=some true)
   (hm:PySem.W.mroIn K C (.type "object")=some true):qw K H (.ref a) (.ref C)
theorem zT {x:V} {u t:Value} (I:Inv X pins σ H s) (rx:RelV x u) (ty:qw X.K H x t) (e:PySem.W.kitOne X.K t c=some b) (h:∀tk,Q (.bool b) { s with toks:=tk }) :
  wpAny (model X.prog X.w) A (call (.builtin "isinstance") [u,c]) Q E s:=by
 cases ty with
 | non=>cases(show u=Value.none from rx); exact PySem.W.kia_one PySem.W.kitx_none I.mU True.intro e (fun z=>nomatch z) h
 | bl y=>cases(show u=Value.bool y from rx); exact PySem.W.kia_one PySem.W.kitx_bool I.mU True.intro e (fun z=>nomatch z) h
 | int i=>obtain⟨t,q⟩:=(show ∃t,u=Value.int i t from rx); cases q; exact PySem.W.kia_one PySem.W.kitx_int I.mU True.intro e (fun z=>nomatch z) h
 | str y=>obtain⟨t,q⟩:=(show ∃t,u=Value.str y t from rx); cases q; exact PySem.W.kia_one PySem.W.kitx_str I.mU True.intro e (fun z=>nomatch z) h
 | flt y=>obtain⟨t,q⟩:=(show ∃t,u=Value.float y t from rx); cases q; exact PySem.W.kia_one PySem.W.kitx_float I.mU True.intro e (fun z=>nomatch z) h
 | @lst a xs ea=>
  cases(show u=Value.ref a from rx);obtain⟨_,_,n,_,h1⟩:=(show cF X.prog X.w H s.heap a (.lst xs) from I.hok a _ ea);exact PySem.W.kia_one PySem.W.kitx_list I.mU ⟨_,h1,rfl⟩ e (fun z=>nomatch z) h
 | @rW a ob xs ea=>
  cases(show u=Value.ref a from rx);obtain⟨_,_,_,n,_,h1⟩:=(show cF X.prog X.w H s.heap a (.rW ob (.lst xs)) from I.hok a _ ea);exact PySem.W.kia_one PySem.W.kitx_list I.mU ⟨_,h1,rfl⟩ e (fun z=>nomatch z) h
 | @tup a xs ea=>
  cases(show u=Value.ref a from rx);obtain⟨_,_,_,p⟩:=(show cF X.prog X.w H s.heap a (.tup xs) from I.hok a _ ea);obtain⟨o,h1,h2,_⟩:=p;exact PySem.W.kia_one PySem.W.kitx_tuple I.mU ⟨o,h1,h2⟩ e (fun z=>nomatch z) h
 | @dK a kvs ea=>
  cases(show u=Value.ref a from rx);obtain⟨_,_,vs,_,p⟩:=(show cF X.prog X.w H s.heap a (.dK kvs) from I.hok a _ ea);obtain⟨o,es,ep,h1,h2,_⟩:=p;exact PySem.W.kia_one PySem.W.kitx_dict I.mU ⟨o,h1,h2.1⟩ e (fun z=>nomatch z) h
 | @dT a kvs ea=>
  cases(show u=Value.ref a from rx);obtain⟨_,_,xs,_,o,es,ep,h1,h2,_⟩:=(show cF X.prog X.w H s.heap a (.dT kvs) from I.hok a _ ea);exact PySem.W.kia_one PySem.W.kitx_dict I.mU ⟨o,h1,h2.1⟩ e (fun z=>nomatch z) h
 | @ins a C dx fs ea cl ha hn htk hm=>
  cases(show u=Value.ref a from rx);obtain⟨mA,O,_⟩:=rn I.hok ea;obtain⟨od,J,_⟩:=O.look;exact PySem.W.kia_one (PySem.W.kitx_own (cl.get _) cl.hd ha hn htk hm) I.mU J e (fun z=>nomatch z) h
end
structure fQ (k:Nat) (A:Around):Prop where
 hd:A.handled=none
 dp:A.depth+3*k+5<recursionLimit
 un:A.units+16*k+200<cLine
 gd:A.guards=some []
theorem fQ.mono {j k:Nat} {A:Around} (r:fQ k A) (h:j<=k):fQ j A:=⟨r.hd,by have:=r.dp; omega,by have:=r.un; omega,r.gd⟩
theorem fQ.deeper {k:Nat} {A:Around} (r:fQ (k+1) A) (env:Env):fQ k (A.deeper env):=
 ⟨r.hd,by have:=r.dp; show A.depth+1+3*k+5<_; omega,by have:=r.un; show A.units+3+16*k+200<_; omega,by first | exact r.gd | (simpa[Around.deeper,Around.under,Code.guards,Code.isGuard,guardIds,pushGuards] using r.gd)⟩
theorem Hl {A:Around} {C:Addr} {us:List Value} {kw:List (Str×Value)}:(A.under (.builtin "type.__call__" ⟨.ref C::us,kw⟩)).depth=A.depth+1:=by
 first | rfl | simp[Around.under,Code.weight,Code.isCreation,Code.isGuard,Code.isCaller,Code.frames,Code.isFrame,guardIds]
theorem Hk {A:Around} {C:Addr} {us:List Value} {kw:List (Str×Value)}:(A.under (.builtin "type.__call__" ⟨.ref C::us,kw⟩)).units=A.units+1:=by
 first | rfl | simp[Around.under,Code.cUnits,Code.frames,Code.isFrame]
theorem fQ.make {k:Nat} {A:Around} (r:fQ (k+1) A) (C:Addr) (us:List Value) (kw:List (Str×Value)):fQ k (A.under (.builtin "type.__call__" ⟨.ref C::us,kw⟩)):=
 ⟨r.hd,by have:=r.dp; rw[Hl]; omega,by have:=r.un; rw[Hk]; omega,by first | exact r.gd | (simpa[Around.deeper,Around.under,Code.guards,Code.isGuard,guardIds,pushGuards] using r.gd)⟩
theorem fQ.depth {k:Nat} {A:Around} (r:fQ k A):A.depth<recursionLimit:=by have:=r.dp; omega
theorem fQ.units {k:Nat} {A:Around} (r:fQ k A):A.units+64<cLine:=by have:=r.un; omega
def Ar:TA:=fun _ H Q=>Q [] H
def ph (ta:TE) (tr:TA):TA:=fun σ H Q=>ta σ H fun x H1=>tr σ H1 fun xs H2=>Q (x::xs) H2
section
variable {X:Cx} {e:Expr} {es:List Expr} {te:TE} {t:TA} {pos:Pos}
theorem ak:PA X [] Ar:=.mk <| fun _ _ _ _ H Q I h=>Calls.spliced_nil ⟨[],H,I,.nil,h⟩
theorem Sw (ha:PE X e te) (hr:PA X es t) (hs:starEach (e::es) X.env=(false,eval e X.env)::starEach es X.env:=by rfl):PA X (e::es) (ph te t):=by
 refine .mk ?_;intro pos pins s σ H Q I h;rw[hs];show wpAny _ _ (spliced ((false,eval e X.env)::backTo pos (starEach es X.env))) _ _ s;refine Calls.spliced_cons (cM (ha pins s σ H _ I h) fun u s1 qx=>?_);obtain⟨x,H1,I1,r1,q1⟩:=qx;exact cM (hr pos pins s1 σ H1 _ I1 q1) fun us s2 ⟨xs,H2,I2,r2,q2⟩=>⟨x::xs,H2,I2,.cons r1 r2,q2⟩
def V2 (t:TA):TE:=fun σ H Q=>t σ H fun xs H1=>xs.length<=sizeLine/\∀p,H1 p=none->Q (.ref p) (upd H1 p (.tup xs))
def Zq (t:TA):TE:=fun σ H Q=>t σ H fun xs H1=>xs.length<=sizeLine/\∀p,H1 p=none->Q (.ref p) (upd H1 p (.lst xs))
theorem O9 {x1} (h:PA X es t):PE X (.Tuple es x1 pos) (V2 t):=by
 refine .mk ?_;intro pins s σ H Q I hq;refine wpAny_Tuple_spliced (cM (h pos pins s σ H _ I hq) fun us s1 ⟨xs,H1,I1,r,z,q⟩=>⟨by rw[<- r.length]; exact z,?_⟩)
 have hf:H1 s1.heap.objs.size=none:=I1.hok.fresh (bD _);refine⟨.ref s1.heap.objs.size,upd H1 s1.heap.objs.size (.tup xs),I1.laid (t':=s1.toks) (fun b u e=>dW _ e) (bD _) ?_,rfl,q _ hf⟩;exact⟨z,us,r,⟨_,dw _ rfl,rfl,_,rfl⟩⟩
theorem Pa (h:PA X es t):PE X (.List es pos) (Zq t):=by
 refine .mk ?_;intro pins s σ H Q I hq;refine wpAny_List_spliced (cM (h pos pins s σ H _ I hq) fun us s1 ⟨xs,H1,I1,r,z,q⟩=>⟨by rw[<- r.length]; exact z,?_⟩)
 have hf:H1 s1.heap.objs.size=none:=I1.hok.fresh (bD _);refine⟨.ref s1.heap.objs.size,upd H1 s1.heap.objs.size (.lst xs),I1.laid (t':=s1.toks) (fun b u e=>dW _ e) (bD _) ?_,rfl,q _ hf⟩;exact⟨z,us,0,r,dw _ rfl⟩
end
abbrev Sp:=List V->Hp->VK->XK->Prop
abbrev J5:=List Env->Hp->Shared->XK->Value->Shared->Prop
structure Ij (P:Program) (w:World) (K:PySem.W.Frag) (mg:Str->Option Value) (base:Heap) (A:Around) (outer:List Env) (s:Shared) (H:Hp):Prop where
 frames:A.frames=some outer
 mod:Mod K mg base
 bs:∀b o,base.get? b=some o->s.heap.get? b=some o/\H b=none
 MJ:base.objs.size<=s.heap.objs.size
 uP:s.heap.FunFrames base outer
 Xx:∀b∈frs outer,H b=none
 hok:n_ P w H s.heap
 bare:AllBare s.gens
def CE (outer:List Env) (P:Program) (w:World) (H:Hp) (s:Shared) (Q:VK) (u:Value) (s':Shared):Prop:=
 ∃v H',s'.os=s.os/\AllBare s'.gens/\Un (frs outer) [] H H' s.heap s'.heap/\n_ P w H' s'.heap/\RelV v u/\Q v H'
def CR (CX:J5) (outer:List Env) (P:Program) (w:World) (H:Hp) (s:Shared) (Q:VK) (E:XK) (r:Result) (s':Shared):Prop:=
 match r with
 | .ok (.ret u)=>CE outer P w H s Q u s'
 | .ok _=>False
 | .error e=>CX outer H s E e s'
structure bJ (P:Program) (w:World) (K:PySem.W.Frag) (mg:Str->Option Value) (base:Heap) (CX:J5) (k:Nat) (f:Addr) (fd:FuncData) (ps:List Str) (sp:Sp):Prop where
 len:∀vs H Q E,sp vs H Q E->vs.length=ps.length
 run:∀(A:Around) (outer:List Env) (s:Shared) (H:Hp) (args:Args) (us:List Value) (vs:List V) (Q:VK) (E:XK),fQ k A->Ij P w K mg base A outer s H->BindsTo s fd args (ps.zip us)->Vals vs us->sp vs H Q E ->
  codeAny (model P w) A (.call (.ref f) args) (CR CX outer P w H s Q E) s
theorem bJ.mono {P:Program} {w:World} {K:PySem.W.Frag} {mg:Str->Option Value} {base:Heap} {CX:J5} {j k:Nat} {f:Addr} {fd:FuncData} {ps:List Str} {sp:Sp} (F:bJ P w K mg base CX j f fd ps sp) (h:j<=k) :
  bJ P w K mg base CX k f fd ps sp:=⟨F.len,fun A outer s H args us vs Q E hr=>F.run A outer s H args us vs Q E (hr.mono h)⟩
theorem Ij.make {P:Program} {w:World} {K:PySem.W.Frag} {mg:Str->Option Value} {base:Heap} {A:Around} {outer:List Env} {s:Shared} {H:Hp} (e:Ij P w K mg base A outer s H) (C:Addr) (us:List Value) (kw:List (Str×Value)) :
  Ij P w K mg base (A.under (.builtin "type.__call__" ⟨.ref C::us,kw⟩)) outer s H:=⟨by first | exact e.frames | (simpa[Around.under,Code.envs,Code.isFrame,pushEnvs] using e.frames),e.mod,e.bs,e.MJ,e.uP,e.Xx,e.hok,e.bare⟩
section
variable {X:Cx} {pins:List (Addr×Obj)} {σ:St} {H:Hp} {s s':Shared}
theorem Inv.env0 (I:Inv X pins σ H s):Ij X.prog X.w X.K X.mg X.base X.A X.stack s H:=
 ⟨I.ok.frames,I.ok.mod,I.bs,ik I.ok.MJ I.sz,I.stack,I.Iz,I.hok,I.bare⟩
theorem Inv.after {Q:VK} {u:Value} (I:Inv X pins σ H s) (h:CE X.stack X.prog X.w H s Q u s'):EP X pins σ Q u s':=by
 obtain⟨v,H',os,bare,un,hok,r,q⟩:=h;obtain⟨hh,g,d,t,os'⟩:=s';obtain rfl:os'=s.os:=os;exact⟨v,H',I.call (h':=hh) (g':=g) (d':=d) (t':=t) (ch:=[]) un hok bare (fun b z=>absurd z (by simp)),r,q⟩
end
def mX (sp:Sp) (uQ:List V) (E:XK) (t:TA):TE:=fun σ H Q=>t σ H fun vs H1=>sp (vs++uQ) H1 Q E
def Dh (C:Addr) (m:Str) (sp:Sp) (uQ:List V) (E:XK) (ta:TE) (t:TA):TE:=fun σ H Q=>ta σ H fun x H1=>∃a dx fs,x=.ref a/\H1 a=some (.ins C dx fs)/\fs.lookup m=none /\
 t σ H1 fun vs H2=>sp (x::(vs++uQ)) H2 Q E
def Nu (C:Addr) (sp:Sp) (uQ:List V) (E:XK) (t:TA):TE:=fun σ H Q=>t σ H fun vs H1=>∀x dx,H1 x=none->H1 dx=none->dx≠x ->
 sp (.ref x::(vs++uQ)) (upd (upd H1 dx (.own x)) x (.ins C dx [])) (fun v H2=>v=.non/\Q (.ref x) H2) E
def Binds (K:PySem.W.Frag) (fd:FuncData) (ps:List Str) (ds:List Value):Prop:=
 ∀(s:Shared) (us:List Value),K.In s.heap->(us++ds).length=ps.length->BindsTo s fd ⟨us,[]⟩ (ps.zip (us++ds))
theorem Binds.all {K:PySem.W.Frag} {fd:FuncData} {ps:List Str} (h:∀us:List Value,us.length=ps.length->bindArgs fd ⟨us,[]⟩=pure (ps.zip us)):Binds K fd ps []:=fun s us _ hl=>by
 rw[uA] at hl ⊢;exact .of_eq (h us hl)
def Passes (CX:J5) (X:Cx) (E:XK):Prop:=∀(pins:List (Addr×Obj)) (σ:St) (H:Hp) (s:Shared) (e:Value) (s':Shared),Inv X pins σ H s->CX X.stack H s E e s'->X.xe e s'
section
variable {X:Cx} {CX:J5} {k:Nat} {f C:Addr} {fd:FuncData} {ps:List Str} {sp:Sp} {uQ:List V} {ds:List Value} {E:XK} {x m:Str} {p pos apos:Pos} {e o:Expr} {es:List Expr} {ta:TE} {t:TA}
theorem Gy {pins:List (Addr×Obj)} {σ:St} {H:Hp} {s:Shared} {Q:VK} {us:List Value} {vs:List V} (F:bJ X.prog X.w X.K X.mg X.base CX k f fd ps sp) (hr:fQ k X.A) (hb:Binds X.K fd ps ds) (hd:Vals uQ ds) (hx:Passes CX X E)
  (I:Inv X pins σ H s) (r:Vals vs us) (h:sp (vs++uQ) H Q E):wpAny (model X.prog X.w) X.A (call (.ref f) us) (EP X pins σ Q) X.xe s:=by
 have r2:Vals (vs++uQ) (us++ds):=r.append hd;have hl:(us++ds).length=ps.length:=by rw[<- r2.length]; exact F.len _ _ _ _ h
 refine wpAny_call (codeAny_mono (F.run X.A X.stack s H ⟨us,[]⟩ (us++ds) (vs++uQ) Q E hr I.env0 (hb s us I.mU hl) r2 h) fun r s' hq=>?_);cases r with
 | error e=>exact hx pins σ H s e s' I hq
 | ok fl=>
  cases fl with
  | ret u=>exact I.after hq
  | next=>exact False.elim hq
  | brk=>exact False.elim hq
  | cont=>exact False.elim hq
theorem Ju (F:bJ X.prog X.w X.K X.mg X.base CX k f fd ps sp) (hr:fQ k X.A) (hg:Gl X x) (hm:X.mg x=some (.ref f)) (hk:PySem.W.keepIn X.K (.ref f)=true) (hb:Binds X.K fd ps ds) (hd:Vals uQ ds) (hx:Passes CX X E)
  (ha:PA X (e::es) t) (hdb:(x==("__debug__" : Str))=false:=by decide) (he:starEach (e::es) X.env=(false,eval e X.env)::starEach es X.env:=by rfl) (hpl:(backTo pos (starEach es X.env)).any (·.1)=false:=by rfl) :
  PE X (.Call (.Name x p) (e::es) [] pos) (mX sp uQ E t):=by
 refine .mk ?_;intro pins s σ H Q I h;refine uG (BP I hg hm ?_ hdb);refine PySem.W.callWith_K (h₀:=X.base) I.ok.mod.Vj hk (cM (ha pos pins s σ H _ I h) fun us s1 ⟨vs,H1,I1,r,q⟩=>⟨I1.mU,?_⟩) he hpl;exact Gy F hr hb hd hx I1 r q
theorem Sg {pl:Sem Bool} (he:PE X o ta) (c:Fw X.K C) (hm:Meth X.K C m f) (F:bJ X.prog X.w X.K X.mg X.base CX k f fd ps sp) (hr:fQ k X.A) (hb:Binds X.K fd ps ds) (hd:Vals uQ ds) (hx:Passes CX X E) (ha:PA X (e::es) t)
  (hst:starEach (e::es) X.env=(false,eval e X.env)::starEach es X.env:=by rfl) (hpl:(backTo pos (starEach es X.env)).any (·.1)=false:=by rfl)
  (ht:eval (.Call (.Attribute o m apos) (e::es) [] pos) X.env=(do
   let ov <- eval o X.env
   standAt apos.atName
   let (f,first) <- holding [ov] (getMethod ov m pl)
   callWith pos f first (backTo pos (starEach (e::es) X.env)) (backToKw pos (keywordEach [] X.env))):=by rfl) :
  PE X (.Call (.Attribute o m apos) (e::es) [] pos) (Dh C m sp uQ E ta t):=by
 refine .mk ?_;intro pins s σ H Q I h;refine PySem.W.methodCall_KW (pl:=pl) (cM (he pins s σ H _ I h) fun u s1 ⟨x,H1,I1,rx,a,dx,fs,ex,ea,l,q⟩=>?_) ht;subst ex;obtain rfl:u=Value.ref a:=rx;refine xf I1 ea c hm l ?_;refine PySem.W.callWith_K (first:=[.ref a]) (h₀:=X.base) I.ok.mod.Vj hm.kp (cM (ha pos pins s1 σ H1 _ I1 q) fun us s2 ⟨vs,H2,I2,r,q2⟩=>⟨I2.mU,?_⟩) hst hpl
 exact Gy (us:=.ref a::us) (vs:=.ref a::vs) F hr hb hd hx I2 (.cons rfl r) q2
theorem O_ {pl:Sem Bool} (he:PE X o ta) (c:Fw X.K C) (hm:Meth X.K C m f) (F:bJ X.prog X.w X.K X.mg X.base CX k f fd ps sp) (hr:fQ k X.A) (hb:Binds X.K fd ps ds) (hd:Vals uQ ds) (hx:Passes CX X E)
  (ht:eval (.Call (.Attribute o m apos) [] [] pos) X.env=(do
   let ov <- eval o X.env
   standAt apos.atName
   let (f,first) <- holding [ov] (getMethod ov m pl)
   callWith pos f first (backTo pos (starEach [] X.env)) (backToKw pos (keywordEach [] X.env))):=by rfl) :
  PE X (.Call (.Attribute o m apos) [] [] pos) (Dh C m sp uQ E ta Ar):=by
 refine .mk ?_;intro pins s σ H Q I h;refine PySem.W.methodCall_KW (pl:=pl) (cM (he pins s σ H _ I h) fun u s1 ⟨x,H1,I1,rx,a,dx,fs,ex,ea,l,q⟩=>?_) ht;subst ex;obtain rfl:u=Value.ref a:=rx;refine xf I1 ea c hm l ?_;exact PySem.W.callWith_K0 (first:=[.ref a]) I1.mU hm.kp (Gy (us:=[.ref a]) (vs:=[.ref a]) F hr hb hd hx I1 (.cons rfl .nil) q)
structure Mk (K:PySem.W.Frag) (C f:Addr):Prop where
 makes:PySem.W.makesIn K C=true
 init:PySem.W.findIn K (.ref C) "__init__" = some (some (.ref f))
 fn:PySem.W.isFn K (.ref f)=true
 kp:PySem.W.keepIn K (.ref C)=true
theorem Ol {pins:List (Addr×Obj)} {σ:St} {H:Hp} {s:Shared} {Q:VK} {us:List Value} {vs:List V} (M:Mk X.K C f) (F:bJ X.prog X.w X.K X.mg X.base CX k f fd ps sp) (hr:fQ (k+1) X.A) (hb:Binds X.K fd ps ds) (hd:Vals uQ ds)
  (hx:Passes CX X E) (I:Inv X pins σ H s) (r:Vals vs us)
  (h:∀x dx,H x=none->H dx=none->dx≠x->sp (.ref x::(vs++uQ)) (upd (upd H dx (.own x)) x (.ins C dx [])) (fun v H2=>v=.non/\Q (.ref x) H2) E) :
  wpAny (model X.prog X.w) X.A (call (.ref C) us) (EP X pins σ Q) X.xe s:=by
 have hq:=h (s.heap.objs.size+1) s.heap.objs.size (I.hok.fresh (zp _)) (I.hok.fresh (bD _)) (fJ (Dv _));have I2:=Inv.made (C:=C) I;have r2:Vals (V.ref (s.heap.objs.size+1)::(vs++uQ)) (Value.ref (s.heap.objs.size+1)::(us++ds)):=.cons rfl (r.append hd)
 have hl:(Value.ref (s.heap.objs.size+1)::us++ds).length=ps.length:=by
  have e:=r2.length;rw[F.len _ _ _ _ hq] at e;exact e.symm
 refine wpAny_call (PN (f:=f) I.mU M.makes M.init (beq_iff_eq.mp M.fn) (codeAny_mono (F.run _ X.stack _ _ ⟨Value.ref (s.heap.objs.size+1)::us,[]⟩ (Value.ref (s.heap.objs.size+1)::(us++ds)) _ _ E (hr.make C us [])
  (I2.env0.make C us []) (hb _ (Value.ref (s.heap.objs.size+1)::us) I2.mU hl) r2 hq) fun r s' hq'=>?_))
 cases r with
 | error e=>exact hx pins σ _ _ e s' I2 hq'
 | ok fl=>
  cases fl with
  | ret u=>
   obtain⟨v,H',I3,rv,ev,q3⟩:=I2.after hq';subst ev;exact⟨rv,⟨V.ref (s.heap.objs.size+1),H',I3,rfl,q3⟩⟩
  | next=>exact False.elim hq'
  | brk=>exact False.elim hq'
  | cont=>exact False.elim hq'
theorem Ss (M:Mk X.K C f) (F:bJ X.prog X.w X.K X.mg X.base CX k f fd ps sp) (hr:fQ (k+1) X.A) (hg:Gl X x) (hm:X.mg x=some (.ref C)) (hb:Binds X.K fd ps ds) (hd:Vals uQ ds) (hx:Passes CX X E)
  (ha:PA X (e::es) t) (hdb:(x==("__debug__" : Str))=false:=by decide) (he:starEach (e::es) X.env=(false,eval e X.env)::starEach es X.env:=by rfl) (hpl:(backTo pos (starEach es X.env)).any (·.1)=false:=by rfl) :
  PE X (.Call (.Name x p) (e::es) [] pos) (Nu C sp uQ E t):=by
 refine .mk ?_;intro pins s σ H Q I h;refine uG (BP I hg hm ?_ hdb);refine PySem.W.callWith_K (h₀:=X.base) I.ok.mod.Vj M.kp (cM (ha pos pins s σ H _ I h) fun us s1 ⟨vs,H1,I1,r,q⟩=>⟨I1.mU,?_⟩) he hpl;exact Ol M F hr hb hd hx I1 r q
end
def PK (X:Cx) (kws:List Keyword) (t:TA):Prop:=
 ∀(pos:Pos) (pins:List (Addr×Obj)) (s:Shared) (σ:St) (H:Hp) (Q:List V->Hp->Prop),Inv X pins σ H s->t σ H Q->wpAny (model X.prog X.w) X.A (evalAll ((backToKw pos (keywordEach kws X.env)).map (·.2))) (AP X pins σ Q) X.xe s
section
variable {X:Cx} {CX:J5} {k:Nat} {f C:Addr} {fd:FuncData} {ps ks:List Str} {sp:Sp} {E:XK} {x m:Str} {p pos apos Tf:Pos} {e o:Expr} {es:List Expr} {kws:List Keyword} {te ta:TE} {t tk:TA} {nm:Option Str}
theorem Wr:PK X [] Ar:=fun _ _ _ _ H Q I h=>wpAny_evalAll_nil ⟨[],H,I,.nil,h⟩
theorem R4 (ha:PE X e te) (hr:PK X kws t):PK X (⟨nm,e,Tf⟩::kws) (ph te t):=by
 intro pos pins s σ H Q I h;show wpAny _ _ (evalAll ((do let v <- eval e X.env; standAt pos; pure v)::(backToKw pos (keywordEach kws X.env)).map (·.2))) _ _ s
 refine wpAny_evalAll_cons (aW (cM (ha pins s σ H _ I h) fun u s1 ⟨x,H1,I1,r1,q1⟩=>aW (Bc (aZ ?_))));exact cM (hr pos pins s1 σ H1 _ I1 q1) fun us s2 ⟨xs,H2,I2,r2,q2⟩=>⟨x::xs,H2,I2,.cons r1 r2,q2⟩
structure aeb (K:PySem.W.Frag) (fd:FuncData) (ps ks:List Str) (g:List Value->List Value->List Value) (gV:List V->List V->List V):Prop where
 to:∀(s:Shared) (us ws:List Value),K.In s.heap->(g us ws).length=ps.length->BindsTo s fd ⟨us,ks.zip ws⟩ (ps.zip (g us ws))
 rel:∀{vs:List V} {us:List Value} {zs:List V} {ws:List Value},Vals vs us->Vals zs ws->Vals (gV vs zs) (g us ws)
variable {g:List Value->List Value->List Value} {gV:List V->List V->List V}
end
structure aV (N P:List Str) (sc:Scope):Prop where
 kind:sc.kind=.function
 co:sc.isCoroutine=false
 gen:sc.isGenerator=false
 nd:N.Nodup
 pre:N.take P.length=P
 par:∀x∈P,sc.names.lookup x=some .local\/sc.names.lookup x=some .cell
 WT:∀y∈sc.names,y.2≠.free
theorem Ag {kindOf:Str->Option NameKind} {x:Str}:∀{binds:List (Str×Value)} {m:Str->Option Value},(∀v,(x,v)∉binds)->bindL kindOf binds m x=m x
 | [],_,_=>rfl
 | (n,v)::r,m,h=>by
  unfold bindL;rw[Ag fun w hw=>h w (gk _ hw)];split
  ·have:x≠n:=by rintro rfl; exact h v cY
   simp[this]
  ·rfl
theorem Ai {kindOf:Str->Option NameKind} {x:Str}:∀{binds:List (Str×Value)} {m:Str->Option Value},(∀v,(x,v)∉binds)->bindC kindOf binds m x=m x
 | [],_,_=>rfl
 | (n,v)::r,m,h=>by
  unfold bindC;rw[Ai fun w hw=>h w (gk _ hw)];split
  ·rfl
  ·have:x≠n:=by rintro rfl; exact h v cY
   simp[this]
theorem Ah {kindOf:Str->Option NameKind} {x:Str} {v:Value}:∀{P:List Str} {vs:List Value} {i:Nat} {m:Str->Option Value},P.Nodup->P[i]?=some x->vs[i]?=some v->kindOf x=some .local ->
  bindL kindOf (P.zip vs) m x=some v
 | [],_,_,_,_,h,_,_=>by simp at h
 | _::_,[],_,_,_,_,h,_=>by simp at h
 | p::P,w::vs,0,m,nd,h1,h2,hk=>by
  simp at h1 h2; subst h1; subst h2;show bindL kindOf ((p,w)::P.zip vs) m p=_;unfold bindL;rw[Ag fun v hv=>(iW.mp nd).1 (DR hv).1,bx hk];simp
 | p::P,w::vs,i+1,m,nd,h1,h2,hk=>by
  show bindL kindOf ((p,w)::P.zip vs) m x=_;unfold bindL;exact Ah (i:=i) (iW.mp nd).2 (by simpa using h1) (by simpa using h2) hk
theorem Aj {kindOf:Str->Option NameKind} {x:Str} {v:Value}:∀{P:List Str} {vs:List Value} {i:Nat} {m:Str->Option Value},P.Nodup->P[i]?=some x->vs[i]?=some v->kindOf x≠some .local ->
  bindC kindOf (P.zip vs) m x=some v
 | [],_,_,_,_,h,_,_=>by simp at h
 | _::_,[],_,_,_,_,h,_=>by simp at h
 | p::P,w::vs,0,m,nd,h1,h2,hk=>by
  simp at h1 h2; subst h1; subst h2;show bindC kindOf ((p,w)::P.zip vs) m p=_;unfold bindC;rw[Ai fun v hv=>(iW.mp nd).1 (DR hv).1,aX hk];simp
 | p::P,w::vs,i+1,m,nd,h1,h2,hk=>by
  show bindC kindOf ((p,w)::P.zip vs) m x=_;unfold bindC;exact Aj (i:=i) (iW.mp nd).2 (by simpa using h1) (by simpa using h2) hk
def start (N:List Str) (vs:List V):St:=vs.map some++List.replicate (N.length-vs.length) none
def xu (CX:J5) (P:Program) (w:World) (K:PySem.W.Frag) (mg:Str->Option Value) (base:Heap) (N:List Str) (qual:Str) (scope:Scope) (f:Addr) (cd:Value) (A:Around) (outer:List Env) (s:Shared) (H:Hp) (E:XK):Cx where
 prog:=P
 w:=w
 K:=K
 mg:=mg
 base:=base
 A:=A.deeper (envOfC qual scope s.heap.objs.size f cd)
 N:=N
 s₀:=s
 H₀:=H
 env:=envOfC qual scope s.heap.objs.size f cd
 outer:=outer
 stack:=envOfC qual scope s.heap.objs.size f cd::outer
 ex:=[]
 calm:=true
 fn:=fun _=>true
 pn:=[]
 xe:=fun e s'=>wpAny (model P w) (A.deeper (envOfC qual scope s.heap.objs.size f cd)) (leaving (envOfC qual scope s.heap.objs.size f cd) e) (fun _ s''=>CX outer H s E e s'') (fun e' s''=>CX outer H s E e' s'') s'
theorem Fb {sc:Scope} {n:Nat} {x:Str} (h:sc.names.lookup x=some .cell):∃c,(cellsFrom n sc.names []).lookup x=some c:=by
 have q:=PySem.W.cellsFrom_some sc.names n [] (.inl h);exact Oz.mp q
theorem zU {CX:J5} {P:Program} {w:World} {K:PySem.W.Frag} {mg:Str->Option Value} {base:Heap} {N ps:List Str} {qual:Str} {scope:Scope} {f:Addr} {cd:Value} {A:Around} {outer:List Env} {s s1:Shared} {H:Hp} {E:XK} {us:List Value} {vs:List V}
  (S:aV N ps scope) (hd:A.handled=none) (e0:Ij P w K mg base A outer s H) (hl:vs.length=ps.length) (r:Vals vs us)
  (x:InCallC s s.heap.objs.size (bindL (envOfC qual scope s.heap.objs.size f cd).kindOf (ps.zip us) fun _=>none) (cellsFrom (s.heap.objs.size+1) scope.names []) (bindC (envOfC qual scope s.heap.objs.size f cd).kindOf (ps.zip us) fun _=>none) s1) :
  Inv (xu CX P w K mg base N qual scope f cd A outer s H E) [] (start N vs) H s1:=by
 have hpl:ps.length<=N.length:=by have:=pW List.length S.pre; rw[j5] at this; omega
 obtain⟨h1,tk,rfl,hk⟩:=x.done;have noA:∀b:Addr,b∉(xu CX P w K mg base N qual scope f cd A outer s H E).ex:=fun b z=>absurd (show b∈([]:List Addr) from z) (by simp)
 refine⟨⟨e0.mod,S.kind,rfl,rfl,bD _,fun y z c h1 h2=>?_,fun y hy=>?_,fun y c _ h=>?_,fun _=>hd,Around.frames_deeper e0.frames,.inr ⟨rfl,rfl⟩,fun b z=>absurd z (noA b),e0.bs,e0.MJ,fun b _ _=>noA b,fun b z=>absurd z (noA b),e0.uP,e0.Xx⟩,
  rfl,e0.bare,Un.kept hk,⟨_,x.toInCall.ns,fun i y v h1 h2 h3=>?_⟩,fun y c h=>⟨_,x.cell y c h⟩,e0.hok.fresh (bD _),fun y c h=>?_,fun p hp=>absurd (show p∈([]:List (Addr×Obj)) from hp) (by simp),e0.hok.kept hk,?_⟩
 ·exact name_of_addr x.apart (PySem.mem_of_lookup h1) (PySem.mem_of_lookup h2)
 ·have hy:scope.names.lookup y=some .cell\/scope.names.lookup y=some .free:=hy;rcases hy with hy | hy
  ·exact Fb hy
  ·exact absurd rfl (S.WT _ (PySem.mem_of_lookup hy))
 ·exact mF (x.above y c (PySem.mem_of_lookup h))
 ·have hi:i<vs.length:=by
   unfold start at h2;by_cases hi:i<vs.length
   ·exact hi
   ·rw[xV (by simpa using hi)] at h2
    rw[Jp] at h2;split at h2 <;> cases h2
  have ha:vs[i]?=some v:=by
   unfold start at h2;rw[DK (by simpa using hi),cT] at h2
   cases e:vs[i]? with
   | none=>rw[e] at h2; cases h2
   | some a=>rw[e] at h2; cases h2; rfl
  obtain⟨u,hu,rv⟩:=r.get ha
  have hp:ps[i]?=some y:=by
   rw[<- S.pre,List.getElem?_take_of_lt (by omega)]; exact h1
  have ndP:ps.Nodup:=by rw[<- S.pre]; exact S.nd.sublist (List.take_sublist _ _)
  refine⟨u,rv,?_⟩;rcases S.par y (dz hp) with k | k
  ·exact .inl ⟨k,Ah ndP hp hu k⟩
  ·obtain⟨c,e⟩:=Fb (n:=s.heap.objs.size+1) k;refine .inr ⟨.inl k,c,e,?_⟩;have q:=x.cell y c e;rw[Aj ndP hp hu (by show scope.names.lookup y≠_; rw[k]; decide)] at q
   exact q
 ·exact e0.hok.fresh (mF (x.above y c (PySem.mem_of_lookup h)))
 ·unfold start;show _=N.length;rw[cB,b7,qR];omega
theorem Vn {CX:J5} {P:Program} {w:World} {K:PySem.W.Frag} {mg:Str->Option Value} {base:Heap} {k:Nat} {f:Addr} {name qual:Str} {params:Arguments} {body:List Stmt} {scope:Scope} {dV kV doc pm cdv ct oc:Value} {an od:Option Addr}
  {osl:Array (Option Value)} {N ps:List Str} {sp:Sp} (lk:K.lookup f=some ⟨oc,od,.func (PySem.W.fnOf name qual params body scope dV kV doc pm an cdv ct),osl⟩) (hcd:PySem.W.codeIn K cdv qual=true) (S:aV N ps scope)
  (len:∀vs H Q E,sp vs H Q E->vs.length=ps.length)
  (hbody:∀(A:Around) (outer:List Env) (s:Shared) (H:Hp) (vs:List V) (Q:VK) (E:XK),fQ k (A.deeper (envOfC qual scope s.heap.objs.size f cdv))->sp vs H Q E ->
   ∃t,Fv (xu CX P w K mg base N qual scope f cdv A outer s H E) body t/\t { nx:=fun _ H'=>Q .non H',rt:=Q } (start N vs) H) :
  bJ P w K mg base CX (k+1) f (PySem.W.fnOf name qual params body scope dV kV doc pm an cdv ct) ps sp:=by
 refine⟨len,fun A outer s H args us vs Q E hr e0 hb r hsp=>?_⟩;have hl:=len _ _ _ _ hsp;have KX:K.In s.heap:=e0.mod.Vj.keeps fun b o e=>(e0.bs b o e).1;have lim:s.heap.NoLimit:=e0.mod.nolimit.keeps fun b o e=>(e0.bs b o e).1
 have hkind:∀y∈ps.zip us,scope.names.lookup y.1=some .local\/(scope.names.lookup y.1=some .cell/\((cellsFrom (s.heap.objs.size+1) scope.names []).lookup y.1).isSome=true):=fun⟨n,v⟩ hy=>by
  rcases S.par n (DR hy).1 with q | q
  ·exact .inl q
  ·exact .inr ⟨q,PySem.W.cellsFrom_some _ _ _ (.inl q)⟩
 refine codeAny_call_function hr.depth (KX _ _ lk) rfl S.co S.gen rfl (PySem.W.codeRec_of KX hcd) (hb _ _ _ _ ?_);refine wpAny_newFunctionEnv_cells S.kind hkind fun env he s1 x=>?_;subst he;refine⟨lim.keeps x.toInCall.keep,codeAny_func ?_⟩;obtain⟨t,ht,hq⟩:=hbody A outer s H vs Q E (hr.deeper _) hsp;have I:Inv (xu CX P w K mg base N qual scope f cdv A outer s H E) [] (start N vs) H s1:=zU S hr.hd e0 hl r x;refine oM (ht [] s1 (start N vs) H _ I hq) (fun fl s' hs=>?_) fun e s' hs=>hs
 have fin:∀{σ':St} {H':Hp} {v:V} {u:Value},Inv (xu CX P w K mg base N qual scope f cdv A outer s H E) [] σ' H' s'->RelV v u->Q v H'->CE outer P w H s Q u s':=
  fun {σ' H' v u} J rv q=>⟨v,H',J.os,J.bare,J.base,J.hok,rv,q⟩
 cases fl with
 | ret u=>
  obtain⟨v,σ',H',J,rv,q⟩:=hs;exact fin J rv q
 | next=>
  obtain⟨σ',H',J,q⟩:=hs;exact fin (v:=V.non) (u:=Value.none) J rfl q
 | brk=>
  obtain⟨_,_,_,q⟩:=hs;exact False.elim q
 | cont=>
  obtain⟨_,_,_,q⟩:=hs;exact False.elim q
section
variable {X:Cx} {x:Str} {p pos:Pos} {e:Expr} {es:List Expr} {t:TA} {id T:String} {r:List V->Hp->VK->Prop}
def Yp (r:List V->Hp->VK->Prop) (t:TA):TE:=fun σ H Q=>t σ H fun vs H1=>r vs H1 Q
theorem Pb (hc:cV X (.builtin id) r) (hg:Gl X x) (hm:X.mg x=none) (hv:bootBuiltins x=some (.builtin id)) (ha:PA X (e::es) t) (hn:x ≠ "__name__" := by decide) (hdb:(x==("__debug__" : Str))=false:=by decide)
  (he:starEach (e::es) X.env=(false,eval e X.env)::starEach es X.env:=by rfl) (hpl:(backTo pos (starEach es X.env)).any (·.1)=false:=by rfl):PE X (.Call (.Name x p) (e::es) [] pos) (Yp r t):=by
 refine .mk ?_;intro pins s σ H Q I h;refine uG (iK I hg hm hv ?_ hn hdb);exact PyProof.Rows.callWith_builtin1 (cM (ha pos pins s σ H _ I h) fun us s1 ⟨vs,H1,I1,r1,q1⟩=>hc pins s1 σ H1 vs us Q I1 r1 q1) he hpl
theorem KR (hc:cV X (.type T) r) (hg:Gl X x) (hm:X.mg x=none) (hv:bootBuiltins x=some (.type T)) (ha:PA X (e::es) t) (hn:x ≠ "__name__" := by decide) (hdb:(x==("__debug__" : Str))=false:=by decide)
  (he:starEach (e::es) X.env=(false,eval e X.env)::starEach es X.env:=by rfl) (hpl:(backTo pos (starEach es X.env)).any (·.1)=false:=by rfl):PE X (.Call (.Name x p) (e::es) [] pos) (Yp r t):=by
 refine .mk ?_;intro pins s σ H Q I h;refine uG (iK I hg hm hv ?_ hn hdb);exact PyProof.Rows.callWith_type1 (cM (ha pos pins s σ H _ I h) fun us s1 ⟨vs,H1,I1,r1,q1⟩=>hc pins s1 σ H1 vs us Q I1 r1 q1) he hpl
end
end L2
namespace HT
open PySem PyProof.Rows
section
open PySem.SeqAt
open PySem.AutoSeq1 (wpAny_loadPart')
open PySem.MeetsSeq PySem.MeetsSeq2 PySem.MeetsSeq3
end
section
variable {prog:Program} {w:World} {A:Around} {E:Value->Shared->Prop} {s:Shared}
theorem T9 {t b:Addr} {vs ws:List Value} {Q:Value->Shared->Prop} (ht:IsTup s.heap t vs.toArray) (hb:IsTup s.heap b ws.toArray) (hv:vs≠[])
  (h1:ws=[]->Q (.ref t) s) (h2:ws≠[]->Q (.ref s.heap.objs.size) { s with heap:=s.heap.push { cls:=.type "tuple",data:=.seq (vs++ws).toArray } })
  (hsz:vs.length+ws.length<=sizeLine):wpAny (model prog w) A (binaryOp .Add (.ref t) (.ref b)) Q E s:=by
 obtain⟨⟨cls,dd,data,sl⟩,ho,hc,n,hd⟩:=id ht;obtain⟨⟨cls2,dd2,data2,sl2⟩,ho2,hc2,n2,hd2⟩:=id hb;simp only at hc hd hc2 hd2;subst hc hd hc2 hd2;have e:vs.toArray++ws.toArray=(vs++ws).toArray:=by simp
 by_cases hw:ws=[]
 ·exact concat_meets ⟨_,ho,rfl⟩ ⟨_,ho2,rfl⟩ noFill_tuple_add seq_tuple_add PySem.F.slot_tuple_add PySem.F.entry_tuple_add (PySem.F.args_tuple_add_2 _ _)
   (tuple_addW1 t b vs.toArray ws.toArray n n2 dd dd2 sl sl2 (by simpa using hv) (by simp[hw])) ⟨ho,ho2,h1 hw⟩
 ·refine concat_meets ⟨_,ho,rfl⟩ ⟨_,ho2,rfl⟩ noFill_tuple_add seq_tuple_add PySem.F.slot_tuple_add PySem.F.entry_tuple_add (PySem.F.args_tuple_add_2 _ _)
   (tuple_addW2 t b vs.toArray ws.toArray n n2 dd dd2 sl sl2 (by simpa using hv) (by simpa using hw) (by rw[eU,eU]; exact hsz)) ⟨ho,ho2,?_⟩
  rw[e];exact h2 hw
def gB (n d:Nat):Option Int->Nat
 | none=>d
 | some v=>if v<0 then(v+(n:Int)).toNat else min v.toNat n
theorem Dp (n d:Nat):gB n d none=d:=rfl
theorem Jd (n d k:Nat):gB n d (some (k:Int))=min k n:=by
 show(if(k:Int)<0 then((k:Int)+(n:Int)).toNat else min (k:Int).toNat n)=min k n
 rw[aX (by omega),tu]
theorem Wf (n d:Nat) (hd:d<=n) (o:Option Int):gB n d o<=n:=by
 cases o with
 | none=>exact hd
 | some v=>
  show(if v<0 then(v+(n:Int)).toNat else min v.toNat n)<=n
  by_cases hv:v<0
  ·rw[bx hv]; omega
  ·rw[aX hv]; exact Nat.min_le_right _ _
theorem J1 (v:Int) (n d:Nat):(if v<0 then max (v+(n:Int)) 0 else min v (n:Int))=((gB n d (some v):Nat):Int):=by
 show(if v<0 then max (v+(n:Int)) 0 else min v (n:Int))=(((if v<0 then(v+(n:Int)).toNat else min v.toNat n):Nat):Int)
 by_cases hv:v<0
 ·simp only[bx hv]; omega
 ·simp only[aX hv]; omega
theorem H_ (lo hi:Option Int) (n:Nat):Builtin.Slice.sliceAdjust lo hi 1 (n:Int)=(((gB n 0 lo:Nat):Int),((gB n n hi:Nat):Int)):=by
 have h1:¬((1:Int)<0):=by omega
 unfold Builtin.Slice.sliceAdjust;simp only[h1,if_false];refine Prod.ext ?_ ?_
 ·cases lo with
  | none=>rfl
  | some v=>exact J1 v n 0
 ·cases hi with
  | none=>rfl
  | some v=>exact J1 v n n
theorem GQ (i j:Nat):Builtin.Slice.slicePlaces (i:Int) (j:Int) 1=j-i:=by
 unfold Builtin.Slice.slicePlaces;have h1:(1:Int)>0:=by omega
 simp only[h1,if_true,Int.ediv_one];split <;> omega
theorem vC {v:Value} {o:Option Int} {Q:Option Int->Shared->Prop} (p:IsPart v o) (h:Q o s):wpAny (model prog w) A (Builtin.Slice.slicePartIndex v) Q E s:=by
 cases p with
 | none=>exact slicePart_none h
 | int i t=>exact slicePart_int h
theorem km {sl:Addr} {vl vu:Value} {lo hi:Option Int} {n:Nat} {Q:Int×Int×Nat->Shared->Prop} (hs:s.heap.IsSliceOf sl vl vu .none) (pl:IsPart vl lo) (pu:IsPart vu hi)
  (h:Q (((gB n 0 lo:Nat):Int),1,gB n n hi-gB n 0 lo) s):wpAny (model prog w) A (Builtin.Slice.sliceApplied (.ref sl) (pure (n:Int))) Q E s:=by
 obtain⟨os,hos,hcs,hds⟩:=id hs;unfold Builtin.Slice.sliceApplied Builtin.Slice.sliceFields;refine aW (aW (iV hos hds (x:=vl) rfl (aW (iV hos hds (x:=vu) rfl (aW (iV hos hds (x:=.none) rfl (aZ ?_)))))));refine aW (slicePart_none ?_);show wpAny _ _ (if((1:Int)==0)=true then _ else _) _ _ s
 rw[aX (by decide)]
 refine aW (vC pl (aW (vC pu (aW (aZ ?_)))));show wpAny _ _ (match Builtin.Slice.sliceAdjust lo hi 1 (n:Int) with | (lo,hi)=>pure (lo,(1:Int),Builtin.Slice.slicePlaces lo hi 1)) _ _ s
 rw[H_ lo hi n];show wpAny _ _ (pure (((gB n 0 lo:Nat):Int),(1:Int),Builtin.Slice.slicePlaces ((gB n 0 lo:Nat):Int) ((gB n n hi:Nat):Int) 1)) _ _ s;rw[GQ];exact aZ h
theorem O8 (xs:Array Value) (i k:Nat):((List.range k).filterMap fun(m:Nat)=>xs[((i:Int)+(m:Int)*1).toNat]?).toArray=((xs.toList.drop i).take k).toArray:=by
 have e:(fun(m:Nat)=>xs[((i:Int)+(m:Int)*1).toNat]?)=fun m=>xs[i+m]?:=by
  funext m
  have:((i:Int)+(m:Int)*1).toNat=i+m:=by omega
  rw[this]
 rw[e];have:=pick_run xs i k;rw[List.filterMap_map] at this;have e2:((fun x=>xs[x]?)∘fun x=>i+x)=fun m=>xs[i+m]?:=rfl;rw[e2] at this;rw[this]
theorem rC {t sl:Addr} {items:Array Value} {vl vu:Value} {lo hi:Option Int} {Q:Value->Shared->Prop} (ht:IsTup s.heap t items) (hs:s.heap.IsSliceOf sl vl vu .none) (pl:IsPart vl lo) (pu:IsPart vu hi)
  (hw:¬(gB items.size 0 lo=0/\gB items.size items.size hi=items.size))
  (h:Q (.ref s.heap.objs.size) { s with heap:=s.heap.push { cls:=.type "tuple",data:=.seq ((items.toList.drop (gB items.size 0 lo)).take (gB items.size items.size hi-gB items.size 0 lo)).toArray } })
  (hsz:items.size<=sizeLine):wpAny (model prog w) A (getItem (.ref t) (.ref sl)) Q E s:=by
 have JN:sizeOk (.seq ((items.toList.drop (gB items.size 0 lo)).take (gB items.size items.size hi-gB items.size 0 lo)).toArray):=by
  show((items.toList.drop (gB items.size 0 lo)).take (gB items.size items.size hi-gB items.size 0 lo)).toArray.size<=sizeLine;rw[eU,j5,uE,Array.length_toList];omega
 have hj:gB items.size items.size hi<=items.size:=Wf _ _ (bD _) hi;obtain⟨os,hos,hcs,hds⟩:=id hs;have hTs:s.TypeIs (.ref sl) "slice" := ⟨os,hos,hcs⟩;unfold getItem
 try with_reducible refine oN ?_
 first | refine aW (aZ ?_) | skip
 refine aW (wpAny_sequenceKey ht.typeIs (by decide) ?_)
 refine aW (DG (name:=Str.ofString "__getitem__") ht.typeIs PyProof.Rows.slot_tuple_getitem
  (xU PyProof.Rows.slot_tuple_getitem ht.typeIs entry_tuple_getitem ?_ (args_tuple_getitem _ _)))
 show wpAny _ _ (Builtin.Tuple.tupleItemsOf (.ref t) >>= _) _ _ s;refine aW (tupleItemsOf_ ht ?_);refine aW (DN hTs ?_);rw[bx (by decide)]
 refine aW (km hs pl pu ?_)
 have hno:¬((((gB items.size 0 lo:Nat):Int)==0&&(1:Int)==1&&(gB items.size items.size hi-gB items.size 0 lo)==items.size)=true):=by
  intro q;rw[xT,xT] at q;have q1:((gB items.size 0 lo:Nat):Int)=0:=eq_of_beq q.1.1;have q2:gB items.size items.size hi-gB items.size 0 lo=items.size:=eq_of_beq q.2;exact hw ⟨by omega,by omega⟩
 show wpAny _ _ (if(((gB items.size 0 lo:Nat):Int)==0&&(1:Int)==1&&(gB items.size items.size hi-gB items.size 0 lo)==items.size)=true then _ else _) _ _ s
 rw[aX hno,O8]
 first
  | exact aW (m:=Builtin.Tuple.tupleExact _) (uF (aZ ⟨_,rfl,aZ h⟩) JN)
  | exact aW (m:=Builtin.Tuple.tupleExact _) (uF (aW (aZ (aZ ⟨_,rfl,aZ h⟩))) JN)
  | exact aW (aW (m:=Builtin.Tuple.tupleExact _) (uF (aZ (aZ ⟨_,rfl,aZ h⟩)) JN))
  | exact aW (aW (m:=Builtin.Tuple.tupleExact _) (uF (aZ ⟨_,rfl,aZ h⟩) JN))
end
end HT
namespace L2
open PySem PySem.Spec PyProof.Rows
abbrev TO:=St->Hp->(Option Int->Hp->Prop)->Prop
structure PO (X:Cx) (e:Option Expr) (t:TO):Prop where
 mk ::
 go :
 ∀(pins:List (Addr×Obj)) (s:Shared) (σ:St) (H:Hp) (Q:Option Int->Hp->Prop),Inv X pins σ H s->t σ H Q ->
  wpAny (model X.prog X.w) X.A (evalPart e X.env) (fun u s'=>∃o H',Inv X pins σ H' s'/\IsPart u o/\Q o H') X.xe s
instance {X:Cx} {e:Option Expr} {t:TO}:CoeFun (PO X e t) (fun _=>
 ∀(pins:List (Addr×Obj)) (s:Shared) (σ:St) (H:Hp) (Q:Option Int->Hp->Prop),Inv X pins σ H s->t σ H Q ->
  wpAny (model X.prog X.w) X.A (evalPart e X.env) (fun u s'=>∃o H',Inv X pins σ H' s'/\IsPart u o/\Q o H') X.xe s):=⟨PO.go⟩
def Ip:TO:=fun _ H Q=>Q none H
def Uu (t:TE):TO:=fun σ H Q=>t σ H fun x H1=>∃i,x=.int i/\Q (some i) H1
section
variable {X:Cx} {e:Expr} {te:TE} {lo hi:Option Expr} {tl th:TO} {pos p2:Pos}
theorem fB:PO X none Ip:=by
 refine .mk ?_;intro pins s σ H Q I h;rw[evalPart_none];exact aZ ⟨none,H,I,.none,h⟩
theorem fu (h:PE X e te):PO X (some e) (Uu te):=by
 refine .mk ?_;intro pins s σ H Q I hw;rw[evalPart_some];refine cM (h pins s σ H _ I hw) fun u s1 qx=>?_;obtain⟨x,H1,I1,r1,q1⟩:=qx;obtain⟨i,rfl,q⟩:=q1;obtain⟨t,rfl⟩:=r1;exact⟨some i,H1,I1,.int i t,q⟩
structure X7 (X:Cx) (r:V->Option Int->Option Int->Hp->VK->Prop):Prop where
 mk ::
 go :
 ∀(pins:List (Addr×Obj)) (s:Shared) (σ:St) (H:Hp) (x:V) (v vl vu:Value) (lo hi:Option Int) (sl:Addr) (Q:VK),Inv X pins σ H s->RelV x v->s.heap.IsSliceOf sl vl vu .none->IsPart vl lo->IsPart vu hi->r x lo hi H Q ->
  ∃T id,typeLookup (.type T) "__getitem__" = pure (some (.builtin id))/\s.TypeIs v T/\wpAny (model X.prog X.w) X.A (getItem v (.ref sl)) (EP X pins σ Q) X.xe s
instance {X:Cx} {r:V->Option Int->Option Int->Hp->VK->Prop}:CoeFun (X7 X r) (fun _=>
 ∀(pins:List (Addr×Obj)) (s:Shared) (σ:St) (H:Hp) (x:V) (v vl vu:Value) (lo hi:Option Int) (sl:Addr) (Q:VK),Inv X pins σ H s->RelV x v->s.heap.IsSliceOf sl vl vu .none->IsPart vl lo->IsPart vu hi->r x lo hi H Q ->
  ∃T id,typeLookup (.type T) "__getitem__" = pure (some (.builtin id))/\s.TypeIs v T/\wpAny (model X.prog X.w) X.A (getItem v (.ref sl)) (EP X pins σ Q) X.xe s):=⟨X7.go⟩
def tSl (r:V->Option Int->Option Int->Hp->VK->Prop) (te:TE) (tl th:TO):TE:=fun σ H Q=>te σ H fun x H1=>tl σ H1 fun l H2=>th σ H2 fun u H3=>r x l u H3 Q
theorem cZ {r:V->Option Int->Option Int->Hp->VK->Prop} (hr:X7 X r) (he:PE X e te) (hl:PO X lo tl) (hu:PO X hi th):PE X (.Subscript e (.Slice lo hi none p2) pos) (tSl r te tl th):=by
 refine .mk ?_;intro pins s σ H Q I h;refine Subscript_ (cM (he pins s σ H _ I h) fun v s1 qx=>?_);obtain⟨x,H1,I1,r1,q1⟩:=qx;refine wpAny_Slice (cM (hl pins s1 σ H1 _ I1 q1) fun vl s2 ⟨l,H2,I2,pl,q2⟩=>cM (hu pins s2 σ H2 _ I2 q2) fun vu s3 qx=>?_);obtain⟨u,H3,I3,pu,q3⟩:=qx;rw[evalPart_none];refine aZ ?_;have I4:Inv X pins σ H3 { s3 with heap:=s3.heap.push { cls:=.type "slice",data:=.fields #[vl,vu,.none] } }:=I3.kept (t':=s3.toks) fun b ob q=>dW _ q
 obtain⟨T,id,hT,ht,hg⟩:=hr pins { s3 with heap:=s3.heap.push { cls:=.type "slice",data:=.fields #[vl,vu,.none] } } σ H3 x v vl vu l u s3.heap.objs.size Q I4 r1 (Heap.IsSliceOf.new ..) pl pu q3
 show wpAny (model X.prog X.w) X.A (subscriptTail e (.Slice lo hi none p2) v (.ref s3.heap.objs.size)) (EP X pins σ Q) X.xe { s3 with heap:=s3.heap.push { cls:=.type "slice",data:=.fields #[vl,vu,.none] } }
 exact tail_any (ops:=[.ref s3.heap.objs.size,v]) ht hT hg (by with_unfolding_all rfl)
def uR (xs:List V) (lo hi:Option Int):List V:=(xs.drop (HT.gB xs.length 0 lo)).take (HT.gB xs.length xs.length hi-HT.gB xs.length 0 lo)
theorem uv (xs:List V) (lo hi:Option Int):(uR xs lo hi).length<=xs.length:=by
 unfold uR;rw[j5,uE];omega
def acx (K:PySem.W.Frag):V->Option Int->Option Int->Hp->VK->Prop:=fun x lo hi H Q=>∃a xs,x=.ref a/\e_ K H a xs /\
 ¬(HT.gB xs.length 0 lo=0/\HT.gB xs.length xs.length hi=xs.length)/\∀p,H p=none->Q (.ref p) (upd H p (.tup (uR xs lo hi)))
theorem We:X7 X (acx X.K):=by
 refine .mk ?_;intro pins s σ H x v vl vu lo hi sl Q I rx hs pl pu h;obtain⟨a,xs,rfl,hx,hw,q⟩:=h;cases rx;obtain⟨its,r,ht,hz⟩:=I.tuple hx;have hlen:its.toArray.size=xs.length:=by rw[eU]; exact r.length.symm
 refine⟨"tuple",_,PyProof.Rows.slot_tuple_getitem.lookup,ht.typeIs,?_⟩;refine HT.rC ht hs pl pu (by rw[hlen]; exact hw) ?_ (by rw[hlen]; exact hz)
 rw[hlen];refine⟨.ref s.heap.objs.size,_,I.laid (t':=s.toks) (o:=.tup (uR xs lo hi)) (fun b ob q=>dW _ q) (bD _) ?_,rfl,q _ (I.hok.fresh (bD _))⟩;exact⟨ik (uv xs lo hi) hz,_,(r.drop (HT.gB xs.length 0 lo)).take (HT.gB xs.length xs.length hi-HT.gB xs.length 0 lo),IsTup.new _ _⟩
def aaa (K:PySem.W.Frag):R2:=fun x y H Q=>∃a b xs ys,x=.ref a/\y=.ref b/\e_ K H a xs/\e_ K H b ys/\xs≠[]/\xs.length+ys.length<=sizeLine /\
 (ys=[]->Q (.ref a) H)/\(ys≠[]->∀p,H p=none->Q (.ref p) (upd H p (.tup (xs++ys))))
theorem Vals.Bs {xs:List V} {us:List Value} (r:Vals xs us):us=[]↔xs=[]:=by
 cases r with
 | nil=>simp
 | cons _ _=>simp
theorem Sy:mL X (binaryOp .Add) (aaa X.K):=by
 refine .mk ?_;intro pins s σ H x y v u Q I rx ry h;obtain⟨a,b,xs,ys,rfl,rfl,ha,hb,hx,hz,q1,q2⟩:=h;cases rx;cases ry;obtain⟨its,r1,p1,_⟩:=I.tuple ha;obtain⟨its2,r2,p2,_⟩:=I.tuple hb;refine HT.T9 p1 p2 (fun z=>hx (r1.Bs.mp z)) (fun z=>⟨.ref a,H,I,rfl,q1 (r2.Bs.mp z)⟩) (fun z=>?_) (by rw[<- r1.length,<- r2.length]; exact hz)
 refine⟨.ref s.heap.objs.size,_,I.laid (t':=s.toks) (o:=.tup (xs++ys)) (fun b ob q=>dW _ q) (bD _) ?_,rfl,q2 (fun w=>z (r2.Bs.mpr w)) _ (I.hok.fresh (bD _))⟩;exact⟨by rw[cB]; exact hz,_,r1.append r2,IsTup.new _ _⟩
end
def Qf (n:Nat) (i:Int):Option Nat:=if 0<=i then(if i<n then some i.toNat else none) else if -(n:Int)<=i then some (i+n).toNat else none
def yH {α:Type} (xs:List α) (i:Int):Option α:=(Qf xs.length i).bind fun j=>xs[j]?
theorem JG {n:Nat} {i:Int} {j:Nat} (h:Qf n i=some j):seqIndex? i n=some j/\j<n/\-(n:Int)<=i/\i<n:=by
 unfold Qf at h;by_cases h0:0<=i
 ·rw[bx h0] at h;by_cases h1:i<n
  ·rw[bx h1] at h;have e:i.toNat=j:=Option.some.inj h;exact⟨by rw[seqIndex_of h0 h1,e],by omega,by omega,h1⟩
  ·rw[aX h1] at h; cases h
 ·rw[aX h0] at h;by_cases h1:-(n:Int)<=i
  ·rw[bx h1] at h;have e:(i+n).toNat=j:=Option.some.inj h;exact⟨by rw[seqIndex_neg (by omega) h1,e],by omega,h1,by omega⟩
  ·rw[aX h1] at h; cases h
theorem CG {α:Type} {xs:List α} {i:Int} {v:α} (h:yH xs i=some v):∃j,seqIndex? i xs.length=some j/\xs[j]?=some v/\j<xs.length/\-(xs.length:Int)<=i/\i<xs.length:=by
 unfold yH at h;cases e:Qf xs.length i with
 | none=>rw[e] at h; cases h
 | some j=>
  rw[e] at h;obtain⟨h1,h2,h3,h4⟩:=JG e;exact⟨j,h1,h,h2,h3,h4⟩
theorem aY {α:Type} {xs:List α} {j:Nat} {v:α} (h:xs[j]?=some v):yH xs (j:Int)=some v:=by
 have hj:j<xs.length:=(i_.mp h).1
 have e:Qf xs.length (j:Int)=some j:=by
  unfold Qf;rw[bx (by omega),bx (by omega)]; simp
 unfold yH; rw[e]; exact h
theorem QV {α:Type} (xs:List α) (v:α):yH (xs++[v]) (-1)=some v:=by
 have hl:(xs++[v]).length=xs.length+1:=by simp
 have e:Qf (xs++[v]).length (-1)=some xs.length:=by
  unfold Qf;rw[hl,aX (by decide),bx (by omega)]
  congr 1
  omega
 unfold yH;rw[e];show(xs++[v])[xs.length]?=some v;simp
def Ui (b:Expr):Prop:=∀o i,subscripted b false o i=operate [o,i] (getItem o i)
structure MN (X:Cx) (r:R2):Prop where
 mk ::
 go :
 ∀(value slice:Expr) (pins:List (Addr×Obj)) (s:Shared) (σ:St) (H:Hp) (x y:V) (v u:Value) (Q:VK),Inv X pins σ H s->RelV x v->RelV y u->r x y H Q ->
  subscripted slice false v u=operate [v,u] (getItem v u)->wpAny (model X.prog X.w) X.A (subscriptTail value slice v u) (EP X pins σ Q) X.xe s
instance {X:Cx} {r:R2}:CoeFun (MN X r) (fun _=>
 ∀(value slice:Expr) (pins:List (Addr×Obj)) (s:Shared) (σ:St) (H:Hp) (x y:V) (v u:Value) (Q:VK),Inv X pins σ H s->RelV x v->RelV y u->r x y H Q ->
  subscripted slice false v u=operate [v,u] (getItem v u)->wpAny (model X.prog X.w) X.A (subscriptTail value slice v u) (EP X pins σ Q) X.xe s):=⟨MN.go⟩
def YH (X:Cx) (id:String) (r:V->List V->Hp->VK->Prop):Prop:=
 ∀(pins:List (Addr×Obj)) (s:Shared) (σ:St) (H:Hp) (x:V) (xs:List V) (v:Value) (us:List Value) (Q:VK),Inv X pins σ H s->RelV x v->Vals xs us->r x xs H Q ->
  wpAny (model X.prog X.w) X.A (call (.builtin id) (v::us)) (EP X pins σ Q) X.xe s
section
variable {X:Cx} {a b:Expr} {ta tb:TE} {pos:Pos}
theorem MN.or {r r':R2} (h:MN X r) (h':MN X r'):MN X (fun x y H Q=>r x y H Q\/r' x y H Q):=by
 refine .mk ?_;intro value slice pins s σ H x y v u Q I rx ry q hs;rcases q with q | q
 ·exact h value slice pins s σ H x y v u Q I rx ry q hs
 ·exact h' value slice pins s σ H x y v u Q I rx ry q hs
theorem bz {r:R2} (hr:MN X r) (ha:PE X a ta) (hb:PE X b tb) (hs:Ui b):PE X (.Subscript a b pos) (RB r ta tb):=by
 refine .mk ?_;intro pins s σ H Q I h;exact Subscript_ (X3 ha hb I h fun v u s2 x y H2 I2 rx ry q=>hr a b pins s2 σ H2 x y v u Q I2 rx ry q (hs _ _))
def acD (K:PySem.W.Frag):R2:=fun x y H Q=>∃p xs i v,x=.ref p/\y=.int i/\b_ K H p xs/\yH xs i=some v/\Q v H
def acC (K:PySem.W.Frag):R2:=fun x y H Q=>∃p xs i v,x=.ref p/\y=.int i/\e_ K H p xs/\yH xs i=some v/\Q v H
def Z4:R2:=fun x y H Q=>∃z i c,x=.str z/\y=.int i/\z.length<=sizeLine/\yH z.cps.toList i=some c/\Q (.str ⟨#[c]⟩) H
theorem JF:MN X (acD X.K):=by
 refine .mk ?_;intro value slice pins s σ H x y v u Q I rx ry h hs;obtain⟨p,xs,i,z,rfl,rfl,hq,he,q⟩:=h;cases rx;obtain⟨t,rfl⟩:=ry;obtain⟨its,r,pl,hz⟩:=I.list hq;obtain⟨j,h1,h2,h3,h4,h5⟩:=CG he;obtain⟨w,ew,Dq⟩:=r.get h2;have hl:=r.length;have hn:=qg;have fin:EP X pins σ Q w s:=⟨z,H,I,Dq,q⟩;by_cases h0:0<=i
 ·have hj:i.toNat=j:=by
   rw[seqIndex_of h0 h5] at h1;exact Option.some.inj h1
  exact item_listR pl.isList h0 (by omega) (by rw[hj]; simpa using ew) fin hs
 ·have hj:(i+(its.toArray.size:Int)).toNat=j:=by
   rw[seqIndex_neg (by omega) h4] at h1
   rw[eU,<- hl];exact Option.some.inj h1
  exact subscriptTail_builtinR (x:=w) pl.isList.typeIs slot_list_getitem.lookup
   (wpAny_getItem_list_neg (Q:=fun r s'=>r=w/\EP X pins σ Q r s') pl.isList (by omega) (by rw[eU] <;> omega) (by omega) (by rw[hj]; simpa using ew) ⟨rfl,fin⟩) hs
theorem Xl:MN X (acC X.K):=by
 refine .mk ?_;intro value slice pins s σ H x y v u Q I rx ry h hs;obtain⟨p,xs,i,z,rfl,rfl,hq,he,q⟩:=h;cases rx;obtain⟨t,rfl⟩:=ry;obtain⟨its,r,pl,hz⟩:=I.tuple hq;obtain⟨j,h1,h2,h3,h4,h5⟩:=CG he;obtain⟨w,ew,Dq⟩:=r.get h2;have hl:=r.length;have hn:=qg;have fin:EP X pins σ Q w s:=⟨z,H,I,Dq,q⟩;exact subscriptTail_builtinR (x:=w) pl.typeIs slot_tuple_getitem.lookup
  (getItem_tuple (j:=j) (Q:=fun r s'=>r=w/\EP X pins σ Q r s') pl (by omega) (by omega) (by rw[eU,<- hl]; exact h1) (by simpa using ew) ⟨rfl,fin⟩) hs
theorem Hq:MN X Z4:=by
 refine .mk ?_;intro value slice pins s σ H x y v u Q I rx ry h hs;obtain⟨z,i,c,rfl,rfl,hz,he,q⟩:=h;obtain⟨t,rfl⟩:=rx;obtain⟨t',rfl⟩:=ry;obtain⟨j,h1,h2,h3,h4,h5⟩:=CG he;have hl:z.cps.toList.length=z.length:=by simp[Str.length]
 rw[hl] at h1 h4 h5;have hn:=qg
 exact tail_any (typeIs_str s z t) slot_str_getitem.lookup (getItem_str (c:=c) (by
  have e1:decide (i < -(2 ^ 63:Int))=false:=mH (by omega)
  have e2:decide (i≥2 ^ 63)=false:=mH (by omega)
  rw[e1,e2,Bool.or_false]) (by rw[h1]; simpa using h2) ⟨.str ⟨#[c]⟩,H,I.tok _,⟨_,rfl⟩,q⟩) hs
theorem Hj (its:List Value) (n j:Nat) (u:Value):Obj.mapSeq (·.setIfInBounds j u) { cls:=.type "list",data:=.seq its.toArray n }={ cls:=.type "list",data:=.seq (its.set j u).toArray n }:=by
 simp[Obj.mapSeq]
theorem Inv.lst {pins:List (Addr×Obj)} {σ:St} {H:Hp} {s:Shared} {p:Addr} {xs:List V} (I:Inv X pins σ H s) (h:H p=some (.lst xs)) :
  ∃(its:List Value) (n:Nat),Vals xs its/\s.heap.get? p=some { cls:=.type "list",data:=.seq its.toArray n }/\xs.length<=sizeLine:=by
 obtain⟨z,its,n,r,e⟩:=I.hok p _ h;exact⟨its,n,r,e,z⟩
theorem Inv.Xa {pins:List (Addr×Obj)} {σ:St} {H:Hp} {s:Shared} {p:Addr} {xs ys:List V} {its its':List Value} {n n':Nat} {f:Obj->Obj} (I:Inv X pins σ H s) (h:H p=some (.lst xs))
  (ho:s.heap.get? p=some { cls:=.type "list",data:=.seq its.toArray n }) (hf:f { cls:=.type "list",data:=.seq its.toArray n }={ cls:=.type "list",data:=.seq its'.toArray n' }) (r:Vals ys its') (hz:ys.length<=sizeLine) (t:Nat) :
  Inv X pins σ (upd H p (.lst ys)) { s with heap:=s.heap.update p f,toks:=t }:=by
 have e:(s.heap.update p f).get? p=some { cls:=.type "list",data:=.seq its'.toArray n' }:=by
  rw[Jj f ho (by rw[hf] <;> rfl),hf]
 refine I.write (x:=p) (e:=p) (by rw[h]; trivial) (.inl rfl) (fun b u hb q=>(GK _ _ (Ne.symm hb)).trans q) ⟨_,e⟩ ?_
 exact⟨hz,its',n',r,e⟩
def Z0:V->V->V->Hp->(Hp->Prop)->Prop:=fun o i v H Q=>∃p xs k j,o=.ref p/\i=.int k/\H p=some (.lst xs)/\Qf xs.length k=some j/\Q (upd H p (.lst (xs.set j v)))
theorem set_list:Mu X Z0:=by
 refine .mk ?_;intro pins s σ H o i v ov iv u Q I ro ri rv h;obtain⟨p,xs,k,j,rfl,rfl,hp,hj,q⟩:=h;cases ro;obtain⟨t,rfl⟩:=ri;obtain⟨its,n,r,ho,hz⟩:=I.lst hp;obtain⟨h1,h2,h3,h4⟩:=JG hj;have hl:=r.length;have hn:=qg
 have I':Inv X pins σ (upd H p (.lst (xs.set j v))) { s with heap:=s.heap.update p (Obj.mapSeq (·.setIfInBounds j u)) }:=
  I.Xa hp ho (Hj its n j u) (r.set rv j) (by rw[Ku]; exact hz) s.toks
 by_cases h0:0<=k
 ·have hk:k.toNat=j:=by
   rw[seqIndex_of h0 h4] at h1;exact Option.some.inj h1
  exact PySem.W.ki_setAt ho h0 (by omega) (by rw[eU,<- hl]; exact h4) (by rw[hk]; exact⟨_,I',q⟩)
 ·have hk:(k+(its.toArray.size:Int)).toNat=j:=by
   rw[seqIndex_neg (by omega) h3] at h1
   rw[eU,<- hl];exact Option.some.inj h1
  exact PySem.W.ki_setBack ho (by omega) (by rw[eU,<- hl]; exact h3) (by omega) (by rw[hk]; exact⟨_,I',q⟩)
theorem Ay (lo hi:Option Int) (n:Nat):(sliceBounds lo hi none n).1=((HT.gB n 0 lo:Nat):Int)/\(sliceBounds lo hi none n).2.1=((HT.gB n n hi:Nat):Int)/\(sliceBounds lo hi none n).2.2=1:=by
 refine⟨?_,?_,rfl⟩
 ·cases lo with
  | none=>simp[sliceBounds,HT.gB]
  | some i=>
   simp only[sliceBounds,HT.gB,Option.getD_none,show(1:Int)>0 by decide,if_true]
   by_cases h:i<0
   ·simp only[h,if_true] <;> omega
   ·simp only[h,if_false] <;> omega
 ·cases hi with
  | none=>simp[sliceBounds,HT.gB]
  | some i=>
   simp only[sliceBounds,HT.gB,Option.getD_none,show(1:Int)>0 by decide,if_true]
   by_cases h:i<0
   ·simp only[h,if_true] <;> omega
   ·simp only[h,if_false] <;> omega
theorem xR (its:List Value) (lo hi:Option Int):slicePick its.toArray lo hi none=((its.drop (HT.gB its.length 0 lo)).take (HT.gB its.length its.length hi-HT.gB its.length 0 lo)).toArray:=by
 obtain⟨h1,h2,h3⟩:=Ay lo hi its.toArray.size;unfold slicePick;rw[h1,h2,h3];simp only[sliceRange_one,pick_run,eU] <;> rfl
def acz (K:PySem.W.Frag):V->Option Int->Option Int->Hp->VK->Prop:=fun x lo hi H Q=>∃a xs,x=.ref a/\b_ K H a xs/\∀p,H p=none->Q (.ref p) (upd H p (.lst (uR xs lo hi)))
theorem uW:X7 X (acz X.K):=by
 refine .mk ?_;intro pins s σ H x v vl vu lo hi sl Q I rx hs pl pu h;obtain⟨a,xs,rfl,hx,q⟩:=h;cases rx;obtain⟨its,r,ht,hz⟩:=I.list hx;have hlen:=r.length;refine⟨"list",_,slot_list_getitem.lookup,ht.isList.typeIs,?_⟩;refine wpAny_getItem_list_slice ht.isList hs pl pu .none (by simp) ?_ (by rw[eU] <;> omega)
 rw[xR,<- hlen];refine⟨.ref s.heap.objs.size,_,I.laid (t':=s.toks) (o:=.lst (uR xs lo hi)) (fun b ob q=>dW _ q) (bD _) ?_,rfl,q _ (I.hok.fresh (bD _))⟩;exact⟨ik (uv xs lo hi) hz,_,0,(r.drop (HT.gB xs.length 0 lo)).take (HT.gB xs.length xs.length hi-HT.gB xs.length 0 lo),dw _ rfl⟩
def rF:V->Bool
 | .non=>true
 | .bl _=>true
 | .int _=>true
 | .str _=>true
 | _=>false
def Rc:V->V->Bool
 | .non,.non=>true
 | .bl a,.bl b=>a==b
 | .bl a,.int b=>(if a then 1 else 0)==b
 | .int a,.bl b=>a==(if b then 1 else 0)
 | .int a,.int b=>a==b
 | .str a,.str b=>a==b
 | _,_=>false
theorem XF {A:Around} {s:Shared} {y x:V} {u v:Value} (ry:RelV y u) (rx:RelV x v) (fy:rF y=true) (fx:rF x=true):SeqAt.EqAt A s u v (Rc y x):=by
 cases y with
 | non=>
  cases ry;cases x with
  | non=>cases rx; exact SeqAt.EqAt.same _
  | bl b=>cases rx; exact SeqAt.EqAt.none_bool b
  | int b=>obtain⟨t,rfl⟩:=rx; exact SeqAt.EqAt.none_int b t
  | str b=>obtain⟨t,rfl⟩:=rx; exact SeqAt.EqAt.none_str b t
  | _=>exact absurd (show false=true from fx) jE
 | bl a=>
  cases ry;cases x with
  | non=>cases rx; exact SeqAt.EqAt.bool_none a
  | bl b=>cases rx; exact SeqAt.EqAt.bool_bool a b
  | int b=>obtain⟨t,rfl⟩:=rx; exact SeqAt.EqAt.bool_int a b t
  | str b=>obtain⟨t,rfl⟩:=rx; exact SeqAt.EqAt.bool_str a b t
  | _=>exact absurd (show false=true from fx) jE
 | int a=>
  obtain⟨t',rfl⟩:=ry;cases x with
  | non=>cases rx; exact SeqAt.EqAt.int_none a t'
  | bl b=>cases rx; exact SeqAt.EqAt.int_bool a t' b
  | int b=>obtain⟨t,rfl⟩:=rx; exact SeqAt.EqAt.int_int a t' b t
  | str b=>obtain⟨t,rfl⟩:=rx; exact SeqAt.EqAt.int_str a t' b t
  | _=>exact absurd (show false=true from fx) jE
 | str a=>
  obtain⟨t',rfl⟩:=ry;cases x with
  | non=>cases rx; exact SeqAt.EqAt.str_none a t'
  | bl b=>cases rx; exact SeqAt.EqAt.str_bool a t' b
  | int b=>obtain⟨t,rfl⟩:=rx; exact SeqAt.EqAt.str_int a t' b t
  | str b=>obtain⟨t,rfl⟩:=rx; exact SeqAt.EqAt.str_str a t' b t
  | _=>exact absurd (show false=true from fx) jE
 | _=>exact absurd (show false=true from fy) jE
def Hy (x:V) (u:Value):Bool:=match u with
 | .none=>Rc .non x
 | .bool b=>Rc (.bl b) x
 | .int i _=>Rc (.int i) x
 | .str z _=>Rc (.str z) x
 | _=>false
theorem Qw {x y:V} {u:Value} (r:RelV y u) (f:rF y=true):Hy x u=Rc y x:=by
 cases y with
 | non=>cases r; rfl
 | bl b=>cases r; rfl
 | int i=>obtain⟨t,rfl⟩:=r; rfl
 | str z=>obtain⟨t,rfl⟩:=r; rfl
 | _=>exact absurd (show false=true from f) jE
theorem rQ {x:V}:∀{xs:List V} {us:List Value},Vals xs us->xs.all rF=true->us.any (Hy x)=xs.any fun y=>Rc y x
 | _,_,.nil,_=>rfl
 | y::xs,u::us,.cons r t,f=>by
  rw[List.all_cons,xT] at f;rw[GC,GC,Qw r f.1,rQ t f.2]
theorem nM {A:Around} {s:Shared} {x:V} {v:Value} (rx:RelV x v) (fx:rF x=true):∀{xs:List V} {us:List Value},Vals xs us->xs.all rF=true->∀u∈us,SeqAt.EqAt A s u v (Hy x u)
 | _,_,.nil,_=>fun u hu=>by cases hu
 | y::xs,u::us,.cons r t,f=>fun u' hu=>by
  rw[List.all_cons,xT] at f;rcases bF.mp hu with rfl | hu
  ·rw[Qw r f.1]; exact XF r rx f.1 fx
  ·exact nM rx fx t f.2 u' hu
def inV (x:V) (xs:List V):Bool:=xs.any fun y=>Rc y x
def Z7 (K:PySem.W.Frag) (neg:Bool):R2:=fun x y H Q=>∃p xs,y=.ref p/\(b_ K H p xs\/e_ K H p xs)/\rF x=true/\xs.all rF=true/\Q (.bl (if neg then !inV x xs else inV x xs)) H
theorem K9:mL X (compareOp .In) (Z7 X.K false):=by
 refine .mk ?_;intro pins s σ H x y v u Q I rx ry h;obtain⟨p,xs,rfl,hq,fx,fs,q⟩:=h;cases ry;rcases hq with hq | hq
 ·obtain⟨its,r,pl,hz⟩:=I.list hq;refine SeqAt.in_listAt (Hy x) pl.isList (fun w hw=>nM rx fx r fs w (by simpa using hw)) ⟨.bl _,H,I,rfl,?_⟩
  rw[show its.toArray.any (Hy x)=its.any (Hy x) by simp,rQ r fs]
  exact q
 ·obtain⟨its,r,pl,hz⟩:=I.tuple hq;refine SeqAt.in_tupleAt (Hy x) pl (fun w hw=>nM rx fx r fs w (by simpa using hw)) ⟨.bl _,H,I,rfl,?_⟩
  rw[show its.toArray.any (Hy x)=its.any (Hy x) by simp,rQ r fs]
  exact q
theorem Bo:mL X (compareOp .NotIn) (Z7 X.K true):=by
 refine .mk ?_;intro pins s σ H x y v u Q I rx ry h;obtain⟨p,xs,rfl,hq,fx,fs,q⟩:=h;cases ry;rcases hq with hq | hq
 ·obtain⟨its,r,pl,hz⟩:=I.list hq;refine SeqAt.notIn_listAt (Hy x) pl.isList (fun w hw=>nM rx fx r fs w (by simpa using hw)) ⟨.bl _,H,I,rfl,?_⟩
  rw[show its.toArray.any (Hy x)=its.any (Hy x) by simp,rQ r fs]
  exact q
 ·obtain⟨its,r,pl,hz⟩:=I.tuple hq;refine SeqAt.notIn_tupleAt (Hy x) pl (fun w hw=>nM rx fx r fs w (by simpa using hw)) ⟨.bl _,H,I,rfl,?_⟩
  rw[show its.toArray.any (Hy x)=its.any (Hy x) by simp,rQ r fs]
  exact q
theorem Cr:cV X (.builtin "len") (fun xs H Q=>∃p ys,xs=[.ref p]/\(b_ X.K H p ys\/e_ X.K H p ys)/\Q (.int ys.length) H):=by
 refine .mk ?_;intro pins s σ H xs us Q I r h;obtain⟨p,ys,rfl,hq,q⟩:=h;obtain⟨u,rfl,rx⟩:=vals1 r;cases rx;have hn:=qg;rcases hq with hq | hq
 ·obtain⟨its,r',pl,hz⟩:=I.list hq;have hlen:=r'.length;exact Calls.call_len_list pl.isList (by simp only[eU] <;> omega) ⟨.int ys.length,H,I.tok _,⟨s.toks+1,by rw[eU,hlen]⟩,q⟩
 ·obtain⟨its,r',pl,hz⟩:=I.tuple hq;have hlen:=r'.length;exact len_tuple pl (by simp only[eU] <;> omega) ⟨.int ys.length,H,I.tok _,⟨s.toks+1,by rw[eU,hlen]⟩,q⟩
theorem rM:cV X (.builtin "len") (fun xs H Q=>∃z,xs=[.str z]/\z.length<=sizeLine/\Q (.int z.length) H):=by
 refine .mk ?_;intro pins s σ H xs us Q I r h;obtain⟨z,rfl,hz,q⟩:=h;obtain⟨u,rfl,t,rfl⟩:=vals1 r;have hn:=qg;exact len_str (by omega) ⟨.int z.length,H,I.tok _,⟨_,rfl⟩,q⟩
theorem rK:cV X (.type "list") (fun xs H Q=>∃p ys,xs=[.ref p]/\(b_ X.K H p ys\/e_ X.K H p ys)/\∀l,H l=none->Q (.ref l) (upd H l (.lst ys))):=by
 refine .mk ?_;intro pins s σ H xs us Q I r h;obtain⟨p,ys,rfl,hq,q⟩:=h;obtain⟨u,rfl,rx⟩:=vals1 r;cases rx;have fin:∀(its:List Value),Vals ys its->ys.length<=sizeLine->∀(h':Heap) (c':Nat),(∀b o',s.heap.get? b=some o'->h'.get? b=some o') ->
   h'.get? s.heap.objs.size=some { cls:=.type "list",dict:=none,data:=.seq its.toArray c',slots:=#[] }->EP X pins σ Q (.ref s.heap.objs.size) { s with heap:=h' }:=fun its r' hz h' c' kp e=>
  ⟨.ref s.heap.objs.size,_,I.laid (t':=s.toks) kp (bD _) (show cF X.prog X.w _ h' _ (.lst ys) from⟨hz,its,c',r',e⟩),rfl,q _ (I.hok.fresh (bD _))⟩
 rcases hq with hq | hq
 ·obtain⟨its,r',pl,hz⟩:=I.list hq;have hlen:=r'.length;obtain⟨o,ho,hc,n,hd⟩:=pl.isList;exact call_list_seq p (.inl rfl) ho hc hd (fun h' c' kp e=>fin its r' hz h' c' kp e) (by simp only[eU] <;> omega)
 ·obtain⟨its,r',pl,hz⟩:=I.tuple hq;have hlen:=r'.length;obtain⟨o,ho,hc,n,hd⟩:=pl;exact call_list_seq p (.inr rfl) ho hc hd (fun h' c' kp e=>fin its r' hz h' c' kp e) (by simp only[eU] <;> omega)
theorem yt:cV X (.type "tuple") (fun xs H Q=>∃p ys,xs=[.ref p]/\((b_ X.K H p ys/\∀l,H l=none->Q (.ref l) (upd H l (.tup ys)))\/(e_ X.K H p ys/\Q (.ref p) H))):=by
 refine .mk ?_;intro pins s σ H xs us Q I r h;obtain⟨p,ys,rfl,h⟩:=h;obtain⟨u,rfl,rx⟩:=vals1 r;cases rx;rcases h with⟨hq,q⟩ | ⟨hq,q⟩
 ·obtain⟨its,r',pl,hz⟩:=I.list hq;have hlen:=r'.length;refine call_tuple_list pl.isList (fun h' kp=>?_) (by simp only[eU] <;> omega)
  have I1:Inv X pins σ H { s with heap:=h' }:=I.kept (t':=s.toks) kp
  have I2:Inv X pins σ (upd H h'.objs.size (.tup ys)) { s with heap:=h'.push { cls:=.type "tuple",data:=.seq its.toArray } }:=
   I1.laid (t':=s.toks) (fun b o e=>dW _ e) (bD _) (show cF X.prog X.w _ _ _ (.tup ys) from⟨hz,its,r',IsTup.new _ _⟩)
  exact⟨.ref h'.objs.size,_,I2,rfl,q _ (I1.hok.fresh (bD _))⟩
 ·obtain⟨its,r',pl,hz⟩:=I.tuple hq;exact call_tuple_same pl ⟨.ref p,H,I,rfl,q⟩
def tyV (K:PySem.W.Frag) (T:String) (x:V) (H:Hp):Prop:=match x with
 | .str _=>T = "str"
 | .int _=>T = "int"
 | .ref p=>(T = "list" /\ ∃xs,b_ K H p xs)\/(T = "tuple" /\ ∃o,K.lookup p=some o/\o.cls=.type "tuple" /\ o.dict=none) \/
   (T = "dict" /\ ((∃kvs,H p=some (.dK kvs))\/∃kvs,H p=some (.dT kvs)))\/(T = "set" /\ ∃S n,H p=some (.set S n))
 | _=>False
theorem Ge {pins:List (Addr×Obj)} {σ:St} {H:Hp} {s:Shared} {T:String} {x:V} {v:Value} (I:Inv X pins σ H s) (r:RelV x v) (ty:tyV X.K T x H) :
  s.TypeIs v T/\∀a,v=.ref a->∃ob,s.heap.get? a=some ob/\ob.dict=none:=by
 cases x with
 | str z=>
  obtain⟨t,rfl⟩:=r;cases(show T = "str" from ty);exact⟨typeIs_str s z t,fun _ e=>nomatch e⟩
 | int i=>
  obtain⟨t,rfl⟩:=r;cases(show T = "int" from ty);exact⟨typeIs_int s i t,fun _ e=>nomatch e⟩
 | ref p=>
  cases r;rcases ty with⟨rfl,xs,hq⟩ | ⟨rfl,o,hk,hc,hd⟩ | ⟨rfl,hk⟩ | ⟨rfl,S,n,hk⟩
  ·obtain⟨its,_,pl,_⟩:=I.list hq;refine⟨pl.isList.typeIs,fun a e=>?_⟩;cases e;obtain⟨o,n,e,c,hd,_⟩:=pl;exact⟨o,e,hd⟩
  ·refine⟨⟨o,I.mU p o hk,hc⟩,fun a e=>?_⟩;cases e;exact⟨o,I.mU _ o hk,hd⟩
  ·have z:∃o,s.heap.get? p=some o/\o.ExactDict:=by
    rcases hk with⟨kvs,hk⟩ | ⟨kvs,hk⟩
    ·obtain⟨_,_,_,_,o,_,_,e,ex,_⟩:=I.hok p _ hk;exact⟨o,e,ex⟩
    ·obtain⟨_,_,_,_,o,_,_,e,ex,_⟩:=I.hok p _ hk;exact⟨o,e,ex⟩
   obtain⟨o,e,ex⟩:=z;refine⟨⟨o,e,ex.1⟩,fun a e2=>?_⟩;cases e2;exact⟨o,e,ex.2.1⟩
  ·obtain⟨o,_,_,_,e,ex,_⟩:=I.hok p _ hk;refine⟨⟨o,e,ex.1⟩,fun a e2=>?_⟩;cases e2;exact⟨o,e,ex.2.1⟩
 | _=>exact False.elim ty
def Zu (K:PySem.W.Frag) (T:String) (r:V->List V->Hp->VK->Prop) (to:TE):TE:=fun σ H Q=>to σ H fun x H1=>tyV K T x H1/\r x [] H1 Q
def tBM (K:PySem.W.Frag) (T:String) (r:V->List V->Hp->VK->Prop) (to:TE) (t:TA):TE:=fun σ H Q=>to σ H fun x H1=>tyV K T x H1/\t σ H1 fun xs H2=>r x xs H2 Q
variable {o e:Expr} {es:List Expr} {to:TE} {t:TA} {name:Str} {apos cpos:Pos} {T id:String} {r:V->List V->Hp->VK->Prop}
theorem wB (pa:PlainAttrs T) (slot:Slot T name id) (hty:typeOf (.builtin id)=pure (.type "method_descriptor")) (hm:YH X id r) (ho:PE X o to)
  (hbase:attributeBase o name X.env (eval o X.env)=eval o X.env:=by rfl) (hline:(apos.endLine==cpos.line)=true:=by rfl):PE X (.Call (.Attribute o name apos) [] [] cpos) (Zu X.K T r to):=by
 refine .mk ?_;intro pins s σ H Q I h;refine wpAny_Call_method0_late hbase hline (cM (ho pins s σ H _ I h) fun v s1 qx=>?_);obtain⟨x,H1,I1,r1,ty,q1⟩:=qx;obtain⟨h1,h2⟩:=Ge I1 r1 ty;exact⟨T,id,pa,slot,hty,h1,h2,Calls.callWith_builtin rfl (PySem.evalArgs_none (hm pins s1 σ H1 x [] v [] Q I1 r1 .nil q1))⟩
theorem aad (pa:PlainAttrs T) (slot:Slot T name id) (hty:typeOf (.builtin id)=pure (.type "method_descriptor")) (hm:YH X id r) (ho:PE X o to) (ha:PA X (e::es) t)
  (hbase:attributeBase o name X.env (eval o X.env)=eval o X.env:=by rfl)
  (hfew:((backTo cpos (starEach (e::es) X.env)).all (fun x=>!x.1)&&(backToKw cpos (keywordEach [] X.env)).all (fun x=>x.1.isSome)
   && decide ((e::es).length+([]:List Keyword).length+(if([]:List Keyword).isEmpty then 0 else 1)<30))=true:=by rfl)
  (hline:(apos.endLine==cpos.line)=true:=by rfl) (hs:starEach (e::es) X.env=(false,eval e X.env)::starEach es X.env:=by rfl) (hplain:(backTo cpos (starEach es X.env)).any (·.1)=false:=by rfl) :
  PE X (.Call (.Attribute o name apos) (e::es) [] cpos) (tBM X.K T r to t):=by
 refine .mk ?_;intro pins s σ H Q I h;refine wpAny_Call_method_late hbase hfew hline rfl (cM (ho pins s σ H _ I h) fun v s1 qx=>?_);obtain⟨x,H1,I1,r1,ty,q1⟩:=qx;obtain⟨h1,h2⟩:=Ge I1 r1 ty;refine⟨T,id,pa,slot,hty,h1,h2,?_⟩;have hA:=ha cpos pins s1 σ H1 _ I1 q1;rw[hs] at hA ⊢;refine Calls.callWith_builtin (by show(false || (backTo cpos (starEach es X.env)).any (·.1))=false; rw[hplain] <;> rfl) (Calls.evalArgs_plain ?_)
 exact cM hA fun us s2 ⟨vs,H2,I2,r2,q2⟩=>hm pins s2 σ H2 x vs v us Q I2 r1 r2 q2
end
def MtM (X:Cx) (id:String) (r:V->List V->Hp->VK->Prop):Prop:=
 ∀(pins:List (Addr×Obj)) (s:Shared) (σ:St) (H:Hp) (x:V) (xs:List V) (v:Value) (us:List Value) (Q:VK),Inv X pins σ H s->RelV x v->Vals xs us->r x xs H Q ->
  wpAny (model X.prog X.w) X.A (call (.builtin id) (v::us)) (EP X pins σ Q) X.xe s
theorem Vals.un {x:V} {xs:List V} {us:List Value} (h:Vals (x::xs) us):∃u r,us=u::r/\RelV x u/\Vals xs r:=by
 cases h with
 | cons r t=>exact⟨_,_,rfl,r,t⟩
theorem Vals.no {us:List Value} (h:Vals [] us):us=[]:=by
 cases h;rfl
theorem Vals.one {x:V} {us:List Value} (h:Vals [x] us):∃u,us=[u]/\RelV x u:=by
 obtain⟨u,r,rfl,h1,h⟩:=h.un;cases h.no;exact⟨u,rfl,h1⟩
theorem Vals.two {x y:V} {us:List Value} (h:Vals [x,y] us):∃u v,us=[u,v]/\RelV x u/\RelV y v:=by
 obtain⟨u,r,rfl,h1,h⟩:=h.un;obtain⟨v,rfl,h2⟩:=h.one;exact⟨u,v,rfl,h1,h2⟩
theorem Vals.zero:∀{us:List Value},Vals [] us->us=[]
 | _,.nil=>rfl
theorem Vals.reverse {xs:List V} {us:List Value} (h:Vals xs us):Vals xs.reverse us.reverse:=by
 induction h with
 | nil=>exact .nil
 | cons r t ih=>rw[List.reverse_cons,List.reverse_cons]; exact Vals.append ih (.cons r .nil)
theorem Vals.rep {xs:List V} {us:List Value} (h:Vals xs us):∀k:Nat,Vals (List.replicate k xs).flatten (List.replicate k us).flatten
 | 0=>.nil
 | k+1=>by
  rw[Kz,Kz,Jg,Jg];exact Vals.append h (Vals.rep h k)
theorem foldl_rep (its:List Value):∀(k:Nat) (acc:List Value),
  List.foldl (fun x1 x2=>x1++x2) acc.toArray (List.replicate k its.toArray)=(acc++(List.replicate k its).flatten).toArray
 | 0,acc=>by simp
 | k+1,acc=>by
  have e:acc.toArray++its.toArray=(acc++its).toArray:=by simp
  have e2:(acc++its)++(List.replicate k its).flatten=acc++(List.replicate (k+1) its).flatten:=by
   rw[Kz,Jg,Dw]
  rw[<- e2,<- foldl_rep its k (acc++its),<- e,Kz,List.foldl_cons]
section
variable {X:Cx} {pins:List (Addr×Obj)} {σ:St} {H:Hp} {s:Shared} {l b:Addr} {xs ys zs:List V}
theorem Inv.Xb {its its':List Value} {n:Nat} {f:Array Value->Array Value} {t':Nat} (I:Inv X pins σ H s) (hH:H l=some (.lst xs))
  (e:s.heap.get? l=some { cls:=.type "list",data:=.seq its.toArray n }) (hf:f its.toArray=its'.toArray) (hv:Vals ys its') (hz:ys.length<=sizeLine) :
  Inv X pins σ (upd H l (.lst ys)) { s with heap:=s.heap.update l (Obj.mapSeq f),toks:=t' }:=by
 have q:=PySem.IsL.update e f;rw[hf] at q;refine I.write (x:=l) (e:=l) (by rw[hH]; exact trivial) (.inl rfl) (fun b' u hb hu=>(GK s.heap (Obj.mapSeq f) (Ne.symm hb)).trans hu) ⟨_,q⟩ ?_
 exact⟨hz,its',_,hv,q⟩
theorem Inv.Xd {its:List Value} {t':Nat} (I:Inv X pins σ H s) (hv:Vals ys its) (hz:ys.length<=sizeLine) :
  Inv X pins σ (upd H s.heap.objs.size (.lst ys)) { s with heap:=s.heap.push { cls:=.type "list",data:=.seq its.toArray },toks:=t' }:=
 I.laid (fun _ _ q=>dW _ q) (bD _) ⟨hz,its,0,hv,dw _ rfl⟩
theorem Inv.fresh (I:Inv X pins σ H s):H s.heap.objs.size=none:=I.hok.fresh (bD _)
theorem Inv.Lj (I:Inv X pins σ H s) (hH:H l=some (.lst xs)):xs.length<=sizeLine/\∃(its:List Value) (n:Nat),Vals xs its/\xs.length=its.length/\s.heap.get? l=some { cls:=.type "list",data:=.seq its.toArray n }:=by
 obtain⟨z,its,n,r,e⟩:=I.hok l _ hH;exact⟨z,its,n,r,r.length,e⟩
theorem Px {n:Nat} (h:n<=sizeLine):Builtin.List.listTooLong n=false:=by
 unfold Builtin.List.listTooLong;exact mH (by omega)
end
section
variable {X:Cx}
def R0:V->List V->Hp->VK->Prop:=fun x vs H Q=>∃l xs y,x=.ref l/\vs=[y]/\H l=some (.lst xs)/\xs.length<sizeLine/\Q .non (upd H l (.lst (xs++[y])))
theorem cI:MtM X "list.append" R0:=by
 intro pins s σ H x vs v us Q I rx rv h;obtain⟨l,xs,y,rfl,rfl,hH,hz,q⟩:=h;cases rx;obtain⟨u,rfl,ru⟩:=rv.one;obtain⟨z,its,n,r,hl,e⟩:=I.Lj hH;refine call_meets F.slot_list_append ⟨_,e,rfl⟩ F.entry_list_append (F.args_list_append_2 _ _) (PySem.list_append l its.toArray n u (by rw[eU]; omega)) ⟨e,?_⟩
 refine⟨.non,_,I.Xb (its':=its++[u]) hH e (by simp) (r.append (.cons ru .nil)) ?_,rfl,q⟩
 rw[cB,List.length_singleton];omega
def Ov:V->List V->Hp->VK->Prop:=fun x vs H Q=>∃l xs,x=.ref l/\vs=[]/\H l=some (.lst xs)/\Q .non (upd H l (.lst xs.reverse))
theorem jq:MtM X "list.reverse" Ov:=by
 intro pins s σ H x vs v us Q I rx rv h;obtain⟨l,xs,rfl,rfl,hH,q⟩:=h;cases rx;have hus:=rv.zero;subst hus;obtain⟨z,its,n,r,hl,e⟩:=I.Lj hH;refine call_meets F.slot_list_reverse ⟨_,e,rfl⟩ F.entry_list_reverse (F.args_list_reverse_1 _) (AutoSeq1.list_reverse_list_0 l its.toArray n (by rw[eU]; omega)) ⟨e,?_⟩
 refine⟨.non,_,I.Xb (its':=its.reverse) hH e (by simp) r.reverse ?_,rfl,q⟩
 rw[List.length_reverse];omega
def Kq:R2:=fun x y H Q=>∃l b xs zs,x=.ref l/\y=.ref b/\H l=some (.lst xs)/\H b=some (.lst zs)/\xs.length+zs.length<=sizeLine/\∀p,H p=none->Q (.ref p) (upd H p (.lst (xs++zs)))
theorem GZ:mL X (binaryOp .Add) Kq:=by
 refine .mk ?_;intro pins s σ H x y v u Q I rx ry h;obtain⟨l,b,xs,zs,rfl,rfl,hH,hB,hz,q⟩:=h;cases rx;cases ry;obtain⟨z,its,n,r,hl,e⟩:=I.Lj hH;obtain⟨z2,its2,n2,r2,hl2,e2⟩:=I.Lj hB;refine PySem.P.add_list e e2 ?_ (by rw[eU,eU]; omega)
 have ea:its.toArray++its2.toArray=(its++its2).toArray:=by simp
 rw[ea];exact⟨.ref _,_,I.Xd (t':=s.toks) (r.append r2) (by rw[cB]; omega),rfl,q _ I.fresh⟩
def acA:R2:=fun x y H Q=>∃l k xs,x=.ref l/\y=.int k/\H l=some (.lst xs)/\-(2 ^ 63)<=k/\k<2 ^ 63/\xs.length*k.toNat<=sizeLine /\
 ∀p,H p=none->Q (.ref p) (upd H p (.lst (List.replicate k.toNat xs).flatten))
theorem len_rep {α:Type} (xs:List α) (k:Nat):(List.replicate k xs).flatten.length=k*xs.length:=by
 induction k with
 | zero=>simp
 | succ k ih=>rw[Kz,Jg,cB,ih,Nat.succ_mul,Nat.add_comm]
theorem WL:mL X (binaryOp .Mult) acA:=by
 refine .mk ?_;intro pins s σ H x y v u Q I rx ry h;obtain⟨l,k,xs,rfl,rfl,hH,h1,h2,hz,q⟩:=h;cases rx;obtain⟨t,rfl⟩:=ry;obtain⟨z,its,n,r,hl,e⟩:=I.Lj hH;have hlen:its.toArray.size*k.toNat<=sizeLine:=by rw[eU,<- hl]; exact hz
 have ada:¬its.toArray.size*k.toNat>(2 ^ 63-1) / 8:=by
  have:(sizeLine:Nat)<=(2 ^ 63-1) / 8:=by decide
  omega
 have hfit:¬(!Builtin.List.listFitsIndex k)=true:=by
  rw[fitsIndex_both h1 h2];exact jE
 have aaD:¬Builtin.List.listTooLong (its.toArray.size*k.toNat)=true:=by
  rw[Px hlen];exact jE
 have hnew:List.foldl (fun x1 x2=>x1++x2) #[] (List.replicate (if its.toArray.isEmpty=true then 0 else k.toNat) its.toArray)=(List.replicate k.toNat its).flatten.toArray:=by
  have f0:∀m:Nat,List.foldl (fun x1 x2=>x1++x2) #[] (List.replicate m its.toArray)=(List.replicate m its).flatten.toArray:=fun m=>by
   have:=foldl_rep its m [];rw[Kv] at this;exact this
  rw[f0];cases its with
  | nil=>simp
  | cons a r'=>rw[aX (by simp)]
 refine wpAny_binaryOp_repeat_ref (T:="list") (U:="int") (by decide) ⟨_,e,rfl⟩ (fun s'=>typeIs_int s' k t) noFill_list_mul F.fills_int_mul F.slot_int_rmul repeat_list F.slot_int_index.lookup
  (call_meets F.slot_int_rmul (typeIs_int s k t) F.entry_int_rmul (F.args_int_rmul_2 _ _) (int___rmul___int_list k t l its.toArray n)
   ⟨e,rfl,⟨_,e,rfl⟩,call_meets F.slot_list_mul ⟨_,e,rfl⟩ F.entry_list_mul (F.args_list_mul_2 _ _) (AutoListH.list___mul___list_int_3 l its.toArray n k t hfit ada aaD) ⟨e,?_⟩⟩)
 rw[hnew];exact⟨.ref _,_,I.Xd (t':=s.toks) (r.rep k.toNat) (by rw[len_rep,Nat.mul_comm]; exact hz),rfl,q _ I.fresh⟩
end
section
variable {prog:Program} {w:World} {A:Around} {E:Value->Shared->Prop} {s:Shared}
end
section
variable {X:Cx}
end
end L2
namespace Att
open PySem PySem.W PySem.Calls PyProof.Rows
theorem uO {P:Params} {h:Heap}:∀(ns:List Int) (vs:List Value),WellAll P h vs (ns.map WData.int)->IntsAre vs ns:=by
 intro ns
 induction ns with
 | nil=>
  intro vs w;rw[zq] at w;cases w;exact .nil
 | cons n ns ih=>
  intro vs w;rw[gZ] at w;cases w with
  | cons a b=>
   cases a;exact .cons _ _ (ih _ b)
theorem Km {l:OpenLaw} {n:Nat} (hn:l.most=some n) {P:Params} {h:Heap} {args:List WData} {vals:List Value}
  (hpre:l.row.toRowW.claim.pre args=true) (hwl:WellAll P h vals args) :
  ∃a vs ns,vals=[Value.ref a]/\args=[WData.list (ns.map WData.int)]/\h.get? a=some { cls:=.type "list",data:=.seq vs.toArray }/\IntsAre vs ns/\ns.length<=n:=by
 have hsh:WShape.hasAll [] args [.list .int]=true:=(pre_splitW hpre).1;have hc:l.pre.holds [] { args:=args }=true:=(pre_splitW hpre).2;obtain⟨d,r,rfl,h1,h2⟩:=hasAllW_cons hsh;obtain rfl:=hasAllW_nil h2;obtain⟨xs,rfl,h3⟩:=hasW_list h1;obtain⟨ns,rfl⟩:=items_int h3
 have hlen:ns.length<=n:=by
  unfold OpenLaw.pre at hc
  have h4:(WTm.not (.lt (.lit (.int (n:Int))) (.len (.arg 0)))).holds [] { args:=[.list (ns.map .int)] }=true:=by
   have h4:=(holds_andW hc).1;rw[hn] at h4;exact h4
  have h5:=condW_of h4 (w_not (w_lt w_lit (w_len_list (w_arg rfl))));rw[b7] at h5;refine Nat.le_of_not_lt fun q=>?_;have q':(n:Int)<((ns.length:Nat):Int):=by omega
  first
   | (rw[j0 q'] at h5; exact absurd h5 (by decide))
   | (simp at h5; omega)
 cases hwl with
 | cons w1 w2=>
  cases w2;cases w1 with
  | list ho hall=>exact⟨_,_,ns,rfl,rfl,ho,uO ns _ hall,hlen⟩
theorem KN (l:OpenLaw) (args:List WData):l.row.toRowW.claim.post args (.bool true) args=true:=
 postW_of (r:=l.row.toRowW) (X:=(true==true))
  (show WShape.has [] (.bool true) .bool=true by first | rfl | decide | simp[WShape.has,WShape.arms,WShape.armsAll])
  (show(WTm.eq .res (.lit (.bool true))).value [] { args:=args,res:=some (.bool true),after:=args }=some (.bool (true==true)) from w_eq_bool (w_res rfl) w_lit) rfl
theorem Fp {l:OpenLaw} {n:Nat} {q:Program} {loose:List Str} {XP:(Str->Option Value)->Heap->Prop} {YP:World->Heap->Prop} {d:DefRec}
  (hn:l.most=some n) (hdf:d.params.defaults=[])
  (call:∀(w:World) (s₀ s₁:Shared) (mg mb:Str->Option Value) (fa:Addr) (o:Obj) (pm cd doc:Value) (a:Addr) (vs:List Value) (ns:List Int),
   Ground q loose [] XP w s₀ mg mb s₁.heap->YP w s₁.heap ->
   s₁.heap.get? fa=some o->o.data=.func (docDef d.name d.params d.body d.scope pm cd doc)->s₁.heap.CodeRec cd d.name->mg d.name=some (.ref fa) ->
   s₁.heap.get? a=some { cls:=.type "list",data:=.seq vs.toArray }->IntsAre vs ns->ns.length<=n->s₁.gens = #[] ->
   codeAny (model l.prog w) callerA (.call (.ref fa) ⟨[.ref a],[]⟩) (fun r s'=>r=.ok (.ret (.bool true))/\OldK s₁.heap s'.heap/\s'.os=s₁.os/\AllBare s'.gens) s₁) :
  WalkO q loose XP YP l.row.toRowW d [] (fun f vs=>PySem.call f vs):=by
 intro w s₀ s₁ mg mb G Y fa o pm cd doc dV kV ho hd hcd hD hmg hg args vals as hpre hlay hrd hwl hlo;obtain rfl:dV=.none:=Dflts.none hD hdf;obtain rfl:kV=.none:=Dflts.noKw hD;obtain⟨a,vs,ns,rfl,rfl,hobj,hints,hlen⟩:=Km hn hpre hwl;refine enter_call (codeAny_mono (call w s₀ s₁ mg mb fa o pm cd doc a vs ns G Y ho (fd_plain hd) hcd hmg hobj hints hlen hg) fun r s' hq=>?_);obtain⟨rfl,h2,h3,h4⟩:=hq;exact⟨.inl ⟨.bool true,.bool true,[],rfl,fun _=>rfl,.bool true,KN l _,fun _=>⟨List.Pairwise.nil,fun _ hm=>(nomatch hm)⟩⟩,h2,h3,h4⟩
section
variable {prog:Program} {w:World} {A:Around} {E:Value->Shared->Prop} {s:Shared} {K:Frag}
def ledger (h:Heap) (L d:Addr):List (Addr×Obj):=(List.range h.objs.size).filterMap fun a=>if a=L\/a=d then none else(h.get? a).map fun o=>(a,o)
end
end Att
namespace L2
open PySem PySem.Spec PyProof.Rows
theorem yM:∀{vs:List Value} {ns:List Int},IntsAre vs ns->Vals (ns.map V.int) vs
 | _,_,.nil=>.nil
 | _,_,.cons n t h=>.cons ⟨t,rfl⟩ (yM h)
def Only (H:Hp):Prop:=∀b,H b=none\/∃o xs,H b=some (.rW o (.lst xs))
theorem P_ {P:Program} {w:World} {K:PySem.W.Frag} {mg mb:Str->Option Value} {CX:J5} {k:Nat} {fa a:Addr} {fd:FuncData} {x:Str} {sp:Sp} {s₁:Shared} {vs:List Value} {ns:List Int}
  (KX:K.In s₁.heap) (hns:s₁.heap.Ns mainGlobals mg) (hb:s₁.heap.Ns builtinsNs mb) (hbb:∀x:Str,x ≠ "__name__" -> mb x=bootBuiltins x) (hlim:s₁.heap.NoLimit) (hg:s₁.gens = #[])
  (ha:s₁.heap.get? a=some { cls:=.type "list",data:=.seq vs.toArray }) (hi:IntsAre vs ns) (hl:ns.length<=sizeLine) (hr:fQ k callerA)
  (F:∀base:Heap,K.In base->base.Ns mainGlobals mg->bJ P w K mg base CX k fa fd [x] sp) (hbind:∀(s:Shared) (u:Value),BindsTo s fd ⟨[u],[]⟩ [(x,u)])
  (hsp:∀H:Hp,Only H->b_ K H a (ns.map V.int)->sp [.ref a] H (fun v _=>v=.bl true) fun _ _ _=>False)
  (hCX:∀H e s',CX [] H s₁ (fun _ _ _=>False) e s'->False) :
  codeAny (model P w) callerA (.call (.ref fa) ⟨[.ref a],[]⟩) (fun r s'=>r=.ok (.ret (.bool true))/\OldK s₁.heap s'.heap/\s'.os=s₁.os/\AllBare s'.gens) s₁:=by
 have rv:=yM hi;have lenV:=hi.length;have core:∀H:Hp,Only H->b_ K H a (ns.map V.int)->n_ P w H s₁.heap->(∀b,H b≠none->b=a)->(H a≠none->K.lookup a=none) ->
   codeAny (model P w) callerA (.call (.ref fa) ⟨[.ref a],[]⟩) (fun r s'=>r=.ok (.ret (.bool true))/\OldK s₁.heap s'.heap/\s'.os=s₁.os/\AllBare s'.gens) s₁:=by
  intro H hO hS hok hA hK;have J4:∀{b:Addr} {o:Obj},s₁.heap.get? b=some o->H b=none->(BW s₁.heap H).get? b=some o:=fun e n=>Ql e n
  have noA:∀{b:Addr} {o:Obj} {es:Array DictEntry} {ep:Nat},s₁.heap.get? b=some o->o.data=.dict es ep->H b=none:=fun {b o es ep} e d=>by
   cases q:H b with
   | none=>rfl
   | some u=>
    have e':b=a:=hA b (by rw[q]; simp)
    subst e';rw[ha] at e; cases e;have d':Data.seq vs.toArray _=Data.dict es ep:=d;cases d'
  have nsK:∀{b:Addr} {m:Str->Option Value},s₁.heap.Ns b m->(BW s₁.heap H).Ns b m:=fun {b m} ⟨o,es,ep,e,d,r⟩=>⟨o,es,ep,J4 e (noA e d),d,r⟩
  have hKb:K.In (BW s₁.heap H):=fun b o e=>J4 (KX b o e) (by
   cases q:H b with
   | none=>rfl
   | some u=>
    have e':b=a:=hA b (by rw[q]; simp)
    subst e'
    rw[hK (by rw[q]; simp)] at e; cases e)
  have hM:Mod K mg (BW s₁.heap H):=⟨hKb,nsK hns,⟨mb,nsK hb,hbb⟩,let ⟨mc,h1,h2⟩:=hlim; ⟨mc,nsK h1,h2⟩⟩;have e0:Ij P w K mg (BW s₁.heap H) callerA [] s₁ H:=⟨rfl,hM,fun b o e=>S5 e,Nat.le_of_eq (Lr _ _),trivial,fun b hb=>absurd (show b∈([]:List Addr) from hb) (by simp),hok,.of_eq hg⟩
  refine codeAny_mono ((F _ hKb (nsK hns)).run callerA [] s₁ H ⟨[.ref a],[]⟩ [.ref a] [.ref a] _ _ hr e0 (hbind s₁ (.ref a)) (.cons rfl .nil) (hsp H hO hS)) fun r s' h=>?_;cases r with
  | error e=>exact(hCX H e s' h).elim
  | ok fl=>
   cases fl with
   | next=>exact False.elim h
   | brk=>exact False.elim h
   | cont=>exact False.elim h
   | ret u=>
    obtain⟨v,H',os,bare,un,hok',r',q⟩:=h;have q':v=.bl true:=q;subst q';obtain rfl:u=Value.bool true:=r';refine⟨rfl,OldK.of_keep fun b o e=>?_,os,bare⟩;cases q:H b with
    | none=>exact un.keep b o e q (by intro z; exact absurd (show b∈([]:List Addr) from z) (by simp)) (by simp)
    | some u=>
     rcases hO b with z | ⟨ob,xs,z⟩
     ·rw[q] at z; cases z
     ·have z2:=un.xm b ob _ z;obtain⟨e1,_⟩:=hok b _ z;obtain⟨e2,_⟩:=hok' b _ z2;rw[e] at e1; cases e1;exact e2
 cases hk:K.lookup a with
 | some o=>
  have e:=KX a o hk;rw[ha] at e;cases e;refine core (fun _=>none) (fun _=>.inl rfl) (.inr ⟨_,vs.toArray,_,hk,rfl,rfl,rfl,by rw[eU,lenV]; exact hl,by simpa using rv⟩) (fun b u z=>by have z':(none:Option HO)=some u:=z; cases z') (fun b z=>absurd rfl z) fun z=>absurd rfl z
 | none=>
  refine core (fun b=>if b=a then some (.rW { cls:=.type "list",data:=.seq vs.toArray } (.lst (ns.map V.int))) else none) (fun b=>?_) (.inl (.inr ⟨{ cls:=.type "list",data:=.seq vs.toArray },bx rfl⟩)) (fun b u z=>?_) (fun b z=>?_) fun _=>hk
  ·by_cases hb:b=a
   ·exact .inr ⟨_,_,bx hb⟩
   ·exact .inl (aX hb)
  ·by_cases hb:b=a
   ·have z':=(bx hb).symm.trans z;cases z';subst hb;exact⟨ha,by rw[b7]; exact hl,vs,_,rv,ha⟩
   ·have z':=(aX hb).symm.trans z;cases z'
  ·by_cases hb:b=a
   ·exact hb
   ·exact absurd (aX hb) z
abbrev KOf {K:PySem.W.Frag} {h:Heap} (_:K.In h):PySem.W.Frag:=K
theorem Rq {l:PySem.W.OpenLaw} {n k:Nat} {q:Program} {loose:List Str} {XP:(Str->Option Value)->Heap->Prop} {YP:World->Heap->Prop} {d:DefRec} {K:Params->PySem.W.Frag} {CX:World->J5} {sp:World->Sp} {x:Str}
  (hn:l.most=some n) (hn2:n<=sizeLine) (hdf:d.params.defaults=[]) (hr:fQ k callerA)
  (hY:∀(w:World) (h:Heap),YP w h->(K w.params).In h)
  (F:∀(w:World) (mg:Str->Option Value) (fa:Addr) (h:Heap),(K w.params).In h->h.Ns mainGlobals mg->mg d.name=some (.ref fa) ->
   ∃fd:FuncData,(∀(s:Shared) (u:Value),BindsTo s fd ⟨[u],[]⟩ [(x,u)]) /\
    ∀base:Heap,(K w.params).In base->base.Ns mainGlobals mg->bJ l.prog w (K w.params) mg base (CX w) k fa fd [x] (sp w))
  (hsp:∀(w:World) (H:Hp) (a:Addr) (ns:List Int),ns.length<=n->Only H->b_ (K w.params) H a (ns.map V.int)->sp w [.ref a] H (fun v _=>v=.bl true) fun _ _ _=>False)
  (hCX:∀(w:World) (H:Hp) (s:Shared) (e:Value) (s':Shared),CX w [] H s (fun _ _ _=>False) e s'->False) :
  PySem.W.WalkO q loose XP YP l.row.toRowW d [] (fun f vs=>PySem.call f vs):=by
 refine Att.Fp hn hdf fun w s₀ s₁ mg mb fa o pm cd doc a vs ns G Y ho hd hcd hmg hobj hints hlen hg=>?_;have KX:=hY w _ Y;obtain⟨fd,hb,hF⟩:=F w mg fa _ KX G.T.g hmg;exact P_ KX G.T.g G.T.b G.T.builtins G.T.nolimit hg hobj hints (ik hlen hn2) hr hF hb (fun H hO hS=>hsp w H a ns hlen hO hS) fun H e s'=>hCX w H s₁ e s'
end L2
namespace L2
open PySem PySem.Spec PyProof.Rows
def inClass (s:Stmt) (j:Nat):Stmt:=match s with
 | .ClassDef _ _ _ body _ _ _ _ _ _ _=>body.getD j (.Pass ⟨0,0,0,0⟩)
 | _=>.Pass ⟨0,0,0,0⟩
def cz (s:Stmt):Arguments:=match s with
 | .FunctionDef _ a _ _ _ _ _ _ _ _=>a
 | _=>{ posonlyargs:=[],args:=[],vararg:=none,kwonlyargs:=[],kw_defaults:=[],kwarg:=none,defaults:=[] }
def bV (s:Stmt):List Stmt:=match s with
 | .FunctionDef _ _ b _ _ _ _ _ _ _=>b
 | _=>[]
def aG (s:Stmt):Scope:=match s with
 | .FunctionDef _ _ _ _ _ _ sc _ _ _=>sc
 | _=>{ kind:=.function,names:=[],isGenerator:=false,isCoroutine:=false }
abbrev gD:J5:=fun _ _ _ _ _ _=>False
abbrev E0:XK:=fun _ _ _=>False
theorem Ec {X:Cx}:Passes gD X E0:=fun _ _ _ _ _ _ _ h=>h.elim
structure iM (K:PySem.W.Frag) (x qual:Str) (st:Stmt) (f:Addr) (fd:FuncData):Prop where
 ex:∃(oc:Value) (od:Option Addr) (kV doc pm:Value) (an:Option Addr) (cdv ct:Value) (osl:Array (Option Value)),
  fd=PySem.W.fnOf x qual (cz st) (bV st) (aG st) .none kV doc pm an cdv ct/\K.lookup f=some ⟨oc,od,.func fd,osl⟩/\PySem.W.codeIn K cdv qual=true
 kp:PySem.W.keepIn K (.ref f)=true
section
variable {P:Program} {w:World} {K:PySem.W.Frag} {mg:Str->Option Value} {base:Heap}
theorem iM.ok {x qual:Str} {st:Stmt} {f:Addr} {fd:FuncData} {N ps:List Str} {k:Nat} {sp:Sp} (F:iM K x qual st f fd) (S:aV N ps (aG st)) (len:∀vs H Q E,sp vs H Q E->vs.length=ps.length)
  (hbody:∀(cdv:Value) (A:Around) (outer:List Env) (s:Shared) (H:Hp) (vs:List V) (Q:VK) (E:XK),fQ k (A.deeper (envOfC qual (aG st) s.heap.objs.size f cdv))->sp vs H Q E ->
   ∃t,Fv (xu gD P w K mg base N qual (aG st) f cdv A outer s H E).Yq (bV st) t/\t { nx:=fun _ H'=>Q .non H',rt:=Q } (start N vs) H):bJ P w K mg base gD (k+1) f fd ps sp:=by
 obtain⟨oc,od,kV,doc,pm,an,cdv,ct,osl,rfl,lk,hcd⟩:=F.ex;refine Vn lk hcd S len fun A outer s H vs Q E hr hsp=>?_;obtain⟨t,h,q⟩:=hbody cdv A outer s H vs Q E hr hsp;exact⟨t,h.Yq,q⟩
theorem iM.binds {x qual:Str} {st:Stmt} {f:Addr} {fd:FuncData} {ps:List Str} (F:iM K x qual st f fd)
  (h:∀(kV doc pm:Value) (an:Option Addr) (cdv ct:Value) (us:List Value),us.length=ps.length->bindArgs (PySem.W.fnOf x qual (cz st) (bV st) (aG st) .none kV doc pm an cdv ct) ⟨us,[]⟩=pure (ps.zip us)):Binds K fd ps []:=by
 obtain⟨oc,od,kV,doc,pm,an,cdv,ct,osl,rfl,lk,hcd⟩:=F.ex;exact .all (h kV doc pm an cdv ct)
theorem Hw {x qual:Str} {st:Stmt} {f:Addr} {oc:Value} {od an:Option Addr} {osl:Array (Option Value)} {kV doc pm cdv ct:Value} (l:K.lookup f=some ⟨oc,od,.func (PySem.W.fnOf x qual (cz st) (bV st) (aG st) .none kV doc pm an cdv ct),osl⟩)
  (c:PySem.W.codeIn K cdv qual=true) (k:PySem.W.keepIn K (.ref f)=true):iM K x qual st f (PySem.W.fnOf x qual (cz st) (bV st) (aG st) .none kV doc pm an cdv ct):=⟨⟨oc,od,kV,doc,pm,an,cdv,ct,osl,rfl,l,c⟩,k⟩
end
theorem aP {n:Nat} (h:n<=1000):n<sizeLine:=Nat.lt_of_le_of_lt h (by decide)
section
variable {X:Cx}
theorem pv (i:Nat) {x:Str} {pos:Pos} (hN:X.N[i]?=some x:=by rfl) (hv:Vis X.env.scope x:=by first | exact Or.inl rfl | exact Or.inr (Or.inl rfl) | exact Or.inr (Or.inr rfl)) (hd:(x==("__debug__" : Str))=false:=by decide)
  (hcd:(x==("__classdict__" : Str))=false:=by decide):PE X (.Name x pos) (mD i):=Wx hN hv hd hcd
end
theorem aaz {c A B:Prop} [Decidable c] (h1:c->A) (h2:¬c->B):if c then A else B:=by
 by_cases h:c
 ·rw[bx h];exact h1 h
 ·rw[aX h];exact h2 h
def aM (H H':Hp):Prop:=∀b o,H b=some o->H' b=some o
theorem aM.refl (H:Hp):aM H H:=fun _ _ h=>h
theorem aM.trans {H H1 H2:Hp} (a:aM H H1) (b:aM H1 H2):aM H H2:=fun c o h=>b c o (a c o h)
section
variable {κ:Type} [DecidableEq κ]
def qD (kvs:List (κ×V)) (k:κ):Option V:=(kvs.find? fun kv=>decide (kv.1=k)).map (·.2)
def putK (kvs:List (κ×V)) (k:κ) (v:V):List (κ×V):=
 if(kvs.any fun kv=>decide (kv.1=k))=true then kvs.map (fun kv=>if kv.1=k then(kv.1,v) else kv) else kvs++[(k,v)]
theorem qC {p:κ×V} {r:List (κ×V)} {k:κ} (e:p.1=k):qD (p::r) k=some p.2:=by simp[qD,Ks,e]
theorem vh {p:κ×V} {r:List (κ×V)} {k:κ} (e:¬p.1=k):qD (p::r) k=qD r k:=by simp[qD,Ks,e]
theorem De (k:κ):∀kvs:List (κ×V),(kvs.any fun kv=>decide (kv.1=k))=(qD kvs k).isSome
 | []=>rfl
 | p::r=>by
  rw[GC];by_cases e:p.1=k
  ·simp only[qC e,j0 e,Bool.true_or,Option.isSome_some]
  ·rw[vh e,mH e,Bool.false_or]; exact De k r
theorem iG (kvs:List (κ×V)) (k:κ) (v:V):(putK kvs k v).length<=kvs.length+1:=by
 unfold putK;split
 ·rw[b7]; omega
 ·rw[cB,gw,uD]; omega
theorem oY.Lq {o:Option V} {u:Option Value} (r:oY o u):o.isSome=u.isSome:=by
 cases o with
 | none=>cases u with
  | none=>rfl
  | some _=>exact(show False from r).elim
 | some _=>cases u with
  | none=>exact(show False from r).elim
  | some _=>rfl
theorem KV.val {kvs:List (κ×V)} {vs:List (κ×Value)} (r:KV kvs vs) (k:κ):oY (qD kvs k) (valueAt vs k):=by
 unfold KV at r
 induction r with
 | nil=>exact True.intro
 | @cons p q ps qs h t ih=>
  obtain⟨h1,h2⟩:=h;by_cases e:p.1=k
  ·have e':q.1=k:=h1.symm.trans e;have b:valueAt (q::qs) k=some q.2:=by simp[valueAt,Ks,e']
   rw[qC e,b]; exact h2
  ·have e':¬q.1=k:=fun z=>e (h1.trans z);have b:valueAt (q::qs) k=valueAt qs k:=by simp[valueAt,Ks,e']
   rw[vh e,b]; exact ih
theorem KV.any {kvs:List (κ×V)} {vs:List (κ×Value)} (r:KV kvs vs) (k:κ):(kvs.any fun kv=>decide (kv.1=k))=vs.any fun kv=>decide (kv.1=k):=by
 unfold KV at r
 induction r with
 | nil=>rfl
 | cons h t ih=>rw[GC,GC,ih,h.1]
theorem KV.repl {kvs:List (κ×V)} {vs:List (κ×Value)} (r:KV kvs vs) (k:κ) {y:V} {u:Value} (ry:RelV y u) :
  KV (kvs.map fun kv=>if kv.1=k then(kv.1,y) else kv) (vs.map fun kv=>if kv.1=k then(kv.1,u) else kv):=by
 unfold KV at r ⊢
 induction r with
 | nil=>exact .nil
 | @cons p q ps qs h t ih=>
  rw[gZ,gZ];refine .cons ?_ ih;obtain⟨h1,h2⟩:=h;by_cases e:p.1=k
  ·rw[bx e,bx (h1.symm.trans e)]; exact⟨h1,ry⟩
  ·rw[aX e,aX (fun z=>e (h1.trans z))]; exact⟨h1,h2⟩
theorem KV.put {kvs:List (κ×V)} {vs:List (κ×Value)} (r:KV kvs vs) (k:κ) {y:V} {u:Value} (ry:RelV y u):KV (putK kvs k y) (stored vs k u):=by
 unfold putK stored;rw[r.any k];by_cases e:(vs.any fun kv=>decide (kv.1=k))=true
 ·rw[bx e,bx e]; exact r.repl k ry
 ·rw[aX e,aX e]; exact Paired.snoc r ⟨rfl,ry⟩
theorem KV.length {kvs:List (κ×V)} {vs:List (κ×Value)} (r:KV kvs vs):kvs.length=vs.length:=Paired.length r
end
theorem Es {P:Program} {w:World} {k:Key} {u:Value} (r:RelV (kV k) u):(d9 P w).is k u=true:=by
 cases k with
 | inl i=>obtain⟨t,e⟩:=(show ∃t,u=Value.int i t from r); subst e; exact Er P w i t
 | inr x=>obtain⟨t,e⟩:=(show ∃t,u=Value.str x t from r); subst e; exact Ep P w x t
theorem zR {P:Program} {w:World}:∀{ks:List Key} {us:List Value},Vals (ks.map kV) us->ItemsAre (d9 P w) ks us
 | [],_,r=>by rw[zq] at r; cases r; exact .nil
 | k::ks,_,r=>by
  rw[gZ] at r;cases r with
  | cons h t=>exact .cons (Es h) (zR t)
abbrev KT (H:Hp):List (List Key×V)->List (List Key×Addr×Value)->Prop:=Paired fun p q=>p.1=q.1/\H q.2.1=some (.tup (p.1.map kV))/\RelV p.2 q.2.2
theorem KT.val {H:Hp} {kvs:List (List Key×V)} {xs:List (List Key×Addr×Value)} (r:KT H kvs xs) (k:List Key):oY (qD kvs k) ((atKey xs k).map (·.2)):=by
 induction r with
 | nil=>exact True.intro
 | @cons p q ps qs h t ih=>
  obtain⟨h1,_,h2⟩:=h;by_cases e:p.1=k
  ·have e':q.1=k:=h1.symm.trans e;have b:atKey (q::qs) k=some q.2:=by simp[atKey,Ks,e']
   rw[qC e,b]; exact h2
  ·have e':¬q.1=k:=fun z=>e (h1.trans z);have b:atKey (q::qs) k=atKey qs k:=by simp[atKey,Ks,e']
   rw[vh e,b]; exact ih
theorem KT.repl {H:Hp} {kvs:List (List Key×V)} {xs:List (List Key×Addr×Value)} (r:KT H kvs xs) (k:List Key) {y:V} {u:Value} (ry:RelV y u) :
  KT H (kvs.map fun kv=>if kv.1=k then(kv.1,y) else kv) (xs.map (putAt k u)):=by
 induction r with
 | nil=>exact .nil
 | @cons p q ps qs h t ih=>
  rw[gZ,gZ];refine .cons ?_ ih;obtain⟨h1,h2,h3⟩:=h;unfold putAt;by_cases e:p.1=k
  ·rw[bx e,bx (h1.symm.trans e)]; exact⟨h1,h2,ry⟩
  ·rw[aX e,aX (fun z=>e (h1.trans z))]; exact⟨h1,h2,h3⟩
theorem KT.put {H:Hp} {kvs:List (List Key×V)} {xs:List (List Key×Addr×Value)} (r:KT H kvs xs) (k:List Key) {b:Addr} {y:V} {u:Value} (hb:H b=some (.tup (k.map kV))) (ry:RelV y u) :
  KT H (putK kvs k y) (storedH xs k b u):=by
 have e:(kvs.any fun kv=>decide (kv.1=k))=(atKey xs k).isSome:=by
  rw[De,(r.val k).Lq,Option.isSome_map]
 unfold putK storedH;rw[e];by_cases q:(atKey xs k).isSome=true
 ·rw[bx q,bx q]; exact r.repl k ry
 ·rw[aX q,aX q]; exact Paired.snoc r ⟨rfl,hb,ry⟩
theorem KT.keeps {H H':Hp} {kvs:List (List Key×V)} {xs:List (List Key×Addr×Value)} (r:KT H kvs xs) (ht:∀b ys,H b=some (.tup ys)->H' b=some (.tup ys)):KT H' kvs xs:=
 Paired.W9 r fun _ _ z=>⟨z.1,ht _ _ z.2.1,z.2.2⟩
section
variable {P:Program} {w:World} {H:Hp} {h:Heap} {a:Addr}
theorem Vb {u:HO} (ok:n_ P w H h) (e:Rd H a u):cF P w H h a u:=e.ok ok
theorem Qy {kvs:List (Key×V)} (ok:n_ P w H h) (e:Rd H a (.dK kvs)):kvs.length<=sizeLine/\(a==sysModules)=false/\∃vs,KV kvs vs/\h.DictOf (d9 P w) a vs:=
 show cF P w H h a (.dK kvs) from Vb ok e
theorem JV {kvs:List (Key×V)} (ok:n_ P w H h) (e:H a=some (.dK kvs)):kvs.length<=sizeLine/\(a==sysModules)=false/\∃vs,KV kvs vs/\h.DictOf (d9 P w) a vs:=Qy ok (.inl e)
theorem Ho {ks:List Key} (ok:n_ P w H h) (e:H a=some (.tup (ks.map kV))):(tupleKind (d9 P w)).is h ks a:=by
 obtain⟨_,its,r,o,h1,h2,n,h3⟩:=(show cF P w H h a (.tup (ks.map kV)) from ok a _ e);exact⟨o,its.toArray,n,h1,h2,h3,by simpa using zR r⟩
theorem Qx {kvs:List (List Key×V)} (ok:n_ P w H h) (e:Rd H a (.dT kvs)):kvs.length<=sizeLine/\(a==sysModules)=false /\
  ∃xs,KT H kvs xs/\h.DictOfH (tupleKind (d9 P w)) a xs:=by
 obtain⟨z,y,xs,r,o,es,ep,h1,h2,h3,h4,h5⟩:=(show cF P w H h a (.dT kvs) from Vb ok e);refine⟨z,y,xs,r,o,es,ep,h1,h2,h3,h4,fun x hx=>?_,h5⟩
 have all:∀{l:List (List Key×V)} {m:List (List Key×Addr×Value)},KT H l m->∀x∈m,(tupleKind (d9 P w)).is h x.1 x.2.1:=by
  intro l m q
  induction q with
  | nil=>intro x hx; exact nomatch hx
  | @cons p q ps qs hq t ih=>
   intro x hx;rcases bF.mp hx with e | hx
   ·subst e;exact Ho ok (by rw[<- hq.1]; exact hq.2.1)
   ·exact ih x hx
 exact all r x hx
theorem aaU {kvs:List (List Key×V)} (ok:n_ P w H h) (e:H a=some (.dT kvs)):kvs.length<=sizeLine/\(a==sysModules)=false /\
  ∃xs,KT H kvs xs/\h.DictOfH (tupleKind (d9 P w)) a xs:=Qx ok (.inl e)
end
def mR (H:Hp) (a:Addr) (y:V) (r:Option V):Prop:=
 (∃kvs k,Rd H a (.dK kvs)/\y=kV k/\r=qD kvs k)\/∃kvs k b,Rd H a (.dT kvs)/\y=.ref b/\H b=some (.tup (k.map kV))/\r=qD kvs k
def rR (H:Hp) (a:Addr) (y v:V) (H':Hp):Prop:=
 (∃kvs k,H a=some (.dK kvs)/\y=kV k/\kvs.length<sizeLine/\H'=upd H a (.dK (putK kvs k v))) \/
 ∃kvs k b,H a=some (.dT kvs)/\y=.ref b/\H b=some (.tup (k.map kV))/\kvs.length<sizeLine/\H'=upd H a (.dT (putK kvs k v))
theorem mR.k {H:Hp} {a:Addr} {kvs:List (Key×V)} {k:Key} (e:H a=some (.dK kvs)):mR H a (kV k) (qD kvs k):=.inl ⟨kvs,k,.inl e,rfl,rfl⟩
theorem rR.k {H:Hp} {a:Addr} {kvs:List (Key×V)} {k:Key} {v:V} (e:H a=some (.dK kvs)) (hl:kvs.length<sizeLine):rR H a (kV k) v (upd H a (.dK (putK kvs k v))):=.inl ⟨kvs,k,e,rfl,hl,rfl⟩
section
variable {X:Cx} {pins:List (Addr×Obj)} {σ:St} {H:Hp} {s:Shared} {a:Addr} {y v:V} {u r:Value} {o:Option V} {A:Around} {E:Value->Shared->Prop}
theorem Inv.big (I:Inv X pins σ H s):sysModules<s.heap.objs.size:=by
 have h:mainGlobals<s.heap.objs.size:=(I.mod.glob.keeps I.bk).lt;exact zu (by decide) h
theorem Aa {Q:Value->Shared->Prop} (hu:A.units+1<cLine) (I:Inv X pins σ H s) (g:mR H a y (some v)) (ry:RelV y u) (h:∀w' s',Inv X pins σ H s'->RelV v w'->Q w' s') :
  wpAny (model X.prog X.w) A (getItem (.ref a) u) Q E s:=by
 rcases g with⟨kvs,k,e,ey,l⟩ | ⟨kvs,k,b,e,ey,eb,l⟩
 ·subst ey;obtain⟨z,hd,vs,rel,dd⟩:=Qy I.hok e;obtain⟨w',hw,Dq⟩:=oY.some_of (v:=v) (o:=valueAt vs k) (by rw[l]; exact rel.val k)
  exact wpAny_getItem_of (Es ry) dd.mapOf hw (h w' _ (I.tok _) Dq)
 ·subst ey;cases(show u=Value.ref b from ry);obtain⟨z,hd,xs,rel,dd⟩:=Qx I.hok e;obtain⟨w',hw,Dq⟩:=oY.some_of (v:=v) (o:=(atKey xs k).map (·.2)) (by rw[l]; exact rel.val k)
  obtain⟨p,hp,hp2⟩:=Jm.mp hw;refine wpAny_getItem_heap (tupleKind_room_in1 hu) (Ho I.hok eb) dd hp ?_;rw[hp2];exact h w' _ (I.tok _) Dq
theorem rH {h':Heap} {t':Nat} {ob:HO} (I:Inv X pins σ H s) (mu:Mut (H a)) (hs:Heap.SameBut a s.heap h') (he:∃q,h'.get? a=some q) (new:cF X.prog X.w (upd H a ob) h' a ob) :
  Inv X pins σ (upd H a ob) { s with heap:=h',toks:=t' }:=
 I.write (x:=a) (e:=a) mu (.inl rfl) (fun b q hb z=>(hs.2 b hb).trans z) he new
theorem Hz {P:Program} {w:World} {H':Hp} {h':Heap} {kvs:List (Key×V)} {vs:List (Key×Value)} (z:kvs.length<=sizeLine) (hd:(a==sysModules)=false) (rel:KV kvs vs) (dd:h'.DictOf (d9 P w) a vs) :
  cF P w H' h' a (.dK kvs):=⟨z,hd,vs,rel,dd⟩
theorem z_ {H':Hp} {Q:Unit->Shared->Prop} (hu:A.units+1<cLine) (I:Inv X pins σ H s) (g:rR H a y v H') (ry:RelV y u) (rv:RelV v r) (h:∀s',Inv X pins σ H' s'->Q () s') :
  wpAny (model X.prog X.w) A (setItem (.ref a) u r) Q E s:=by
 rcases g with⟨kvs,k,e,ey,l,eH⟩ | ⟨kvs,k,b,e,ey,eb,l,eH⟩
 ·subst ey eH;obtain⟨z,hd,vs,rel,dd⟩:=JV I.hok e;have hz:vs.length<=sizeLine:=by rw[<- rel.length]; exact z
  have hl:(putK kvs k v).length<=sizeLine:=by have:=iG kvs k v; omega
  refine wpAny_setItem_pairs (hsz:=hz) (Es ry) dd fun h' XN hs=>h _ ?_;have he:∃q,h'.get? a=some q:=let ⟨q,_,_,hq,_⟩:=XN; ⟨q,hq⟩;exact rH I (by rw[e]; exact True.intro) hs he (Hz hl hd (rel.put k rv) XN)
 ·subst ey eH;cases(show u=Value.ref b from ry);obtain⟨z,hd,xs,rel,dd⟩:=aaU I.hok e;have hz:xs.length<=sizeLine:=by rw[<- Paired.length rel]; exact z
  have hl:(putK kvs k v).length<=sizeLine:=by have:=iG kvs k v; omega
  refine wpAny_setItem_heap (hsz:=hz) (tupleKind_room_in1 hu) (Ho I.hok eb) dd fun h' XN hs=>h _ ?_;obtain⟨q,es,ep,hq,h2,h3,h4,_,h5⟩:=XN;refine rH I (by rw[e]; exact True.intro) hs ⟨q,hq⟩ ⟨hl,hd,_,(rel.put k eb rv).keeps fun c ys ec=>?_,q,es,ep,hq,h2,h3,h4,h5⟩
  rw[aL (aap ec e (fun z=>nomatch z))]
  exact ec
end
section
variable {X:Cx} {pins:List (Addr×Obj)} {σ:St} {H:Hp} {s:Shared} {a:Addr} {kvs:List (Key×V)} {k:Key} {u:Value} {A:Around} {E:Value->Shared->Prop}
end
theorem Ey {X:Cx} {pins:List (Addr×Obj)} {σ:St} {H:Hp} {s:Shared} {a:Addr} {y:V} {o:Option V} (I:Inv X pins σ H s) (g:mR H a y o):s.TypeIs (.ref a) "dict" := by
 rcases g with⟨kvs,k,e,_,_⟩ | ⟨kvs,k,b,e,_,_,_⟩
 ·obtain⟨_,_,vs,_,dd⟩:=Qy I.hok e;exact dd.typeIs
 ·obtain⟨_,_,xs,_,dd⟩:=Qx I.hok e;exact dd.typeIs
def U7 (td ty tv:TE) (rd:V->V->Hp->VK->Prop):TS:=fun D σ H=>td σ H fun x H1=>ty σ H1 fun y H2=>∃a v,x=.ref a/\mR H2 a y (some v) /\
 tv σ H2 fun y2 H3=>rd v y2 H3 fun z H4=>∃H5,rR H4 a y z H5/\D.nx σ H5
section
variable {X:Cx} {o i e value:Expr} {pos pos' tpos:Pos} {td ty tv:TE}
theorem R1 {op:Operator} {rd:V->V->Hp->VK->Prop} (hu:X.A.units+1<cLine) (ho:PE X o td) (hi:PE X i ty) (hv:PE X value tv) (hop:abb X op rd)
  (ha:∀ov iv new,augStore i ov iv new=(do holding [new,ov,iv] (setItem ov iv new); release [new,ov,iv] []; pure .next)):PS X (.AugAssign (.Subscript o i tpos) op value pos) (U7 td ty tv rd):=by
 refine .mk ?_;intro pins s σ H D I h;refine wpAny_AugAssign_SubscriptAny (cM (ho pins s σ H _ I h) fun u s1 ⟨x,H1,I1,rx,q1⟩=>cM (hi pins s1 σ H1 _ I1 q1) fun iv s2 ⟨y,H2,I2,ry,a,v,ex,g,q2⟩=>?_) ha;subst ex;obtain rfl:u=Value.ref a:=rx;refine Aa hu I2 g ry fun w' s3 I3 Dq=>cM (hv pins s3 σ H2 _ I3 q2) fun w2 s4 ⟨y2,H3,I4,ry2,q3⟩=>cM (hop pins s4 σ H3 v y2 w' w2 _ I4 Dq ry2 q3) fun w3 s5 qx=>?_;obtain⟨z,H4,I5,rz,H5,g5,q4⟩:=qx;exact z_ hu I5 g5 ry rz fun s6 I6=>⟨σ,H5,I6,q4⟩
end
theorem Ex {P:Program} {w:World} {H:Hp} (h:Heap) (hb:sysModules<h.objs.size):cF P w H (h.push { cls:=.type "dict",data:=.dict #[] }) h.objs.size (.dK []):=
 ⟨gm _,beq_eq_false_iff_ne.mpr (Ne.symm (fJ hb)),[],.nil,Heap.DictOf.new h⟩
section
variable {X:Cx} {pos:Pos}
end
structure M1 (X:Cx) (o:Expr) (m:Str) (apos:Pos) (e:Expr) (cpos:Pos):Prop where
 base:attributeBase o m X.env (eval o X.env)=eval o X.env
 few:((backTo cpos (starEach [e] X.env)).all (fun x=>!x.1)&&(backToKw cpos (keywordEach [] X.env)).all (fun x=>x.1.isSome)
  && decide (([e]:List Expr).length+([]:List Keyword).length+(if([]:List Keyword).isEmpty then 0 else 1)<30))=true
 line:(apos.endLine==cpos.line)=true
 trees:backTo cpos (starEach [e] X.env)=[(false,eval e X.env)]
structure M2 (X:Cx) (o:Expr) (m:Str) (apos:Pos) (e f:Expr) (cpos:Pos):Prop where
 base:attributeBase o m X.env (eval o X.env)=eval o X.env
 few:((backTo cpos (starEach [e,f] X.env)).all (fun x=>!x.1)&&(backToKw cpos (keywordEach [] X.env)).all (fun x=>x.1.isSome)
  && decide (([e,f]:List Expr).length+([]:List Keyword).length+(if([]:List Keyword).isEmpty then 0 else 1)<30))=true
 line:(apos.endLine==cpos.line)=true
 trees:backTo cpos (starEach [e,f] X.env)=[(false,eval e X.env),(false,eval f X.env)]
section
variable {X:Cx} {pins:List (Addr×Obj)} {σ:St} {H:Hp} {s:Shared} {a:Addr} {y d:V} {u r:Value} {o:Option V} {A:Around} {E:Value->Shared->Prop}
end
section
variable {X:Cx} {o e f:Expr} {apos cpos:Pos} {td ty tx:TE}
end
section
variable {X:Cx} {pins:List (Addr×Obj)} {σ:St} {H:Hp} {s:Shared} {a:Addr} {kvs:List (Key×V)} {A:Around} {E:Value->Shared->Prop}
end
section
variable {X:Cx} {pins:List (Addr×Obj)} {σ:St} {H:Hp} {s:Shared} {a:Addr} {y:V} {u:Value} {A:Around} {E:Value->Shared->Prop}
end
end L2
set_option maxHeartbeats 4000000
namespace L2
open PySem PySem.Spec PyProof.Rows
def jy (env:Env) (cs:List (Str×Addr)) (y:Str×NameKind):List (Str×Addr):=
 if y.2==.free then(match env.cells.lookup y.1 with | some c=>(y.1,c)::cs | none=>cs) else cs
def qm (sc:Scope) (env:Env):List (Str×Addr):=sc.names.foldl (jy env) []
theorem E_ {env:Env}:∀(ns:List (Str×NameKind)) (acc:List (Str×Addr)),(∀y c,acc.lookup y=some c->env.cells.lookup y=some c)->∀y c,(ns.foldl (jy env) acc).lookup y=some c->env.cells.lookup y=some c
 | [],acc,h,y,c,e=>h y c e
 | n::ns,acc,h,y,c,e=>by
  refine E_ ns (jy env acc n) (fun z d q=>?_) y c e;unfold jy at q;split at q
  ·split at q
   ·rename_i c' hc';rw[lG] at q;split at q
    ·rename_i hz;have hz':z=n.1:=by simpa using hz
     cases q;rw[hz']; exact hc'
    ·exact h z d q
   ·exact h z d q
  ·exact h z d q
theorem ir {sc:Scope} {env:Env} {y:Str} {c:Addr} (e:(qm sc env).lookup y=some c):env.cells.lookup y=some c:=
 E_ sc.names [] (fun _ _ q=>by simp at q) y c e
theorem J2 {env:Env} {y:Str} {c:Addr} (hc:env.cells.lookup y=some c):∀(ns:List (Str×NameKind)) (acc:List (Str×Addr)),acc.lookup y=some c->(ns.foldl (jy env) acc).lookup y=some c
 | [],acc,h=>h
 | n::ns,acc,h=>by
  refine J2 hc ns (jy env acc n) ?_;unfold jy;split
  ·split
   ·rename_i c' hc';rw[lG];split
    ·rename_i hz;have hz':y=n.1:=by simpa using hz
     rw[<- hz',hc] at hc';exact hc'.symm
    ·exact h
   ·exact h
  ·exact h
theorem HF {env:Env} {y:Str} {c:Addr} (hc:env.cells.lookup y=some c):∀(ns:List (Str×NameKind)) (acc:List (Str×Addr)),(y,NameKind.free)∈ns->(ns.foldl (jy env) acc).lookup y=some c
 | [],_,h=>by simp at h
 | n::ns,acc,h=>by
  rcases bF.mp h with e | h
  ·subst e;refine J2 hc ns _ ?_;unfold jy;simp[hc]
  ·exact HF hc ns _ h
theorem ud {sc:Scope} {env:Env} {x:Str} {k':NameKind} (h:(relabel sc env).names.lookup x=some k'):∃k,(x,k)∈sc.names/\(k'=k\/(k=.free/\k'=.cell)):=by
 have m:=PySem.mem_of_lookup h;unfold relabel at m;obtain⟨⟨n,k⟩,hm,e⟩:=cO.mp m;dsimp only at e;split at e
 ·rename_i hc;injection e with e1 e2
  subst e1;refine⟨k,hm,.inr ⟨?_,e2.symm⟩⟩
  have:(k==NameKind.free)=true:=by
   cases hk:(k==NameKind.free) with
   | true=>rfl
   | false=>rw[hk] at hc; simp at hc
  exact beq_iff_eq.mp this
 ·injection e with e1 e2
  subst e1 e2;exact⟨k,hm,.inl rfl⟩
theorem qO {env:Env} {x:Str} (hf:env.scope.kind=.function) (hk:env.kindOf x=some .cell):∀(ns:List (Str×NameKind)),ns.lookup x=some .free ->
  (ns.map fun(y:Str×NameKind)=>if(y.2==.free&&env.scope.kind==.function&&env.kindOf y.1==some .cell) then(y.1,NameKind.cell) else(y.1,y.2)).lookup x=some .cell
 | [],h=>by simp at h
 | (n,k)::r,h=>by
  have ih:=qO hf hk r;rw[gZ];cases hx:x==n with
  | true=>
   have e:x=n:=by simpa using hx
   subst e;simp only[lG,beq_self_eq_true] at h;cases h;dsimp only;rw[bx (by simp[hf,hk])]
   simp[lG]
  | false=>
   simp only[lG,hx] at h;dsimp only;split
   ·simp only[lG,hx]; exact ih h
   ·simp only[lG,hx]; exact ih h
def Rf (X:Cx) (N':List Str) (sc:Scope) (fp:List Addr) (s:Shared) (H:Hp):Cx where
 prog:=X.prog
 w:=X.w
 K:=X.K
 mg:=X.mg
 base:=X.base
 A:=X.A
 N:=N'
 s₀:=s
 H₀:=H
 env:=compEnvC sc (qm sc X.env) s.heap.objs.size X.env
 outer:=X.stack
 stack:=X.stack
 ex:=fp
 fn:=fun _=>false
 calm:=X.calm
 pn:=[]
 xe:=fun _ _=>False
structure rT (X:Cx) (N':List Str) (js:List Nat) (sc:Scope):Prop where
 kind:sc.kind=.function
 lM:∀y∈sc.names,y.2≠.cell
 names:∀y∈sc.names,y.2=.local->sc.names.lookup y.1=some .local
 clos:closureFor sc X.env=pure (qm sc X.env)
 all:(sc.names.all fun y=>y.2 != .free || (X.env.cells.lookup y.1).isSome)=true
 len:N'.length=js.length+1
 cap:∀(i j:Nat),js[i]?=some j->N'[i+1]?=X.N[j]?
 QH:∀y∈N'.tail,X.env.kindOf y=some .cell/\sc.names.lookup y=some .free
def bQ (js:List Nat) (σ:St):St:=js.map fun j=>(σ[j]?).join
def gG (js:List Nat) (wi:TI) (te:TE):TE:=fun σ H Q=>wi σ H fun J H1=>∀acc,H1 acc=none->∃W:Nat->Nat->List V->Hp->Prop,(∃m,W 0 m [] (upd H1 acc (.lst [])))/\∀i m ys H2,W i m ys H2 ->
 (J.stop i H2/\Q (.ref acc) H2)\/(J.go i H2/\∀x H3,J.Fx i H2 x H3->te (some x::bQ js σ) H3 fun y H4=>H4 acc=some (.lst ys)/\ys.length<sizeLine/\∃m',m'<m/\W (i+1) m' (ys++[y]) (upd H4 acc (.lst (ys++[y]))))
def acV:Key->PyData
 | .inl i=>.int i
 | .inr x=>.str x
mutual
def At (H:Hp):PyData->V->Prop
 | .none,v=>v=.non
 | .bool b,v=>v=.bl b
 | .int i,v=>v=.int i
 | .str x,v=>v=.str x
 | .tuple ds,v=>∃a xs,v=.ref a/\H a=some (.tup xs)/\aj H ds xs
 | .list ds,v=>∃a xs,v=.ref a/\H a=some (.lst xs)/\aj H ds xs
 | .dict kvs,v=>∃a es,v=.ref a/\H a=some (.dK es)/\CW H kvs es
def aj (H:Hp):List PyData->List V->Prop
 | [],xs=>xs=[]
 | d::ds,xs=>∃x r,xs=x::r/\At H d x/\aj H ds r
def CW (H:Hp):List (PyData×PyData)->List (Key×V)->Prop
 | [],es=>es=[]
 | (k,d)::r,es=>∃q v t,es=(q,v)::t/\k=acV q/\At H d v/\CW H r t
end
mutual
theorem At.mono {H H':Hp} (m:aM H H'):∀(d:PyData) (v:V),At H d v->At H' d v
 | .none,_,h=>by unfold At at h ⊢; exact h
 | .bool _,_,h=>by unfold At at h ⊢; exact h
 | .int _,_,h=>by unfold At at h ⊢; exact h
 | .str _,_,h=>by unfold At at h ⊢; exact h
 | .tuple ds,v,h=>by
  unfold At at h ⊢;obtain⟨a,xs,e,h1,h2⟩:=h;exact⟨a,xs,e,m _ _ h1,aj.mono m ds xs h2⟩
 | .list ds,v,h=>by
  unfold At at h ⊢;obtain⟨a,xs,e,h1,h2⟩:=h;exact⟨a,xs,e,m _ _ h1,aj.mono m ds xs h2⟩
 | .dict kvs,v,h=>by
  unfold At at h ⊢;obtain⟨a,es,e,h1,h2⟩:=h;exact⟨a,es,e,m _ _ h1,CW.mono m kvs es h2⟩
theorem aj.mono {H H':Hp} (m:aM H H'):∀(ds:List PyData) (xs:List V),aj H ds xs->aj H' ds xs
 | [],_,h=>by unfold aj at h ⊢; exact h
 | d::ds,xs,h=>by
  unfold aj at h ⊢;obtain⟨x,r,e,h1,h2⟩:=h;exact⟨x,r,e,At.mono m d x h1,aj.mono m ds r h2⟩
theorem CW.mono {H H':Hp} (m:aM H H'):∀(kvs:List (PyData×PyData)) (es:List (Key×V)),CW H kvs es->CW H' kvs es
 | [],_,h=>by unfold CW at h ⊢; exact h
 | (k,d)::r,es,h=>by
  unfold CW at h ⊢;obtain⟨q,v,t,e,e',h1,h2⟩:=h;exact⟨q,v,t,e,e',At.mono m d v h1,CW.mono m r t h2⟩
end
theorem aj.length {H:Hp}:∀{ds:List PyData} {xs:List V},aj H ds xs->xs.length=ds.length
 | [],xs,h=>by unfold aj at h; rw[h]; rfl
 | d::ds,xs,h=>by
  unfold aj at h;obtain⟨x,r,e,_,h2⟩:=h;rw[e,gw,gw,aj.length h2]
theorem aj.get {H:Hp}:∀{ds:List PyData} {xs:List V} {i:Nat} {x:V},aj H ds xs->xs[i]?=some x->∃d,ds[i]?=some d/\At H d x
 | [],xs,i,x,h,e=>by unfold aj at h; rw[h] at e; simp at e
 | d::ds,xs,i,x,h,e=>by
  unfold aj at h;obtain⟨y,r,e1,h1,h2⟩:=h;subst e1;cases i with
  | zero=>simp at e; subst e; exact⟨d,rfl,h1⟩
  | succ i=>
   obtain⟨d',q1,q2⟩:=aj.get (i:=i) (x:=x) h2 (by simpa using e)
   exact⟨d',by simpa using q1,q2⟩
theorem aj.getD {H:Hp}:∀{ds:List PyData} {xs:List V} {i:Nat} {d:PyData},aj H ds xs->ds[i]?=some d->∃x,xs[i]?=some x/\At H d x
 | [],xs,i,d,h,e=>by simp at e
 | d'::ds,xs,i,d,h,e=>by
  unfold aj at h;obtain⟨y,r,e1,h1,h2⟩:=h;subst e1;cases i with
  | zero=>simp at e; subst e; exact⟨y,rfl,h1⟩
  | succ i=>
   obtain⟨x,q1,q2⟩:=aj.getD (i:=i) (d:=d) h2 (by simpa using e)
   exact⟨x,by simpa using q1,q2⟩
theorem aj.append {H:Hp}:∀{ds es:List PyData} {xs ys:List V},aj H ds xs->aj H es ys->aj H (ds++es) (xs++ys)
 | [],es,xs,ys,h,q=>by unfold aj at h; subst h; exact q
 | d::ds,es,xs,ys,h,q=>by
  unfold aj at h;obtain⟨x,r,e,h1,h2⟩:=h;subst e;show aj H (d::(ds++es)) (x::(r++ys));unfold aj;exact⟨x,r++ys,rfl,h1,aj.append h2 q⟩
theorem aj.take {H:Hp}:∀{ds:List PyData} {xs:List V} (n:Nat),aj H ds xs->aj H (ds.take n) (xs.take n)
 | ds,xs,0,h=>by simp[aj]
 | [],xs,n+1,h=>by unfold aj at h; subst h; simp[aj]
 | d::ds,xs,n+1,h=>by
  unfold aj at h;obtain⟨x,r,e,h1,h2⟩:=h;subst e;show aj H (d::ds.take n) (x::r.take n);unfold aj;exact⟨x,_,rfl,h1,aj.take n h2⟩
theorem aj.nil {H:Hp}:aj H [] []:=by unfold aj; rfl
theorem aj.cons {H:Hp} {d:PyData} {ds:List PyData} {x:V} {xs:List V} (h1:At H d x) (h2:aj H ds xs):aj H (d::ds) (x::xs):=by
 unfold aj; exact⟨x,xs,rfl,h1,h2⟩
theorem At.tup {H:Hp} {a:Addr} {xs:List V} {ds:List PyData} (h:H a=some (.tup xs)) (q:aj H ds xs):At H (.tuple ds) (.ref a):=by
 unfold At; exact⟨a,xs,rfl,h,q⟩
theorem At.lst {H:Hp} {a:Addr} {xs:List V} {ds:List PyData} (h:H a=some (.lst xs)) (q:aj H ds xs):At H (.list ds) (.ref a):=by
 unfold At; exact⟨a,xs,rfl,h,q⟩
theorem At.int {H:Hp} (i:Int):At H (.int i) (.int i):=by unfold At; rfl
theorem At.str {H:Hp} (x:Str):At H (.str x) (.str x):=by unfold At; rfl
theorem At.bool {H:Hp} (b:Bool):At H (.bool b) (.bl b):=by unfold At; rfl
theorem aN {H:Hp} {p:Addr} (h:H p=none) (o:HO):aM H (upd H p o):=fun b u q=>by rw[aL (cH q h)]; exact q
def Nk:PyData->String
 | .none=>"NoneType"
 | .bool _=>"bool"
 | .int _=>"int"
 | .str _=>"str"
 | .tuple _=>"tuple"
 | .list _=>"list"
 | .dict _=>"dict"
theorem At.ty {K:PySem.W.Frag} {H:Hp} {d:PyData} {v:V} (h:At H d v):qw K H v (.type (Nk d)):=by
 cases d with
 | none=>unfold At at h; subst h; exact .non
 | bool b=>unfold At at h; subst h; exact .bl b
 | int i=>unfold At at h; subst h; exact .int i
 | str x=>unfold At at h; subst h; exact .str x
 | tuple ds=>unfold At at h; obtain⟨a,xs,e,h1,_⟩:=h; subst e; exact .tup h1
 | list ds=>unfold At at h; obtain⟨a,xs,e,h1,_⟩:=h; subst e; exact .lst h1
 | dict ds=>unfold At at h; obtain⟨a,xs,e,h1,_⟩:=h; subst e; exact .dK h1
def isInt:PyData->Bool
 | .int _=>true
 | .bool _=>true
 | _=>false
def isTup:PyData->Bool
 | .tuple _=>true
 | _=>false
def isBool:PyData->Bool
 | .bool _=>true
 | _=>false
def isStr:PyData->Bool
 | .str _=>true
 | _=>false
theorem Th (K:PySem.W.Frag) (d:PyData):PySem.W.kitOne K (.type (Nk d)) (.type "int")=some (isInt d):=by cases d <;> kernel_rfl
theorem JB (K:PySem.W.Frag) (d:PyData):PySem.W.kitOne K (.type (Nk d)) (.type "tuple")=some (isTup d):=by cases d <;> kernel_rfl
theorem Qd (K:PySem.W.Frag) (d:PyData):PySem.W.kitOne K (.type (Nk d)) (.type "bool")=some (isBool d):=by cases d <;> kernel_rfl
theorem Tg (K:PySem.W.Frag) (d:PyData):PySem.W.kitOne K (.type (Nk d)) (.type "str")=some (isStr d):=by cases d <;> kernel_rfl
section
variable {X:Cx}
def Gz (T:String) (f:PyData->Bool):List V->Hp->VK->Prop:=fun vs H Q=>∃v d,vs=[v,.ty T]/\At H d v/\Q (.bl (f d)) H
theorem wZ {T:String} {f:PyData->Bool} (hf:∀K d,PySem.W.kitOne K (.type (Nk d)) (.type T)=some (f d)):cV X (.builtin "isinstance") (Gz T f):=by
 refine .mk ?_;intro pins s σ H vs us Q I r h;obtain⟨v,d,rfl,hv,q⟩:=h;obtain⟨u,t,rfl,ru,rt⟩:=r.two;cases(show t=Value.type T from rt);exact zT I ru (hv.ty (K:=X.K)) (hf X.K d) fun tk=>⟨.bl (f d),H,I.tok tk,rfl,q⟩
theorem Tn:cV X (.builtin "isinstance") (Gz "int" isInt):=wZ Th
theorem JH:cV X (.builtin "isinstance") (Gz "tuple" isTup):=wZ JB
theorem Qg:cV X (.builtin "isinstance") (Gz "bool" isBool):=wZ Qd
theorem u_:cV X (.builtin "isinstance") (Gz "str" isStr):=wZ Tg
theorem An:∀{bs:List Bool} {us:List Value},Vals (bs.map V.bl) us->us=bs.map Value.bool
 | [],_,.nil=>rfl
 | b::bs,_,.cons r t=>by
  cases(show _=Value.bool b from r);rw[An t]; rfl
theorem range_all (bs:List Bool):(List.range bs.length).all (fun i=>bs.getD i false)=bs.all id:=by
 rw[Kr,j4,j4];constructor
 ·intro h b hb;obtain⟨i,hi,rfl⟩:=List.mem_iff_getElem.mp hb;have:=h i (zH.mpr hi);simpa[jD,hi] using this
 ·intro h i hi;have hi':=zH.mp hi;have:=h bs[i] (oO hi');simpa[jD,hi'] using this
theorem range_any (bs:List Bool):(List.range bs.length).any (fun i=>bs.getD i false)=bs.any id:=by
 rw[Kr,Je,Je];constructor
 ·rintro⟨i,hi,h⟩;have hi':=zH.mp hi;exact⟨bs[i],oO hi',by simpa[jD,hi'] using h⟩
 ·rintro⟨b,hb,h⟩;obtain⟨i,hi,rfl⟩:=List.mem_iff_getElem.mp hb;exact⟨i,zH.mpr hi,by simpa[jD,hi] using h⟩
theorem k_ (hc:X.calm=true):cV X (.builtin "all") (fun vs H Q=>∃(p:Addr) (bs:List Bool),vs=[.ref p]/\H p=some (.lst (bs.map V.bl))/\Q (.bl (bs.all id)) H):=by
 refine .mk ?_;intro pins s σ H vs us Q I r h;obtain⟨p,bs,rfl,hp,q⟩:=h;obtain⟨u,rfl,ru⟩:=r.one;cases ru;obtain⟨z,its,n,rv,e⟩:=I.hok p _ hp;have e2:=An rv;subst e2;have hl:s.heap.IsList p (bs.map Value.bool).toArray:=⟨_,e,rfl,n,rfl⟩;have lt:p<s.heap.objs.size:=cg e;refine call_all_walk (Dz hl ?_);refine⟨_,_,_,_,_,_,fun i=>bs.getD i false,rfl,Walks.list (A:=X.A.in1) (I.ok.hd hc) _ p (fJ lt) _,⟨⟨_,dw _ rfl,rfl,rfl⟩,hl.push _⟩,fun i v s' Q' E' hv hq=>?_,fun h' tk hk=>?_⟩
 ·have hv':(bs.map Value.bool).toArray[i]?=some v:=hv
  have:v=.bool (bs.getD i false):=by
   simp only[List.getElem?_toArray,cT] at hv';cases q:bs[i]? with
   | none=>rw[q] at hv'; simp at hv'
   | some b=>rw[q] at hv'; simp at hv'; simp[jD,q,<- hv']
  rw[this];exact Bd hq
 ·have e3:(List.range (bs.map Value.bool).toArray.size).all (fun i=>bs.getD i false)=bs.all id:=by
   rw[eU,b7]; exact range_all bs
  refine⟨.bl (bs.all id),H,I.kept (t':=tk) (fun b o eb=>?_),by rw[<- e3]; rfl,q⟩
  exact hk b o (by simpa using fJ (cg eb)) (dW _ eb)
theorem Mi (hc:X.calm=true):cV X (.builtin "any") (fun vs H Q=>∃(p:Addr) (bs:List Bool),vs=[.ref p]/\H p=some (.lst (bs.map V.bl))/\Q (.bl (bs.any id)) H):=by
 refine .mk ?_;intro pins s σ H vs us Q I r h;obtain⟨p,bs,rfl,hp,q⟩:=h;obtain⟨u,rfl,ru⟩:=r.one;cases ru;obtain⟨z,its,n,rv,e⟩:=I.hok p _ hp;have e2:=An rv;subst e2;have hl:s.heap.IsList p (bs.map Value.bool).toArray:=⟨_,e,rfl,n,rfl⟩;have lt:p<s.heap.objs.size:=cg e;refine call_any_walk (Dz hl ?_);refine⟨_,_,_,_,_,_,fun i=>bs.getD i false,rfl,Walks.list (A:=X.A.in1) (I.ok.hd hc) _ p (fJ lt) _,⟨⟨_,dw _ rfl,rfl,rfl⟩,hl.push _⟩,fun i v s' Q' E' hv hq=>?_,fun h' tk hk=>?_⟩
 ·have hv':(bs.map Value.bool).toArray[i]?=some v:=hv
  have:v=.bool (bs.getD i false):=by
   simp only[List.getElem?_toArray,cT] at hv';cases q:bs[i]? with
   | none=>rw[q] at hv'; simp at hv'
   | some b=>rw[q] at hv'; simp at hv'; simp[jD,q,<- hv']
  rw[this];exact Bd hq
 ·have e3:(List.range (bs.map Value.bool).toArray.size).any (fun i=>bs.getD i false)=bs.any id:=by
   rw[eU,b7]; exact range_any bs
  refine⟨.bl (bs.any id),H,I.kept (t':=tk) (fun b o eb=>?_),by rw[<- e3]; rfl,q⟩
  exact hk b o (by simpa using fJ (cg eb)) (dW _ eb)
theorem Ea:∀(ns:List Int),preSum (fun i=>ns.getD i 0) ns.length=ns.sum:=by
 have key:∀(ns:List Int) (k:Nat),k<=ns.length->preSum (fun i=>ns.getD i 0) k=(ns.take k).sum:=by
  intro ns k
  induction k with
  | zero=>intro _; rfl
  | succ k ih=>
   intro hk
   have e:ns.take (k+1)=ns.take k++[ns.getD k 0]:=by
    rw[List.take_succ,eF (by omega)]
    simp[jD,eF (show k<ns.length by omega)]
   show preSum _ k+ns.getD k 0=_;rw[ih (by omega),e,List.sum_append]
   simp
 intro ns;rw[key ns ns.length (bD _),pX]
theorem JL {ns:List Int} {its:List Value} (r:Vals (ns.map V.int) its) {i:Nat} {v:Value} (h:its.toArray[i]?=some v):∃t,v=.int (ns.getD i 0) t:=by
 have h':its[i]?=some v:=by simpa using h
 have hi:i<its.length:=(i_.mp h').1;have hl:=r.length;rw[b7] at hl;obtain⟨u,hu,ru⟩:=r.get (i:=i) (x:=V.int (ns[i]'(by omega))) (by rw[cT,eF (by omega)]; rfl)
 rw[h'] at hu;cases hu;obtain⟨t,e⟩:=ru;exact⟨t,by rw[e,jD,eF (by omega)]; rfl⟩
theorem fM (hc:X.calm=true):cV X (.builtin "sum") (fun vs H Q=>∃(p:Addr) (ns:List Int),vs=[.ref p]/\(H p=some (.lst (ns.map V.int))\/H p=some (.tup (ns.map V.int)))/\Q (.int ns.sum) H):=by
 refine .mk ?_;intro pins s σ H vs us Q I r h;obtain⟨p,ns,rfl,hp,q⟩:=h;obtain⟨u,rfl,ru⟩:=r.one;cases ru
 have fin:∀{h':Heap} {tk:Nat} {t':Tok} {o:Obj},(∀b o',b∉[s.heap.objs.size]->(s.heap.push o).get? b=some o'->h'.get? b=some o')->EP X pins σ Q (.int (preSum (fun i=>ns.getD i 0) ns.length) t') { s with heap:=h',toks:=tk }:=fun {h' tk t' o} hk=>
  ⟨.int ns.sum,H,I.kept (t':=tk) (fun b o' eb=>hk b o' (by simpa using fJ (cg eb)) (dW _ eb)),⟨t',by rw[Ea]⟩,q⟩
 rcases hp with hp | hp
 ·obtain⟨z,its,n,rv,e⟩:=I.hok p _ hp;have hl:s.heap.IsList p its.toArray:=⟨_,e,rfl,n,rfl⟩;have lt:p<s.heap.objs.size:=cg e;have hlen:=rv.length;rw[b7] at hlen;refine call_sum_walkG (Dz hl ?_);refine⟨_,_,_,_,_,_,fun i=>ns.getD i 0,rfl,Walks.list (A:=X.A.in1) (I.ok.hd hc) _ p (fJ lt) _,⟨⟨_,dw _ rfl,rfl,rfl⟩,hl.push _⟩,fun b hb=>?_,fun i v hv=>JL rv hv,fun h' tk t' hk=>?_⟩
  ·show b<(s.heap.push _).objs.size;rw[g8];rcases bF.mp hb with rfl | hb
   ·exact Dv _
   ·rw[dH.mp hb]; exact Dy lt
  ·rw[eU,<- hlen]; exact fin hk
 ·obtain⟨z,its,rv,ht⟩:=I.hok p _ hp;have ht':s.heap.IsTuple p its.toArray:=ht;have lt:p<s.heap.objs.size:=by obtain⟨o,e,_⟩:=ht; exact cg e
  have hlen:=rv.length;rw[b7] at hlen;refine call_sum_walkG (Ji ht' ?_);refine⟨_,_,_,_,_,_,fun i=>ns.getD i 0,rfl,Walks.tuple (A:=X.A.in1) (I.ok.hd hc) _ p (fJ lt) _,⟨⟨_,dw _ rfl,rfl,rfl⟩,?_⟩,fun b hb=>?_,fun i v hv=>JL rv hv,fun h' tk t' hk=>?_⟩
  ·obtain⟨o,e,c⟩:=ht';exact⟨o,dW _ e,c⟩
  ·show b<(s.heap.push _).objs.size;rw[g8];rcases bF.mp hb with rfl | hb
   ·exact Dv _
   ·rw[dH.mp hb]; exact Dy lt
  ·rw[eU,<- hlen]; exact fin hk
theorem Af:cV X (.type "int") (fun vs H Q=>∃(b:Bool),vs=[.bl b]/\Q (.int (if b then 1 else 0)) H):=by
 refine .mk ?_;intro pins s σ H vs us Q I r h;obtain⟨b,rfl,q⟩:=h;obtain⟨u,rfl,ru⟩:=r.one;cases(show u=Value.bool b from ru);exact call_int_bool ⟨.int (if b then 1 else 0),H,I.tok _,⟨_,rfl⟩,q⟩
end
mutual
theorem kE {P:Program} {w:World} {H:Hp} {h:Heap} (ok:n_ P w H h):∀(d:PyData) (v:V) (u:Value),At H d v->RelV v u->d.hasDict=false->∃as,Reads h u d as
 | .none,v,u,a,r,_=>by unfold At at a; subst a; cases r; exact⟨_,.none⟩
 | .bool b,v,u,a,r,_=>by unfold At at a; subst a; cases r; exact⟨_,.bool b⟩
 | .int i,v,u,a,r,_=>by unfold At at a; subst a; obtain⟨t,rfl⟩:=r; exact⟨_,.int i t⟩
 | .str x,v,u,a,r,_=>by unfold At at a; subst a; obtain⟨t,rfl⟩:=r; exact⟨_,.str x t⟩
 | .tuple ds,v,u,a,r,nd=>by
  unfold At at a;obtain⟨p,xs,e,hp,ha⟩:=a;subst e;cases r;obtain⟨_,its,rv,o,e1,e2,n,e3⟩:=ok p _ hp;obtain⟨as,ra⟩:=sY ok ds xs its ha rv (by simpa[PyData.hasDict] using nd)
  exact⟨_,.tuple e1 e2 e3 (by simpa using ra)⟩
 | .list ds,v,u,a,r,nd=>by
  unfold At at a;obtain⟨p,xs,e,hp,ha⟩:=a;subst e;cases r;obtain⟨_,its,n,rv,e1⟩:=ok p _ hp;obtain⟨as,ra⟩:=sY ok ds xs its ha rv (by simpa[PyData.hasDict] using nd)
  exact⟨_,.list e1 rfl rfl (by simpa using ra)⟩
 | .dict kvs,v,u,a,r,nd=>by simp[PyData.hasDict] at nd
theorem sY {P:Program} {w:World} {H:Hp} {h:Heap} (ok:n_ P w H h):∀(ds:List PyData) (xs:List V) (us:List Value),aj H ds xs->Vals xs us->PyData.hasDictAll ds=false->∃as,ReadsAll h us ds as
 | [],xs,us,a,r,_=>by unfold aj at a; subst a; cases r; exact⟨_,.nil⟩
 | d::ds,xs,us,a,r,nd=>by
  unfold aj at a;obtain⟨x,t,e,h1,h2⟩:=a;subst e;have Ys:d.hasDict=false/\PyData.hasDictAll ds=false:=by simpa[PyData.hasDictAll] using nd
  cases r with
  | cons r1 r2=>
   obtain⟨as,q1⟩:=kE ok d x _ h1 r1 Ys.1;obtain⟨bs,q2⟩:=sY ok ds t _ h2 r2 Ys.2;exact⟨_,.cons q1 q2⟩
end
structure af2 (d:PyData):Prop where
 can:d.showable=true
 nod:d.hasDict=false
 len:d.shown.length<=sizeLine
 dep:d.depth<=60
section
variable {X:Cx}
def Gi (mg:Str->Option Value) (x:Str) (i:Int):Prop:=∃t,mg x=some (.int i t)
theorem Bl {x:Str} {i:Int} {pos:Pos} (h:Gi X.mg x i) (hg:Gl X x:=by rfl) (hd:(x==("__debug__" : Str))=false:=by decide):PE X (.Name x pos) (tC (.int i)):=by
 obtain⟨t,ht⟩:=h;exact Bm hg ht ⟨t,rfl⟩ hd
structure Ct (P:Program) (w:World) (K:PySem.W.Frag) (mg:Str->Option Value) (base:Heap) (k:Nat) (x:Str) (ps:List Str) (sp:Sp) where
 f:Addr
 fd:FuncData
 G:bJ P w K mg base gD k f fd ps sp
 kp:PySem.W.keepIn K (.ref f)=true
 b:Binds K fd ps []
 m:mg x=some (.ref f)
def Ct.mono {P:Program} {w:World} {K:PySem.W.Frag} {mg:Str->Option Value} {base:Heap} {j k:Nat} {x:Str} {ps:List Str} {sp:Sp} (c:Ct P w K mg base j x ps sp) (h:j<=k):Ct P w K mg base k x ps sp:={ c with G:=c.G.mono h }
theorem aae {k:Nat} {x:Str} {ps:List Str} {sp:Sp} {e:Expr} {es:List Expr} {t:TA} {p pos:Pos} (c:Ct X.prog X.w X.K X.mg X.base k x ps sp) (hr:fQ k X.A) (ha:PA X (e::es) t) (hg:Gl X x:=by rfl)
  (hdb:(x==("__debug__" : Str))=false:=by decide) (he:starEach (e::es) X.env=(false,eval e X.env)::starEach es X.env:=by rfl) (hpl:(backTo pos (starEach es X.env)).any (·.1)=false:=by rfl) :
  PE X (.Call (.Name x p) (e::es) [] pos) (mX sp [] E0 t):=Ju c.G hr hg c.m c.kp c.b .nil Ec ha hdb he hpl
end
theorem RN {v:V} {σ:St} {H:Hp} {Q:VK}:mD 0 (some v::σ) H Q=Q v H:=rfl
theorem RM {i:Nat} {o:Option V} {σ:St} {H:Hp} {Q:VK}:mD (i+1) (o::σ) H Q=mD i σ H Q:=rfl
theorem RT {v:V} {o:Option V} {σ:St}:(o::σ).set 0 (some v)=some v::σ:=rfl
theorem RQ {i:Nat} {v:V} {o:Option V} {σ:St}:(o::σ).set (i+1) (some v)=o::σ.set i (some v):=rfl
theorem Oq {t:TG} {u:Q0} {v:V} {r:List V} {σ:St} {H:Hp} {Q:St->Hp->Prop}:jN t u (v::r) σ H Q=t v σ H fun σ' H'=>u r σ' H' Q:=rfl
theorem RV {σ:St} {H:Hp} {Q:St->Hp->Prop}:Cd [] σ H Q=Q σ H:=rfl
theorem cR {b:Bool} {A B:Prop} (h1:b=true->A) (h2:b=false->B):if b=true then A else B:=by
 cases b
 ·rw[aX (by decide)]; exact h2 rfl
 ·rw[bx rfl]; exact h1 rfl
theorem Wm {i j:Int} {H:Hp} {Q:VK}:Z9 (.int i) (.int j) H Q=Q (.bl (decide (i=j))) H:=by
 unfold Z9 Ko; simp
theorem Wj {i j:Int} {H:Hp} {Q:VK}:Z2 (.int i) (.int j) H Q=Q (.bl (!decide (i=j))) H:=by
 unfold Z2 Ko; simp
theorem Wl {i j:Str} {H:Hp} {Q:VK}:Z9 (.str i) (.str j) H Q=Q (.bl (decide (i=j))) H:=by
 unfold Z9 Ko; simp
theorem Wi {i j:Str} {H:Hp} {Q:VK}:Z2 (.str i) (.str j) H Q=Q (.bl (!decide (i=j))) H:=by
 unfold Z2 Ko; simp
theorem RW {i:Int} {P:Int->Prop}:(∃k,[V.int i]=[V.int k]/\P k)=P i:=by
 simp
theorem RX {i:Bool} {P:Bool->Prop}:(∃k,[V.bl i]=[V.bl k]/\P k)=P i:=by
 simp
theorem Ot {i j:Int} {P:Int->Int->Prop}:(∃a b,[V.int i,V.int j]=[V.int a,V.int b]/\P a b)=P i j:=by
 refine propext ⟨?_,fun h=>⟨i,j,rfl,h⟩⟩;rintro⟨a,b,e,h⟩;cases e;exact h
theorem RP {b:Bool} {P:Bool->Prop}:(∃k,V.bl b=V.bl k/\P k)=P b:=by
 simp
theorem Wk {i:Int} {P:Int->Prop}:(∃k,V.int i=V.int k/\P k)=P i:=by
 simp
theorem ZX {i j:Int} {P:Int->Int->Prop}:(∃a b,V.int i=V.int a/\V.int j=V.int b/\P a b)=P i j:=by
 simp
theorem uq {α β:Type} {g:β->α->β} {f:α->β->Sem (ForInStep β)}:∀(l:List α) (c:β),(∀x∈l,∀c,f x c=pure (.yield (g c x)))->forIn l c f=(pure (l.foldl g c):Sem β)
 | [],c,_=>rfl
 | x::l,c,h=>by
  rw[Dt,h x cY c,pure_bind];exact uq l (g c x) fun y hy=>h y (gk _ hy)
theorem jx {sc:Scope} {env:Env} (h:(sc.names.all fun y=>y.2 != .free || (env.cells.lookup y.1).isSome)=true):closureFor sc env=pure (qm sc env):=by
 unfold closureFor qm;dsimp only;rw[uq (g:=jy env) sc.names [] (fun y hy c=>?_)]
 ·rfl
 obtain⟨n,k⟩:=y;have a:=j4.mp h _ hy;dsimp only;unfold jy;dsimp only;cases hk:(k==NameKind.free) with
 | false=>simp
 | true=>
  have hk':k=.free:=beq_iff_eq.mp hk;subst hk';have a':(env.cells.lookup n).isSome=true:=by simpa using a
  obtain⟨c',hc'⟩:=Oz.mp a';simp[cellOf,hc']
theorem nJ {sc:Scope} (h:(sc.names.all fun y=>y.2 != .local || sc.names.lookup y.1==some .local)=true):∀y∈sc.names,y.2=.local->sc.names.lookup y.1=some .local:=fun y hy e=>by
 have a:=j4.mp h y hy;rw[e] at a;simpa using a
theorem rT.Te {X:Cx} {x:Str} {sc:Scope} (k:sc.kind=.function:=by rfl) (n:(sc.names.all fun y=>y.2 != .cell&&y.2 != .free)=true:=by decide +kernel) (l:(sc.names.all fun y=>y.2 != .local || sc.names.lookup y.1==some .local)=true:=by decide +kernel):rT X [x] [] sc:=by
 have n':∀y∈sc.names,y.2≠.cell/\y.2≠.free:=fun y hy=>by have:=j4.mp n y hy; simpa using this
 have al:(sc.names.all fun y=>y.2 != .free || (X.env.cells.lookup y.1).isSome)=true:=j4.mpr fun y hy=>by simp[(n' y hy).2]
 exact⟨k,fun y hy=>(n' y hy).1,nJ l,jx al,al,rfl,fun i j h=>by simp at h,fun y h=>by simp at h⟩
theorem rT.mk1 {X:Cx} {x y:Str} {sc:Scope} {j:Nat} (hj:X.N[j]?=some y:=by rfl) (k:sc.kind=.function:=by rfl) (n:(sc.names.all fun y=>y.2 != .cell)=true:=by decide +kernel)
  (l:(sc.names.all fun y=>y.2 != .local || sc.names.lookup y.1==some .local)=true:=by decide +kernel) (al:(sc.names.all fun y=>y.2 != .free || (X.env.cells.lookup y.1).isSome)=true:=by rfl)
  (k1:X.env.kindOf y=some .cell:=by rfl) (k2:sc.names.lookup y=some .free:=by rfl):rT X [x,y] [j] sc:=by
 have n':∀y∈sc.names,y.2≠.cell:=fun y hy=>by have:=j4.mp n y hy; simpa using this
 refine⟨k,n',nJ l,jx al,al,rfl,fun i j' h=>?_,fun z h=>?_⟩
 ·cases i with
  | zero=>simp at h; subst h; exact hj.symm
  | succ i=>simp at h
 ·have e:z=y:=by simpa using h
  subst e; exact⟨k1,k2⟩
theorem rT.mk2 {X:Cx} {x y z:Str} {sc:Scope} {j j2:Nat} (hj:X.N[j]?=some y:=by rfl) (hj2:X.N[j2]?=some z:=by rfl) (k:sc.kind=.function:=by rfl) (n:(sc.names.all fun y=>y.2 != .cell)=true:=by decide +kernel)
  (l:(sc.names.all fun y=>y.2 != .local || sc.names.lookup y.1==some .local)=true:=by decide +kernel) (al:(sc.names.all fun y=>y.2 != .free || (X.env.cells.lookup y.1).isSome)=true:=by rfl)
  (k1:X.env.kindOf y=some .cell:=by rfl) (k2:sc.names.lookup y=some .free:=by rfl) (k3:X.env.kindOf z=some .cell:=by rfl) (k4:sc.names.lookup z=some .free:=by rfl):rT X [x,y,z] [j,j2] sc:=by
 have n':∀y∈sc.names,y.2≠.cell:=fun y hy=>by have:=j4.mp n y hy; simpa using this
 refine⟨k,n',nJ l,jx al,al,rfl,fun i j' h=>?_,fun v h=>?_⟩
 ·match i,h with
  | 0,h=>simp at h; subst h; exact hj.symm
  | 1,h=>simp at h; subst h; exact hj2.symm
  | i+2,h=>simp at h
 ·have e:v=y\/v=z:=by simpa using h
  rcases e with e | e
  ·subst e; exact⟨k1,k2⟩
  ·subst e; exact⟨k3,k4⟩
def b8:Expr->Bool
 | .Starred _ _=>false
 | _=>true
theorem cD {env:Env} {e:Expr} {es:List Expr} (h:b8 e=true):starEach (e::es) env=(false,eval e env)::starEach es env:=by
 cases e <;> first | rfl | exact absurd h (by simp[b8])
theorem cP {env:Env} {pos:Pos}:∀{es:List Expr},es.all b8=true->(backTo pos (starEach es env)).any (·.1)=false
 | [],_=>rfl
 | e::es,h=>by
  have h':b8 e=true/\es.all b8=true:=by simpa using h
  rw[cD h'.1];show(false || (backTo pos (starEach es env)).any (·.1))=false;rw[cP h'.2]; rfl
section
variable {X:Cx} {x:Str} {p pos:Pos} {e:Expr} {es:List Expr} {te:TE} {t:TA} {id T:String} {r:List V->Hp->VK->Prop}
theorem ao (ha:PE X e te) (hr:PA X es t) (h:b8 e=true:=by rfl):PA X (e::es) (ph te t):=Sw ha hr (cD h)
theorem pf {k:Nat} {ps:List Str} {sp:Sp} (c:Ct X.prog X.w X.K X.mg X.base k x ps sp) (hr:fQ k X.A) (ha:PA X (e::es) t) (hg:Gl X x:=by rfl) (hdb:(x==("__debug__" : Str))=false:=by decide) (h1:b8 e=true:=by rfl) (h2:es.all b8=true:=by rfl) :
  PE X (.Call (.Name x p) (e::es) [] pos) (mX sp [] E0 t):=aae c hr ha hg hdb (cD h1) (cP h2)
theorem pb (hc:cV X (.builtin id) r) (hm:X.mg x=none) (hv:bootBuiltins x=some (.builtin id)) (ha:PA X (e::es) t) (hg:Gl X x:=by rfl) (hn:x ≠ "__name__" := by decide) (hdb:(x==("__debug__" : Str))=false:=by decide)
  (h1:b8 e=true:=by rfl) (h2:es.all b8=true:=by rfl):PE X (.Call (.Name x p) (e::es) [] pos) (Yp r t):=Pb hc hg hm hv ha hn hdb (cD h1) (cP h2)
theorem pt (hc:cV X (.type T) r) (hm:X.mg x=none) (hv:bootBuiltins x=some (.type T)) (ha:PA X (e::es) t) (hg:Gl X x:=by rfl) (hn:x ≠ "__name__" := by decide) (hdb:(x==("__debug__" : Str))=false:=by decide)
  (h1:b8 e=true:=by rfl) (h2:es.all b8=true:=by rfl):PE X (.Call (.Name x p) (e::es) [] pos) (Yp r t):=KR hc hg hm hv ha hn hdb (cD h1) (cP h2)
end
end L2
namespace HT
open PySem PyProof.Rows
section
variable {prog:Program} {w:World} {A:Around} {E:Value->Shared->Prop} {s:Shared}
theorem rD {t sl:Addr} {items:Array Value} {vl vu:Value} {lo hi:Option Int} {Q:Value->Shared->Prop} (ht:IsTup s.heap t items) (hs:s.heap.IsSliceOf sl vl vu .none) (pl:IsPart vl lo) (pu:IsPart vu hi)
  (hw1:gB items.size 0 lo=0) (hw2:gB items.size items.size hi=items.size) (h:Q (.ref t) s):wpAny (model prog w) A (getItem (.ref t) (.ref sl)) Q E s:=by
 obtain⟨os,hos,hcs,hds⟩:=id hs;have tyS:s.TypeIs (.ref sl) "slice" := ⟨os,hos,hcs⟩;unfold getItem
 try with_reducible refine oN ?_
 first | refine aW (aZ ?_) | skip
 refine aW (wpAny_sequenceKey ht.typeIs (by decide) ?_)
 refine aW (DG (name:=Str.ofString "__getitem__") ht.typeIs PyProof.Rows.slot_tuple_getitem (xU PyProof.Rows.slot_tuple_getitem ht.typeIs entry_tuple_getitem ?_ (args_tuple_getitem _ _)));show wpAny _ _ (Builtin.Tuple.tupleItemsOf (.ref t) >>= _) _ _ s;refine aW (tupleItemsOf_ ht ?_);refine aW (DN tyS ?_);rw[bx (by decide)]
 refine aW (km hs pl pu ?_)
 have yes:(((gB items.size 0 lo:Nat):Int)==0&&(1:Int)==1&&(gB items.size items.size hi-gB items.size 0 lo)==items.size)=true:=by
  rw[hw1,hw2]; simp
 show wpAny _ _ (if(((gB items.size 0 lo:Nat):Int)==0&&(1:Int)==1&&(gB items.size items.size hi-gB items.size 0 lo)==items.size)=true then _ else _) _ _ s
 rw[bx yes]
 have ex:∀{R:Bool->Shared->Prop},R true s->wpAny (model prog w) A.in1 (Builtin.Tuple.tupleIsExact (.ref t)) R E s:=fun {R} q=>by
  unfold Builtin.Tuple.tupleIsExact;refine aW (DN ht.typeIs (aZ ?_));rw[beq_self_eq_true];exact q
 refine aW (ex ?_);rw[bx rfl];exact aW (qT (aZ ⟨_,rfl,aZ h⟩))
end
end HT
namespace L2
open PySem PySem.Spec PyProof.Rows
theorem bL:bootBuiltins "isinstance" = some (.builtin "isinstance"):=by decide +kernel
theorem dM:bootBuiltins "len" = some (.builtin "len"):=by decide +kernel
theorem xN:bootBuiltins "all" = some (.builtin "all"):=by decide +kernel
theorem XS:bootBuiltins "any" = some (.builtin "any"):=by decide +kernel
theorem lW:bootBuiltins "sum" = some (.builtin "sum"):=by decide +kernel
theorem QT:bootBuiltins "abs" = some (.builtin "abs"):=by decide +kernel
theorem lX:bootBuiltins "min" = some (.builtin "min"):=by decide +kernel
theorem tW:bootBuiltins "max" = some (.builtin "max"):=by decide +kernel
theorem HY:bootBuiltins "int" = some (.type "int"):=by decide +kernel
theorem jC:bootBuiltins "str" = some (.type "str"):=by decide +kernel
theorem Ub:bootBuiltins "bool" = some (.type "bool"):=by decide +kernel
theorem gY:bootBuiltins "list" = some (.type "list"):=by decide +kernel
theorem gW:bootBuiltins "tuple" = some (.type "tuple"):=by decide +kernel
theorem Ua:bootBuiltins "dict" = some (.type "dict"):=by decide +kernel
theorem QS:bootBuiltins "range" = some (.type "range"):=by decide +kernel
theorem Cz:bootBuiltins "enumerate" = some (.type "enumerate"):=by decide +kernel
theorem HX:bootBuiltins "zip" = some (.type "zip"):=by decide +kernel
section
variable {X:Cx}
theorem pty {x:Str} {T:String} {pos:Pos} (hg:Gl X x) (hm:X.mg x=none) (hv:bootBuiltins x=some (.type T)) (hn:x ≠ "__name__" := by decide) (hd:(x==("__debug__" : Str))=false:=by decide):PE X (.Name x pos) (tC (.ty T)):=
 Su (v:=.ty T) hg hm hv rfl hn hd
theorem FP.of {T:String} {g:PyData->Bool} {v:V} {d:PyData} {H:Hp} {Q:VK} (h:At H d v) (q:Q (.bl (g d)) H):Gz T g [v,.ty T] H Q:=⟨v,d,rfl,h,q⟩
def acB (K:PySem.W.Frag):List V->Hp->VK->Prop:=fun vs H Q=>∃(p:Addr) (ys:List V),vs=[.ref p]/\(b_ K H p ys\/e_ K H p ys)/\Q (.int ys.length) H
theorem cA {K:PySem.W.Frag} (hK:X.K=K):cV X (.builtin "len") (acB K):=by
 subst hK;exact Cr
def acw:V->Option Int->Option Int->Hp->VK->Prop:=fun x lo hi H Q=>∃(a:Addr) (xs:List V),x=.ref a/\H a=some (.tup xs)/\∀p H',aM H H'->H' p=some (.tup (uR xs lo hi))->Q (.ref p) H'
theorem jH:X7 X acw:=by
 refine .mk ?_;intro pins s σ H x v vl vu lo hi sl Q I rx hs pl pu h;obtain⟨a,xs,e,hx,q⟩:=h;by_cases hw:HT.gB xs.length 0 lo=0/\HT.gB xs.length xs.length hi=xs.length
 ·subst e;cases rx;obtain⟨its,r,ht,hz⟩:=I.tuple (e_.of (K:=X.K) hx);have hlen:its.toArray.size=xs.length:=by rw[eU]; exact r.length.symm
  refine⟨"tuple",_,PyProof.Rows.slot_tuple_getitem.lookup,ht.typeIs,?_⟩;refine HT.rD ht hs pl pu (by rw[hlen]; exact hw.1) (by rw[hlen]; exact hw.2) ⟨.ref a,H,I,rfl,q a H (aM.refl H) ?_⟩
  rw[hx];unfold uR;rw[hw.1,hw.2,List.drop_zero,Nat.sub_zero,pX]
 ·exact We pins s σ H x v vl vu lo hi sl Q I rx hs pl pu ⟨a,xs,e,e_.of hx,hw,fun p hp=>q p _ (aN hp _) aD⟩
def Z_:R2:=fun x y H Q=>∃(a b:Addr) (xs ys:List V),x=.ref a/\y=.ref b/\H a=some (.tup xs)/\H b=some (.tup ys)/\xs.length+ys.length<=sizeLine/\∀p H',aM H H'->H' p=some (.tup (xs++ys))->Q (.ref p) H'
theorem oE:mL X (binaryOp .Add) Z_:=by
 refine .mk ?_;intro pins s σ H x y v u Q I rx ry h;obtain⟨a,b,xs,ys,e1,e2,ha,hb,hz,q⟩:=h;by_cases hx:xs=[]
 ·subst hx e1 e2;cases rx;cases ry;obtain⟨its,r1,p1,_⟩:=I.tuple (e_.of (K:=X.K) ha);obtain⟨its2,r2,p2,_⟩:=I.tuple (e_.of (K:=X.K) hb);cases r1;obtain⟨⟨cls,dd,data,sl⟩,ho,hc,n,hd⟩:=id p1;obtain⟨⟨cls2,dd2,data2,sl2⟩,ho2,hc2,n2,hd2⟩:=id p2;simp only at hc hd hc2 hd2;subst hc hd hc2 hd2;exact concat_meets ⟨_,ho,rfl⟩ ⟨_,ho2,rfl⟩ noFill_tuple_add seq_tuple_add PySem.F.slot_tuple_add PySem.F.entry_tuple_add (PySem.F.args_tuple_add_2 _ _) (tuple_addW0 a b _ _ n n2 dd dd2 sl sl2 (by rfl)) ⟨ho,ho2,⟨.ref b,H,I,rfl,q b H (aM.refl H) hb⟩⟩
 ·refine Sy pins s σ H x y v u Q I rx ry ⟨a,b,xs,ys,e1,e2,e_.of ha,e_.of hb,hx,hz,fun z=>?_,fun _ p hp=>q p _ (aN hp _) aD⟩;subst z;exact q a H (aM.refl H) (by rw[ha,uA])
def Dr:R2:=fun x y H Q=>∃(p:Addr) (xs:List V) (i:Int) (v:V),x=.ref p/\y=.int i/\(H p=some (.lst xs)\/H p=some (.tup xs))/\yH xs i=some v/\Q v H
theorem bj:MN X Dr:=by
 have h:=(JF (X:=X)).or Xl;refine .mk ?_;intro a b pins s σ H x y v u Q I rx ry q;obtain⟨p,xs,i,z,e1,e2,hp,ha,q⟩:=q;intro hs;refine h a b pins s σ H x y v u Q I rx ry ?_ hs;rcases hp with hp | hp
 ·exact .inl ⟨p,xs,i,z,e1,e2,b_.of hp,ha,q⟩
 ·exact .inr ⟨p,xs,i,z,e1,e2,e_.of hp,ha,q⟩
theorem Ix.tup {a:Addr} {xs:List V} {i:Int} {v:V} {H:Hp} {Q:VK} (h:H a=some (.tup xs)) (e:yH xs i=some v) (q:Q v H):Dr (.ref a) (.int i) H Q:=⟨a,xs,i,v,rfl,rfl,.inr h,e,q⟩
theorem Ix.lst {a:Addr} {xs:List V} {i:Int} {v:V} {H:Hp} {Q:VK} (h:H a=some (.lst xs)) (e:yH xs i=some v) (q:Q v H):Dr (.ref a) (.int i) H Q:=⟨a,xs,i,v,rfl,rfl,.inl h,e,q⟩
theorem QF {js:List Nat} {ta:TA} {te:TE} {σ:St} {H:Hp} {Q:VK} {n:Nat} (hl:∀R:List V->Hp->Prop,R [.int n] H->ta σ H R) (hn:n<=1000000)
  (h:∀acc,H acc=none->∃Pv:Nat->List V->Hp->Prop,Pv 0 [] (upd H acc (.lst [])) /\
   (∀i ys H',i<n->Pv i ys H'->te (some (.int (0+(i:Nat)))::bQ js σ) H' fun y cQ=>cQ acc=some (.lst ys)/\ys.length<sizeLine/\Pv (i+1) (ys++[y]) (upd cQ acc (.lst (ys++[y])))) /\
   ∀ys H',Pv n ys H'->Q (.ref acc) H'):gG js (zW ta) te σ H Q:=by
 refine hl _ ⟨n,rfl,by omega,by omega,fun acc hacc=>?_⟩
 obtain⟨Pv,h0,hs,hd⟩:=h acc hacc;have en:((n:Int)).toNat=n:=tu n;rw[en];refine⟨fun i m ys H'=>m=n-i/\i<=n/\Pv i ys H',⟨n,rfl,gm _,h0⟩,?_⟩;rintro i m ys H2 ⟨rfl,hi,p⟩;by_cases hlt:i<n
 ·refine .inr ⟨hlt,fun x H3 y=>?_⟩;obtain⟨e,y⟩:=y;subst e y;have Ur:=hs i ys _ hlt p
  have fe:(fun(y:V) (cQ:Hp)=>cQ acc=some (.lst ys)/\ys.length<sizeLine/\Pv (i+1) (ys++[y]) (upd cQ acc (.lst (ys++[y]))))=fun y H4=>H4 acc=some (.lst ys)/\ys.length<sizeLine/\∃m',m'<n-i/\(m'=n-(i+1)/\i+1<=n/\Pv (i+1) (ys++[y]) (upd H4 acc (.lst (ys++[y])))):=by
   funext y cQ
   refine propext ⟨fun⟨a,b,c⟩=>⟨a,b,_,by omega,rfl,hlt,c⟩,fun⟨a,b,m',_,_,_,c⟩=>⟨a,b,c⟩⟩
  rw[fe] at Ur;exact Ur
 ·have e:i=n:=by omega
  subst e;exact .inl ⟨bD _,hd ys _ p⟩
theorem jc:cV X (.type "tuple") (fun vs H Q=>∃(p:Addr) (ys:List V),vs=[.ref p]/\H p=some (.lst ys)/\∀l,H l=none->Q (.ref l) (upd H l (.tup ys))):=by
 refine .mk ?_;intro pins s σ H vs us Q I r h;obtain⟨p,ys,e,hp,q⟩:=h;exact yt pins s σ H vs us Q I r ⟨p,ys,e,.inl ⟨b_.of hp,q⟩⟩
theorem Mh:cV X (.type "list") (fun vs H Q=>∃(p:Addr) (ys:List V),vs=[.ref p]/\H p=some (.tup ys)/\∀l,H l=none->Q (.ref l) (upd H l (.lst ys))):=by
 refine .mk ?_;intro pins s σ H vs us Q I r h;obtain⟨p,ys,e,hp,q⟩:=h;exact rK pins s σ H vs us Q I r ⟨p,ys,e,.inr (e_.of hp),q⟩
theorem aaJ {ta:TA} {g:TG} {tb:TS} {D:Ends} {σ:St} {H:Hp} {n:Nat} (hl:∀R:List V->Hp->Prop,R [.int n] H->ta σ H R) (hn:n<=1000000) (Pv:Nat->St->Hp->Prop) (h0:Pv 0 σ H)
  (hs:∀i σ H,i<n->Pv i σ H->g (.int (0+(i:Nat))) σ H fun σ2 H2=>tb { D with nx:=Pv (i+1),ct:=Pv (i+1),bk:=D.nx } σ2 H2) (hd:∀σ H,Pv n σ H->D.nx σ H):Gk (zW ta) g tb D σ H:=by
 refine hl _ ⟨n,rfl,by omega,by omega,?_⟩
 rw[tu];exact zZ Pv h0 hs hd
def Uz (t:TA):TE:=fun σ H Q=>t σ H fun xs H1=>xs.length<=sizeLine/\∀p H',H1 p=none->aM H1 H'->H' p=some (.lst xs)->Q (.ref p) H'
def Us (t:TA):TE:=fun σ H Q=>t σ H fun xs H1=>xs.length<=sizeLine/\∀p H',H1 p=none->aM H1 H'->H' p=some (.tup xs)->Q (.ref p) H'
theorem bM {es:List Expr} {t:TA} {pos:Pos} (h:PA X es t):PE X (.List es pos) (Uz t):=by
 refine .mk ?_;intro pins s σ H Q I hq;refine wpAny_List_spliced (cM (h pos pins s σ H _ I hq) fun us s1 ⟨xs,H1,I1,r,z,q⟩=>⟨by rw[<- r.length]; exact z,?_⟩)
 have fr:H1 s1.heap.objs.size=none:=I1.hok.fresh (bD _);exact⟨.ref s1.heap.objs.size,upd H1 s1.heap.objs.size (.lst xs),I1.laid (t':=s1.toks) (fun b u e=>dW _ e) (bD _) ⟨z,us,0,r,dw _ rfl⟩,rfl,q _ _ fr (aN fr _) aD⟩
theorem bc {es:List Expr} {t:TA} {x1} {pos:Pos} (h:PA X es t):PE X (.Tuple es x1 pos) (Us t):=by
 refine .mk ?_;intro pins s σ H Q I hq;refine wpAny_Tuple_spliced (cM (h pos pins s σ H _ I hq) fun us s1 ⟨xs,H1,I1,r,z,q⟩=>⟨by rw[<- r.length]; exact z,?_⟩)
 have fr:H1 s1.heap.objs.size=none:=I1.hok.fresh (bD _);exact⟨.ref s1.heap.objs.size,upd H1 s1.heap.objs.size (.tup xs),I1.laid (t':=s1.toks) (fun b u e=>dW _ e) (bD _) ⟨z,us,r,⟨_,dw _ rfl,rfl,_,rfl⟩⟩,rfl,q _ _ fr (aN fr _) aD⟩
def hid (a:Addr) (H:Hp):Hp:=fun b=>if b=a then none else H b
theorem cJ {a b:Addr} {H:Hp} (h:b≠a):hid a H b=H b:=aX h
theorem nR {a:Addr} {H:Hp}:hid a H a=none:=bx rfl
theorem iI {a b:Addr} {H:Hp} {o:HO} (h:hid a H b=some o):b≠a/\H b=some o:=by
 by_cases e:b=a
 ·subst e; rw[nR] at h; cases h
 ·exact⟨e,by rw[cJ e] at h; exact h⟩
theorem rA {a:Addr} {H:Hp} {o:HO}:hid a (upd H a o)=hid a H:=by
 funext b
 by_cases e:b=a
 ·subst e; rw[nR,nR]
 ·rw[cJ e,cJ e,aL e]
theorem cW {a p:Addr} {H:Hp} {o:HO} (h:p≠a):hid a (upd H p o)=upd (hid a H) p o:=by
 funext b
 by_cases e:b=a
 ·subst e; rw[nR,aL (Ne.symm h),nR]
 ·rw[cJ e];by_cases e':b=p
  ·subst e'; rw[aD,aD]
  ·rw[aL e',aL e',cJ e]
theorem rB {a:Addr} {H:Hp}:aM (hid a H) H:=fun b o h=>(iI h).2
def SX (a:Addr) (H H':Hp):Prop:=aM (hid a H) (hid a H')
theorem SX.refl (a:Addr) (H:Hp):SX a H H:=aM.refl _
theorem SX.trans {a:Addr} {H H1 H2:Hp} (x:SX a H H1) (y:SX a H1 H2):SX a H H2:=aM.trans x y
theorem SX.of {a:Addr} {H H':Hp} (s:aM H H'):SX a H H':=fun b o h=>by
 obtain⟨n,e⟩:=iI h;rw[cJ n]; exact s _ _ e
theorem SX.upd {a:Addr} {H:Hp} {o:HO}:SX a H (upd H a o):=by unfold SX; rw[rA]; exact aM.refl _
theorem SX.get {a b:Addr} {H H':Hp} {o:HO} (s:SX a H H') (n:b≠a) (h:H b=some o):H' b=some o:=by
 have:=s b o (by rw[cJ n]; exact h)
 exact(iI this).2
def Tp (H:Hp) (a:Addr) (n:Nat):Prop:=∃x y z:Int,H a=some (.lst [.int x,.int y,.int z])/\0<=x/\0<=y/\y<4611686018427387904/\0<=z/\z<=n
theorem Tp.mono {H:Hp} {a:Addr} {n m:Nat} (h:Tp H a n) (l:n<=m):Tp H a m:=by
 obtain⟨x,y,z,e,h1,h2,h3,h4,h5⟩:=h;exact⟨x,y,z,e,h1,h2,h3,h4,by omega⟩
theorem Tp.same {H H':Hp} {a:Addr} {n:Nat} (h:Tp H a n) (s:aM H H'):Tp H' a n:=by
 obtain⟨x,y,z,e,r⟩:=h;exact⟨x,y,z,s _ _ e,r⟩
theorem Tp.ne {H:Hp} {a b:Addr} {n:Nat} (h:Tp H a n) (e:H b=none):b≠a:=by
 obtain⟨x,y,z,q,_⟩:=h;intro z; subst z; rw[e] at q; cases q
theorem Tp.neT {H:Hp} {a b:Addr} {n:Nat} {xs:List V} (h:Tp H a n) (e:H b=some (.tup xs)):b≠a:=by
 obtain⟨x,y,z,q,_⟩:=h;intro z; subst z; rw[e] at q; cases q
theorem aM.hid {a:Addr} {H H':Hp} (s:aM H H'):aM (L2.hid a H) (L2.hid a H'):=fun b o h=>by
 obtain⟨n,e⟩:=iI h;rw[cJ n]; exact s _ _ e
theorem SX.du {a p:Addr} {H H':Hp} {o:HO} (s:SX a H H') (hp:H p=none) (pa:p≠a):SX a H (L2.upd H' p o):=fun b u h=>by
 obtain⟨n,e⟩:=iI h;rw[cW pa,aL (cH e hp)];exact s b u h
theorem Tp.du {H:Hp} {a p:Addr} {n:Nat} {o:HO} (t:Tp H a n) (pa:p≠a):Tp (L2.upd H p o) a n:=by
 obtain⟨x,y,z,e,r⟩:=t;exact⟨x,y,z,by rw[aL (Ne.symm pa)]; exact e,r⟩
def Rh (K:PySem.W.Frag) (H:Hp) (p:Addr) (xs:List V):Prop:=(∃o,H p=some (.rW o (.lst xs))) \/
 ∃(o:Obj) (its:Array Value) (n:Nat),K.lookup p=some o/\o.cls=.type "list" /\ o.dict=none/\o.data=.seq its n/\its.size<=sizeLine/\Vals xs its.toList
theorem Rh.sq {K:PySem.W.Frag} {H:Hp} {p:Addr} {xs:List V} (h:Rh K H p xs):b_ K H p xs:=by
 rcases h with⟨o,h⟩ | h
 ·exact .inl (.inr ⟨o,h⟩)
 ·exact .inr h
theorem Rh.of {K:PySem.W.Frag} {H:Hp} {p:Addr} {xs:List V} (h:b_ K H p xs) (o:Only H):Rh K H p xs:=by
 rcases h with(h | h) | h
 ·rcases o p with e | ⟨ob,ys,e⟩
  ·rw[e] at h; cases h
  ·rw[e] at h; cases h
 ·exact .inl h
 ·exact .inr h
theorem Rh.same {K:PySem.W.Frag} {H H':Hp} {p:Addr} {xs:List V} (h:Rh K H p xs) (s:aM H H'):Rh K H' p xs:=by
 rcases h with⟨o,h⟩ | h
 ·exact .inl ⟨o,s _ _ h⟩
 ·exact .inr h
end
mutual
def fine (b:Nat):PyData->Bool
 | .none=>true
 | .bool _=>true
 | .int i=>decide (i.natAbs<=b)
 | .str x=>decide (x.length<=40)&&x.cps.toList.all fun c=>decide (c<4294967296)
 | .tuple ds=>gQ b ds
 | .list ds=>gQ b ds
 | .dict _=>false
def gQ (b:Nat):List PyData->Bool
 | []=>true
 | d::ds=>fine b d&&gQ b ds
end
mutual
def WY:PyData->Nat
 | .tuple ds=>jL ds+3
 | .list ds=>jL ds+3
 | .dict _=>500
 | .none=>500
 | .bool _=>500
 | .int _=>500
 | .str _=>500
def jL:List PyData->Nat
 | []=>0
 | d::ds=>WY d+2+jL ds
end
mutual
theorem z9 {b b':Nat} (h:b<=b'):∀d:PyData,fine b d=true->fine b' d=true
 | .none,_=>by simp[fine]
 | .bool _,_=>by simp[fine]
 | .int i,e=>by
  have:=nF (show decide (i.natAbs<=b)=true from by simpa[fine] using e)
  simp only[fine]; exact j0 (by omega)
 | .str x,e=>by simpa[fine] using e
 | .tuple ds,e=>by simp only[fine] at e ⊢; exact lO h ds e
 | .list ds,e=>by simp only[fine] at e ⊢; exact lO h ds e
 | .dict _,e=>by simp[fine] at e
theorem lO {b b':Nat} (h:b<=b'):∀ds:List PyData,gQ b ds=true->gQ b' ds=true
 | [],_=>rfl
 | d::ds,e=>by
  simp only[gQ,xT] at e ⊢;exact⟨z9 h d e.1,lO h ds e.2⟩
end
mutual
theorem xq {b:Nat} (hb:b<10 ^ 60):∀d:PyData,fine b d=true->d.showable=true/\d.hasDict=false/\d.shown.length<=WY d
 | .none,_=>⟨rfl,rfl,by decide +kernel⟩
 | .bool c,_=>⟨rfl,rfl,by cases c <;> decide +kernel⟩
 | .int i,e=>by
  have h1:=nF (show decide (i.natAbs<=b)=true from by simpa[fine] using e)
  have h2:i.natAbs<10 ^ 60:=Nat.lt_of_le_of_lt h1 hb;refine⟨?_,rfl,?_⟩
  ·show decide (i.natAbs.log2<1920)=true;refine j0 (log2_small (zu h2 ?_));decide +kernel
  ·have:=int_text_length_le10 (k:=60) (by decide) h2
   show(Str.ofString (toString i)).length<=500;rw[PySem.ofString_length]; omega
 | .str x,e=>by
  have e':(decide (x.length<=40)&&x.cps.toList.all fun c=>decide (c<4294967296))=true:=by simpa[fine] using e
  rw[xT] at e';have h1:=nF e'.1;have h2:=StrLaws.reprText_len x (fun c hc=>by have:=j4.mp e'.2 c hc; have:=nF this; omega)
  refine⟨rfl,rfl,?_⟩;show(reprText x).length<=500;omega
 | .tuple ds,e=>by
  have e':gQ b ds=true:=by simpa[fine] using e
  obtain⟨h1,h2,h3⟩:=j8 hb ds e';refine⟨by simpa[PyData.showable] using h1,by simpa[PyData.hasDict] using h2,?_⟩
  have q:=tupleText_len_le (PyData.shownAll ds);show(tupleText (PyData.shownAll ds)).length<=jL ds+3;omega
 | .list ds,e=>by
  have e':gQ b ds=true:=by simpa[fine] using e
  obtain⟨h1,h2,h3⟩:=j8 hb ds e';refine⟨by simpa[PyData.showable] using h1,by simpa[PyData.hasDict] using h2,?_⟩
  have q:=listText_len_le (PyData.shownAll ds);show(listText (PyData.shownAll ds)).length<=jL ds+3;omega
 | .dict _,e=>by simp[fine] at e
theorem j8 {b:Nat} (hb:b<10 ^ 60):∀ds:List PyData,gQ b ds=true->PyData.showableAll ds=true/\PyData.hasDictAll ds=false/\((PyData.shownAll ds).map (·.length)).sum+2*(PyData.shownAll ds).length<=jL ds
 | [],_=>⟨rfl,rfl,by decide⟩
 | d::ds,e=>by
  have e':fine b d=true/\gQ b ds=true:=by simpa[gQ] using e
  obtain⟨h1,h2,h3⟩:=xq hb d e'.1;obtain⟨g1,g2,g3⟩:=j8 hb ds e'.2;refine⟨by simp[PyData.showableAll,h1,g1],by simp[PyData.hasDictAll,h2,g2],?_⟩
  simp only[PyData.shownAll,gZ,qP,gw,jL];omega
end
structure Ul (b D M:Nat) (d:PyData):Prop where
 f:fine b d=true
 dp:d.depth<=D
 m:WY d<=M
structure ab0 (b D M:Nat) (ds:List PyData):Prop where
 f:∀d∈ds,fine b d=true
 dp:∀d∈ds,d.depth<=D
 m:jL ds<=M
theorem Py {b:Nat} {i:Int} (h:i.natAbs<=b):Ul b 0 500 (.int i):=⟨by simp only[fine]; exact j0 h,bD _,bD _⟩
theorem Em {b:Nat} {x:Str} (h:fine 0 (.str x)=true):Ul b 0 500 (.str x):=⟨z9 (gm _) _ h,bD _,bD _⟩
section
variable {X:Cx}
end
theorem Ci {xs:List V} {i:Int} (h:0<=i):uR xs none (some i)=xs.take i.toNat:=by
 obtain⟨j,rfl⟩:∃j:Nat,i=j:=⟨i.toNat,by omega⟩
 unfold uR;rw[HT.Dp,HT.Jd,List.drop_zero,Nat.sub_zero,tu];by_cases q:j<=xs.length
 ·rw[Nat.min_eq_left q]
 ·rw[Nat.min_eq_right (by omega),pX,Jl (by omega)]
theorem kW {xs:List V} {i:Int} (h:0<=i):uR xs (some i) none=xs.drop i.toNat:=by
 obtain⟨j,rfl⟩:∃j:Nat,i=j:=⟨i.toNat,by omega⟩
 unfold uR;rw[HT.Dp,HT.Jd,tu];by_cases q:j<=xs.length
 ·rw[Nat.min_eq_left q,Jl (by rw[uE]; omega)]
 ·rw[Nat.min_eq_right (by omega),Du,List.take_nil,List.drop_of_length_le (by omega)]
section
variable {X:Cx}
theorem WM (hu:X.A.units+64<cLine):mL X (compareOp .NotEq) (fun x y H Q=>∃d e,At H d x/\At H e y/\d.hasDict=false/\e.hasDict=false/\d.canLay0=true/\e.canLay0=true/\d.depth<=60/\Q (.bl (!PyData.eqv d e)) H):=by
 refine .mk ?_;intro pins s σ H x y v u Q I rx ry h;obtain⟨d,e,hd,he,n1,n2,c1,c2,dp,q⟩:=h;obtain⟨as,r1⟩:=kE I.hok _ _ _ hd rx n1;obtain⟨bs,r2⟩:=kE I.hok _ _ _ he ry n2;exact SeqAt.compareNe_reads r1 r2 c1 c2 (by have:=DW d.depth e.depth; omega) (bN I q rfl)
theorem Pg (hu:X.A.units+64<cLine):mL X (compareOp .Eq) (fun x y H Q=>∃d e,At H d x/\At H e y/\d.hasDict=false/\e.hasDict=false/\d.canLay0=true/\e.canLay0=true/\d.depth<=60/\Q (.bl (PyData.eqv d e)) H):=by
 refine .mk ?_;intro pins s σ H x y v u Q I rx ry h;obtain⟨d,e,hd,he,n1,n2,c1,c2,dp,q⟩:=h;obtain⟨as,r1⟩:=kE I.hok _ _ _ hd rx n1;obtain⟨bs,r2⟩:=kE I.hok _ _ _ he ry n2;exact SeqAt.compareEq_reads r1 r2 c1 c2 (by have:=DW d.depth e.depth; omega) (bN I q rfl)
end
def FK (g:TG) (tb:TS) (D:Ends) (σ:St) (vs:List V) (H1:Hp):Prop:=∃j:Int,vs=[.int j]/\-(2 ^ 62)<=j/\j<2 ^ 62/\∃W:Nat->Nat->St->Hp->Prop,(∃m,W 0 m σ H1)/\∀i m σ H,W i m σ H ->
 ((MP 0 j.toNat).stop i H/\D.nx σ H)\/((MP 0 j.toNat).go i H/\∃N:St->Hp->Prop,(∀σ' H',N σ' H'->∃m',m'<m/\W (i+1) m' σ' H')/\∀x H',(MP 0 j.toNat).Fx i H x H'->g x σ H' fun σ2 H2=>tb { D with nx:=N,ct:=N,bk:=D.nx } σ2 H2)
theorem qF {ta:TA} {g:TG} {tb:TS} {D:Ends} {σ:St} {H:Hp}:Gk (zW ta) g tb D σ H=ta σ H (FK g tb D σ):=rfl
theorem FK.of {g:TG} {tb:TS} {D:Ends} {σ:St} {H:Hp} {n:Nat} {i:Int} (ei:i=n) (hn:n<=1000000) (Pv:Nat->St->Hp->Prop) (h0:Pv 0 σ H)
  (hs:∀i σ H,i<n->Pv i σ H->g (.int (0+(i:Nat))) σ H fun σ2 H2=>tb { D with nx:=Pv (i+1),ct:=Pv (i+1),bk:=D.nx } σ2 H2) (hd:∀σ H,Pv n σ H->D.nx σ H):FK g tb D σ [.int i] H:=by
 subst ei;refine⟨n,rfl,by omega,by omega,?_⟩
 rw[tu];exact zZ Pv h0 hs hd
theorem FK.ofN {g:TG} {tb:TS} {D:Ends} {σ:St} {H:Hp} {n:Nat} {i:Int} (ei:i=n) (hn:n<=1000000) (Pv:Nat->St->Hp->Prop) (h0:Pv 0 σ H)
  (hs:∀i σ H,i<n->Pv i σ H->∀N:St->Hp->Prop,(∀σ' H',Pv (i+1) σ' H'->N σ' H')->g (.int (0+(i:Nat))) σ H fun σ2 H2=>tb { D with nx:=N,ct:=N,bk:=D.nx } σ2 H2) (hd:∀σ H,Pv n σ H->D.nx σ H):FK g tb D σ [.int i] H:=FK.of ei hn Pv h0 (fun i σ H hi p=>hs i σ H hi p _ fun _ _ h=>h) hd
def TK (K:PySem.W.Frag) (g:TG) (tb:TS) (D:Ends) (σ:St) (x:V) (H1:Hp):Prop:=∃a,x=.ref a/\(∃xs,e_ K H1 a xs)/\∃W:Nat->Nat->St->Hp->Prop,(∃m,W 0 m σ H1)/\∀i m σ H,W i m σ H ->
 ((Vy K a).stop i H/\D.nx σ H)\/((Vy K a).go i H/\∃N:St->Hp->Prop,(∀σ' H',N σ' H'->∃m',m'<m/\W (i+1) m' σ' H')/\∀x H',(Vy K a).Fx i H x H'->g x σ H' fun σ2 H2=>tb { D with nx:=N,ct:=N,bk:=D.nx } σ2 H2)
theorem Di {K:PySem.W.Frag} {tl:TE} {g:TG} {tb:TS} {D:Ends} {σ:St} {H:Hp}:Gk (Eu K tl) g tb D σ H=tl σ H (TK K g tb D σ):=rfl
theorem TK.of {K:PySem.W.Frag} {g:TG} {tb:TS} {D:Ends} {σ:St} {H:Hp} {a:Addr} {xs:List V} (ha:H a=some (.tup xs)) (Pv:Nat->St->Hp->Prop) (h0:Pv 0 σ H) (hl:∀i σ H',i<=xs.length->Pv i σ H'->H' a=some (.tup xs))
  (hs:∀i x σ H,xs[i]?=some x->Pv i σ H->g x σ H fun σ2 H2=>tb { D with nx:=Pv (i+1),ct:=Pv (i+1),bk:=D.nx } σ2 H2) (hd:∀σ H,Pv xs.length σ H->D.nx σ H):TK K g tb D σ (.ref a) H:=
 ⟨a,rfl,⟨xs,e_.of ha⟩,TF (xs:=xs) Pv h0 (fun i σ H' hi p=>e_.of (hl i σ H' hi p)) hs hd⟩
def CK (js:List Nat) (te:TE) (σ:St) (Q:VK) (vs:List V) (H1:Hp):Prop:=∃j:Int,vs=[.int j]/\-(2 ^ 62)<=j/\j<2 ^ 62/\∀acc,H1 acc=none->∃W:Nat->Nat->List V->Hp->Prop,(∃m,W 0 m [] (upd H1 acc (.lst [])))/\∀i m ys H2,W i m ys H2 ->
 ((MP 0 j.toNat).stop i H2/\Q (.ref acc) H2)\/((MP 0 j.toNat).go i H2/\∀x H3,(MP 0 j.toNat).Fx i H2 x H3->te (some x::bQ js σ) H3 fun y H4=>H4 acc=some (.lst ys)/\ys.length<sizeLine/\∃m',m'<m/\W (i+1) m' (ys++[y]) (upd H4 acc (.lst (ys++[y]))))
theorem rZ {js:List Nat} {ta:TA} {te:TE} {σ:St} {H:Hp} {Q:VK}:gG js (zW ta) te σ H Q=ta σ H (CK js te σ Q):=rfl
theorem CK.of {js:List Nat} {te:TE} {σ:St} {H:Hp} {Q:VK} {n:Nat} {i:Int} (ei:i=n) (hn:n<=1000000)
  (h:∀acc,H acc=none->∃Pv:Nat->List V->Hp->Prop,Pv 0 [] (upd H acc (.lst [])) /\
   (∀i ys H',i<n->Pv i ys H'->te (some (.int (0+(i:Nat)))::bQ js σ) H' fun y cQ=>cQ acc=some (.lst ys)/\ys.length<sizeLine/\Pv (i+1) (ys++[y]) (upd cQ acc (.lst (ys++[y])))) /\
   ∀ys H',Pv n ys H'->Q (.ref acc) H'):CK js te σ Q [.int i] H:=by
 subst ei;have:=QF (ta:=fun _ H R=>R [.int n] H) (σ:=σ) (H:=H) (Q:=Q) (js:=js) (te:=te) (n:=n) (fun R hR=>hR) hn h;exact this
def Gs (mg:Str->Option Value) (x:Str) (i:Str):Prop:=∃t,mg x=some (.str i t)
theorem Bk {X:Cx} {x:Str} {i:Str} {pos:Pos} (h:Gs X.mg x i) (hg:Gl X x:=by rfl) (hd:(x==("__debug__" : Str))=false:=by decide):PE X (.Name x pos) (tC (.str i)):=by
 obtain⟨t,ht⟩:=h;exact Bm hg ht ⟨t,rfl⟩ hd
def oU (b:Int):List Int->Int
 | []=>b
 | x::r=>oU (if x>b then x else b) r
section
variable {prog:Program} {w:World} {A:Around} {R:Result->Shared->Prop} {It:Addr} {fp wr:List Addr} {n:Nat} {Pv:Nat->Value->Prop} {St:Nat->Heap->Prop}
theorem PB {ns:List Int} (W:Walks prog w A.in1 It fp wr n Pv St) (hn:n=ns.length) (hv:∀i v,Pv i v->∃t,v=.int (ns.getD i 0) t) (C:Addr) (nf:C∉fp) (d:Value):∀(m j:Nat) (z:Shared) (best:Int) (tb:Tok) (c:Nat),ns.length-j=m->j<=ns.length->St j z.heap ->
  z.heap.get? C=some ⟨.type "list",none,.seq #[.int best tb,.int best tb] c,#[]⟩ ->
  (∀t h' tk,(∀b o,b∉wr->b≠C->z.heap.get? b=some o->h'.get? b=some o)->R (.ok (.ret (.int (oU best (ns.drop j)) t))) { z with heap:=h',toks:=tk }) ->
  codeAny (model prog w) A (.builtin "max.loop" ⟨[.ref It,.none,.ref C],[("default",d)]⟩) R z:=by
 subst hn;have nw:C∉wr:=fun q=>nf (W.sub _ q);have nm:(toString "max" ++ toString ".loop" : String) = "max.loop" := by decide
 intro m
 induction m with
 | zero=>
  intro j z best tb c hm hj st hC fin;have e:j=ns.length:=by omega
  subst e;refine codeAny_builtin PySem.F.entry_max_loop ?_;rw[Around.under_plainId PySem.F.plain_max_loop _];show wpAny _ A.in1 (seqItems? (.ref C) >>= _) _ _ z;refine aW (qQ hC rfl ?_);show wpAny _ A.in1 (tryCatch (pyNext (.ref It)) _ >>= _) _ _ z;refine aW (zL (W.done z _ _ st fun h' tk kp=>?_));refine aW (wpAny_updateSeq (kp C _ nw hC) rfl (aW (wu (aZ ?_))));rw[Du] at fin;exact fin tb _ tk fun b o h1 h2 h3=>(GK _ _ (Ne.symm h2)).trans (kp b o h1 h3)
 | succ m ih=>
  intro j z best tb c hm hj st hC fin;have lt:j<ns.length:=by omega
  refine codeAny_builtin PySem.F.entry_max_loop ?_;rw[Around.under_plainId PySem.F.plain_max_loop _];show wpAny _ A.in1 (seqItems? (.ref C) >>= _) _ _ z;refine aW (qQ hC rfl ?_);show wpAny _ A.in1 (tryCatch (pyNext (.ref It)) _ >>= _) _ _ z;refine aW (zL (W.item j z _ _ lt st fun v h' tk hP st' kp=>?_));obtain⟨t,rfl⟩:=hv j v hP;have hC':=kp C _ nw hC;show wpAny _ A.in1 (tryCatch (holding [_,_] (richCompare .Gt _ (.int best tb) >>= _)) _ >>= _) _ _ _;refine aW (zL (oN (aW (richCompare_gives (op:=.Gt) (typeIs_int _ _ t) (typeIs_int _ _ tb) PySem.F.slot_int_gt PySem.F.entry_int_gt (PySem.F.args_int_gt_2 _ _) (gives_int_gt _ _ t tb) (fun x=>nomatch x) ?_))))
  refine aW (oN (Bd (aW (wu (aZ ?_)))))
  have dr:ns.drop j=ns.getD j 0::ns.drop (j+1):=by
   rw[KH lt,jD,eF lt]; rfl
  rw[dr] at fin;by_cases hb:ns.getD j 0>best
  ·have e1:oU best (ns.getD j 0::ns.drop (j+1))=oU (ns.getD j 0) (ns.drop (j+1)):=by rw[oU,bx hb]
   rw[e1] at fin;rw[j0 hb];simp only[if_true];refine aW (wpAny_updateSeq hC' rfl (aW (wu ?_)));rw[nm];refine aZ ⟨plainId_quiet PySem.F.plain_max_loop _,ih (j+1) _ _ t _ (by omega) lt (W.frame _ _ _ st' fun b hb o e=>?_) (Jj _ hC' rfl) fun t2 h2 tk2 k2=>?_⟩
   ·exact(GK _ _ (fun q:C=b=>nf (by rw[q]; exact hb))).trans e
   ·exact fin t2 h2 tk2 fun b o h1 h3 e=>k2 b o h1 h3 ((GK _ _ (Ne.symm h3)).trans (kp b o h1 e))
  ·have e1:oU best (ns.getD j 0::ns.drop (j+1))=oU best (ns.drop (j+1)):=by rw[oU,aX hb]
   rw[e1] at fin;rw[mH hb];simp only[GD,if_false];refine aW (wu ?_);rw[nm];refine aZ ⟨plainId_quiet PySem.F.plain_max_loop _,ih (j+1) _ best tb c (by omega) lt st' hC' fun t2 h2 tk2 k2=>?_⟩
   exact fin t2 h2 tk2 fun b o h1 h3 e=>k2 b o h1 h3 (kp b o h1 e)
theorem Lh {ns:List Int} (W:Walks prog w A.in1 It fp wr n Pv St) (hn:n=ns.length) (hv:∀i v,Pv i v->∃t,v=.int (ns.getD i 0) t) (C:Addr) (nf:C∉fp) (d:Value) (z:Shared) (c:Nat) (st:St 0 z.heap)
  (hC:z.heap.get? C=some ⟨.type "list",none,.seq #[] c,#[]⟩)
  (f0:ns=[]->∀h' tk,(∀b o,b∉wr->b≠C->z.heap.get? b=some o->h'.get? b=some o)->R (.ok (.ret d)) { z with heap:=h',toks:=tk })
  (f1:∀x r,ns=x::r->∀t h' tk,(∀b o,b∉wr->b≠C->z.heap.get? b=some o->h'.get? b=some o)->R (.ok (.ret (.int (oU x r) t))) { z with heap:=h',toks:=tk }) :
  codeAny (model prog w) A (.builtin "max.loop" ⟨[.ref It,.none,.ref C],[("default",d)]⟩) R z:=by
 have nw:C∉wr:=fun q=>nf (W.sub _ q);have nm:(toString "max" ++ toString ".loop" : String) = "max.loop" := by decide
 refine codeAny_builtin PySem.F.entry_max_loop ?_;rw[Around.under_plainId PySem.F.plain_max_loop _];show wpAny _ A.in1 (seqItems? (.ref C) >>= _) _ _ z;refine aW (qQ hC rfl ?_);show wpAny _ A.in1 (tryCatch (pyNext (.ref It)) _ >>= _) _ _ z;cases ns with
 | nil=>
  subst hn;refine aW (zL (W.done z _ _ st fun h' tk kp=>?_));show wpAny _ A.in1 (rule _ >>= _) _ _ _;exact aW (qT (aZ (f0 rfl h' tk fun b o h1 _ e=>kp b o h1 e)))
 | cons x r=>
  refine aW (zL (W.item 0 z _ _ (by rw[hn]; exact Nat.succ_pos _) st fun v h' tk hP st' kp=>?_))
  obtain⟨t,e⟩:=hv 0 v hP;have e:v=.int x t:=e;subst e;have hC':=kp C _ nw hC;show wpAny _ A.in1 (updateSeq C (fun _=>#[Value.int x t,Value.int x t]) >>= _) _ _ _;refine aW (wpAny_updateSeq hC' rfl ?_);rw[nm];refine aZ ⟨plainId_quiet PySem.F.plain_max_loop _,PB W hn hv C nf d _ 1 _ x t _ rfl (by simp) (W.frame _ _ _ st' fun b hb o e=>?_) (Jj _ hC' rfl) fun t2 h2 tk2 k2=>?_⟩
  ·exact(GK _ _ (fun q:C=b=>nf (by rw[q]; exact hb))).trans e
  ·exact f1 x r rfl t2 h2 tk2 fun b o h1 h3 e=>k2 b o h1 h3 ((GK _ _ (Ne.symm h3)).trans (kp b o h1 e))
end
theorem Mr (a v:Value):argsOk "max" ⟨[a],[("default",v)]⟩:=by unfold argsOk; kernel_rfl
section
variable {prog:Program} {w:World} {A:Around} {E:Value->Shared->Prop} {s:Shared}
theorem Mg {l:Addr} {its:List Value} {ns:List Int} {d:Value} {Q:Value->Shared->Prop} (hh:A.handled=none) (hl:s.heap.IsList l its.toArray) (hi:∀i v,its[i]?=some v->∃t,v=Value.int (ns.getD i 0) t) (hlen:its.length=ns.length)
  (h0:ns=[]->∀h' tk,(∀b o,s.heap.get? b=some o->h'.get? b=some o)->Q d { s with heap:=h',toks:=tk })
  (h1:∀b r,ns=b::r->∀t h' tk,(∀b o,s.heap.get? b=some o->h'.get? b=some o)->Q (Value.int (oU b r) t) { s with heap:=h',toks:=tk }) :
  wpAny (model prog w) A (call (.builtin "max") [.ref l] [("default",d)]) Q E s:=by
 have nm:(toString "max" ++ toString ".loop" : String) = "max.loop" := by decide
 have lt:l<s.heap.objs.size:=by obtain⟨_,e,_⟩:=hl; exact cg e
 refine kmk_tree PySem.F.kind_max PySem.F.plain_max PySem.F.entry_max (Mr _ _) ?_;show wpAny _ A.in1 (Builtin.Builtins.bindParams "max" ["key","default"] 0 ⟨[],[("default",d)]⟩ >>= _) _ _ s;refine aW (v_ (show Builtin.Builtins.bindParams "max" ["key","default"] 0 ⟨[],[("default",d)]⟩=pure [none,some d] from rfl) ?_);refine aW (aZ ?_);refine aW (Dz hl ?_);refine aW (uF ?_);rw[nm];have W:=Walks.list (prog:=prog) (w:=w) (A:=A.in1) hh s.heap.objs.size l (fJ lt) its.toArray;generalize eh:s.heap.push { cls:=.type "list_iterator",data:=.fields #[.ref l,.int 0 0] }=h1';have sz:h1'.objs.size=s.heap.objs.size+1:=by rw[<- eh,g8]
 have k1:∀b o,s.heap.get? b=some o->h1'.get? b=some o:=fun b o e=>by rw[<- eh]; exact dW _ e
 have hit:h1'.IsListIter s.heap.objs.size l 0:=by rw[<- eh]; exact⟨_,dw _ rfl,rfl,rfl⟩
 have hl1:h1'.IsList l its.toArray:=by rw[<- eh]; exact hl.push _
 have nf:h1'.objs.size∉[s.heap.objs.size,l]:=fun q=>by
  rcases bF.mp q with e | q
  ·rw[sz] at e; exact Nat.succ_ne_self _ e
  ·have e:=dH.mp q; rw[sz] at e; rw[<- e] at lt; exact sZ _ (zu (Dv _) lt)
 have ol:∀{h':Heap},(∀b o,b∉[s.heap.objs.size]->b≠h1'.objs.size->(h1'.push { cls:=.type "list",data:=.seq #[] 0 }).get? b=some o->h'.get? b=some o)->∀b o,s.heap.get? b=some o->h'.get? b=some o:=fun k b o e=>by
  have lb:=cg e;refine k b o (fun q=>?_) (fun q=>?_) (dW _ (k1 b o e))
  ·rw[dH.mp q] at lb; exact sZ _ lb
  ·rw[q,sz] at lb; exact sZ _ (zu (Dv _) lb)
 refine aZ ⟨plainId_quiet PySem.F.plain_max_loop _,Lh (ns:=ns) W (by rw[eU,hlen]) (fun i v e=>hi i v (by simpa using e)) h1'.objs.size nf d _ _ ?_ (dw _ rfl) (fun e h' tk k=>h0 e h' tk (ol k)) (fun x r e t h' tk k=>h1 x r e t h' tk (ol k))⟩
 exact W.frame _ _ _ (show h1'.IsListIter s.heap.objs.size l 0/\h1'.IsList l its.toArray from⟨hit,hl1⟩) fun b _ o e=>dW _ e
end
section
variable {X:Cx}
def Uy (t:TA) (te:TE):TE:=fun σ H Q=>t σ H fun vs H1=>te σ H1 fun y H2=>∃(p:Addr) (ns:List Int),vs=[.ref p]/\H2 p=some (.lst (ns.map V.int))/\(ns=[]->Q y H2)/\∀b r,ns=b::r->Q (.int (oU b r)) H2
theorem Am {ns:List Int}:∀{us:List Value},Vals (ns.map V.int) us->∀i v,us[i]?=some v->∃t,v=Value.int (ns.getD i 0) t:=by
 induction ns with
 | nil=>intro us r i v e; cases r; simp at e
 | cons n ns ih=>
  intro us r i v e;cases r with
  | cons r1 r2=>
   cases i with
   | zero=>
    obtain⟨t,rfl⟩:=(r1:∃t,_=Value.int n t);simp at e;exact⟨t,e.symm⟩
   | succ i=>simpa using ih r2 i v (by simpa using e)
theorem Sh {e e2:Expr} {t:TA} {te:TE} {p pos Tf:Pos} (hc:X.calm=true) (hm:X.mg "max" = none) (ha:PA X [e] t) (hk:PE X e2 te) (hg:Gl X "max" := by rfl) (h1:b8 e=true:=by rfl) :
  PE X (.Call (.Name "max" p) [e] [⟨some "default",e2,Tf⟩] pos) (Uy t te):=by
 refine .mk ?_;intro pins s σ H Q I h;refine uG (iK I hg hm tW ?_ (by decide) (by decide))
 refine callWith_kw ?_ ?_ ?_ ?_ ?_
 ·refine cM (ha pos pins s σ H _ I h) fun us s1 qx=>?_;obtain⟨vs,H1,I1,r,q⟩:=qx;refine cM ((R4 hk Wr:PK X [⟨some "default",e2,Tf⟩] _) pos pins s1 σ H1 (fun ys H2=>∃y,ys=[y]/\(∃(p:Addr) (ns:List Int),vs=[.ref p]/\H2 p=some (.lst (ns.map V.int))/\(ns=[]->Q y H2)/\∀b r,ns=b::r->Q (.int (oU b r)) H2)) I1 ?_) fun ws s2 ⟨zs,H2,I2,rz,q2⟩=>?_
  ·show te σ H1 (fun x H2=>∃y,[x]=[y]/\_)
   have fe:(fun(x:V) (H2:Hp)=>∃y,[x]=[y]/\(∃(p:Addr) (ns:List Int),vs=[.ref p]/\H2 p=some (.lst (ns.map V.int))/\(ns=[]->Q y H2)/\∀b r,ns=b::r->Q (.int (oU b r)) H2))=fun y H2=>∃(p:Addr) (ns:List Int),vs=[.ref p]/\H2 p=some (.lst (ns.map V.int))/\(ns=[]->Q y H2)/\∀b r,ns=b::r->Q (.int (oU b r)) H2:=by
    funext x H2
    refine propext ⟨?_,fun z=>⟨x,rfl,z⟩⟩;rintro⟨y,ey,z⟩;cases ey;exact z
   rw[fe];exact q
  ·obtain⟨y,rfl,l,ns,rfl,hl,q0,q1⟩:=q2;obtain⟨u,rfl,ru⟩:=r.one;cases ru;obtain⟨v,rfl,rv⟩:=rz.one;obtain⟨_,its,n,rvs,eo⟩:=I2.hok l _ hl;have hlen:=rvs.length;rw[b7] at hlen;refine Mg (ns:=ns) (I2.ok.hd hc) (show s2.heap.IsList l its.toArray from⟨_,eo,rfl,n,rfl⟩) (Am rvs) hlen.symm (fun e h' tk k=>⟨y,H2,I2.kept (t':=tk) k,rv,q0 e⟩) (fun b r e t h' tk k=>⟨.int (oU b r),H2,I2.kept (t':=tk) k,⟨t,rfl⟩,q1 b r e⟩)
 ·rw[cD h1]; rfl
 ·exact cP (es:=[e]) (by simp[h1])
 ·rfl
 ·rfl
end
def jQ (t:Str):Nat:=if(("come" : Str)==t)=true then 0 else if(("done" : Str)==t)=true then 1 else 2
def Uq:List V:=[.str "come",.str "done",.str "wait"]
def ZZ (K:PySem.W.Frag):V->List V->Hp->VK->Prop:=fun x xs H Q=>∃(p:Addr) (t:Str),x=.ref p/\e_ K H p Uq/\xs=[.str t]/\t∈(["come","done","wait"]:List Str)/\Q (.int (jQ t)) H
theorem vg {x y z:V} {us:List Value} (h:Vals [x,y,z] us):∃u v q,us=[u,v,q]/\RelV x u/\RelV y v/\RelV z q:=by
 obtain⟨u,r,rfl,h1,h⟩:=h.un;obtain⟨v,q,rfl,h2,h3⟩:=h.two;exact⟨u,v,q,rfl,h1,h2,h3⟩
theorem Ti {t:Str} (h:t∈(["come","done","wait"]:List Str)) (h0:(("come" : Str)==t)=false) (h1:(("done" : Str)==t)=false):(("wait" : Str)==t)=true:=by
 simp only[bF,dU,or_false] at h;rcases h with rfl | rfl | rfl
 ·revert h0; decide +kernel
 ·revert h1; decide +kernel
 ·decide +kernel
section
variable {X:Cx}
theorem Df {prog:Program} {w:World} {A:Around} {E:Value->Shared->Prop} {s:Shared} {p:Addr} {a b c t:Str} {k0 k1 k2 k3:Tok} {Q:Value->Shared->Prop} (ht:IsTup s.heap p #[.str a k0,.str b k1,.str c k2]) (hl:(a==t)=false->(b==t)=false->(c==t)=true)
  (q:∀tk,Q (Value.int (if(a==t)=true then 0 else if(b==t)=true then 1 else 2) tk) { s with toks:=s.toks+1 }):wpAny (model prog w) A (call (.builtin "tuple.index") [.ref p,.str t k3]) Q E s:=by
 refine xU PySem.F.slot_tuple_index ht.typeIs PySem.F.entry_tuple_index ?_ (PySem.F.args_tuple_index_2 _ _);show wpAny _ A.in1 (Builtin.Tuple.tupleItemsOf (.ref p) >>= _) _ _ s;refine aW (tupleItemsOf_ ht ?_);show wpAny _ _ ((pure 0:Sem Nat) >>= _) _ _ s;refine aW (aZ ?_);show wpAny _ _ ((pure 3:Sem Nat) >>= _) _ _ s;refine aW (aZ ?_);show wpAny _ _ (forIn [0:3] _ _ >>= _) _ _ s;rw[Std.Legacy.Range.forIn_eq_forIn_range'];have e:List.range' [0:3].start [0:3].size [0:3].step=[0,1,2]:=rfl;rw[e,Dt]
 have mk:∀(i:Int) {R:PySem.Fin->Shared->Prop},(∀tk,R (.done (.ret (.int i tk))) { s with toks:=s.toks+1 })->wpAny (model prog w) A.in1 (retInt i) R E s:=fun i {R} h=>by
  unfold retInt;refine aW (wpAny_mkInt (aZ (h _)))
 have eq:∀(z:Str) (k:Tok),SeqAt.EqAt A.in1 s (.str z k) (.str t k3) (z==t):=fun z k=>SeqAt.EqAt.str_str z k t k3;cases e0:(a==t) with
 | true=>
  rw[e0] at q;refine aW (aW (aW (eq a k0 _ _ _ _ ?_)));rw[e0,bx rfl];refine aW (mk 0 fun tk=>aZ (aZ (aZ ⟨_,rfl,q tk⟩)))
 | false=>
  rw[e0] at q;refine aW (aW (aW (eq a k0 _ _ _ _ ?_)));rw[e0,aX (by decide)]
  refine aZ ?_;show wpAny _ _ (forIn [1,2] _ _) _ _ s;rw[Dt];cases e1:(b==t) with
  | true=>
   rw[e1] at q;refine aW (aW (eq b k1 _ _ _ _ ?_));rw[e1,bx rfl];refine aW (mk 1 fun tk=>aZ (aZ (aZ ⟨_,rfl,q tk⟩)))
  | false=>
   rw[e1] at q;refine aW (aW (eq b k1 _ _ _ _ ?_));rw[e1,aX (by decide)]
   refine aZ ?_;show wpAny _ _ (forIn [2] _ _) _ _ s;rw[Dt];refine aW (aW (eq c k2 _ _ _ _ ?_));rw[hl e0 e1,bx rfl];refine aW (mk 2 fun tk=>aZ (aZ (aZ ⟨_,rfl,q tk⟩)))
theorem Li {K:PySem.W.Frag} (hK:X.K=K):YH X "tuple.index" (ZZ K):=by
 subst hK;intro pins s σ H x xs v us Q I rx rv h;obtain⟨p,t,rfl,hp,rfl,ht,q⟩:=h;cases rx;obtain⟨u,rfl,tk,rfl⟩:=rv.one;obtain⟨its,r,pt,_⟩:=I.tuple hp;obtain⟨u0,u1,u2,rfl,⟨k0,rfl⟩,⟨k1,rfl⟩,⟨k2,rfl⟩⟩:=vg r;refine Df pt (Ti ht) fun tk'=>⟨.int (jQ t),H,I.tok _,⟨tk',?_⟩,q⟩;unfold jQ;split
 ·rfl
 ·split <;> rfl
def GT2 (K:PySem.W.Frag) (mg:Str->Option Value) (x:Str) (W:List V):Prop:=∃a,mg x=some (.ref a)/\(∃o,K.lookup a=some o/\o.cls=.type "tuple" /\ o.dict=none)/\∀H,e_ K H a W
def Zt (K:PySem.W.Frag) (W:List V):TE:=fun _ H Q=>∀a,(∃o,K.lookup a=some o/\o.cls=.type "tuple" /\ o.dict=none)->(∀H',e_ K H' a W)->Q (.ref a) H
theorem R_ {K:PySem.W.Frag} {x:Str} {W:List V} {pos:Pos} (hK:X.K=K) (h:GT2 K X.mg x W) (hg:Gl X x:=by rfl) (hd:(x==("__debug__" : Str))=false:=by decide):PE X (.Name x pos) (Zt K W):=by
 obtain⟨a,ha,ho,hs⟩:=h;refine .mk ?_;intro pins s σ H Q I q;exact Bm (v:=.ref a) hg ha rfl hd pins s σ H Q I (q a ho hs)
end
section
variable {X:Cx} {pos:Pos}
def Uv (i j l:Nat) (ta:TA):TS:=fun D σ H=>ta σ H fun vs H1=>∃v w z,vs=[v,w,z]/\D.nx (((σ.set l (some z)).set j (some w)).set i (some v)) H1
theorem Jr {i j l:Nat} {x y z:Str} {a b c:Expr} {ta:TA} {px py pz pt:Pos} {kt k2 Wn} (hc:X.calm=true) (hN:X.N.Nodup) (hi:X.N[i]?=some x) (hj:X.N[j]?=some y) (hl:X.N[l]?=some z)
  (hx:X.env.scope.names.lookup x=some .local) (hy:X.env.scope.names.lookup y=some .local) (hz:X.env.scope.names.lookup z=some .local) (ha:PA X [a,b,c] ta)
  (hw:swappedStores [.Tuple [.Name x px,.Name y py,.Name z pz] kt pt] (.Tuple [a,b,c] k2 Wn) X.env=pure (some [x,y,z]))
  (hs:swapsWithSole [.Tuple [.Name x px,.Name y py,.Name z pz] kt pt] (.Tuple [a,b,c] k2 Wn) pos.line X.env=pure false:=by rfl) :
  PS X (.Assign [.Tuple [.Name x px,.Name y py,.Name z pz] kt pt] (.Tuple [a,b,c] k2 Wn) pos) (Uv i j l ta):=by
 refine .mk ?_;intro pins s σ H D I h;rw[exec_Assign_arm,hs];refine aW (Bc (aW (aZ ?_)));rw[aX (by decide)]
 refine aW (Tuple_ (cM (ha _ pins s σ H _ I h) fun us s1 qx=>?_));obtain⟨vs,H1,I1,r1,v,w,t,e1,q1⟩:=qx;subst e1;obtain⟨u1,u2,u3,rfl,rv,Dq,rt⟩:=vg r1;refine uF ?_ (by show 3<=sizeLine; decide)
 have I2:Inv X pins σ H1 { s1 with heap:=s1.heap.push { cls:=.type "tuple",data:=.seq [u1,u2,u3].toArray } }:=I1.kept (t':=s1.toks) fun b o e=>dW _ e
 rw[hw];refine aW (aZ ?_);show wpAny (model X.prog X.w) X.A (do rule "assign.swapped-stores"; let items <- unpackItems (.ref s1.heap.objs.size) 3 none; assignInOrder [fun v=>bindName X.env z v,fun v=>bindName X.env y v,fun v=>bindName X.env x v] items.reverse; pure Flow.next) _ _ _
 refine aW (qT (aW (unpackItems_tuple (items:=#[u1,u2,u3]) (I.ok.hd hc) (IsTup.new s1.heap _) fun h' hx'=>?_)));have I3:=I2.kept (h':=h') (t':=s1.toks) fun b o e=>hx' b o (fJ (cg e)) e;show wpAny _ _ (assignInOrder [fun v=>bindName X.env z v,fun v=>bindName X.env y v,fun v=>bindName X.env x v] [u3,u2,u1] >>= fun _=>pure Flow.next) _ _ _;refine aW (assignInOrder_cons (DQ (iC I3 hN hl (.inl hz) rt (fun s2 I4=>?_) (.inr hz))));refine assignInOrder_cons (DQ (iC I4 hN hj (.inl hy) Dq (fun s3 I5=>?_) (.inr hy)));exact assignInOrder_cons (DQ (iC I5 hN hi (.inl hx) rv (fun s4 I6=>assignInOrder_nil (aZ ⟨_,H1,I6,q1⟩)) (.inr hx)))
end
theorem Inv.Ru {X:Cx} {pins:List (Addr×Obj)} {σ:St} {H:Hp} {s:Shared} {h':Heap} {t':Nat} {e it:Addr} (I:Inv X pins σ H s) (k:∀b o,b≠e->b≠it->s.heap.get? b=some o->h'.get? b=some o) (fe:gb X pins H e) (fi:gb X pins H it) :
  Inv X pins σ H { s with heap:=h',toks:=t' }:=by
 have k2:∀b o,b∉[e,it]->s.heap.get? b=some o->h'.get? b=some o:=fun b o hb q=>k b o (fun z=>hb (by simp[z])) (fun z=>hb (by simp[z])) q
 have fp:∀b∈[e,it],gb X pins H b:=fun b hb=>by
  rcases bF.mp hb with z | z
  ·rw[z]; exact fe
  ·rw[dH.mp z]; exact fi
 have ni:∀b u,H b=some u->b∉[e,it]:=fun b u q hb=>by rw[(fp b hb).1] at q; cases q
 refine I.step (g':=s.gens) (d':=s.drawn) (ch:=[e,it]) (fun b hb=>?_) (fun b o _ _ hc q _=>k2 b o hc q) (fun b o _ _ hc q _=>⟨o.slots,k2 b o hc q⟩) (fun _ _ _ _ n=>n) (fun b o hc q=>⟨o,k2 b o hc q⟩) (fun _ _ q=>q) (fun _ _ _ q=>q)
  (fun b ps q=>⟨#[],by rw[q]; simp⟩) (fun m hm=>?_) (fun b u q=>?_) I.bare
 ·obtain⟨_,f1,_,f3,f4,f5⟩:=fp b hb;exact⟨f3,f1,f4,f5⟩
 ·obtain⟨o,es,ep,ho,r⟩:=hm;refine⟨o,es,ep,k2 _ o (fun hb=>(fp _ hb).2.1 rfl) ho,r⟩
 ·refine(I.hok b u q).stay (fun c v hc z=>k2 c v ?_ z) (fun _ z=>z) fun _ _ z=>z;rcases hc with z | z
  ·rw[z]; exact ni b u q
  ·exact ni c _ z
def YL (K:PySem.W.Frag) (a:Addr):It:=
 ⟨fun i H=>∃xs x,b_ K H a xs/\xs[i]?=some x,fun i H x H'=>∃p y,H p=none/\x=.ref p/\H'=upd H p (.tup [.int i,y])/\∀xs,b_ K H a xs->xs[i]?=some y,fun i H=>∃xs,b_ K H a xs/\xs.length<=i⟩
theorem Kc {P:Program} {w:World} {K:PySem.W.Frag} {elts:List Expr} {x1} {tp:Pos} (a e it:Addr) (hne:e≠it):Turn P w K (.Tuple elts x1 tp) (YL K a) [e,it] e (fun i h=>(∃old,IsEnum h e it (i:Nat) old)/\h.IsListIter it a i) where
 mem:=by simp
 obj:=fun i h st b hb=>by
  obtain⟨⟨old,he⟩,o,ho,c,d⟩:=st;rcases bF.mp hb with z | z
  ·rw[z]; exact⟨_,he,fun v q=>by cases q⟩
  ·rw[dH.mp z]; exact⟨o,ho,fun v q=>by rw[d] at q; cases q⟩
 keep:=fun i h h' st k=>by
  obtain⟨⟨old,he⟩,hi⟩:=st;exact⟨⟨old,k e (by simp) _ he⟩,hi.at fun o q=>k it (by simp) o q⟩
 item:=by
  intro X hP hw hK hc i pins s σ H E I hf st hg;subst hP hw hK;obtain⟨⟨old,he⟩,hi⟩:=st;obtain⟨xs,x,hq,hx⟩:=hg;obtain⟨its,rv,p,hz⟩:=I.list hq;obtain⟨u,hu,ru⟩:=rv.get hx;have fe:=hf e (by simp)
  have fi:=hf it (by simp)
  refine wpAny_pyNext_enum_item he hi p.isList (x:=u) (by simpa using hu) hne fun h' eo hi' ht hsz kk=>?_
  have fr:H s.heap.objs.size=none:=I.hok.fresh (bD _)
  have I1:Inv X pins σ (upd H s.heap.objs.size (.tup [.int i,x])) { s with heap:=s.heap.push { cls:=.type "tuple",data:=.seq #[.int i s.toks,u] },toks:=s.toks }:=
   I.laid (t':=s.toks) (fun b v q=>dW _ q) (bD _) ⟨(by show 2<=sizeLine; decide),[.int i s.toks,u],.cons ⟨_,rfl⟩ (.cons ru .nil),⟨_,dw _ rfl,rfl,_,rfl⟩⟩
  have ee:e<s.heap.objs.size:=cg he;have ei:it<s.heap.objs.size:=by obtain⟨o,ho,_⟩:=hi; exact cg ho
  have XC:gb X pins (upd H s.heap.objs.size (.tup [.int i,x])) e:=⟨by rw[aL (fJ ee)]; exact fe.1,fe.2⟩
  have fi1:gb X pins (upd H s.heap.objs.size (.tup [.int i,x])) it:=⟨by rw[aL (fJ ei)]; exact fi.1,fi.2⟩
  have I2:Inv X pins σ (upd H s.heap.objs.size (.tup [.int i,x])) { s with heap:=h',toks:=s.toks+1 }:=I1.Ru (t':=s.toks+1) (fun b o h1 h2 q=>by
   by_cases z:b=s.heap.objs.size
   ·subst z;rw[dw _ rfl] at q;cases q;exact ht
   ·rcases Heap.get?_push_cases q with w | w
    ·exact absurd w.1 z
    ·exact kk b o h1 h2 w) XC fi1
  refine⟨_,rfl,wpAny_letOwnedTupleGo_enum eo fun h'' en sb=>⟨.ref s.heap.objs.size,_,I2.turned (it:=e) (t':=s.toks+1) (fun b o hb q=>sb.extBut b o hb q) XC.1 XC.2.1 XC.2.2.2.1 XC.2.2.2.2.1 XC.2.2.2.2.2,rfl,⟨_,x,fr,rfl,rfl,fun ys hy=>by rw[I.wY hy hq]; exact hx⟩,⟨⟨_,en⟩,?_⟩,fun b hb=>?_⟩⟩
  ·exact hi'.at fun o q=>sb.extBut it o (Ne.symm hne) q
  ·rcases bF.mp hb with z | z
   ·rw[z]; exact XC.1
   ·rw[dH.mp z]; exact fi1.1
 done:=by
  intro X hP hw hK hc i pins s σ H E I hf st hg;subst hP hw hK;obtain⟨⟨old,he⟩,hi⟩:=st;obtain⟨xs,hq,hx⟩:=hg;obtain⟨its,rv,p,hz⟩:=I.list hq;have hl:=rv.length;obtain⟨f0,f1,f2,f3,f4,f5⟩:=hf it (by simp)
  exact wpAny_pyNext_enum_end (I.ok.hd hc) he hi p.isList (by simp; omega) fun h' eb=>⟨rfl,I.turned (t':=s.toks) (fun b o hb q=>eb b o hb q) f0 f1 f3 f4 f5⟩
 self:=fun _ _ _ _ _ st h=>by
  obtain⟨⟨old,he⟩,_⟩:=st;exact wpAny_pyIter_enum he h
section
variable {X:Cx}
def Vl (K:PySem.W.Frag) (ta:TA):TI:=fun σ H R=>ta σ H fun vs H1=>∃a,vs=[.ref a]/\(∃xs,b_ K H1 a xs)/\R (YL K a) H1
theorem Jt {K:PySem.W.Frag} {e:Expr} {elts:List Expr} {x1} {tp p pos:Pos} {ta:TA} (hK:X.K=K) (hm:X.mg "enumerate" = none) (ha:PA X [e] ta) (hg:Gl X "enumerate" := by rfl) (h1:b8 e=true:=by rfl) :
  PI X (.Tuple elts x1 tp) (.Call (.Name "enumerate" p) [e] [] pos) (Vl K ta):=by
 subst hK;refine .mk ?_;intro pins s σ H R I h;refine uG (iK I hg hm Cz ?_ (by decide) (by decide))
 refine PyProof.Rows.callWith_type1 (cM (ha pos pins s σ H _ I h) fun us s1 ⟨vs,H1,I1,r1,q1⟩=>?_) (cD h1) (cP (es:=[]) rfl);obtain⟨a,rfl,⟨xs,hq⟩,q⟩:=q1;obtain⟨u,rfl,ru⟩:=r1.one;cases ru;obtain⟨its,rv,pl,hz⟩:=I1.list hq;refine call_enumerate_list pl.isList fun h' he hi hsz kk=>?_;have I2:Inv X pins σ H1 { s1 with heap:=h' }:=I1.kept (t':=s1.toks) kk
 have f1:H1 (s1.heap.objs.size+1)=none:=I1.hok.fresh (zp _);have f0:H1 s1.heap.objs.size=none:=I1.hok.fresh (bD _);refine wpAny_pyIter_enum he ⟨s1.heap.objs.size+1,_,_,YL X.K a,H1,rfl,I2,Kc a (s1.heap.objs.size+1) s1.heap.objs.size (Nat.succ_ne_self _),⟨⟨_,he⟩,hi⟩,fun b hb=>?_,q⟩;rcases bF.mp hb with z | z
 ·rw[z]; exact I1.tL (zp _) f1
 ·rw[dH.mp z]; exact I1.tL (bD _) f0
def EK (K:PySem.W.Frag) (g:TG) (tb:TS) (D:Ends) (σ:St) (vs:List V) (H1:Hp):Prop:=∃a,vs=[.ref a]/\(∃xs,b_ K H1 a xs)/\∃W:Nat->Nat->St->Hp->Prop,(∃m,W 0 m σ H1)/\∀i m σ H,W i m σ H ->
 ((YL K a).stop i H/\D.nx σ H)\/((YL K a).go i H/\∃N:St->Hp->Prop,(∀σ' H',N σ' H'->∃m',m'<m/\W (i+1) m' σ' H')/\∀x H',(YL K a).Fx i H x H'->g x σ H' fun σ2 H2=>tb { D with nx:=N,ct:=N,bk:=D.nx } σ2 H2)
theorem yR {K:PySem.W.Frag} {ta:TA} {g:TG} {tb:TS} {D:Ends} {σ:St} {H:Hp}:Gk (Vl K ta) g tb D σ H=ta σ H (EK K g tb D σ):=rfl
theorem EK.of {K:PySem.W.Frag} {g:TG} {tb:TS} {D:Ends} {σ:St} {H:Hp} {a:Addr} {xs:List V} (ha:H a=some (.lst xs)) (Pv:Nat->St->Hp->Prop) (h0:Pv 0 σ H) (hl:∀i σ H',i<=xs.length->Pv i σ H'->H' a=some (.lst xs))
  (hs:∀i x σ H p,xs[i]?=some x->Pv i σ H->H p=none->g (.ref p) σ (upd H p (.tup [.int (i:Nat),x])) fun σ2 H2=>tb { D with nx:=Pv (i+1),ct:=Pv (i+1),bk:=D.nx } σ2 H2) (hd:∀σ H,Pv xs.length σ H->D.nx σ H):EK K g tb D σ [.ref a] H:=by
 refine⟨a,rfl,⟨xs,b_.of ha⟩,fun i m σ H=>m=xs.length-i/\i<=xs.length/\Pv i σ H,⟨_,rfl,gm _,h0⟩,?_⟩;rintro i m σ H ⟨rfl,hi,p⟩;have q:b_ K H a xs:=b_.of (hl i σ H hi p);by_cases hlt:i<xs.length
 ·refine .inr ⟨⟨xs,xs[i],q,eF hlt⟩,Pv (i+1),fun σ' H' p'=>⟨xs.length-(i+1),by omega,rfl,hlt,p'⟩,fun x H' y=>?_⟩
  obtain⟨t,z,ht,rfl,rfl,hz⟩:=y;exact hs i z σ H t (hz xs q) p ht
 ·have e:i=xs.length:=by omega
  subst e;exact .inl ⟨⟨xs,q,bD _⟩,hd σ H p⟩
end
section
variable {X:Cx}
theorem kZ:cV X (.type "list") (fun vs H Q=>∃(p:Addr) (ys:List V),vs=[.ref p]/\H p=some (.lst ys)/\∀l,H l=none->Q (.ref l) (upd H l (.lst ys))):=by
 refine .mk ?_;intro pins s σ H vs us Q I r h;obtain⟨p,ys,e,hp,q⟩:=h;exact rK pins s σ H vs us Q I r ⟨p,ys,e,.inl (b_.of hp),q⟩
theorem d7 {K:PySem.W.Frag} {o e:Expr} {es:List Expr} {to:TE} {t:TA} {name:Str} {apos cpos:Pos} {T id:String} {r:V->List V->Hp->VK->Prop} (hK:X.K=K) (pa:PlainAttrs T) (slot:Slot T name id) (hty:typeOf (.builtin id)=pure (.type "method_descriptor")) (hm:YH X id r) (ho:PE X o to) (ha:PA X (e::es) t)
  (hbase:attributeBase o name X.env (eval o X.env)=eval o X.env:=by rfl)
  (hfew:((backTo cpos (starEach (e::es) X.env)).all (fun x=>!x.1)&&(backToKw cpos (keywordEach [] X.env)).all (fun x=>x.1.isSome)&&decide ((e::es).length+([]:List Keyword).length+(if([]:List Keyword).isEmpty then 0 else 1)<30))=true:=by rfl)
  (hline:(apos.endLine==cpos.line)=true:=by rfl) (hs:starEach (e::es) X.env=(false,eval e X.env)::starEach es X.env:=by rfl) (hplain:(backTo cpos (starEach es X.env)).any (·.1)=false:=by rfl):PE X (.Call (.Attribute o name apos) (e::es) [] cpos) (tBM K T r to t):=by
 subst hK;exact aad pa slot hty hm ho ha hbase hfew hline hs hplain
end
theorem Gm:isSubtype (.type "range_iterator") (.type "reversed")=pure false:=by rw[isSubtype_type]; kernel_rfl
section
variable {prog:Program} {w:World} {A:Around} {E:Value->Shared->Prop} {s:Shared}
def vZ (n:Int):Obj:={ cls:=.type "range_iterator",data:=.fields #[rawInt (n-1),rawInt n,rawInt (-1)] }
theorem xK {r:Addr} {n:Int} {t u v:Tok} {Q:Value->Shared->Prop} (hr:IsRange s.heap r 0 n 1 t u v) (h0:0<=n) (h1:n<2 ^ 62) (h:Q (.ref s.heap.objs.size) { s with heap:=s.heap.push (vZ n) }) :
  wpAny (model prog w) A (call (.builtin "range.__reversed__") [.ref r]) Q E s:=by
 have hT:s.TypeIs (.ref r) "range" := ⟨_,hr,rfl⟩;refine xU PySem.F.slot_range_reversed hT PySem.F.entry_range_reversed ?_ (PySem.F.args_range_reversed_1 _);unfold Builtin.«range.__reversed__»;refine aW (v_ (a:=Value.ref r) rfl ?_)
 have rf:∀{R:Int×Int×Int->Shared->Prop},R (0,n,1) s->wpAny (model prog w) A.in1 (Builtin.Range.rangeFields (.ref r)) R E s:=fun {R} hR=>by
  unfold Builtin.Range.rangeFields;refine aW (iV hr rfl (x:=.int 0 t) rfl (aW (v_ (a:=some (0:Int)) rfl ?_)));refine aW (iV hr rfl (x:=.int n u) rfl (aW (v_ (a:=some n) rfl ?_)));exact aW (iV hr rfl (x:=.int 1 v) rfl (aW (v_ (a:=some (1:Int)) rfl (aZ hR))))
 refine aW (rf ?_);dsimp only;have sz:Builtin.Range.rangeSize 0 n 1=n:=by rw[rangeSize_one]; split <;> omega
 rw[sz]
 have sm:(Builtin.Range.rangeFitsLong 0&&Builtin.Range.rangeFitsLong n&&Builtin.Range.rangeFitsLong 1&&Builtin.Range.rangeFitsLong (-1)&&Builtin.Range.rangeFitsLong (0-1)&&Builtin.Range.rangeFitsLong n)=true:=by
  have:Builtin.Range.rangeFitsLong n=true:=by simp only[Builtin.Range.rangeFitsLong,xT,decide_eq_true_eq]; omega
  rw[this]; decide
 rw[sm];simp only[Bool.not_true,GD,if_false,if_true];have e1:(0+(n-1)*1:Int)=n-1:=by omega
 rw[e1];exact aW (uF (aZ ⟨_,rfl,h⟩))
theorem xG {r:Addr} {n:Int} {t u v:Tok} {Q:Value->Shared->Prop} (hr:IsRange s.heap r 0 n 1 t u v) (h0:0<=n) (h1:n<2 ^ 62) (h:Q (.ref s.heap.objs.size) { s with heap:=s.heap.push (vZ n) }) :
  codeAny (model prog w) A (.call (.builtin "reversed.__new__") ⟨[.type "reversed",.ref r],[]⟩) (wants Q E) s:=by
 have hT:s.TypeIs (.ref r) "range" := ⟨_,hr,rfl⟩;refine codeAny_of_tree ?_;show wpAny _ A.in1 (do checkBuiltinCall "reversed.__new__" ⟨[.type "reversed",.ref r],[]⟩; again (.builtin "reversed.__new__" ⟨[.type "reversed",.ref r],[]⟩)) _ _ s
 refine aW (v_ (F.newCall_reversed_1 (.ref r)) (aZ ⟨plainId_quiet F.plain_reversed_new _,codeAny_builtin F.entry_reversed_new ?_⟩));rw[Around.under_plainId F.plain_reversed_new _];unfold Builtin.«reversed.__new__»;refine aW (v_ (newClass_reversed (.ref r)) ?_); (try dsimp only)
 refine aW (v_ (a:=()) rfl (aW (v_ (a:=()) rfl ?_)));refine aW (wpAny_specialOf hT PySem.F.slot_range_reversed.lookup ?_); (try dsimp only)
 refine aW (v_ (PySem.F.slot_range_reversed.bind _) ?_); (try dsimp only)
 rw[aX (show ¬((Value.builtin "range.__reversed__" == Value.none)=true) from jE)];refine aW (qT (aW (m:=runValue (.call (.builtin "range.__reversed__") ⟨[.ref r],[]⟩)) (show wpAny _ _ (call (.builtin "range.__reversed__") [.ref r]) _ _ _ from xK hr h0 h1 ?_)))
 first
  | exact aZ h
  | exact aW (aZ (aZ h))
theorem xJ {r:Addr} {n:Int} {t u v:Tok} {Q:Value->Shared->Prop} (hr:IsRange s.heap r 0 n 1 t u v) (h0:0<=n) (h1:n<2 ^ 62) (h:Q (.ref s.heap.objs.size) { s with heap:=s.heap.push (vZ n) }) :
  wpAny (model prog w) A (call (.type "reversed") [.ref r]) Q E s:=by
 refine callType_other (U:="range_iterator") (Q₁:=fun obj z=>obj=.ref s.heap.objs.size/\z={ s with heap:=s.heap.push (vZ n) }) (by decide +kernel) F.create_reversed ⟨_,_,F.mro_reversed⟩ F.made_reversed Gm (F.typeCall_reversed_1 _) (xG hr h0 h1 ⟨rfl,rfl⟩) ?_
 rintro obj z ⟨rfl,rfl⟩;exact⟨⟨_,dw _ rfl,rfl⟩,h⟩
end
def YK (n:Nat):It:=⟨fun i _=>i<n,fun i H x H'=>H'=H/\x=.int ((n:Int)-1-i),fun i _=>n<=i⟩
theorem Nr {P:Program} {w:World} {K:PySem.W.Frag} {tg:Expr} (it:Addr) (n:Nat):Turn P w K tg (YK n) [it] it (fun i h=>IsRangeIter h it ((n:Int)-1+(i:Nat)*(-1)) ((n:Int)-(i:Nat)) (-1)) where
 mem:=by simp
 obj:=fun i h st b hb=>by
  rw[dH.mp hb]
  exact⟨_,st,fun v z=>by
   have z':Data.fields _=Data.cell v:=z
   cases z'⟩
 keep:=fun i h h' st k=>k it (by simp) _ st
 item:=by
  intro X hP hw hK hc i pins s σ H E I hf st hg;subst hP hw hK;obtain⟨f0,f1,f2,f3,f4,f5⟩:=hf it (by simp)
  have W:=Walks.range (prog:=X.prog) (w:=X.w) (I.ok.hd hc) it ((n:Int)-1) (-1) n;refine W.item i s _ _ hg st fun v h' tk hv st' kk=>?_;obtain⟨t,rfl⟩:=hv;have I1:Inv X pins σ H { s with heap:=h',toks:=tk }:=I.turned (fun b o hb e=>kk b o (by simpa using hb) e) f0 f1 f3 f4 f5
  refine⟨_,rfl,zX (s:={ s with heap:=h',toks:=tk }) (n:="range_iterator") st' rfl rfl (by decide) ⟨.int ((n:Int)-1-i),H,I1,⟨t,?_⟩,⟨rfl,rfl⟩,st',fun b hb=>(hf b hb).1⟩⟩
  congr 1
  omega
 done:=by
  intro X hP hw hK hc i pins s σ H E I hf st hg;subst hP hw hK;obtain⟨f0,f1,f2,f3,f4,f5⟩:=hf it (by simp)
  exact wpAny_pyNext_range_end (I.ok.hd hc) st (by have:n<=i:=hg; omega) fun h' eb=>⟨rfl,I.turned (t':=s.toks) (fun b o hb e=>eb b o hb e) f0 f1 f3 f4 f5⟩
 self:=fun _ _ _ _ _ st h=>OJ st h
section
variable {X:Cx}
theorem Fj:bootBuiltins "reversed" = some (.type "reversed"):=by decide +kernel
def aaC (ta:TA):TI:=fun σ H R=>ta σ H fun vs H1=>∃n:Nat,vs=[.int n]/\n<=1000000/\R (YK n) H1
theorem Wv {tg a:Expr} {p p2 pos pos2:Pos} {ta:TA} (hm:X.mg "reversed" = none) (hm2:X.mg "range" = none) (ha:PA X [a] ta) (hg:Gl X "reversed" := by rfl) (hg2:Gl X "range" := by rfl) (h1:b8 a=true:=by rfl) :
  PI X tg (.Call (.Name "reversed" p) [.Call (.Name "range" p2) [a] [] pos2] [] pos) (aaC ta):=by
 refine .mk ?_;intro pins s σ H R I h;refine uG (iK I hg hm Fj ?_ (by decide) (by decide))
 refine PyProof.Rows.callWith_type1 ?_ (cD rfl) (cP (es:=[]) rfl);rw[cD (e:=.Call (.Name "range" p2) [a] [] pos2) rfl];show wpAny _ _ (spliced ((false,eval (.Call (.Name "range" p2) [a] [] pos2) X.env)::backTo pos (starEach [] X.env))) _ _ s;refine Calls.spliced_cons ?_;refine uG (iK I hg2 hm2 QS ?_ (by decide) (by decide))
 refine PyProof.Rows.callWith_type1 (cM (ha pos2 pins s σ H _ I h) fun us s1 ⟨vs,H1,I1,r1,n,e,hn,q⟩=>?_) (cD h1) (cP (es:=[]) rfl);subst e;obtain⟨u,rfl,t,rfl⟩:=r1.one;refine call_range_1 ?_;refine Calls.spliced_nil ?_;refine xJ (IsRange.new ..) (by omega) (by omega) ?_
 have k2:∀b o,s1.heap.get? b=some o->((s1.heap.push { cls:=.type "range",data:=.fields #[.int 0 s1.toks,.int (n:Int) t,.int 1 (s1.toks+1)] }).push (vZ n)).get? b=some o:=fun b o e=>dW _ (dW _ e);have I2:=I1.kept (t':=s1.toks+1+1) k2;generalize hh:s1.heap.push { cls:=.type "range",data:=.fields #[.int 0 s1.toks,.int (n:Int) t,.int 1 (s1.toks+1)] }=h1' at I2 ⊢;have sz:s1.heap.objs.size<=h1'.objs.size:=by rw[<- hh,g8]; exact zp _
 have st:IsRangeIter (h1'.push (vZ n)) h1'.objs.size ((n:Int)-1+((0:Nat):Int)*(-1)) ((n:Int)-((0:Nat):Int)) (-1):=by
  have e1:(n:Int)-1+((0:Nat):Int)*(-1)=(n:Int)-1:=by simp
  have e2:(n:Int)-((0:Nat):Int)=n:=by simp
  rw[e1,e2];exact dw _ rfl
 refine OJ (s:={ s1 with heap:=h1'.push (vZ n),toks:=s1.toks+1+1 }) (by exact st) ⟨h1'.objs.size,[h1'.objs.size],_,YK n,H1,rfl,I2,Nr _ n,st,fun b hb=>?_,q⟩
 rw[dH.mp hb];exact I1.tL sz (I1.hok.fresh sz)
def VK' (g:TG) (tb:TS) (D:Ends) (σ:St) (vs:List V) (H1:Hp):Prop:=∃n:Nat,vs=[.int n]/\n<=1000000/\∃W:Nat->Nat->St->Hp->Prop,(∃m,W 0 m σ H1)/\∀i m σ H,W i m σ H ->
 ((YK n).stop i H/\D.nx σ H)\/((YK n).go i H/\∃N:St->Hp->Prop,(∀σ' H',N σ' H'->∃m',m'<m/\W (i+1) m' σ' H')/\∀x H',(YK n).Fx i H x H'->g x σ H' fun σ2 H2=>tb { D with nx:=N,ct:=N,bk:=D.nx } σ2 H2)
theorem Nx {ta:TA} {g:TG} {tb:TS} {D:Ends} {σ:St} {H:Hp}:Gk (aaC ta) g tb D σ H=ta σ H (VK' g tb D σ):=rfl
theorem VK'.of {g:TG} {tb:TS} {D:Ends} {σ:St} {H:Hp} {n:Nat} {i:Int} (ei:i=n) (hn:n<=1000000) (Pv:Nat->St->Hp->Prop) (h0:Pv 0 σ H)
  (hs:∀i σ H,i<n->Pv i σ H->g (.int ((n:Int)-1-(i:Nat))) σ H fun σ2 H2=>tb { D with nx:=Pv (i+1),ct:=Pv (i+1),bk:=D.nx } σ2 H2) (hd:∀σ H,Pv n σ H->D.nx σ H):VK' g tb D σ [.int i] H:=by
 subst ei;refine⟨n,rfl,hn,fun i m σ H=>m=n-i/\i<=n/\Pv i σ H,⟨n,rfl,gm _,h0⟩,?_⟩;rintro i m σ H ⟨rfl,hi,p⟩;by_cases hlt:i<n
 ·refine .inr ⟨hlt,Pv (i+1),fun σ' H' p'=>⟨n-(i+1),by omega,rfl,hlt,p'⟩,fun x H' y=>?_⟩
  obtain⟨e1,e2⟩:=y;subst e1 e2;exact hs i σ _ hlt p
 ·have e:i=n:=by omega
  subst e;exact .inl ⟨bD _,hd σ H p⟩
end
structure Ii (K:PySem.W.Frag) (x qual:Str) (st:Stmt) (f:Addr) (fd:FuncData) (T:Addr) (i:Int) (t:Tok):Prop where
 ex:∃(oc:Value) (od:Option Addr) (kV doc pm:Value) (an:Option Addr) (cdv ct:Value) (osl:Array (Option Value)),
  fd=PySem.W.fnOf x qual (cz st) (bV st) (aG st) (.ref T) kV doc pm an cdv ct/\K.lookup f=some ⟨oc,od,.func fd,osl⟩/\PySem.W.codeIn K cdv qual=true
 kp:PySem.W.keepIn K (.ref f)=true
 df:∃o n,K.lookup T=some o/\o.data=.seq #[.int i t] n
section
variable {P:Program} {w:World} {K:PySem.W.Frag} {mg:Str->Option Value} {base:Heap}
theorem Ii.ok {x qual:Str} {st:Stmt} {f T:Addr} {i:Int} {t:Tok} {fd:FuncData} {N ps:List Str} {k:Nat} {sp:Sp} (F:Ii K x qual st f fd T i t) (S:aV N ps (aG st)) (len:∀vs H Q E,sp vs H Q E->vs.length=ps.length)
  (hb:∀(cdv:Value) (A:Around) (outer:List Env) (s:Shared) (H:Hp) (vs:List V) (Q:VK) (E:XK),fQ k (A.deeper (envOfC qual (aG st) s.heap.objs.size f cdv))->sp vs H Q E ->
   ∃t,Fv (xu gD P w K mg base N qual (aG st) f cdv A outer s H E).Yq (bV st) t/\t { nx:=fun _ H'=>Q .non H',rt:=Q } (start N vs) H):bJ P w K mg base gD (k+1) f fd ps sp:=by
 obtain⟨oc,od,kV,doc,pm,an,cdv,ct,osl,rfl,lk,hcd⟩:=F.ex;exact Vn lk hcd S len fun A outer s H vs Q E hr hsp=>let ⟨t,h,q⟩:=hb cdv A outer s H vs Q E hr hsp; ⟨t,h.Yq,q⟩
theorem Ii.binds {x qual:Str} {st:Stmt} {f T:Addr} {i:Int} {t:Tok} {fd:FuncData} {ps:List Str} {ds:List Value} (F:Ii K x qual st f fd T i t)
  (h:∀(kV doc pm:Value) (an:Option Addr) (cdv ct:Value) (us:List Value),(us++ds).length=ps.length->∃k,bindArgs (PySem.W.fnOf x qual (cz st) (bV st) (aG st) (.ref T) kV doc pm an cdv ct) ⟨us,[]⟩=seqItems? (.ref T) >>= k/\k (some #[.int i t])=pure (ps.zip (us++ds))):Binds K fd ps ds:=by
 obtain⟨oc,od,kV,doc,pm,an,cdv,ct,osl,rfl,lk,hcd⟩:=F.ex;obtain⟨o,n,ho,hd⟩:=F.df;intro s us KX hl;obtain⟨k,h1,h2⟩:=h kV doc pm an cdv ct us hl;exact BindsTo.of_defaults rfl (KX _ _ ho) hd h1 h2
end
structure Ri (P:Program) (w:World) (K:PySem.W.Frag) (mg:Str->Option Value) (base:Heap) (k:Nat) (x:Str) (ps:List Str) (i:Int) (sp:Sp) where
 f:Addr
 fd:FuncData
 t:Tok
 G:bJ P w K mg base gD k f fd ps sp
 kp:PySem.W.keepIn K (.ref f)=true
 b:Binds K fd ps []
 bd:Binds K fd ps [.int i t]
 m:mg x=some (.ref f)
def Ri.mono {P:Program} {w:World} {K:PySem.W.Frag} {mg:Str->Option Value} {base:Heap} {j k:Nat} {x:Str} {ps:List Str} {i:Int} {sp:Sp} (c:Ri P w K mg base j x ps i sp) (h:j<=k):Ri P w K mg base k x ps i sp:={ c with G:=c.G.mono h }
section
variable {X:Cx} {x:Str} {p pos:Pos} {e:Expr} {es:List Expr} {t:TA}
theorem pfa {k:Nat} {ps:List Str} {i:Int} {sp:Sp} (c:Ri X.prog X.w X.K X.mg X.base k x ps i sp) (hr:fQ k X.A) (ha:PA X (e::es) t) (hg:Gl X x:=by rfl) (hdb:(x==("__debug__" : Str))=false:=by decide) (h1:b8 e=true:=by rfl) (h2:es.all b8=true:=by rfl) :
  PE X (.Call (.Name x p) (e::es) [] pos) (mX sp [] E0 t):=Ju c.G hr hg c.m c.kp c.b .nil Ec ha hdb (cD h1) (cP h2)
end
end L2
theorem QX (a b c:PySem.Value):PySem.argsOk "list.insert" ⟨[a,b,c],[]⟩:=PySem.F.args_list_insert_3 a b c
theorem Qv {j:Int} (h1:-(2 ^ 63:Int)<=j) (h2:j<2 ^ 63):¬(!PySem.Builtin.List.listFitsIndex j)=true:=by
 unfold PySem.Builtin.List.listFitsIndex;rw[j0 h1,j0 h2];decide
namespace L2
open PySem PySem.Spec PyProof.Rows
section
variable {X:Cx}
end
def LK (K:PySem.W.Frag) (g:TG) (tb:TS) (D:Ends) (σ:St) (x:V) (H1:Hp):Prop:=∃a,x=.ref a/\(∃xs,b_ K H1 a xs)/\∃W:Nat->Nat->St->Hp->Prop,(∃m,W 0 m σ H1)/\∀i m σ H,W i m σ H ->
 ((Vz K a).stop i H/\D.nx σ H)\/((Vz K a).go i H/\∃N:St->Hp->Prop,(∀σ' H',N σ' H'->∃m',m'<m/\W (i+1) m' σ' H')/\∀x H',(Vz K a).Fx i H x H'->g x σ H' fun σ2 H2=>tb { D with nx:=N,ct:=N,bk:=D.nx } σ2 H2)
theorem qG {K:PySem.W.Frag} {tl:TE} {g:TG} {tb:TS} {D:Ends} {σ:St} {H:Hp}:Gk (jM K tl) g tb D σ H=tl σ H (LK K g tb D σ):=rfl
theorem LK.of {K:PySem.W.Frag} {g:TG} {tb:TS} {D:Ends} {σ:St} {H:Hp} {a:Addr} {xs:List V} (ha:H a=some (.lst xs)) (Pv:Nat->St->Hp->Prop) (h0:Pv 0 σ H) (hl:∀i σ H',i<=xs.length->Pv i σ H'->H' a=some (.lst xs))
  (hs:∀i x σ H,xs[i]?=some x->Pv i σ H->g x σ H fun σ2 H2=>tb { D with nx:=Pv (i+1),ct:=Pv (i+1),bk:=D.nx } σ2 H2) (hd:∀σ H,Pv xs.length σ H->D.nx σ H):LK K g tb D σ (.ref a) H:=
 ⟨a,rfl,⟨xs,b_.of ha⟩,Qt (xs:=xs) Pv h0 (fun i σ H' hi p=>b_.of (hl i σ H' hi p)) hs hd⟩
end L2
namespace L2
open PySem
mutual
def uf:PyData->Bool
 | .tuple ds=>bK ds
 | .list _=>false
 | .dict _=>false
 | .none=>true
 | .bool _=>true
 | .int _=>true
 | .str _=>true
def bK:List PyData->Bool
 | []=>true
 | d::ds=>uf d&&bK ds
end
theorem bu:∀{ds:List PyData},bK ds=true↔∀d∈ds,uf d=true
 | []=>by simp[bK]
 | d::ds=>by
  have ih:=bu (ds:=ds);simp only[bK,xT,ih,bF,forall_eq_or_imp]
mutual
theorem At.Hu {G:Hp} {p:Addr} {xs:List V} (hp:G p=some (.lst xs)):∀(d:PyData) (v:V),uf d=true->At G d v->At (hid p G) d v
 | .none,_,_,h=>by unfold At at h ⊢; exact h
 | .bool _,_,_,h=>by unfold At at h ⊢; exact h
 | .int _,_,_,h=>by unfold At at h ⊢; exact h
 | .str _,_,_,h=>by unfold At at h ⊢; exact h
 | .tuple ds,v,n,h=>by
  unfold At at h ⊢;obtain⟨a,ys,e,h1,h2⟩:=h;refine⟨a,ys,e,?_,aj.Hu hp ds ys (by simpa[uf] using n) h2⟩
  rw[cJ (fun z=>by subst z; rw[hp] at h1; cases h1)]; exact h1
 | .list _,_,n,_=>by simp[uf] at n
 | .dict _,_,n,_=>by simp[uf] at n
theorem aj.Hu {G:Hp} {p:Addr} {xs:List V} (hp:G p=some (.lst xs)):∀(ds:List PyData) (ys:List V),bK ds=true->aj G ds ys->aj (hid p G) ds ys
 | [],_,_,h=>by unfold aj at h ⊢; exact h
 | d::ds,ys,n,h=>by
  unfold aj at h ⊢;obtain⟨x,r,e,h1,h2⟩:=h;have n':uf d=true/\bK ds=true:=by simpa[bK] using n
  exact⟨x,r,e,At.Hu hp d x n'.1 h1,aj.Hu hp ds r n'.2 h2⟩
end
theorem su:∀l:List Int,(∀c∈l,0<=c)->0<=l.sum
 | [],_=>by simp
 | x::l,h=>by rw[qP]; have:=su l fun c hc=>h c (gk _ hc); have:=h x cY; omega
theorem zM {ts:List Str} {i:Int} (h0:0<=i) (h1:i<ts.length):∃t,t∈ts/\yH (ts.map V.str) i=some (.str t):=by
 have hi:i.toNat<ts.length:=by omega
 refine⟨ts[i.toNat],oO hi,?_⟩;have:=aY (xs:=ts.map V.str) (j:=i.toNat) (v:=.str ts[i.toNat]) (by rw[cT,eF hi]; rfl)
 rwa [show((i.toNat:Nat):Int)=i by omega] at this
theorem oA {ts:List Int} {i:Int} (h0:0<=i) (h1:i<ts.length):∃t,t∈ts/\yH (ts.map V.int) i=some (.int t):=by
 have hi:i.toNat<ts.length:=by omega
 refine⟨ts[i.toNat],oO hi,?_⟩;have:=aY (xs:=ts.map V.int) (j:=i.toNat) (v:=.int ts[i.toNat]) (by rw[cT,eF hi]; rfl)
 rwa [show((i.toNat:Nat):Int)=i by omega] at this
def mW (a b:TS):TS:=uy a b
theorem yZ (i:Nat) {e:TE} {b:TS}:uy (Av e (fU i)) b=mW (Av e (fU i)) b:=rfl
theorem Oi {c:TT} {x y b:TS}:uy (RC c x y) b=mW (RC c x y) b:=rfl
theorem mW.of {a b:TS} {D:Ends} {σ:St} {H:Hp} (R:St->Hp->Prop) (hR:∀σ' H',R σ' H'->b D σ' H') (h:∀N:St->Hp->Prop,(∀σ' H',R σ' H'->N σ' H')->a { D with nx:=N } σ H):mW a b D σ H:=h _ hR
theorem Xe {α:Type} {l:List α} (h:l.length=5):∃a b c d e,l=[a,b,c,d,e]:=by
 match l,h with
 | [a,b,c,d,e],_=>exact⟨a,b,c,d,e,rfl⟩
theorem aM.du {H H':Hp} {p:Addr} {o:HO} (s:aM H H') (hp:H p=none):aM H (upd H' p o):=fun b u h=>by rw[aL (cH h hp)]; exact s _ _ h
def uo:PyData->Bool
 | .list _=>true
 | _=>false
theorem BR (K:PySem.W.Frag) (d:PyData):PySem.W.kitOne K (.type (Nk d)) (.type "list")=some (uo d):=by cases d <;> kernel_rfl
theorem JK {X:Cx}:cV X (.builtin "isinstance") (Gz "list" uo):=wZ BR
theorem Hg {ds:List PyData} (h:bK ds=true) {i:Nat} {d:PyData} (e:ds[i]?=some d):uf d=true:=bu.mp h d (dz e)
end L2
namespace L2
open PySem PySem.Spec PyProof.Rows
section
variable {X:Cx}
end
structure oZ (X:Cx) (nt:Nat) (N':List Str) (js:List Nat) (sc:Scope):Prop where
 kind:sc.kind=.function
 lM:∀y∈sc.names,y.2≠.cell
 names:∀y∈sc.names,y.2=.local->sc.names.lookup y.1=some .local
 clos:closureFor sc X.env=pure (qm sc X.env)
 all:(sc.names.all fun y=>y.2 != .free || (X.env.cells.lookup y.1).isSome)=true
 len:N'.length=nt+js.length
 cap:∀(i j:Nat),js[i]?=some j->N'[nt+i]?=X.N[j]?
 QH:∀y∈N'.drop nt,X.env.kindOf y=some .cell/\sc.names.lookup y=some .free
theorem rJ:∀(names:List (Str×NameKind)) (h:Heap) (acc:List (Str×Addr)) (x:Str) (c:Addr),(cellsFrom h.objs.size names acc).lookup x=some c->((pushCells h names).IsCell c none/\h.objs.size<=c)\/(acc.lookup x=some c/\(x,NameKind.cell)∉names)
 | [],h,acc,x,c,e=>.inr ⟨e,by simp⟩
 | (name,kind)::r,h,acc,x,c,e=>by
  unfold cellsFrom at e;unfold pushCells;split at e
  ·rename_i hk;have hk':kind=.cell:=by simpa using hk
   rw[bx hk];have:=rJ r (h.push { cls:=.type "cell",data:=.cell none }) ((name,h.objs.size)::acc) x c (by rw[g8]; exact e)
   rw[g8] at this;rcases this with⟨z,z'⟩ | ⟨z,z'⟩
   ·exact .inl ⟨z,by omega⟩
   ·rw[lG] at z;cases hx:x==name with
    | true=>
     rw[hx] at z;cases z;refine .inl ⟨?_,bD _⟩;exact⟨_,pushCells_keeps r _ _ _ (dw _ rfl),rfl⟩
    | false=>
     rw[hx] at z;refine .inr ⟨z,fun m=>?_⟩;rcases bF.mp m with q | q
     ·have:x=name:=(Prod.mk.inj q).1;simp[this] at hx
     ·exact z' q
  ·rename_i hk;rw[aX hk];rcases rJ r h acc x c e with z | ⟨z,z'⟩
   ·exact .inl z
   ·refine .inr ⟨z,fun m=>?_⟩;rcases bF.mp m with q | q
    ·exact hk (by rw[<- (Prod.mk.inj q).2]; rfl)
    ·exact z' q
theorem HH:∀(names:List (Str×NameKind)) (n:Nat) (acc:List (Str×Addr)),(∀x y c,acc.lookup x=some c->acc.lookup y=some c->x=y)->(∀x c,acc.lookup x=some c->c<n) ->
  (∀x y c,(cellsFrom n names acc).lookup x=some c->(cellsFrom n names acc).lookup y=some c->x=y)/\True
 | [],n,acc,h,_=>⟨h,trivial⟩
 | (name,kind)::r,n,acc,h,hb=>by
  unfold cellsFrom;split
  ·refine HH r (n+1) ((name,n)::acc) (fun x y c e1 e2=>?_) (fun x c e=>?_)
   ·rw[lG] at e1 e2;cases hx:x==name with
    | true=>
     rw[hx] at e1;cases e1;cases hy:y==name with
     | true=>rw[beq_iff_eq.mp hx,beq_iff_eq.mp hy]
     | false=>rw[hy] at e2; exact absurd (hb _ _ e2) (sZ _)
    | false=>
     rw[hx] at e1;cases hy:y==name with
     | true=>rw[hy] at e2; cases e2; exact absurd (hb _ _ e1) (sZ _)
     | false=>rw[hy] at e2; exact h x y c e1 e2
   ·rw[lG] at e;cases hx:x==name with
    | true=>rw[hx] at e; cases e; exact Dv _
    | false=>rw[hx] at e; exact Dy (hb _ _ e)
  ·exact HH r n acc h hb
theorem HJ {x:Str}:∀(names:List (Str×NameKind)) (n:Nat) (acc:List (Str×Addr)),((x,NameKind.cell)∈names\/(acc.lookup x).isSome=true)->((cellsFrom n names acc).lookup x).isSome=true
 | [],n,acc,h=>by
  rcases h with h | h
  ·simp at h
  ·exact h
 | (name,kind)::r,n,acc,h=>by
  unfold cellsFrom;split
  ·rename_i hk;refine HJ r (n+1) _ ?_;rcases h with h | h
   ·rcases bF.mp h with q | q
    ·refine .inr ?_;rw[lG,(Prod.mk.inj q).1];simp
    ·exact .inl q
   ·refine .inr ?_;rw[lG];split
    ·rfl
    ·exact h
  ·rename_i hk;refine HJ r n acc ?_;rcases h with h | h
   ·rcases bF.mp h with q | q
    ·exact absurd (by rw[<- (Prod.mk.inj q).2]; rfl) hk
    ·exact .inl q
   ·exact .inr h
theorem Cp {x:Str} {c:Addr}:∀(names:List (Str×NameKind)) (n:Nat) (acc:List (Str×Addr)),(x,NameKind.cell)∉names->acc.lookup x=some c->(cellsFrom n names acc).lookup x=some c
 | [],n,acc,_,e=>e
 | (name,kind)::r,n,acc,h,e=>by
  unfold cellsFrom;split
  ·rename_i hk;refine Cp r (n+1) _ (fun m=>h (gk _ m)) ?_;rw[lG];cases hx:x==name with
   | true=>
    have hk':kind=.cell:=by simpa using hk
    exact absurd (by rw[beq_iff_eq.mp hx,hk']; exact cY) h
   | false=>exact e
  ·exact Cp r n acc (fun m=>h (gk _ m)) e
theorem iQ {env:Env}:∀{names:List (Str×NameKind)} {x:Str},names.lookup x=some .cell ->
  (names.map fun(n,k)=>if(k==NameKind.free&&env.scope.kind==.function&&env.kindOf n==some .cell) then(n,NameKind.cell) else(n,k)).lookup x=some .cell
 | [],_,h=>by simp at h
 | (n,k)::r,x,h=>by
  have ih:=@iQ env r x;show List.lookup x ((if(k==NameKind.free&&env.scope.kind==.function&&env.kindOf n==some .cell)=true then(n,NameKind.cell) else(n,k))::_)=_
  cases hx:x==n with
  | true=>
   simp only[lG,hx] at h;cases h;simp[lG,hx]
  | false=>
   simp only[lG,hx] at h;by_cases hc:(k==NameKind.free&&env.scope.kind==.function&&env.kindOf n==some .cell)=true
   ·rw[bx hc]; simp only[lG,hx]; exact ih h
   ·rw[aX hc]; simp only[lG,hx]; exact ih h
theorem o_ {M:Model} {A:Around} {E:Value->Shared->Prop} {s:Shared} {scope:Scope} {globals:Addr} {cl:List (Str×Addr)} {qual:Str} {env:Env} {Q:Env->Shared->Prop}
  (hQ:Q { scope,locals:=s.heap.objs.size,globals,cells:=cellsFrom (s.heap.objs.size+1) scope.names cl,qual,func:=none,code:=env.code,frame:=env.frame,builtins:=env.builtins } { s with heap:=pushCells (s.heap.push { cls:=.type "dict",data:=.dict #[] }) scope.names }) :
  wpAny M A (newFunctionEnv scope globals cl [] qual none .none (some env)) Q E s:=by
 simp only[newFunctionEnv,Option.isSome_some,if_true];refine aW (wpAny_alloc ?_);refine aW (wpAny_layCells _ (fun name kind cells=>by cases hkc:kind==NameKind.cell <;> simp[hkc]) _ _ _ _ ?_)
 rw[show({ s with heap:=s.heap.push { cls:=.type "dict",data:=.dict #[] } }:Shared).heap.objs.size=s.heap.objs.size+1 from g8 ..]
 simp only[DP];exact aW (aZ (aZ hQ))
def oH (X:Cx) (N':List Str) (sc:Scope) (fp:List Addr) (s:Shared) (H:Hp):Cx where
 prog:=X.prog
 w:=X.w
 K:=X.K
 mg:=X.mg
 base:=X.base
 A:=X.A
 N:=N'
 s₀:=s
 H₀:=H
 env:=compEnvC sc (cellsFrom (s.heap.objs.size+1) sc.names (qm sc X.env)) s.heap.objs.size X.env
 outer:=X.stack
 stack:=X.stack
 ex:=fp
 fn:=fun y=>sc.names.lookup y==some .cell
 calm:=X.calm
 pn:=[]
 xe:=fun _ _=>False
structure qz (X:Cx) (nt:Nat) (N':List Str) (js:List Nat) (sc:Scope):Prop where
 kind:sc.kind=.function
 cells:∀y∈sc.names,y.2=.cell->sc.names.lookup y.1=some .cell
 names:∀y∈sc.names,y.2=.local->sc.names.lookup y.1=some .local
 clos:closureFor sc X.env=pure (qm sc X.env)
 all:(sc.names.all fun y=>y.2 != .free || (X.env.cells.lookup y.1).isSome)=true
 len:N'.length=nt+js.length
 cap:∀(i j:Nat),js[i]?=some j->N'[nt+i]?=X.N[j]?
 QH:∀y∈N'.drop nt,X.env.kindOf y=some .cell/\sc.names.lookup y=some .free
theorem zV {X:Cx} {pins:List (Addr×Obj)} {σ:St} {H:Hp} {s:Shared} {fp:List Addr} {N':List Str} {js:List Nat} {sc:Scope} {nt:Nat} {h1:Heap} {tk:Nat} (I:Inv X pins σ H s) (hf:∀b∈fp,gb X pins H b) (hlt:∀b∈fp,b<s.heap.objs.size)
  (S:qz X nt N' js sc) (Cq:∀{x:Str} {c:Addr},(cellsFrom (s.heap.objs.size+1) sc.names (qm sc X.env)).lookup x=some c->(h1.IsCell c none/\s.heap.objs.size<c)\/((qm sc X.env).lookup x=some c/\(x,NameKind.cell)∉sc.names)) (hn:h1.Ns s.heap.objs.size fun _=>none) (hk:∀b o,s.heap.get? b=some o->h1.get? b=some o):Inv (oH X N' sc fp s H) [] (List.replicate nt none++bQ js σ) H { s with heap:=h1,toks:=tk }:=by
 have old:∀x c,(qm sc X.env).lookup x=some c->c<s.heap.objs.size+1:=fun x c e=>by
  obtain⟨v,o,ho,_⟩:=I.cell x c (ir e);exact Dy (cg ho)
 refine⟨⟨I.ok.mod,S.kind,I.ok.glob,I.ok.blt,bD _,fun x y c e1 e2=>(HH sc.names _ _ (fun x y c e1 e2=>I.ok.inj x y c (ir e1) (ir e2)) old).1 x y c e1 e2,fun x hx=>?_,fun x c hf' e=>(by
   rcases Cq e with z | ⟨_,z⟩
   ·exact mF z.2
   ·exact absurd (PySem.mem_of_lookup (show sc.names.lookup x=some .cell from by simpa using(show(sc.names.lookup x==some NameKind.cell)=true from hf'))) z),I.ok.hd,I.ok.frames,.inl rfl,fun b hb=>⟨fJ (hlt b hb),fun x c e=>(by
   rcases Cq e with z | ⟨z,_⟩
   ·exact Ds (zu (hlt b hb) z.2)
   ·exact(hf b hb).2.2.2.2.1 x c (ir z))⟩,I.bs,
  ik I.ok.MJ I.sz,fun b o e hb=>?_,fun b hb z=>?_,I.stack,I.Iz⟩,rfl,I.bare,Un.kept hk,⟨fun _=>none,hn,fun i x v e1 e2 e3=>?_⟩,fun x c e=>?_,I.hok.fresh (bD _),fun x c e=>(by
   rcases Cq e with z | ⟨z,_⟩
   ·exact I.hok.fresh (mF z.2)
   ·exact I.kJ x c (ir z)),fun p hp=>absurd (show p∈([]:List (Addr×Obj)) from hp) (by simp),I.hok.kept hk,?_⟩
 ·refine Oz.mp (HJ sc.names _ _ ?_);have hx':(relabel sc X.env).names.lookup x=some .cell\/(relabel sc X.env).names.lookup x=some .free:=hx
  have key:(x,NameKind.cell)∈sc.names\/(x,NameKind.free)∈sc.names:=by
   rcases hx' with q | q
   ·obtain⟨k,hm,e | ⟨e,_⟩⟩:=ud q
    ·rw[<- e] at hm; exact .inl hm
    ·refine .inr ?_; rw[<- e]; exact hm
   ·refine .inr ?_;obtain⟨k,hm,e | ⟨e,_⟩⟩:=ud q
    ·rw[e]; exact hm
    ·rw[<- e]; exact hm
  rcases key with key | key
  ·exact .inl key
  have a:=j4.mp S.all _ key;have a':(X.env.cells.lookup x).isSome=true:=by simpa using a
  obtain⟨c,hc⟩:=Oz.mp a';exact .inr (Oz.mpr ⟨c,HF hc sc.names [] key⟩)
 ·rcases(hf b hb).2.2.2.1 with z | z
  ·exact I.ok.Hf b o e z
  ·exact absurd (mJ (cg e) (ik I.ok.MJ z)) (sZ _)
 ·rcases bF.mp (I.Gn b z) with q | q
  ·exact(hf b hb).2.1 q
  ·exact(hf b hb).2.2.1 q
 ·by_cases hlt:i<nt
  ·rw[DK (by rw[qR]; exact hlt),Jp,bx hlt] at e2
   cases e2
  ·obtain⟨i',rfl⟩:∃i',i=nt+i':=⟨i-nt,by omega⟩
   rw[xV (by rw[qR]; omega),qR,Nat.add_sub_cancel_left] at e2
   have e2':(bQ js σ)[i']?=some (some v):=e2;unfold bQ at e2';rw[cT] at e2';cases hj:js[i']? with
   | none=>rw[hj] at e2'; simp at e2'
   | some j=>
    rw[hj] at e2';have e4:(σ[j]?).join=some v:=by simpa using e2'
    have e5:σ[j]?=some (some v):=by
     cases q:σ[j]? with
     | none=>rw[q] at e4; simp at e4
     | some z=>rw[q] at e4; simp at e4; rw[e4]
    have e6:X.N[j]?=some x:=by rw[<- S.cap i' j hj]; exact e1
    have mem:x∈N'.drop nt:=by
     have e1':N'[nt+i']?=some x:=e1;exact dz (i:=i') (by rw[DY]; exact e1')
    obtain⟨k1,k2⟩:=S.QH x mem;obtain⟨m,_,hl⟩:=I.loc;obtain⟨u,r,l⟩:=hl j x v e6 e5 (.inr (.inl k1));refine⟨u,r,.inr ⟨.inl (qO I.ok.kind k1 sc.names k2),?_⟩⟩;rcases l with⟨z,_⟩ | ⟨_,c,hc,hcell⟩
    ·rw[k1] at z; cases z
    ·obtain⟨o,ho,hd⟩:=hcell;exact⟨c,Cp sc.names _ _ (fun z=>by have:=S.cells _ z rfl; rw[k2] at this; cases this) (HF hc sc.names [] (PySem.mem_of_lookup k2)),o,hk c o ho,hd⟩
 ·rcases Cq e with z | ⟨z,_⟩
  ·exact⟨none,z.1⟩
  ·obtain⟨v,o,ho,hd⟩:=I.cell x c (ir z);exact⟨v,o,hk c o ho,hd⟩
 ·show(List.replicate nt none++bQ js σ).length=N'.length;rw[S.len]; simp[bQ]
theorem J3:∀{names:List (Str×NameKind)} {n:Nat} {acc:List (Str×Addr)},(∀y∈names,y.2≠.cell)->cellsFrom n names acc=acc
 | [],_,_,_=>rfl
 | (name,kind)::r,n,acc,h=>by
  unfold cellsFrom;rw[aX (fun z=>h _ cY (by simpa using z))]
  exact J3 fun y hy=>h y (gk _ hy)
theorem Ab {X:Cx} {N':List Str} {sc:Scope} {fp:List Addr} {s:Shared} {H:Hp} (h:∀y∈sc.names,y.2≠.cell):Rf X N' sc fp s H=oH X N' sc fp s H:=by
 have e:(fun _:Str=>false)=fun y=>sc.names.lookup y==some .cell:=funext fun y=>by
  cases z:sc.names.lookup y==some NameKind.cell with
  | false=>rfl
  | true=>exact absurd rfl (h _ (PySem.mem_of_lookup (by simpa using z)))
 unfold Rf oH;rw[J3 h,e]
theorem oZ.toD {X:Cx} {nt:Nat} {N':List Str} {js:List Nat} {sc:Scope} (S:oZ X nt N' js sc):qz X nt N' js sc:=⟨S.kind,fun y hy e=>absurd e (S.lM y hy),S.names,S.clos,S.all,S.len,S.cap,S.QH⟩
structure CV (X:Cx) (ifs:List Expr) (t:TT):Prop where
 mk ::
 go:∀(pins:List (Addr×Obj)) (s:Shared) (σ:St) (H:Hp) (Q:Bool->Hp->Prop),Inv X pins σ H s->t σ H Q->wpAny (model X.prog X.w) X.A (forIn ifs true fun c r=>if r=true then do let ok <- isTrue c X.env (eval c X.env); pure (ForInStep.yield ok) else pure (ForInStep.yield r)) (TP X pins σ Q) X.xe s
instance {X:Cx} {ifs:List Expr} {t:TT}:CoeFun (CV X ifs t) (fun _=>
 ∀(pins:List (Addr×Obj)) (s:Shared) (σ:St) (H:Hp) (Q:Bool->Hp->Prop),Inv X pins σ H s->t σ H Q->wpAny (model X.prog X.w) X.A (forIn ifs true fun c r=>if r=true then do let ok <- isTrue c X.env (eval c X.env); pure (ForInStep.yield ok) else pure (ForInStep.yield r)) (TP X pins σ Q) X.xe s):=⟨CV.go⟩
def qH:TT:=fun _ H Q=>Q true H
theorem gO {X:Cx}:CV X [] qH:=.mk fun pins s σ H Q I h=>wpAny_tests_nil ⟨H,I,h⟩
theorem Tq {X:Cx} {c:Expr} {t:TT} (h:PT X c t):CV X [c] t:=.mk fun pins s σ H Q I q=>wpAny_tests_one (h pins s σ H Q I q)
def fD (nt:Nat) (js:List Nat) (wi:TI) (g:TG) (tc:TT) (te:TE):TE:=fun σ H Q=>wi σ H fun J H1=>∀acc,H1 acc=none->∃W:Nat->Nat->List V->Hp->Prop,(∃m,W 0 m [] (upd H1 acc (.lst [])))/\∀i m ys H2,W i m ys H2 ->
 (J.stop i H2/\Q (.ref acc) H2)\/(J.go i H2/\∀x H3,J.Fx i H2 x H3->g x (List.replicate nt none++bQ js σ) H3 fun σ' H'=>(σ'.drop nt=bQ js σ/\σ'.length=(List.replicate nt (none:Option V)++bQ js σ).length)/\tc σ' H' fun b cQ=>
  if b=true then te σ' cQ fun y H4=>H4 acc=some (.lst ys)/\ys.length<sizeLine/\∃m',m'<m/\W (i+1) m' (ys++[y]) (upd H4 acc (.lst (ys++[y]))) else ∃m',m'<m/\W (i+1) m' ys cQ)
theorem Cj {prog:Program} {w:World} {A:Around} {R:Result->Shared->Prop} {s:Shared} {elt target iter:Expr} {ifs:List Expr} {sc:Scope} {pos:Pos} {it acc:Value} {env:Env} (Iv:Nat->Shared->Prop)
  (turn:∀n s,Iv n s->wpAny (model prog w) A (pyNext it) (fun r s1=>match r with
   | none=>R (.ok .next) s1
   | some v=>wpAny (model prog w) A (letOwnedTupleGo target it v) (fun _ s2=>wpAny (model prog w) A (assign target env v) (fun _ s3=>
     wpAny (model prog w) A (forIn ifs true fun c r=>if r=true then do let ok <- isTrue c env (eval c env); pure (ForInStep.yield ok) else pure (ForInStep.yield r)) (fun ok s3'=>
     if ok=true then wpAny (model prog w) A (eval elt env) (fun x s4=>
     wpAny (model prog w) A (call (.builtin "list.append") [acc,x]) (fun _ s5=>∃m,m<n/\Iv m s5) (fun _ _=>False) s4) (fun _ _=>False) s3' else ∃m,m<n/\Iv m s3') (fun _ _=>False) s3) (fun _ _=>False) s2) (fun _ _=>False) s1) (fun _ _=>False) s)
  (n:Nat) (h:Iv n s):codeAny (model prog w) A (.compLoop (.ListComp elt [⟨target,iter,ifs,0⟩] sc pos) 0 it acc env) R s:=by
 refine codeAny_loop rfl Iv (fun n s hI=>?_) n h;show wpAny _ _ ((compTurn (.ListComp elt [⟨target,iter,ifs,0⟩] sc pos) 0 it acc env).onRaise (fun x=>do noteFrame x env; theTreesLotGoes x)) _ _ s
 refine wpAny_noted ?_;rw[compTurn_list];refine aW (Bc (aW (oM (turn n s hI) (fun r s1 q1=>?_) fun _ _ f=>f.elim)));cases r with
 | none=>exact aZ q1
 | some v=>
  refine aW (oM q1 (fun _ s2 q2=>?_) fun _ _ f=>f.elim);refine aW (oM q2 (fun _ s3 q3=>aW (oM q3 (fun ok s3' q3'=>?_) fun _ _ f=>f.elim)) fun _ _ f=>f.elim);cases ok with
  | false=>exact aZ ⟨rfl,q3'⟩
  | true=>exact aW (aW (oM q3' (fun x s4 q4=>aW (oM q4 (fun _ s5 q5=>aZ (aZ ⟨rfl,q5⟩)) fun _ _ f=>f.elim)) fun _ _ f=>f.elim))
theorem xx {X:Cx} {elt iter:Expr} {tg:Expr} {ifs:List Expr} {g:TG} {tc:TT} {nt:Nat} {pos:Pos} {sc:Scope} {wi:TI} {te:TE} {N':List Str} {js:List Nat} {use:Option (Value->Sem Unit)} {Qc:Value->Shared->Prop} {pins:List (Addr×Obj)} {s:Shared} {σ:St} {H:Hp} {Q:VK} {kp:Pos} (hc:X.calm=true) (hi:PI X tg iter wi) (S:qz X nt N' js sc)
  (hgt:∀fp s H,PG (oH X N' sc fp s H) tg g) (hif:∀fp s H,CV (oH X N' sc fp s H) ifs tc) (he:∀fp s H,PE (oH X N' sc fp s H) elt te) (hs:∀x,foldedSetIterable iter X.env x=pure x) (I:Inv X pins σ H s) (h:fD nt js wi g tc te σ H Q)
  (fin:∀(acc C:Addr) (H':Hp) (s':Shared),Inv X pins σ H' s'->gb X pins H' C->(∃m,s'.heap.Ns C m)->Q (.ref acc) H'->compPost (model X.prog X.w) X.A X.xe use Qc (.ref acc) C (.ok .next) s') :
  wpAny (model X.prog X.w) X.A (comprehension (.ListComp elt [⟨tg,iter,ifs,0⟩] sc pos) sc X.env kp (newList []) false (eval iter X.env) use) Qc X.xe s:=by
 refine wpAny_comprehension_free (use:=use) rfl hs S.clos S.kind S.names ?_;refine cM (hi pins s σ H _ I h) fun v s1 q1=>cM q1 fun itv s2 q2=>?_;obtain⟨it,fp,tn,J,H2,e,I2,T,st2,f2,q3⟩:=q2;subst e;refine uF ?_;obtain⟨W,⟨m0,w0⟩,turn⟩:=q3 s2.heap.objs.size I2.fresh;have I3:=I2.Xd (ys:=[]) (its:=[]) (t':=s2.toks) .nil (gm _)
 have lt2:∀b∈fp,b<s2.heap.objs.size:=fun b hb=>by
  obtain⟨o,ho,_⟩:=T.obj 0 _ st2 b hb;exact cg ho
 generalize e3:({ s2 with heap:=s2.heap.push { cls:=.type "list",data:=.seq ([]:List Value).toArray },toks:=s2.toks }:Shared)=s3 at I3
 have e3':({ s2 with heap:=s2.heap.push { cls:=.type "list",dict:=none,data:=.seq ([]:List Value).toArray } }:Shared)=s3:=e3
 have sz3:s3.heap.objs.size=s2.heap.objs.size+1:=by rw[<- e3]; exact g8 ..
 have st3:tn 0 s3.heap:=T.keep 0 _ _ st2 fun b hb o ho=>by rw[<- e3]; exact dW _ ho
 have lt3:∀b∈fp,b<s3.heap.objs.size:=fun b hb=>by rw[sz3]; exact Dy (lt2 b hb)
 have f3:∀b∈fp,gb X pins (upd H2 s2.heap.objs.size (.lst [])) b:=fun b hb=>⟨by rw[aL (fJ (lt2 b hb))]; exact(f2 b hb).1,(f2 b hb).2⟩
 generalize hH3:upd H2 s2.heap.objs.size (.lst [])=H3 at I3 f3 w0;refine o_ ?_;generalize XH:pushCells (s3.heap.push { cls:=.type "dict",data:=.dict #[] }) sc.names=h1;have hk:∀b o,s3.heap.get? b=some o->h1.get? b=some o:=fun b o q=>by rw[<- XH]; exact pushCells_keeps _ _ b o (dW _ q)
 have hns':h1.Ns s3.heap.objs.size fun _=>none:=by rw[<- XH]; exact(Heap.Ns.new s3.heap (.type "dict")).keeps (pushCells_keeps _ _)
 have I4:Inv (oH X N' sc fp s3 H3) [] (List.replicate nt none++bQ js σ) H3 { s3 with heap:=h1,toks:=s3.toks }:=zV I3 f3 lt3 S (fun {x c} e=>by
  have:=rJ sc.names (s3.heap.push { cls:=.type "dict",data:=.dict #[] }) (qm sc X.env) x c (by rw[g8]; exact e)
  rw[XH,g8] at this
  exact this) hns' hk
 have ZC:tn 0 h1:=T.keep 0 _ _ st3 fun b hb o ho=>hk b o ho;have stat:∀{H':Hp},(∀b∈fp,H' b=none)->∀b∈fp,gb (oH X N' sc fp s3 H3) [] H' b:=fun hn b hb=>⟨hn b hb,fJ (lt3 b hb),I4.ok.LQ b hb,.inl hb,(I4.ok.exf b hb).2,fun p hp=>absurd (show p∈([]:List (Addr×Obj)) from hp) (by simp)⟩
 have out:∀{σ':St} {H':Hp} {s':Shared},Inv (oH X N' sc fp s3 H3) [] σ' H' s'->Q (.ref s2.heap.objs.size) H'->compPost (model X.prog X.w) X.A X.xe use Qc (.ref s2.heap.objs.size) s3.heap.objs.size (.ok .next) s':=by
  intro σ' H' s' I' q';obtain⟨m,hn,_⟩:=id I'.loc;have I5:Inv X pins σ H' s':=I3.call' I'.os I'.base I'.hok I'.bare fun b hb=>⟨(f3 b hb).2.2.2.1,(f3 b hb).2.1,(f3 b hb).2.2.2.2.1,(f3 b hb).2.2.2.2.2⟩;exact fin _ _ H' s' I5 (I3.tL (bD _) I'.free) ⟨m,hn⟩ q'
 have loop:∀s4:Shared,s4={ s3 with heap:=h1,toks:=s3.toks }->codeAny (model X.prog X.w) X.A (.compLoop (.ListComp elt [⟨tg,iter,ifs,0⟩] sc pos) 0 (.ref it) (.ref s2.heap.objs.size) (compEnvC sc (cellsFrom (s3.heap.objs.size+1) sc.names (qm sc X.env)) s3.heap.objs.size X.env))
   (compPost (model X.prog X.w) X.A X.xe use Qc (.ref s2.heap.objs.size) s3.heap.objs.size) s4:=by
  rintro s4 rfl;refine Cj (fun n s'=>∃i ys H',Inv (oH X N' sc fp s3 H3) [] (List.replicate nt none++bQ js σ) H' s'/\tn i s'.heap/\(∀b∈fp,H' b=none)/\W i n ys H') ?_ m0 ⟨0,[],H3,I4,ZC,fun b hb=>(f3 b hb).1,w0⟩;rintro n s5 ⟨i,ys,H5,I5,RG,Xy,w5⟩;rcases turn i n ys H5 w5 with⟨stop,qn⟩ | ⟨go,step⟩
  ·refine cM (T.done (oH X N' sc fp s3 H3) rfl rfl rfl hc i [] s5 _ H5 (fun _ _=>False) I5 (stat Xy) RG stop) fun r s6 qx=>?_;obtain⟨hr,I6⟩:=qx;subst hr;exact out I6 qn
  ·refine cM (T.item (oH X N' sc fp s3 H3) rfl rfl rfl hc i [] s5 _ H5 (fun _ _=>False) I5 (stat Xy) RG go) fun r s6 qx=>?_;obtain⟨u,hr,q6⟩:=qx;subst hr;refine cM q6 fun _ s7 qx=>?_;obtain⟨y,H7,I7,r7,y7,RD,Vm⟩:=qx;have I7':=I7.pinned (stat Vm) (T.obj _ _ RD);refine cM (hgt fp s3 H3 _ s7 _ H7 y u _ I7' r7 (step y _ y7)) fun _ s8 qx=>?_;obtain⟨σ8,H8,I8,hsh,q8⟩:=qx;refine cM (hif fp s3 H3 _ s8 _ _ _ I8 q8) fun b s8' qx=>?_;obtain⟨H8',I8',q8'⟩:=qx
   have wk:∀k v,(List.replicate nt none++bQ js σ)[k]?=some (some v)->σ8[k]?=some (some v):=fun k v e=>by
    by_cases hlt:k<nt
    ·rw[DK (by rw[qR]; exact hlt),Jp,bx hlt] at e
     cases e
    ·rw[xV (by rw[qR]; omega),qR,<- hsh.1,DY] at e
     rw[show nt+(k-nt)=k by omega] at e
     exact e
   cases b with
   | true=>
    rw[bx rfl] at q8' ⊢;refine cM (he fp s3 H3 _ s8' _ _ _ I8' q8') fun z s9 qx=>?_;obtain⟨vz,H9,I9,r9,ha,hz,m',hm,w9⟩:=qx;refine cM (cI (X:=oH X N' sc fp s3 H3) _ s9 _ H9 (.ref s2.heap.objs.size) [vz] (.ref s2.heap.objs.size) [z] (fun _ H'=>H'=upd H9 s2.heap.objs.size (.lst (ys++[vz]))) I9 rfl (.cons r9 .nil) ⟨_,ys,vz,rfl,rfl,ha,hz,rfl⟩) fun _ Fz qx=>?_;obtain⟨_,Q6,YM,_,e10⟩:=qx;subst e10;refine⟨m',hm,i+1,ys++[vz],_,(YM.iB).weak hsh.2.symm wk,T.keep _ _ _ RD fun b hb o e=>(YM.pin (b,o) (gJ _ (gJ _ (dB hb e)))).1,fun b hb=>?_,w9⟩;obtain⟨o,e,d⟩:=T.obj _ _ RD b hb;exact(YM.pin (b,o) (gJ _ (gJ _ (dB hb e)))).2.1
   | false=>
    rw[aX (by decide)] at q8' ⊢
    obtain⟨m',hm,w9⟩:=q8';refine⟨m',hm,i+1,ys,_,(I8'.iB).weak hsh.2.symm wk,T.keep _ _ _ RD fun b hb o e=>(I8'.pin (b,o) (gJ _ (gJ _ (dB hb e)))).1,fun b hb=>?_,w9⟩;obtain⟨o,e,d⟩:=T.obj _ _ RD b hb;exact(I8'.pin (b,o) (gJ _ (gJ _ (dB hb e)))).2.1
 exact codeAny_compStart_list (loop _ rfl) (T.self X.A 0 _ _ _ ZC (loop _ rfl))
theorem O6 {X:Cx} {elt iter:Expr} {tg:Expr} {ifs:List Expr} {g:TG} {tc:TT} {nt:Nat} {y:Str} {py pos spos:Pos} {sc:Scope} {wi:TI} {te:TE} {N':List Str} {js:List Nat} {i:Nat} (hN:X.N.Nodup) (hi':X.N[i]?=some y) (hy:Loc X.env.scope y) (hc:X.calm=true) (hi:PI X tg iter wi) (S:qz X nt N' js sc)
  (hgt:∀fp s H,PG (oH X N' sc fp s H) tg g) (hif:∀fp s H,CV (oH X N' sc fp s H) ifs tc) (he:∀fp s H,PE (oH X N' sc fp s H) elt te) (hs:∀x,foldedSetIterable iter X.env x=pure x:=by intro _; rfl) (hw:swapsWith (.ListComp elt [⟨tg,iter,ifs,0⟩] sc pos) (some (.Name y py)) spos.line X.env=pure true:=by rfl)
  (hf:X.fn y=true\/X.env.scope.names.lookup y=some .local:=by first | exact .inl rfl | exact .inr rfl | assumption) :
  PS X (.Assign [.Name y py] (.ListComp elt [⟨tg,iter,ifs,0⟩] sc pos) spos) (Av (fD nt js wi g tc te) (fU i)):=by
 refine .mk ?_;intro pins s σ H D I h;rw[exec_Assign_Name_used _ _ _ _ hw];refine aW (Bc (aW ?_));refine aW (xx hc hi S hgt hif he hs I h fun acc C H' s' I5 fc ⟨m,hn⟩ q=>?_)
 have ho:∀b∈[C],∃o,s'.heap.get? b=some o/\∀v,o.data≠.cell v:=fun b hb=>by
  rw[dH.mp hb];obtain⟨o,es,n,e,ed,_⟩:=hn;exact⟨o,e,fun v z=>by rw[ed] at z; cases z⟩
 have I6:=I5.pinned (fp:=[C]) (fun b hb=>by rw[dH.mp hb]; exact fc) ho
 have hg:PG X (.Name y py) (fU i):=aH hN hi' hy hf;show wpAny _ _ (assign (.Name y py) X.env (.ref acc)) (fun _ s''=>∃m,s''.heap.Ns C m/\∀h',Heap.SameBut C s''.heap h'->_) _ s';refine cM (hg _ s' _ H' (.ref acc) (.ref acc) _ I6 rfl q) fun _ s7 qx=>?_;obtain⟨σ7,H7,I7,q7⟩:=qx
 have pc:∀o,s'.heap.get? C=some o->s7.heap.get? C=some o/\H7 C=none:=fun o e=>by
  have:=I7.pin (C,o) (gJ _ (gJ _ (dB (by simp) e)))
  exact⟨this.1,this.2.1⟩
 refine⟨m,hn.at fun o e=>(pc o e).1,fun h' sb=>aZ (aZ ⟨σ7,H7,?_,q7⟩)⟩
 have fr:H7 C=none:=by
  obtain⟨o,es,n,e,ed,_⟩:=hn;exact(pc o e).2
 exact I7.iB.turned (it:=C) (t':=s7.toks) (fun b o hb e=>sb.extBut b o hb e) fr fc.2.1 fc.2.2.2.1 fc.2.2.2.2.1 fc.2.2.2.2.2
theorem Eb {X:Cx} {elt iter tg:Expr} {ifs:List Expr} {g:TG} {tc:TT} {nt:Nat} {pos:Pos} {sc:Scope} {wi:TI} {te:TE} {N':List Str} {js:List Nat} (hc:X.calm=true) (hi:PI X tg iter wi) (S:qz X nt N' js sc)
  (hgt:∀fp s H,PG (oH X N' sc fp s H) tg g) (hif:∀fp s H,CV (oH X N' sc fp s H) ifs tc) (he:∀fp s H,PE (oH X N' sc fp s H) elt te) (hs:∀x,foldedSetIterable iter X.env x=pure x:=by intro _; rfl):PE X (.ListComp elt [⟨tg,iter,ifs,0⟩] sc pos) (fD nt js wi g tc te):=by
 refine .mk ?_;intro pins s σ H Q I h;rw[eval_ListComp];refine xx (use:=none) hc hi S hgt hif he hs I h fun acc C H' s' I5 fc ⟨m,hn⟩ q=>?_;refine⟨m,hn,fun h' sb=>?_⟩;exact⟨.ref acc,H',I5.turned (it:=C) (t':=s'.toks) (fun b o hb q=>sb.extBut b o hb q) fc.1 fc.2.1 fc.2.2.2.1 fc.2.2.2.2.1 fc.2.2.2.2.2,rfl,q⟩
theorem qz.of {X:Cx} {nt:Nat} {N':List Str} {js:List Nat} {sc:Scope} (k:sc.kind=.function:=by rfl) (n:(sc.names.all fun y=>y.2 != .cell || sc.names.lookup y.1==some .cell)=true:=by decide +kernel)
  (l:(sc.names.all fun y=>y.2 != .local || sc.names.lookup y.1==some .local)=true:=by decide +kernel) (al:(sc.names.all fun y=>y.2 != .free || (X.env.cells.lookup y.1).isSome)=true:=by rfl)
  (ln:N'.length=nt+js.length:=by rfl) (cp:(N'.drop nt).map some=js.map (fun j=>X.N[j]?):=by rfl) (ck:((N'.drop nt).all fun y=>X.env.kindOf y==some .cell&&sc.names.lookup y==some .free)=true:=by rfl):qz X nt N' js sc:=by
 have n':∀y∈sc.names,y.2=.cell->sc.names.lookup y.1=some .cell:=fun y hy hc=>by
  have:=j4.mp n y hy;rw[hc] at this;simpa using this
 refine⟨k,n',nJ l,jx al,al,ln,fun i j h=>?_,fun y h=>?_⟩
 ·have:=pW (fun l=>l[i]?) cp;simp only[cT,DY,h,Option.map_some] at this;cases e:N'[nt+i]? with
  | none=>rw[e] at this; cases this
  | some y=>rw[e] at this; exact Option.some.inj this
 ·have:=j4.mp ck y h;simpa using this
theorem qX {X:Cx} {elt iter:Expr} {tg:Expr} {ifs:List Expr} {g:TG} {tc:TT} {nt:Nat} {y:Str} {py pos spos:Pos} {sc:Scope} {wi:TI} {te:TE} {N':List Str} {js:List Nat} {i:Nat} (hN:X.N.Nodup) (hi':X.N[i]?=some y) (hy:Loc X.env.scope y) (hc:X.calm=true) (hi:PI X tg iter wi) (S:oZ X nt N' js sc)
  (hgt:∀fp s H,PG (Rf X N' sc fp s H) tg g) (hif:∀fp s H,CV (Rf X N' sc fp s H) ifs tc) (he:∀fp s H,PE (Rf X N' sc fp s H) elt te) (hs:∀x,foldedSetIterable iter X.env x=pure x:=by intro _; rfl) (hw:swapsWith (.ListComp elt [⟨tg,iter,ifs,0⟩] sc pos) (some (.Name y py)) spos.line X.env=pure true:=by rfl)
  (hf:X.fn y=true\/X.env.scope.names.lookup y=some .local:=by first | exact .inl rfl | exact .inr rfl | assumption) :
  PS X (.Assign [.Name y py] (.ListComp elt [⟨tg,iter,ifs,0⟩] sc pos) spos) (Av (fD nt js wi g tc te) (fU i)):=O6 hN hi' hy hc hi S.toD (fun fp s H=>Ab S.lM▸hgt fp s H) (fun fp s H=>Ab S.lM▸hif fp s H) (fun fp s H=>Ab S.lM▸he fp s H) hs hw hf
theorem jm {X:Cx} {elt iter tg:Expr} {ifs:List Expr} {g:TG} {tc:TT} {nt:Nat} {pos:Pos} {sc:Scope} {wi:TI} {te:TE} {N':List Str} {js:List Nat} (hc:X.calm=true) (hi:PI X tg iter wi) (S:oZ X nt N' js sc)
  (hgt:∀fp s H,PG (Rf X N' sc fp s H) tg g) (hif:∀fp s H,CV (Rf X N' sc fp s H) ifs tc) (he:∀fp s H,PE (Rf X N' sc fp s H) elt te) (hs:∀x,foldedSetIterable iter X.env x=pure x:=by intro _; rfl):PE X (.ListComp elt [⟨tg,iter,ifs,0⟩] sc pos) (fD nt js wi g tc te):=Eb hc hi S.toD (fun fp s H=>Ab S.lM▸hgt fp s H) (fun fp s H=>Ab S.lM▸hif fp s H) (fun fp s H=>Ab S.lM▸he fp s H) hs
theorem rT.toG {X:Cx} {N':List Str} {js:List Nat} {sc:Scope} (S:rT X N' js sc):oZ X 1 N' js sc:=⟨S.kind,S.lM,S.names,S.clos,S.all,by rw[S.len,Nat.add_comm],fun i j h=>by rw[Nat.add_comm]; exact S.cap i j h,fun y h=>S.QH y (by rw[<- List.drop_one]; exact h)⟩
theorem Ir {js:List Nat} {wi:TI} {te:TE}:gG js wi te=fD 1 js wi (fU 0) qH te:=by
 funext σ H Q
 have e:∀(x:V) (H3:Hp) (K1:VK) (K2:Hp->Prop),te (some x::bQ js σ) H3 K1=fU 0 x (List.replicate 1 none++bQ js σ) H3 fun σ' H'=>(σ'.drop 1=bQ js σ/\σ'.length=(List.replicate 1 (none:Option V)++bQ js σ).length)/\qH σ' H' fun b cQ=>if b=true then te σ' cQ K1 else K2 cQ:=fun x H3 K1 K2=>propext ⟨fun h=>⟨⟨rfl,rfl⟩,h⟩,fun h=>h.2⟩
 unfold gG fD;refine pW (wi σ H) (funext fun J=>funext fun H1=>?_);refine propext ⟨fun h acc ha=>?_,fun h acc ha=>?_⟩
 ·obtain⟨W,h0,hs⟩:=h acc ha;refine⟨W,h0,fun i m ys H2 w=>(hs i m ys H2 w).imp id fun z=>⟨z.1,fun x H3 y=>?_⟩⟩;have:=z.2 x H3 y;rw[e x H3 _ fun cQ=>∃m',m'<m/\W (i+1) m' ys cQ] at this;exact this
 ·obtain⟨W,h0,hs⟩:=h acc ha;refine⟨W,h0,fun i m ys H2 w=>(hs i m ys H2 w).imp id fun z=>⟨z.1,fun x H3 y=>?_⟩⟩;rw[e x H3 _ fun cQ=>∃m',m'<m/\W (i+1) m' ys cQ];exact z.2 x H3 y
theorem dG {X:Cx} {elt iter:Expr} {x:Str} {px pos:Pos} {sc:Scope} {wi:TI} {te:TE} {N':List Str} {js:List Nat} (hc:X.calm=true) (hi:PI X (.Name x px) iter wi) (S:rT X N' js sc) (h0:N'[0]?=some x) (nd:N'.Nodup)
  (hx:sc.names.lookup x=some .local) (he:∀fp s H,PE (Rf X N' sc fp s H) elt te) (hs:∀x,foldedSetIterable iter X.env x=pure x:=by intro _; rfl):PE X (.ListComp elt [⟨.Name x px,iter,[],0⟩] sc pos) (gG js wi te):=by
 rw[Ir];exact jm hc hi S.toG (fun _ _ _=>aH nd h0 (.inl (gA hx)) (.inr (gA hx))) (fun _ _ _=>gO) he hs
theorem Bg {X:Cx} {elt iter:Expr} {x y:Str} {px py pos spos:Pos} {sc:Scope} {wi:TI} {te:TE} {N':List Str} {js:List Nat} {i:Nat} (hN:X.N.Nodup) (hi':X.N[i]?=some y) (hy:Loc X.env.scope y) (hc:X.calm=true) (hi:PI X (.Name x px) iter wi) (S:rT X N' js sc) (h0:N'[0]?=some x) (nd:N'.Nodup)
  (hx:sc.names.lookup x=some .local) (he:∀fp s H,PE (Rf X N' sc fp s H) elt te) (hs:∀x,foldedSetIterable iter X.env x=pure x:=by intro _; rfl) (hw:swapsWith (.ListComp elt [⟨.Name x px,iter,[],0⟩] sc pos) (some (.Name y py)) spos.line X.env=pure true:=by rfl)
  (hf:X.fn y=true\/X.env.scope.names.lookup y=some .local:=by first | exact .inl rfl | exact .inr rfl | assumption) :
  PS X (.Assign [.Name y py] (.ListComp elt [⟨.Name x px,iter,[],0⟩] sc pos) spos) (Av (gG js wi te) (fU i)):=by
 rw[Ir];exact qX hN hi' hy hc hi S.toG (fun _ _ _=>aH nd h0 (.inl (gA hx)) (.inr (gA hx))) (fun _ _ _=>gO) he hs hw hf
theorem oZ.of {X:Cx} {nt:Nat} {N':List Str} {js:List Nat} {sc:Scope} (k:sc.kind=.function:=by rfl) (n:(sc.names.all fun y=>y.2 != .cell)=true:=by decide +kernel)
  (l:(sc.names.all fun y=>y.2 != .local || sc.names.lookup y.1==some .local)=true:=by decide +kernel) (al:(sc.names.all fun y=>y.2 != .free || (X.env.cells.lookup y.1).isSome)=true:=by rfl)
  (ln:N'.length=nt+js.length:=by rfl) (cp:(N'.drop nt).map some=js.map (fun j=>X.N[j]?):=by rfl) (ck:((N'.drop nt).all fun y=>X.env.kindOf y==some .cell&&sc.names.lookup y==some .free)=true:=by rfl):oZ X nt N' js sc:=by
 have n':∀y∈sc.names,y.2≠.cell:=fun y hy=>by have:=j4.mp n y hy; simpa using this
 refine⟨k,n',nJ l,jx al,al,ln,fun i j h=>?_,fun y h=>?_⟩
 ·have:=pW (fun l=>l[i]?) cp;simp only[cT,DY,h,Option.map_some] at this;cases e:N'[nt+i]? with
  | none=>rw[e] at this; cases this
  | some y=>rw[e] at this; exact Option.some.inj this
 ·have:=j4.mp ck y h;simpa using this
def LCK (K:PySem.W.Frag) (js:List Nat) (te:TE) (σ:St) (Q:VK) (x:V) (H1:Hp):Prop:=gG js (jM K fun _ H R=>R x H) te σ H1 Q
theorem Kd {K:PySem.W.Frag} {js:List Nat} {tl te:TE} {σ:St} {H:Hp} {Q:VK}:gG js (jM K tl) te σ H Q=tl σ H (LCK K js te σ Q):=rfl
section
variable {prog:Program} {w:World} {A:Around} {E:Value->Shared->Prop} {s:Shared}
theorem _root_.PySem.Heap.ExtBut.trans' {b:Addr} {h h1 h2:Heap} (x:Heap.ExtBut b h h1) (y:∀c o,h1.get? c=some o->h2.get? c=some o):Heap.ExtBut b h h2:=fun c o n e=>y c o (x c o n e)
theorem Kg {α:Type} {Q:α->Shared->Prop} (hh:A.handled=none) (q:∀h' x,(∀c o,s.heap.get? c=some o->h'.get? c=some o)->(∃o,h'.get? x=some o/\o.cls=.type "StopIteration")->E (.ref x) { s with heap:=h' }) :
  wpAny (model prog w) A (Builtin.SmallTypes.stopIteration (α:=α)) Q E s:=by
 unfold Builtin.SmallTypes.stopIteration;refine aW ?_;simp only[newExc,newTuple];refine aW (uF ?_ (by size_fits)); refine aW (m:=firstArgMember _ _) (v_ (a:=Value.none) (by rfl) ?_)
 refine uF ?_ (by size_fits); simp only[raiseNew]
 refine aW (wpAny_handled ?_); rw[hh];refine aW (aZ (wpAny_throw ?_)); refine q _ _ (fun c o e=>?_) ⟨_,dw _ rfl,rfl⟩;exact dW _ (dW _ e)
theorem WR {it t:Addr} {i:Nat} {its:Array Value} {u:Value} {Q:Value->Shared->Prop} (hi:s.heap.IsTupleIter it t i) (ht:s.heap.IsTuple t its) (hu:its[i]?=some u)
  (q:∀h',h'.IsTupleIter it t (i+1)->Heap.SameBut it s.heap h'->Q u { s with heap:=h' }):wpAny (model prog w) A (Builtin.SmallTypes.nextOf (.ref it)) Q E s:=by
 obtain⟨oi,gi,ci,di⟩:=id hi;obtain⟨ot,gt,_,nt,dt⟩:=ht;have ty:=hi.typeIs;have nn:¬((Value.ref t==Value.none)=true):=fun z=>Bool.noConfusion (show false=true from z);unfold Builtin.SmallTypes.nextOf;refine aW (DG (name:=Str.ofString "__next__") ty F.slot_tuple_iterator_next (xU F.slot_tuple_iterator_next ty F.entry_tuple_iterator_next ?_ (F.args_tuple_iterator_next_1 _)));show wpAny _ _ (field (.ref it) 0 >>= _) _ _ s; refine aW (iV gi di (x:=.ref t) rfl ?_);show wpAny _ _ (if(Value.ref t==Value.none)=true then _ else _) _ _ s; rw[aX nn]
 show wpAny _ _ (field (.ref it) 1 >>= _) _ _ s; refine aW (iV gi di (x:=.int i 0) rfl ?_);show wpAny _ _ (seqItems? (.ref t) >>= _) _ _ s; refine aW (qQ gt dt ?_);simp only[tu,hu];have fin:∀h',(∃o,h'.get? it=some o/\o.cls=.type "tuple_iterator" /\ o.data=.fields #[.ref t,.int ((i+1:Nat):Int) 0])->Heap.SameBut it s.heap h'->Q u { s with heap:=h' }:=fun h' z sb=>q h' z sb
 refine aW (wpAny_setField gi di (by simp) (aZ ⟨u,rfl,aZ (fin _ ?_ (Heap.SameBut.update ..))⟩))
 refine⟨_,Jj _ gi (Obj.isFreed_of_fields (Obj.data_mapFields di _)),(Obj.cls_mapFields ..).trans ci,?_⟩;rw[Obj.data_mapFields di];simp[rawInt]
theorem S6 {it t:Addr} {i:Nat} {its:Array Value} {Q:Value->Shared->Prop} (hh:A.handled=none) (hi:s.heap.IsTupleIter it t i) (ht:s.heap.IsTuple t its) (hu:its[i]?=none)
  (q:∀h' x,Heap.ExtBut it s.heap h'->(∃o,h'.get? x=some o/\o.cls=.type "StopIteration")->E (.ref x) { s with heap:=h' }):wpAny (model prog w) A (Builtin.SmallTypes.nextOf (.ref it)) Q E s:=by
 obtain⟨oi,gi,ci,di⟩:=id hi;obtain⟨ot,gt,_,nt,dt⟩:=ht;have ty:=hi.typeIs;have nn:¬((Value.ref t==Value.none)=true):=fun z=>Bool.noConfusion (show false=true from z);unfold Builtin.SmallTypes.nextOf;refine aW (DG (name:=Str.ofString "__next__") ty F.slot_tuple_iterator_next (xU F.slot_tuple_iterator_next ty F.entry_tuple_iterator_next ?_ (F.args_tuple_iterator_next_1 _)));show wpAny _ _ (field (.ref it) 0 >>= _) _ _ s; refine aW (iV gi di (x:=.ref t) rfl ?_);show wpAny _ _ (if(Value.ref t==Value.none)=true then _ else _) _ _ s; rw[aX nn]
 show wpAny _ _ (field (.ref it) 1 >>= _) _ _ s; refine aW (iV gi di (x:=.int i 0) rfl ?_);show wpAny _ _ (seqItems? (.ref t) >>= _) _ _ s; refine aW (qQ gt dt ?_);simp only[tu,hu];refine aW (qT (aW (wpAny_setField gi di (by simp) ?_)))
 exact Kg (A:=A.in1) hh fun h' x k z=>q h' x ((Heap.SameBut.update ..).extBut.trans' k) z
end
theorem LR {prog:Program} {w:World} {A:Around} (hh:A.handled=none) {it t:Addr} (ne:t≠it) (its:Array Value):Draws prog w A it [it,t] its.size (fun i v=>its[i]?=some v) (fun i h=>h.IsTupleIter it t i/\h.IsTuple t its) where
 live:=fun i h z=>let ⟨⟨o,e,_⟩,_⟩:=z; ⟨o,e⟩
 frame:=fun i h h' z k=>⟨z.1.at fun o e=>k it cY o e,z.2.at fun o e=>k t (gk _ cY) o e⟩
 item:=fun i s Q E hi z q=>by
  refine WR z.1 z.2 (u:=its[i]) (O2 hi) fun h' z' sb=>?_;exact q _ h' s.toks (O2 hi) ⟨z',z.2.extBut sb.extBut ne⟩ sb
 done:=fun s Q E z q=>S6 hh z.1 z.2 (by simp) q
abbrev tiH (h:Heap) (t:Addr):Heap:=h.push { cls:=.type "tuple_iterator",data:=.fields #[.ref t,.int 0 0] }
section
variable {X:Cx}
end
structure Vv (z TI TO i1 i2:Addr) (f1 f2:List Addr):Prop where
 a1:TI≠z
 a2:TO≠z
 a3:TI≠TO
 a4:i1≠z
 a5:i2≠z
 a6:TO≠i1
 a7:TO≠i2
 a8:i1≠i2
 b1:z∉f1
 b2:z∉f2
 b3:TO∉f1
 b4:TO∉f2
 b5:i1∉f2
 b6:i2∉f1
section
variable {prog:Program} {w:World} {A:Around} {E:Value->Shared->Prop} {s:Shared}
theorem CZ {b:Addr} {h h':Heap} {f:List Addr} (sb:Heap.SameBut b h h') (hb:b∉f):∀c∈f,∀o,h.get? c=some o->h'.get? c=some o:=fun c hc o e=>sb.extBut c o (fun z=>hb (z▸hc)) e
theorem M3 {z TI TO i1 i2:Addr} {f1 f2:List Addr} {n1 n2 k:Nat} {P1 P2:Nat->Value->Prop} {S1 S2:Nat->Heap->Prop} {a b:Value} {Q:Value->Shared->Prop} (Z:Vv z TI TO i1 i2 f1 f2) (D1:Draws prog w A i1 f1 n1 P1 S1) (D2:Draws prog w A i2 f2 n2 P2 S2)
  (hz:IsZip s.heap z TI TO .none) (hi:IsPair s.heap TI (.ref i1) (.ref i2)) (ho:IsPair s.heap TO a b) (s1:S1 k s.heap) (s2:S2 k s.heap) (k1:k<n1) (k2:k<n2)
  (q:∀x y h' tk,P1 k x->P2 k y->IsZip h' z TI TO (rawInt s.heap.objs.size)->IsPair h' TO x y->S1 (k+1) h'->S2 (k+1) h'->IsPair h' s.heap.objs.size x y->h'.objs.size=s.heap.objs.size+1->(∀c o,c≠z->c≠TO->c≠i1->c≠i2->s.heap.get? c=some o->h'.get? c=some o)->Q (.ref s.heap.objs.size) { s with heap:=h',toks:=tk }) :
  wpAny (model prog w) A (Builtin.«zip.__next__» ⟨[.ref z],[]⟩) (fun fin s'=>∃v,fin=.done (.ret v)/\Q v s') E s:=by
 show wpAny _ _ (field (.ref z) 2 >>= _) _ _ _; refine aW (iV hz rfl (x:=.bool false) rfl ?_);show wpAny _ _ (field (.ref z) 3 >>= _) _ _ _; refine aW (iV hz rfl (x:=.ref TI) rfl (aW (qQ hi rfl ?_)));show wpAny _ _ (Builtin.SmallTypes.ownedTupleIsFree (.ref z) >>= _) _ _ _; unfold Builtin.SmallTypes.ownedTupleIsFree;refine aW (aW (iV hz rfl (x:=.none) rfl (aZ ?_))); simp only[if_true];refine aW (qT (aW (iV hz rfl (x:=.ref TO) rfl (aW (GF hz (by simp) fun hA zA sA=>?_)))))
 replace zA:IsZip hA z TI TO .ellipsis:=zA
 refine aW ?_; simp only[List.zipIdx_cons,List.zipIdx_nil,Dt,DP];refine aW (aW (wpAny_onRaise ?_)); show wpAny _ _ (Builtin.SmallTypes.nextOf (.ref i1) >>= _) _ _ _;refine aW (D1.item k _ _ _ k1 (D1.frame _ _ _ s1 (CZ sA Z.b1)) fun x hB tB pB stb sB=>aZ ?_);have oB:IsPair hB TO a b:=sB.extBut _ _ Z.a6 (sA.extBut _ _ Z.a2 ho);have uB:S2 k hB:=D2.frame _ _ _ (D2.frame _ _ _ s2 (CZ sA Z.b2)) (CZ sB Z.b5);refine aW (qQ oB rfl (aW (wpAny_updateSeq_pair oB fun hC oC sC=>?_)))
 replace oC:IsPair hC TO x b:=oC
 refine aW (wu (aZ (aW (aW (wpAny_onRaise ?_))))); show wpAny _ _ (Builtin.SmallTypes.nextOf (.ref i2) >>= _) _ _ _;refine aW (D2.item k _ _ _ k2 (D2.frame _ _ _ uB (CZ sC Z.b4)) fun y hD tD pD std sD=>aZ ?_);have oD:IsPair hD TO x b:=sD.extBut _ _ Z.a7 oC;refine aW (qQ oD rfl (aW (wpAny_updateSeq_pair oD fun hF oF sF=>?_)))
 replace oF:IsPair hF TO x y:=oF
 refine aW (wu (aZ (aZ (aW (qQ oF rfl (aW (wpAny_newTuple ?_)))))));have zF:IsZip hF z TI TO .ellipsis:=sF.extBut _ _ Z.a2.symm (sD.extBut _ _ Z.a5.symm (sC.extBut _ _ Z.a2.symm (sB.extBut _ _ Z.a4.symm zA)));have size:hF.objs.size=s.heap.objs.size:=by rw[sF.1,sD.1,sC.1,sB.1,sA.1]
 have lz:z<hF.objs.size:=cg zF;show wpAny _ _ (Builtin.SmallTypes.ownedTupleHandOut (.ref z) (.ref hF.objs.size) >>= _) _ _ _; unfold Builtin.SmallTypes.ownedTupleHandOut;have zG:IsZip (hF.push { cls:=.type "tuple",data:=.seq #[x,y] }) z TI TO .ellipsis:=dW _ zF;refine aW (aW (GF zG (by simp) fun hI zI sI=>?_))
 replace zI:IsZip hI z TI TO (rawInt hF.objs.size):=zI
 refine GF zI (by simp) fun hJ zJ sJ=>aZ ⟨_,rfl,?_⟩
 replace zJ:IsZip hJ z TI TO (rawInt hF.objs.size):=zJ
 have up:∀c o,c≠z->hF.get? c=some o->hJ.get? c=some o:=fun c o n e=>sJ.extBut _ _ n (sI.extBut _ _ n (dW _ e));have tJ:IsPair hJ hF.objs.size x y:=sJ.extBut _ _ (Ds lz) (sI.extBut _ _ (Ds lz) (dw _ rfl));have szJ:hJ.objs.size=hF.objs.size+1:=by rw[sJ.1,sI.1,g8]
 have kB:∀c o,c≠z->c≠TO->c≠i1->c≠i2->s.heap.get? c=some o->hF.get? c=some o:=fun c o n1 n2 n3 n4 e=>sF.extBut _ _ n2 (sD.extBut _ _ n4 (sC.extBut _ _ n2 (sB.extBut _ _ n3 (sA.extBut _ _ n1 e))));have u1:S1 (k+1) hF:=D1.frame _ _ _ (D1.frame _ _ _ (D1.frame _ _ _ stb (CZ sC Z.b3)) (CZ sD Z.b6)) (CZ sF Z.b3);have u2:S2 (k+1) hF:=D2.frame _ _ _ std (CZ sF Z.b4);show Q (.ref hF.objs.size) _;rw[size] at zJ tJ szJ ⊢;exact q x y hJ tD pB pD zJ (up _ _ Z.a2 oF) (D1.frame _ _ _ u1 fun c hc o e=>up c o (fun z'=>Z.b1 (z'▸hc)) e) (D2.frame _ _ _ u2 fun c hc o e=>up c o (fun z'=>Z.b2 (z'▸hc)) e) tJ szJ fun c o n1 n2 n3 n4 e=>up c o n1 (kB c o n1 n2 n3 n4 e)
theorem J7 {z TI TO i1 i2:Addr} {f1 f2:List Addr} {n1 n2 k:Nat} {P1 P2:Nat->Value->Prop} {S1 S2:Nat->Heap->Prop} {a b:Value} {Q:Fin->Shared->Prop} (Z:Vv z TI TO i1 i2 f1 f2) (D1:Draws prog w A i1 f1 n1 P1 S1) (D2:Draws prog w A i2 f2 n2 P2 S2)
  (hz:IsZip s.heap z TI TO .none) (hi:IsPair s.heap TI (.ref i1) (.ref i2)) (ho:IsPair s.heap TO a b) (s1:S1 k s.heap) (s2:S2 k s.heap) (kk:k=n1\/(k<n1/\k=n2))
  (q:∀h' e,(∀c o,c≠z->c≠TO->c≠i1->c≠i2->s.heap.get? c=some o->h'.get? c=some o)->(∃o,h'.get? e=some o/\o.cls=.type "StopIteration")->∀tk,E (.ref e) { s with heap:=h',toks:=tk }) :
  wpAny (model prog w) A (Builtin.«zip.__next__» ⟨[.ref z],[]⟩) Q E s:=by
 show wpAny _ _ (field (.ref z) 2 >>= _) _ _ _; refine aW (iV hz rfl (x:=.bool false) rfl ?_);show wpAny _ _ (field (.ref z) 3 >>= _) _ _ _; refine aW (iV hz rfl (x:=.ref TI) rfl (aW (qQ hi rfl ?_)));show wpAny _ _ (Builtin.SmallTypes.ownedTupleIsFree (.ref z) >>= _) _ _ _; unfold Builtin.SmallTypes.ownedTupleIsFree;refine aW (aW (iV hz rfl (x:=.none) rfl (aZ ?_))); simp only[if_true];refine aW (qT (aW (iV hz rfl (x:=.ref TO) rfl (aW (GF hz (by simp) fun hA zA sA=>?_)))))
 replace zA:IsZip hA z TI TO .ellipsis:=zA
 refine aW ?_; simp only[List.zipIdx_cons,List.zipIdx_nil,Dt,DP];refine aW (aW (wpAny_onRaise ?_)); show wpAny _ _ (Builtin.SmallTypes.nextOf (.ref i1) >>= _) _ _ _;rcases kk with e1 | ⟨k1,e2⟩
 ·have s1':=s1;rw[e1] at s1';refine aW (D1.done _ _ _ (D1.frame _ _ _ s1' (CZ sA Z.b1)) fun hB x sB hx=>?_);obtain⟨ox,gx,cx⟩:=hx;have zB:IsZip hB z TI TO .ellipsis:=sB _ _ Z.a4.symm zA;have nx:x≠z:=fun y=>by subst y; rw[zB] at gx; cases gx; exact absurd (show Value.type "zip" = Value.type "StopIteration" from cx) (by decide)
  refine GF zB (by simp) fun hC _ sC=>q hC x (fun c o m1 _ m3 _ e=>sC.extBut _ _ m1 (sB _ _ m3 (sA.extBut _ _ m1 e))) ⟨ox,sC.extBut _ _ nx gx,cx⟩ _
 ·refine aW (D1.item k _ _ _ k1 (D1.frame _ _ _ s1 (CZ sA Z.b1)) fun x hB tB pB stb sB=>aZ ?_);have oB:IsPair hB TO a b:=sB.extBut _ _ Z.a6 (sA.extBut _ _ Z.a2 ho);have uB:S2 k hB:=D2.frame _ _ _ (D2.frame _ _ _ s2 (CZ sA Z.b2)) (CZ sB Z.b5);refine aW (qQ oB rfl (aW (wpAny_updateSeq_pair oB fun hC oC sC=>?_)));refine aW (wu (aZ (aW (aW (wpAny_onRaise ?_))))); show wpAny _ _ (Builtin.SmallTypes.nextOf (.ref i2) >>= _) _ _ _;have uC:S2 n2 hC:=by rw[<- e2]; exact D2.frame _ _ _ uB (CZ sC Z.b4)
  refine aW (D2.done _ _ _ uC fun hD v sD hx=>?_);obtain⟨ox,gx,cx⟩:=hx;have zD:IsZip hD z TI TO .ellipsis:=sD _ _ Z.a5.symm (sC.extBut _ _ Z.a2.symm (sB.extBut _ _ Z.a4.symm zA));have nx:v≠z:=fun y=>by subst y; rw[zD] at gx; cases gx; exact absurd (show Value.type "zip" = Value.type "StopIteration" from cx) (by decide)
  refine GF zD (by simp) fun hF _ sF=>q hF v (fun c o m1 m2 m3 m4 e=>sF.extBut _ _ m1 (sD _ _ m4 (sC.extBut _ _ m2 (sB.extBut _ _ m3 (sA.extBut _ _ m1 e))))) ⟨ox,sF.extBut _ _ nx gx,cx⟩ _
theorem MT {z TI TO i1 i2:Addr} {f1 f2:List Addr} {n1 n2 k:Nat} {P1 P2:Nat->Value->Prop} {S1 S2:Nat->Heap->Prop} {a b:Value} {Q:Option Value->Shared->Prop} (Z:Vv z TI TO i1 i2 f1 f2) (D1:Draws prog w A.in1 i1 f1 n1 P1 S1) (D2:Draws prog w A.in1 i2 f2 n2 P2 S2)
  (hz:IsZip s.heap z TI TO .none) (hi:IsPair s.heap TI (.ref i1) (.ref i2)) (ho:IsPair s.heap TO a b) (s1:S1 k s.heap) (s2:S2 k s.heap) (k1:k<n1) (k2:k<n2)
  (q:∀x y h' tk,P1 k x->P2 k y->IsZip h' z TI TO (rawInt s.heap.objs.size)->IsPair h' TO x y->S1 (k+1) h'->S2 (k+1) h'->IsPair h' s.heap.objs.size x y->h'.objs.size=s.heap.objs.size+1->(∀c o,c≠z->c≠TO->c≠i1->c≠i2->s.heap.get? c=some o->h'.get? c=some o)->Q (some (.ref s.heap.objs.size)) { s with heap:=h',toks:=tk }) :
  wpAny (model prog w) A (pyNext (.ref z)) Q E s:=by
 have ty:s.TypeIs (.ref z) "zip" := ⟨_,hz,rfl⟩;unfold pyNext;refine aW (wpAny_attempt (DG (name:=Str.ofString "__next__") ty F.slot_zip_next (xU F.slot_zip_next ty F.entry_zip_next ?_ (F.args_zip_next_1 _))));exact M3 Z D1 D2 hz hi ho s1 s2 k1 k2 fun x y h' tk p1 p2 v1 v2 v3 v4 v5 v6 v7=>aZ (q x y h' tk p1 p2 v1 v2 v3 v4 v5 v6 v7)
theorem Ik {z TI TO i1 i2:Addr} {f1 f2:List Addr} {n1 n2 k:Nat} {P1 P2:Nat->Value->Prop} {S1 S2:Nat->Heap->Prop} {a b:Value} {Q:Option Value->Shared->Prop} (Z:Vv z TI TO i1 i2 f1 f2) (D1:Draws prog w A.in1 i1 f1 n1 P1 S1) (D2:Draws prog w A.in1 i2 f2 n2 P2 S2)
  (hz:IsZip s.heap z TI TO .none) (hi:IsPair s.heap TI (.ref i1) (.ref i2)) (ho:IsPair s.heap TO a b) (s1:S1 k s.heap) (s2:S2 k s.heap) (kk:k=n1\/(k<n1/\k=n2))
  (q:∀h' tk,(∀c o,c≠z->c≠TO->c≠i1->c≠i2->s.heap.get? c=some o->h'.get? c=some o)->Q none { s with heap:=h',toks:=tk }):wpAny (model prog w) A (pyNext (.ref z)) Q E s:=by
 have ty:s.TypeIs (.ref z) "zip" := ⟨_,hz,rfl⟩;unfold pyNext;refine aW (wpAny_attempt (DG (name:=Str.ofString "__next__") ty F.slot_zip_next (xU F.slot_zip_next ty F.entry_zip_next ?_ (F.args_zip_next_1 _))));refine J7 Z D1 D2 hz hi ho s1 s2 kk fun h' e k hx tk=>?_;obtain⟨o,g,c⟩:=hx;exact aW (wpAny_isInstance (T:="StopIteration") (b:=true) ⟨o,g,c⟩ isSubtype_stop (aZ (q _ tk k)))
end
abbrev zA2 (h:Heap) (t1 t2:Addr):Heap:=tiH (tiH h t1) t2
abbrev zA3 (h:Heap) (t1 t2:Addr):Heap:=(zA2 h t1 t2).push { cls:=.type "tuple",data:=.seq #[.ref h.objs.size,.ref (tiH h t1).objs.size] }
abbrev zA4 (h:Heap) (t1 t2:Addr):Heap:=(zA3 h t1 t2).push { cls:=.type "tuple",data:=.seq #[.none,.none] }
abbrev VL (h:Heap) (t1 t2:Addr):Heap:=(zA4 h t1 t2).push { cls:=.type "zip",data:=.fields #[.none,.bool false,.bool false,.ref (zA2 h t1 t2).objs.size,.ref (zA3 h t1 t2).objs.size] }
theorem S_ (t1 t2:Addr) (xs ys:Array Value):Meets (Builtin.«zip.__new__» ⟨[.type "zip",.ref t1,.ref t2],[]⟩) (fun _ R s=>s.heap.IsTuple t1 xs/\s.heap.IsTuple t2 ys/\R (.ok (.ret (.ref (zA4 s.heap t1 t2).objs.size))) { s with heap:=VL s.heap t1 t2 }):=
 .of_wp fun prog w A R s z=>by
  obtain⟨hp,g,d,tk,os⟩:=s;obtain⟨hx,hy,z⟩:=z;have sub:=sub_zip;have hX:Heap.IsTuple (Shared.heap ⟨hp,g,d,tk,os⟩) t1 xs:=hx;have hY:Heap.IsTuple (Shared.heap ⟨tiH hp t1,g,d,tk,os⟩) t2 ys:=hy.push _
  wp_walk using Ji hX,Ji hY
  exact⟨_,rfl,z⟩
theorem Mf {prog:Program} {w:World} {A:Around} {E:Value->Shared->Prop} {s:Shared} {t1 t2:Addr} {xs ys:Array Value} {Q:Value->Shared->Prop} (hx:s.heap.IsTuple t1 xs) (hy:s.heap.IsTuple t2 ys)
  (q:∀h',IsZip h' (s.heap.objs.size+4) (s.heap.objs.size+2) (s.heap.objs.size+3) .none->IsPair h' (s.heap.objs.size+2) (.ref s.heap.objs.size) (.ref (s.heap.objs.size+1))->IsPair h' (s.heap.objs.size+3) .none .none ->
   h'.IsTupleIter s.heap.objs.size t1 0->h'.IsTupleIter (s.heap.objs.size+1) t2 0->(∀c o,s.heap.get? c=some o->h'.get? c=some o)->Q (.ref (s.heap.objs.size+4)) { s with heap:=h' }) :
  wpAny (model prog w) A (call (.type "zip") [.ref t1,.ref t2]) Q E s:=by
 have n1:(tiH s.heap t1).objs.size=s.heap.objs.size+1:=g8 ..;have n2:(zA2 s.heap t1 t2).objs.size=s.heap.objs.size+2:=by rw[g8,n1]
 have n3:(zA3 s.heap t1 t2).objs.size=s.heap.objs.size+3:=by rw[g8,n2]
 have n4:(zA4 s.heap t1 t2).objs.size=s.heap.objs.size+4:=by rw[g8,n3]
 have up:∀c o,s.heap.get? c=some o->(VL s.heap t1 t2).get? c=some o:=fun c o e=>dW _ (dW _ (dW _ (dW _ (dW _ e))));have v5:(VL s.heap t1 t2).get? (zA4 s.heap t1 t2).objs.size=some _:=dw _ rfl;have v4:(VL s.heap t1 t2).get? (zA3 s.heap t1 t2).objs.size=some _:=dW _ (dw _ rfl);have v3:(VL s.heap t1 t2).get? (zA2 s.heap t1 t2).objs.size=some _:=dW _ (dW _ (dw _ rfl));have v2:(VL s.heap t1 t2).get? (tiH s.heap t1).objs.size=some _:=dW _ (dW _ (dW _ (dw _ rfl)));have v1:(VL s.heap t1 t2).get? s.heap.objs.size=some _:=dW _ (dW _ (dW _ (dW _ (dw _ rfl))));refine callType_new F.called_zip (by decide) (F.typeCall_zip_2 _ _) (F.newCall_zip_2 _ _) (fun x=>F.args_object_init_3 x _ _) F.entry_zip_new (S_ t1 t2 xs ys) ⟨hx,hy,?_⟩
 show _/\_;rw[n2,n3,n4] at v5;rw[n1,n2] at v3;rw[n3] at v4;rw[n1] at v2;rw[n4];exact⟨⟨_,v5,rfl⟩,q _ v5 v3 v4 ⟨_,v1,rfl,rfl⟩ ⟨_,v2,rfl,rfl⟩ up⟩
theorem Inv.lB {X:Cx} {pins:List (Addr×Obj)} {σ:St} {H:Hp} {s:Shared} {h':Heap} {t':Nat} {fp:List Addr} (I:Inv X pins σ H s) (k:∀b o,b∉fp->s.heap.get? b=some o->h'.get? b=some o) (hf:∀b∈fp,gb X pins H b) :
  Inv X pins σ H { s with heap:=h',toks:=t' }:=by
 have ni:∀b u,H b=some u->b∉fp:=fun b u q hb=>by rw[(hf b hb).1] at q; cases q
 refine I.step (g':=s.gens) (d':=s.drawn) (ch:=fp) (fun b hb=>?_) (fun b o _ _ hc q _=>k b o hc q) (fun b o _ _ hc q _=>⟨o.slots,k b o hc q⟩) (fun _ _ _ _ n=>n) (fun b o hc q=>⟨o,k b o hc q⟩) (fun _ _ q=>q) (fun _ _ _ q=>q)
  (fun b ps q=>⟨#[],by rw[q]; simp⟩) (fun m hm=>?_) (fun b u q=>?_) I.bare
 ·obtain⟨_,f1,_,f3,f4,f5⟩:=hf b hb;exact⟨f3,(hf b hb).2.1,f4,f5⟩
 ·obtain⟨o,es,ep,ho,r⟩:=hm;exact⟨o,es,ep,k _ o (fun hb=>(hf _ hb).2.1 rfl) ho,r⟩
 ·refine(I.hok b u q).stay (fun c v hc z=>k c v ?_ z) (fun _ z=>z) fun _ _ z=>z;rcases hc with z | z
  ·rw[z]; exact ni b u q
  ·exact ni c _ z
theorem ZD {X:Cx} {pins:List (Addr×Obj)} {σ:St} {H:Hp} {s:Shared} {a b:Addr} {xs:List V} (I:Inv X pins σ H s) (hq:e_ X.K H a xs) (hf:gb X pins H b):a≠b:=fun z=>by
 rcases hq with h | ⟨o,its,n,hk,_⟩
 ·rcases h with h | ⟨o,h⟩ <;> (rw[z,hf.1] at h; cases h)
 ·have e:X.base.get? a=some o:=I.ok.mod.Vj a o hk;rcases hf.2.2.2.1 with y | y
  ·exact I.ok.Hf a o e (z▸y)
  ·have l:=cg e;have m:=I.ok.MJ;rw[z] at l;exact absurd (mJ l (ik m y)) (sZ _)
structure Knd where
 Sq:PySem.W.Frag->Hp->Addr->List V->Prop
 It:Heap->Addr->Addr->Nat->Prop
 Pl:Heap->Addr->Array Value->Prop
 obj:∀{h:Heap} {i a:Addr} {n:Nat},It h i a n->∃o,h.get? i=some o/\∀v,o.data≠.cell v
 keep:∀{h h':Heap} {i a:Addr} {n:Nat},It h i a n->(∀o,h.get? i=some o->h'.get? i=some o)->It h' i a n
 inv:∀{X:Cx} {pins:List (Addr×Obj)} {σ:St} {H:Hp} {s:Shared} {a:Addr} {xs:List V},Inv X pins σ H s->Sq X.K H a xs->∃us:List Value,Vals xs us/\Pl s.heap a us.toArray
 inj:∀{X:Cx} {pins:List (Addr×Obj)} {σ:St} {H:Hp} {s:Shared} {a:Addr} {xs ys:List V},Inv X pins σ H s->Sq X.K H a xs->Sq X.K H a ys->xs=ys
 ne:∀{X:Cx} {pins:List (Addr×Obj)} {σ:St} {H:Hp} {s:Shared} {a b:Addr} {xs:List V},Inv X pins σ H s->Sq X.K H a xs->gb X pins H b->a≠b
 dr:∀{prog:Program} {w:World} {A:Around},A.handled=none->∀{i a:Addr},a≠i->∀us:Array Value,Draws prog w A i [i,a] us.size (fun n v=>us[n]?=some v) (fun n h=>It h i a n/\Pl h a us)
def kT:Knd:=⟨fun K=>e_ K,fun h i a n=>h.IsTupleIter i a n,fun h a us=>h.IsTuple a us,fun⟨o,g,_,d⟩=>⟨o,g,fun v q=>by rw[d] at q; cases q⟩,fun g k=>g.at k,fun I h=>(I.tuple h).elim fun us p=>⟨us,p.1,p.2.1⟩,fun I h h'=>I.yP h h',fun I h f=>ZD I h f,fun hh _ _ n us=>LR hh n us⟩
def Yg (k1 k2:Knd) (K:PySem.W.Frag) (a b:Addr):It:=
 ⟨fun i H=>∃xs ys x y,k1.Sq K H a xs/\k2.Sq K H b ys/\xs[i]?=some x/\ys[i]?=some y,fun i H v H'=>∃p x y,H p=none/\v=.ref p/\H'=upd H p (.tup [x,y])/\(∀xs,k1.Sq K H a xs->xs[i]?=some x)/\∀ys,k2.Sq K H b ys->ys[i]?=some y,
  fun i H=>∃xs ys,k1.Sq K H a xs/\k2.Sq K H b ys/\(i=xs.length\/(i<xs.length/\i=ys.length))⟩
structure ad1 (k1 k2:Knd) (z TI TO i1 i2 a b:Addr) (i:Nat) (h:Heap):Prop where
 z:IsZip h z TI TO .none
 p:IsPair h TI (.ref i1) (.ref i2)
 o:∃x y,IsPair h TO x y
 l:k1.It h i1 a i
 r:k2.It h i2 b i
abbrev aa_:=Yg kT kT
theorem yO (k1 k2:Knd) {P:Program} {w:World} {K:PySem.W.Frag} {elts:List Expr} {x1} {tp:Pos} (a b z TI TO i1 i2:Addr) (n1:TI≠z) (n2:TO≠z) (n3:TI≠TO) (n4:i1≠z) (n5:i2≠z) (n6:TO≠i1) (n7:TO≠i2) (n8:i1≠i2) (n9:TI≠i1) (n10:TI≠i2) :
  Turn P w K (.Tuple elts x1 tp) (Yg k1 k2 K a b) [z,TI,TO,i1,i2] z (ad1 k1 k2 z TI TO i1 i2 a b) where
 mem:=by simp
 obj:=fun i h st c hc=>by
  obtain⟨g1,g2,⟨x,y,g3⟩,g4,g5⟩:=st;simp only[bF,dU,or_false] at hc;rcases hc with rfl | rfl | rfl | rfl | rfl
  ·exact⟨_,g1,fun v q=>by cases q⟩
  ·exact⟨_,g2,fun v q=>by cases q⟩
  ·exact⟨_,g3,fun v q=>by cases q⟩
  ·exact k1.obj g4
  ·exact k2.obj g5
 keep:=fun i h h' st k=>by
  obtain⟨g1,g2,⟨x,y,g3⟩,g4,g5⟩:=st;exact⟨k z (by simp) _ g1,k TI (by simp) _ g2,⟨x,y,k TO (by simp) _ g3⟩,k1.keep g4 fun o e=>k i1 (by simp) o e,k2.keep g5 fun o e=>k i2 (by simp) o e⟩
 item:=by
  intro X hP hw hK hc i pins s σ H E I hf st hg;subst hP hw hK;obtain⟨g1,g2,⟨xo,yo,g3⟩,g4,g5⟩:=st;obtain⟨xs,ys,x,y,hx,hy,ex,ey⟩:=hg;obtain⟨us,ru,pu⟩:=k1.inv I hx;obtain⟨vs,rv,pv⟩:=k2.inv I hy;obtain⟨u,hu,ru'⟩:=ru.get ex;obtain⟨v,hv,rv'⟩:=rv.get ey;have ha:∀c∈[z,TI,TO,i1,i2],a≠c:=fun c hc=>k1.ne I hx (hf c hc);have hb:∀c∈[z,TI,TO,i1,i2],b≠c:=fun c hc=>k2.ne I hy (hf c hc);have hh:X.A.in1.handled=none:=I.ok.hd hc;have Z:Vv z TI TO i1 i2 [i1,a] [i2,b]:=⟨n1,n2,n3,n4,n5,n6,n7,n8,by simp; exact⟨n4.symm,(ha z (by simp)).symm⟩,by simp; exact⟨n5.symm,(hb z (by simp)).symm⟩,by simp; exact⟨n6,(ha TO (by simp)).symm⟩,by simp; exact⟨n7,(hb TO (by simp)).symm⟩,by simp; exact⟨n8,(hb i1 (by simp)).symm⟩,by simp; exact⟨n8.symm,(ha i2 (by simp)).symm⟩⟩
  refine MT Z (k1.dr hh (ha i1 (by simp)) us.toArray) (k2.dr hh (hb i2 (by simp)) vs.toArray) g1 g2 g3 (show _/\_ from⟨g4,pu⟩) (show _/\_ from⟨g5,pv⟩) (by have:=(i_.mp hu).1; simpa using this) (by have:=(i_.mp hv).1; simpa using this)
   fun u' v' h' tk hu' hv' z1 z2 z3 z4 z5 z6 kk=>?_
  have eu:u'=u:=by
   have:us[i]?=some u':=by simpa using hu'
   rw[hu] at this; exact(Option.some.inj this).symm
  have ev:v'=v:=by
   have:vs[i]?=some v':=by simpa using hv'
   rw[hv] at this; exact(Option.some.inj this).symm
  subst eu ev;have fr:H s.heap.objs.size=none:=I.hok.fresh (bD _)
  have I1:Inv X pins σ (upd H s.heap.objs.size (.tup [x,y])) { s with heap:=s.heap.push { cls:=.type "tuple",data:=.seq #[u',v'] },toks:=tk }:=
   I.laid (t':=tk) (fun b v z=>dW _ z) (bD _) ⟨(by show 2<=sizeLine; decide),[u',v'],.cons ru' (.cons rv' .nil),⟨_,dw _ rfl,rfl,_,rfl⟩⟩
  have lt:∀c∈[z,TI,TO,i1,i2],c<s.heap.objs.size:=fun c hc=>by
   simp only[bF,dU,or_false] at hc;rcases hc with rfl | rfl | rfl | rfl | rfl
   ·exact cg g1
   ·exact cg g2
   ·exact cg g3
   ·obtain⟨o,e,_⟩:=k1.obj g4; exact cg e
   ·obtain⟨o,e,_⟩:=k2.obj g5; exact cg e
  have f1:∀c∈[z,TI,TO,i1,i2],gb X pins (upd H s.heap.objs.size (.tup [x,y])) c:=fun c hc=>⟨by rw[aL (fJ (lt c hc))]; exact(hf c hc).1,(hf c hc).2⟩
  have I2:Inv X pins σ (upd H s.heap.objs.size (.tup [x,y])) { s with heap:=h',toks:=tk }:=I1.lB (t':=tk) (fun c o nc e=>by
   have m:∀d∈[z,TI,TO,i1,i2],c≠d:=fun d hd y=>nc (y▸hd);by_cases y:c=s.heap.objs.size
   ·subst y;rw[dw _ rfl] at e;cases e;exact z5
   ·rcases Heap.get?_push_cases e with w | w
    ·exact absurd w.1 y
    ·exact kk c o (m z (by simp)) (m TO (by simp)) (m i1 (by simp)) (m i2 (by simp)) w) f1
  have g2':IsPair h' TI (.ref i1) (.ref i2):=kk _ _ n1 n3 n9 n10 g2;refine⟨_,rfl,wpAny_letOwnedTupleGo_zip z1 fun h2 zz sb=>⟨.ref s.heap.objs.size,_,I2.lB (fp:=[z,TI,TO,i1,i2]) (t':=tk) (fun c o nc e=>sb.extBut c o (fun y=>nc (by simp[y])) e) f1,rfl,⟨_,x,y,fr,rfl,rfl,fun xs' h=>by rw[k1.inj I h hx]; exact ex,fun ys' h=>by rw[k2.inj I h hy]; exact ey⟩,⟨zz,sb.extBut _ _ n1 g2',⟨_,_,sb.extBut _ _ n2 z2⟩,?_,?_⟩,fun c hc=>(f1 c hc).1⟩⟩
  ·exact k1.keep z3.1 fun o e=>sb.extBut i1 o n4 e
  ·exact k2.keep z4.1 fun o e=>sb.extBut i2 o n5 e
 done:=by
  intro X hP hw hK hc i pins s σ H E I hf st hg;subst hP hw hK;obtain⟨g1,g2,⟨xo,yo,g3⟩,g4,g5⟩:=st;obtain⟨xs,ys,hx,hy,hl⟩:=hg;obtain⟨us,ru,pu⟩:=k1.inv I hx;obtain⟨vs,rv,pv⟩:=k2.inv I hy;have ha:∀c∈[z,TI,TO,i1,i2],a≠c:=fun c hc=>k1.ne I hx (hf c hc);have hb:∀c∈[z,TI,TO,i1,i2],b≠c:=fun c hc=>k2.ne I hy (hf c hc);have hh:X.A.in1.handled=none:=I.ok.hd hc;have Z:Vv z TI TO i1 i2 [i1,a] [i2,b]:=⟨n1,n2,n3,n4,n5,n6,n7,n8,by simp; exact⟨n4.symm,(ha z (by simp)).symm⟩,by simp; exact⟨n5.symm,(hb z (by simp)).symm⟩,by simp; exact⟨n6,(ha TO (by simp)).symm⟩,by simp; exact⟨n7,(hb TO (by simp)).symm⟩,by simp; exact⟨n8,(hb i1 (by simp)).symm⟩,by simp; exact⟨n8.symm,(ha i2 (by simp)).symm⟩⟩
  have l1:=ru.length;have l2:=rv.length;refine Ik Z (k1.dr hh (ha i1 (by simp)) us.toArray) (k2.dr hh (hb i2 (by simp)) vs.toArray) g1 g2 g3 (show _/\_ from⟨g4,pu⟩) (show _/\_ from⟨g5,pv⟩) (by simp; omega) fun h' tk kk=>⟨rfl,I.lB (fp:=[z,TI,TO,i1,i2]) (t':=tk) (fun c o nc e=>?_) hf⟩
  have m:∀d∈[z,TI,TO,i1,i2],c≠d:=fun d hd y=>nc (y▸hd);exact kk c o (m z (by simp)) (m TO (by simp)) (m i1 (by simp)) (m i2 (by simp)) e
 self:=fun _ _ _ _ _ st h=>Jf st.z h
section
variable {X:Cx}
def Qi (K:PySem.W.Frag) (ta:TA):TI:=fun σ H R=>ta σ H fun vs H1=>∃a b,vs=[.ref a,.ref b]/\(∃xs,e_ K H1 a xs)/\(∃ys,e_ K H1 b ys)/\R (aa_ K a b) H1
theorem R5 {K:PySem.W.Frag} {e e':Expr} {elts:List Expr} {x1} {tp p pos:Pos} {ta:TA} (hK:X.K=K) (hm:X.mg "zip" = none) (ha:PA X [e,e'] ta) (hg:Gl X "zip" := by rfl) (h1:b8 e=true:=by rfl) (h2:b8 e'=true:=by rfl) :
  PI X (.Tuple elts x1 tp) (.Call (.Name "zip" p) [e,e'] [] pos) (Qi K ta):=by
 subst hK;refine .mk ?_;intro pins s σ H R I h;refine uG (iK I hg hm HX ?_ (by decide) (by decide))
 refine PyProof.Rows.callWith_type1 (cM (ha pos pins s σ H _ I h) fun us s1 ⟨vs,H1,I1,r1,q1⟩=>?_) (cD h1) (cP (es:=[e']) (by simp[h2]))
 obtain⟨a,b,rfl,⟨xs,hx⟩,⟨ys,hy⟩,q⟩:=q1;obtain⟨u,v,rfl,ru,rv⟩:=r1.two;cases ru;cases rv;obtain⟨us,_,pu,_⟩:=I1.tuple hx;obtain⟨ws,_,pw,_⟩:=I1.tuple hy;refine Mf (show s1.heap.IsTuple a us.toArray from pu) (show s1.heap.IsTuple b ws.toArray from pw) fun h' hz hp ho h1 h2 kk=>?_;have I2:Inv X pins σ H1 { s1 with heap:=h' }:=I1.kept (t':=s1.toks) kk
 have fr:∀n,H1 (s1.heap.objs.size+n)=none:=fun n=>I1.hok.fresh (Kw _ _);have fk:∀n,gb X pins H1 (s1.heap.objs.size+n):=fun n=>I1.tL (Kw _ _) (fr n);have ne:∀i j:Nat,i≠j->s1.heap.objs.size+i≠s1.heap.objs.size+j:=fun i j n e=>n (Nat.add_left_cancel e);refine Jf hz ⟨s1.heap.objs.size+4,_,_,aa_ X.K a b,H1,rfl,I2,yO kT kT a b (s1.heap.objs.size+4) (s1.heap.objs.size+2) (s1.heap.objs.size+3) s1.heap.objs.size (s1.heap.objs.size+1) (ne _ _ (by decide)) (ne _ _ (by decide)) (ne _ _ (by decide)) (ne 0 _ (by decide)) (ne _ _ (by decide)) (ne _ 0 (by decide)) (ne _ _ (by decide)) (ne 0 _ (by decide)) (ne _ 0 (by decide)) (ne _ _ (by decide)),⟨hz,hp,⟨_,_,ho⟩,h1,h2⟩,fun c hc=>?_,q⟩
 simp only[bF,dU,or_false] at hc;rcases hc with rfl | rfl | rfl | rfl | rfl
 ·exact fk 4
 ·exact fk 2
 ·exact fk 3
 ·exact fk 0
 ·exact fk 1
end
abbrev two (elt t1 i1 t2 i2:Expr) (sc:Scope) (pos:Pos):Expr:=.ListComp elt [⟨t1,i1,[],0⟩,⟨t2,i2,[],0⟩] sc pos
section
variable {prog:Program} {w:World} {A:Around} {R:Result->Shared->Prop} {s:Shared} {elt t1 i1 t2 i2:Expr} {sc:Scope} {pos:Pos} {it acc:Value} {env:Env}
end
theorem bT {X:Cx} {K:PySem.W.Frag} {pos:Pos} {es:List Expr} {k:Nat} {t:Q0} {n:Nat} (hK:X.K=K) (hc:X.calm=true) (h:Yb X es t)
  (hn:(assignEach es X.env).length=n:=by rfl) (hst:(assignEach es X.env).findIdx? (·.1)=none:=by rfl):PG X (.Tuple es k pos) (Ly K n t):=by
 subst hK;exact Ww hc h hn hst
theorem qY {X:Cx} {K:PySem.W.Frag} {tg l:Expr} {tl:TE} (hK:X.K=K) (hl:PE X l tl):PI X tg l (Eu K tl):=by
 subst hK;exact Ws hl
theorem bI {X:Cx} {K:PySem.W.Frag} {tg l:Expr} {tl:TE} (hK:X.K=K) (hl:PE X l tl):PI X tg l (jM K tl):=by
 subst hK;exact R9 hl
theorem xF {K:PySem.W.Frag} {js:List Nat} {J:It} {te:TE} {σ:St} {H:Hp} {Q:VK} {acc:Addr} {es:List PyData} (xv yv:Nat->V) (hz:es.length<=sizeLine) (hL:bK es=true) (hacc:H acc=none)
  (go:∀i H',i<es.length->aM H H'->J.go i H') (yl:∀i H' v cQ,i<es.length->aM H H'->J.Fx i H' v cQ->∃p,H' p=none/\v=.ref p/\cQ=upd H' p (.tup [xv i,yv i])) (st:∀H',aM H H'->J.stop es.length H')
  (val:∀(i:Nat) e H',es[i]?=some e->aM H H'->∀R:VK,(∀v cQ,aM H' cQ->At cQ e v->R v cQ)->te (some (xv i)::some (yv i)::bQ js σ) H' R)
  (fin:∀ys H',aM H H'->H' acc=some (.lst ys)->aj (hid acc H') es ys->Q (.ref acc) H') :
  ∃W:Nat->Nat->List V->Hp->Prop,(∃m,W 0 m [] (upd H acc (.lst [])))/\∀i m ys H2,W i m ys H2 ->
   (J.stop i H2/\Q (.ref acc) H2)\/(J.go i H2/\∀x H3,J.Fx i H2 x H3->Ly K 2 (jN (fU 0) (jN (fU 1) Cd)) x (List.replicate 2 none++bQ js σ) H3 fun σ' H'=>(σ'.drop 2=bQ js σ/\σ'.length=(List.replicate 2 (none:Option V)++bQ js σ).length)/\qH σ' H' fun b cQ=>
    if b=true then te σ' cQ fun y H4=>H4 acc=some (.lst ys)/\ys.length<sizeLine/\∃m',m'<m/\W (i+1) m' (ys++[y]) (upd H4 acc (.lst (ys++[y]))) else ∃m',m'<m/\W (i+1) m' ys cQ):=by
 refine⟨fun i m ys H2=>m=es.length-i/\i<=es.length/\aj (hid acc H2) (es.take i) ys/\aM H H2/\H2 acc=some (.lst ys),⟨_,rfl,gm _,aj.nil,aN hacc _,aD⟩,?_⟩;rintro i m ys H2 ⟨rfl,hi,hA,sm,hy⟩;by_cases hlt:i<es.length
 ·refine .inr ⟨go i H2 hlt sm,fun x H3 y=>?_⟩;obtain⟨p,fp,rfl,rfl⟩:=yl i H2 x H3 hlt sm y;refine⟨p,_,rfl,e_.of aD,rfl,(show(_=_/\_=_)/\qH _ _ _ from⟨⟨rfl,by simp⟩,?_⟩)⟩
  unfold qH;simp only[if_true];have e1:es[i]?=some es[i]:=eF hlt;have s3:aM H2 (upd H2 p (.tup [xv i,yv i])):=aN fp _;refine val i _ _ e1 (sm.trans s3) _ fun v H4 s4 a4=>⟨s4 _ _ (s3 _ _ hy),?_,es.length-(i+1),by omega,rfl,hlt,?_,?_,aD⟩
  ·rw[hA.length,j5]; omega
  ·rw[rA,List.take_succ,e1];exact aj.append (hA.mono (aM.hid (s3.trans s4))) (aj.cons (At.Hu (s4 _ _ (s3 _ _ hy)) _ _ (Hg hL e1) a4) aj.nil)
  ·refine fun b o q=>?_;have nb:b≠acc:=cH q hacc;rw[aL nb];exact s4 _ _ (s3 _ _ (sm _ _ q))
 ·have e:i=es.length:=by omega
  subst e;rw[pX] at hA;exact .inl ⟨st _ sm,fin _ _ sm hy hA⟩
theorem L_ {K:PySem.W.Frag} {js:List Nat} {a b:Addr} {xs ys:List V} {es:List PyData} {ta:TA} {te:TE} {σ:St} {H:Hp} {Q:VK} (hl:∀R:List V->Hp->Prop,R [.ref a,.ref b] H->ta σ H R) (ha:H a=some (.tup xs)) (hb:H b=some (.tup ys)) (n1:xs.length=es.length) (n2:ys.length=es.length) (hz:es.length<=sizeLine) (hL:bK es=true)
  (val:∀(i:Nat) x y e H',xs[i]?=some x->ys[i]?=some y->es[i]?=some e->aM H H'->∀R:VK,(∀v cQ,aM H' cQ->At cQ e v->R v cQ)->te (some x::some y::bQ js σ) H' R)
  (fin:∀acc zs H',aM H H'->H acc=none->H' acc=some (.lst zs)->aj (hid acc H') es zs->Q (.ref acc) H'):fD 2 js (Qi K ta) (Ly K 2 (jN (fU 0) (jN (fU 1) Cd))) qH te σ H Q:=by
 refine hl _ ⟨a,b,rfl,⟨xs,e_.of ha⟩,⟨ys,e_.of hb⟩,fun acc hacc=>?_⟩;have gx:∀i,i<es.length->xs[i]?=some (xs.getD i .non):=fun i hi=>by rw[jD,eF (by omega)]; rfl
 have gy:∀i,i<es.length->ys[i]?=some (ys.getD i .non):=fun i hi=>by rw[jD,eF (by omega)]; rfl
 refine xF (es:=es) (fun i=>xs.getD i .non) (fun i=>ys.getD i .non) hz hL hacc (fun i H' hi s=>⟨xs,ys,_,_,e_.of (s _ _ ha),e_.of (s _ _ hb),gx i hi,gy i hi⟩) (fun i H' v cQ hi s y=>?_) (fun H' s=>⟨xs,ys,e_.of (s _ _ ha),e_.of (s _ _ hb),.inl n1.symm⟩) (fun i e H' he s R hR=>?_) fun zs H' s h1 h2=>fin acc zs H' s hacc h1 h2
 ·obtain⟨p,x,y,fp,e1,e2,h1,h2⟩:=y;have q1:=h1 xs (e_.of (s _ _ ha));have q2:=h2 ys (e_.of (s _ _ hb));rw[gx i hi] at q1;rw[gy i hi] at q2;cases q1;cases q2;exact⟨p,fp,e1,e2⟩
 ·have hi:i<es.length:=by
   by_cases z:i<es.length
   ·exact z
   ·rw[Jk (by omega)] at he; cases he
  exact val i _ _ e H' (gx i hi) (gy i hi) he s R hR
section
variable {X:Cx} {pins:List (Addr×Obj)} {σ:St} {H:Hp} {s:Shared} {A:Around} {E:Value->Shared->Prop} {Q:Value->Shared->Prop} {b:Bool}
theorem Hr {x:V} {u t:Value} {tp:Addr} {its:List Value} (I:Inv X pins σ H s) (rx:RelV x u) (ty:qw X.K H x t) (htp:IsTup s.heap tp its.toArray) (e:PySem.W.kitAny X.K t its=some b) (h:∀tk,Q (.bool b) { s with toks:=tk }) :
  wpAny (model X.prog X.w) A (call (.builtin "isinstance") [u,.ref tp]) Q E s:=by
 obtain⟨o,ho,hc,n,hd⟩:=htp;obtain⟨cls,dd,data,sl⟩:=o;cases hc;cases hd;cases ty with
 | non=>cases(show u=Value.none from rx); exact PySem.W.kia_tup PySem.W.kitx_none I.mU True.intro ho e (fun z=>nomatch z) h
 | bl y=>cases(show u=Value.bool y from rx); exact PySem.W.kia_tup PySem.W.kitx_bool I.mU True.intro ho e (fun z=>nomatch z) h
 | int i=>obtain⟨t,q⟩:=(show ∃t,u=Value.int i t from rx); cases q; exact PySem.W.kia_tup PySem.W.kitx_int I.mU True.intro ho e (fun z=>nomatch z) h
 | str y=>obtain⟨t,q⟩:=(show ∃t,u=Value.str y t from rx); cases q; exact PySem.W.kia_tup PySem.W.kitx_str I.mU True.intro ho e (fun z=>nomatch z) h
 | flt y=>obtain⟨t,q⟩:=(show ∃t,u=Value.float y t from rx); cases q; exact PySem.W.kia_tup PySem.W.kitx_float I.mU True.intro ho e (fun z=>nomatch z) h
 | @lst a xs ea=>
  cases(show u=Value.ref a from rx);obtain⟨_,_,n,_,h1⟩:=(show cF X.prog X.w H s.heap a (.lst xs) from I.hok a _ ea);exact PySem.W.kia_tup PySem.W.kitx_list I.mU ⟨_,h1,rfl⟩ ho e (fun z=>nomatch z) h
 | @rW a ob xs ea=>
  cases(show u=Value.ref a from rx);obtain⟨_,_,_,n,_,h1⟩:=(show cF X.prog X.w H s.heap a (.rW ob (.lst xs)) from I.hok a _ ea);exact PySem.W.kia_tup PySem.W.kitx_list I.mU ⟨_,h1,rfl⟩ ho e (fun z=>nomatch z) h
 | @tup a xs ea=>
  cases(show u=Value.ref a from rx);obtain⟨_,_,_,p⟩:=(show cF X.prog X.w H s.heap a (.tup xs) from I.hok a _ ea);obtain⟨o,h1,h2,_⟩:=p;exact PySem.W.kia_tup PySem.W.kitx_tuple I.mU ⟨o,h1,h2⟩ ho e (fun z=>nomatch z) h
 | @dK a kvs ea=>
  cases(show u=Value.ref a from rx);obtain⟨_,_,vs,_,p⟩:=(show cF X.prog X.w H s.heap a (.dK kvs) from I.hok a _ ea);obtain⟨o,es,ep,h1,h2,_⟩:=p;exact PySem.W.kia_tup PySem.W.kitx_dict I.mU ⟨o,h1,h2.1⟩ ho e (fun z=>nomatch z) h
 | @dT a kvs ea=>
  cases(show u=Value.ref a from rx);obtain⟨_,_,xs,_,o,es,ep,h1,h2,_⟩:=(show cF X.prog X.w H s.heap a (.dT kvs) from I.hok a _ ea);exact PySem.W.kia_tup PySem.W.kitx_dict I.mU ⟨o,h1,h2.1⟩ ho e (fun z=>nomatch z) h
 | @ins a C dx fs ea cl ha hn htk hm=>
  cases(show u=Value.ref a from rx);obtain⟨mA,O,_⟩:=rn I.hok ea;obtain⟨od,J,_⟩:=O.look;exact PySem.W.kia_tup (PySem.W.kitx_own (cl.get _) cl.hd ha hn htk hm) I.mU J ho e (fun z=>nomatch z) h
end
section
variable {X:Cx}
theorem Xg (K:PySem.W.Frag) (d:PyData):PySem.W.kitAny K (.type (Nk d)) [.type "list",.type "tuple"]=some (uo d || isTup d):=by
 show(match PySem.W.kitOne K (.type (Nk d)) (.type "list") with | some true=>some true | some false=>(match PySem.W.kitOne K (.type (Nk d)) (.type "tuple") with | some true=>some true | some false=>some false | none=>none) | none=>none)=_
 rw[BR,JB];cases uo d <;> cases isTup d <;> rfl
theorem Xm:cV X (.builtin "isinstance") (fun vs H Q=>∃(v:V) (d:PyData) (p:Addr),vs=[v,.ref p]/\At H d v/\H p=some (.tup [.ty "list",.ty "tuple"])/\Q (.bl (uo d || isTup d)) H):=by
 refine .mk ?_;intro pins s σ H vs us Q I r h;obtain⟨v,d,p,rfl,hv,hp,q⟩:=h;obtain⟨u,t,rfl,ru,rt⟩:=r.two;cases(show t=Value.ref p from rt);obtain⟨_,its,ri,ht⟩:=(show cF X.prog X.w H s.heap p (.tup [.ty "list",.ty "tuple"]) from I.hok p _ hp)
 have e:its=[Value.type "list",Value.type "tuple"]:=by
  obtain⟨a,b,rfl,ra,rb⟩:=ri.two;cases(show a=Value.type "list" from ra);cases(show b=Value.type "tuple" from rb);rfl
 subst e;exact Hr I ru (hv.ty (K:=X.K)) ht (Xg X.K d) fun tk=>⟨.bl (uo d || isTup d),H,I.tok tk,rfl,q⟩
end
section
variable {X:Cx}
def tNo:TS:=fun _ _ _=>False
theorem wz {st:Stmt}:PS X st tNo:=.mk <| fun _ _ _ _ _ _ h=>h.elim
end
def adg:V->Option Str
 | .int i=>if i.natAbs.log2<1920 then some (Str.ofString (toString i)) else none
 | .str z=>some z
 | _=>none
def tFv (te:TE):TE:=fun σ H Q=>te σ H fun x H1=>∃z,adg x=some z/\z.length<=sizeLine/\Q (.str z) H1
abbrev TJ:=Str->St->Hp->(Str->Hp->Prop)->Prop
section
variable {X:Cx}
structure PJ (X:Cx) (es:List Expr) (t:TJ):Prop where
 mk ::
 go:∀(acc:Str) (pins:List (Addr×Obj)) (s:Shared) (σ:St) (H:Hp) (R:Str->Hp->Prop),Inv X pins σ H s->t acc σ H R ->
  Joins (model X.prog X.w) X.A X.xe (evalEach es X.env) acc (fun out s'=>∃H',Inv X pins σ H' s'/\R out H') s
def tJ0:TJ:=fun acc _ H R=>R acc H
def tJ1 (te:TE) (t:TJ):TJ:=fun acc σ H R=>te σ H fun x H1=>∃y,x=.str y/\(acc++y).length<=sizeLine/\t (acc++y) σ H1 R
def tJs (t:TJ):TE:=fun σ H Q=>t Str.empty σ H fun out H'=>out.length<=sizeLine/\Q (.str out) H'
def acy:V->Option Int->Option Int->Hp->VK->Prop:=fun x lo hi H Q=>∃z,x=.str z/\z.length<=sizeLine/\Q (.str (Txt.slice z lo hi)) H
theorem Oe:X7 X acy:=by
 refine .mk ?_;intro pins s σ H x v vl vu lo hi sl Q I rx hs pl pu h;obtain⟨z,rfl,hz,q⟩:=h;obtain⟨t,rfl⟩:=rx;have key:∀t' k,EP X pins σ Q (.str (Txt.slice z lo hi) t') { s with toks:=k }:=fun t' k=>⟨.str _,H,I.tok _,⟨t',rfl⟩,q⟩
 refine⟨"str",_,PySem.F.slot_str_getitem.lookup,typeIs_str _ _ _,?_⟩;cases pl with
 | none=>
  cases pu with
  | none=>exact Jq (l:=none) (u:=none) (st:=none) hs rfl (post_val_or_str ⟨ik (Txt.slice_le z _ _) hz,key⟩)
  | int j uj=>exact Jq (l:=none) (u:=some (j,uj)) (st:=none) hs rfl (post_val_or_str ⟨ik (Txt.slice_le z _ _) hz,key⟩)
 | int i ui=>
  cases pu with
  | none=>exact Jq (l:=some (i,ui)) (u:=none) (st:=none) hs rfl (post_val_or_str ⟨ik (Txt.slice_le z _ _) hz,key⟩)
  | int j uj=>exact Jq (l:=some (i,ui)) (u:=some (j,uj)) (st:=none) hs rfl (post_val_or_str ⟨ik (Txt.slice_le z _ _) hz,key⟩)
theorem vy:∀{zs:List Str} {us:List Value},Vals (zs.map V.str) us->StrsAre us zs
 | [],_,.nil=>.nil
 | z::zs,_,.cons ⟨t,e⟩ r=>by subst e; exact .cons z t (vy r)
theorem Rr (sep:Str) (zs:List Str):Txt.join sep zs=Str.join sep zs:=by
 match zs with
 | []=>exact(StrLaws.glued_eq_join sep [])
 | [x]=>rfl
 | x::y::r=>exact StrLaws.glued_eq_join sep (x::y::r)
def rJoin:V->List V->Hp->VK->Prop:=fun x xs H Q=>∃(sep:Str) (p:Addr) (zs:List Str),x=.str sep/\xs=[.ref p]/\H p=some (.lst (zs.map V.str))/\(zs.map (·.length)).sum+zs.length*sep.length<=16777216/\Q (.str (Str.join sep zs)) H
theorem Jw:YH X "str.join" rJoin:=by
 intro pins s σ H x xs v us Q I rx rs h;obtain⟨sep,p,zs,rfl,rfl,hp,hz,q⟩:=h;obtain⟨t,rfl⟩:=rx;obtain⟨u,rfl,ru⟩:=rs.one;cases ru;obtain⟨_,its,n,rv,e1⟩:=(show cF X.prog X.w H s.heap p (.lst (zs.map V.str)) from I.hok p _ hp);refine join_list (D:=p) (items:=its.toArray) ⟨_,e1,rfl,n,rfl⟩ (by simpa using vy rv) hz fun t' k=>⟨.str _,H,I.tok _,⟨t',rfl⟩,?_⟩
 rw[Rr];exact q
def Its (z:Str):It:=⟨fun i _=>i<z.length,fun i H x H'=>H'=H/\∃c,z.cps[i]?=some c/\x=.str ⟨#[c]⟩,fun i _=>z.length<=i⟩
theorem Nq {P:Program} {w:World} {K:PySem.W.Frag} {tg:Expr} (z:Str) (t:Tok) (it:Addr):Turn P w K tg (Its z) [it] it (fun i h=>h.IsStrIter it "str_ascii_iterator" z t i) where
 mem:=by simp
 obj:=fun i h st b hb=>by
  have e:b=it:=by simpa using hb
  subst e;obtain⟨o,e,c,d⟩:=st;exact⟨o,e,fun v z=>by rw[d] at z; cases z⟩
 keep:=fun i h h' st k=>by
  obtain⟨o,e,c,d⟩:=st;exact⟨o,k it (by simp) o e,c,d⟩
 item:=by
  intro X hP hw hK hc i pins s σ H E I hf st hg;subst hP hw hK;have hx:z.cps[i]?=some (z.cps[i]'hg):=O2 hg;obtain⟨f0,f1,f2,f3,f4,f5⟩:=hf it (by simp)
  refine wpAny_pyNext_ascii_item st hx fun h' st' sb=>?_;have I1:Inv X pins σ H { s with heap:=h',toks:=s.toks+1 }:=I.turned (fun b o hb e=>(sb.2 b hb).trans e) f0 f1 f3 f4 f5
  obtain⟨o,e,c,d⟩:=id st';exact⟨_,rfl,zX (s:={ s with heap:=h',toks:=s.toks+1 }) e c d (by decide) ⟨.str _,H,I1,⟨_,rfl⟩,⟨rfl,_,hx,rfl⟩,st',fun b hb=>(hf b hb).1⟩⟩
 done:=by
  intro X hP hw hK hc i pins s σ H E I hf st hg;subst hP hw hK;obtain⟨f0,f1,f2,f3,f4,f5⟩:=hf it (by simp)
  exact wpAny_pyNext_ascii_end (I.ok.hd hc) st (Array.getElem?_eq_none hg) fun h' eb=>⟨rfl,I.turned (t':=s.toks) (fun b o hb e=>eb b o hb e) f0 f1 f3 f4 f5⟩
 self:=fun _ _ _ _ _ st h=>wpAny_pyIter_striter_ascii st h
def aaB (tl:TE):TI:=fun σ H R=>tl σ H fun x H1=>∃z,x=.str z/\z.cps.all (· < 128)=true/\R (Its z) H1
theorem Wu {tg l:Expr} {tl:TE} (hl:PE X l tl):PI X tg l (aaB tl):=by
 refine .mk ?_;intro pins s σ H R I h;refine cM (hl pins s σ H _ I h) fun v s1 qx=>?_;obtain⟨x,H1,I1,r1,q1⟩:=qx;obtain⟨z,e,ha,q⟩:=q1;subst e;obtain⟨t,rfl⟩:=r1;refine wpAny_pyIter_ascii ha ?_;refine⟨s1.heap.objs.size,[s1.heap.objs.size],_,_,H1,rfl,I1.kept (t':=s1.toks) fun b o e=>dW _ e,Nq z t _,⟨_,dw _ rfl,rfl,rfl⟩,fun b hb=>?_,q⟩;have e:b=s1.heap.objs.size:=by simpa using hb
 subst e;exact I1.tL (bD _) (I1.hok.fresh (bD _))
def acg (K:PySem.W.Frag) (ta:TE):TT:=fun σ H Q=>ta σ H fun x H'=>∃k,ad4 K x H' k/\Q k H'
end
def tx (l:List Nat):Str:=⟨l.toArray⟩
theorem vm (l:List Nat):(tx l).cps.toList=l:=by simp[tx]
theorem fV (l:List Nat):(tx l).length=l.length:=by show l.toArray.size=_; simp
theorem Zi {z:Str} {l:List Nat} (h:z.cps.toList=l):z=tx l:=by subst h; cases z; simp[tx]
theorem vo (a b:List Nat):tx a++tx b=tx (a++b):=Zi (by rw[PySem.W.KT.app_list,vm,vm])
theorem V0 {a b:List Nat} (h:tx a=tx b):a=b:=by have:=pW (fun z:Str=>z.cps.toList) h; simpa[vm] using this
theorem VV (c:Nat):(⟨#[c]⟩:Str)=tx [c]:=rfl
def jn (sep:List Nat):List (List Nat)->List Nat
 | []=>[]
 | [x]=>x
 | x::y::r=>x++sep++jn sep (y::r)
theorem JC (sep:List Nat):∀ls:List (List Nat),Str.join (tx sep) (ls.map tx)=tx (jn sep ls)
 | []=>rfl
 | [x]=>rfl
 | x::y::r=>by
  show tx x++tx sep++Str.join (tx sep) ((y::r).map tx)=_;rw[JC sep (y::r),vo,vo];rfl
theorem XQ {js:List Nat} {l:List Nat} {f:Nat->Bool} {tl te:TE} {σ:St} {H:Hp} {Q:VK} (hl:∀R:VK,R (.str (tx l)) H->tl σ H R) (ha:∀c∈l,c<128) (hz:l.length<=sizeLine)
  (step:∀c H',aM H H'->∀R:VK,(∀cQ,aM H' cQ->R (.bl (f c)) cQ)->te (some (.str (tx [c]))::bQ js σ) H' R)
  (fin:∀acc H',aM H H'->H' acc=some (.lst ((l.map f).map V.bl))->Q (.ref acc) H'):gG js (aaB tl) te σ H Q:=by
 refine hl _ ⟨tx l,rfl,?_,fun acc hacc=>?_⟩
 ·show l.toArray.all (· < 128)=true;simpa using ha
 have len:(tx l).length=l.length:=fV l;refine⟨fun i m ys H2=>m=l.length-i/\i<=l.length/\ys=((l.take i).map f).map V.bl/\aM H H2/\H2 acc=some (.lst ys),⟨_,rfl,gm _,rfl,aN hacc _,aD⟩,?_⟩;rintro i m ys H2 ⟨rfl,hi,rfl,sm,hy⟩;by_cases hlt:i<l.length
 ·refine .inr ⟨show i<(tx l).length by omega,fun x H3 y=>?_⟩
  obtain⟨e,c,hc,ex⟩:=y;subst e ex;have hc':l[i]?=some c:=by simpa[tx] using hc
  refine step c _ sm _ fun H4 s4=>⟨s4 _ _ hy,?_,l.length-(i+1),by omega,rfl,hlt,?_,?_,aD⟩
  ·rw[b7,b7,j5]; omega
  ·rw[List.take_succ,hc']; simp
  ·refine fun b o q=>?_;have nb:b≠acc:=cH q hacc;rw[aL nb];exact s4 _ _ (sm _ _ q)
 ·have e:i=l.length:=by omega
  subst e;refine .inl ⟨show(tx l).length<=l.length by omega,fin _ _ sm ?_⟩
  rw[hy,pX]
abbrev Yu (h:Heap) (t:Addr):Heap:=h.push { cls:=.type "list_iterator",data:=.fields #[.ref t,.int 0 0] }
abbrev zB2 (h:Heap) (t1 t2:Addr):Heap:=Yu (Yu h t1) t2
abbrev zB3 (h:Heap) (t1 t2:Addr):Heap:=(zB2 h t1 t2).push { cls:=.type "tuple",data:=.seq #[.ref h.objs.size,.ref (Yu h t1).objs.size] }
abbrev zB4 (h:Heap) (t1 t2:Addr):Heap:=(zB3 h t1 t2).push { cls:=.type "tuple",data:=.seq #[.none,.none] }
abbrev VJ (h:Heap) (t1 t2:Addr):Heap:=(zB4 h t1 t2).push { cls:=.type "zip",data:=.fields #[.none,.bool false,.bool false,.ref (zB2 h t1 t2).objs.size,.ref (zB3 h t1 t2).objs.size] }
theorem Tc (t1 t2:Addr) (xs ys:Array Value):Meets (Builtin.«zip.__new__» ⟨[.type "zip",.ref t1,.ref t2],[]⟩) (fun _ R s=>s.heap.IsList t1 xs/\s.heap.IsList t2 ys/\R (.ok (.ret (.ref (zB4 s.heap t1 t2).objs.size))) { s with heap:=VJ s.heap t1 t2 }):=
 .of_wp fun prog w A R s z=>by
  obtain⟨hp,g,d,tk,os⟩:=s;obtain⟨hx,hy,z⟩:=z;have sub:=sub_zip;have hX:Heap.IsList (Shared.heap ⟨hp,g,d,tk,os⟩) t1 xs:=hx;have hY:Heap.IsList (Shared.heap ⟨Yu hp t1,g,d,tk,os⟩) t2 ys:=hy.push _
  wp_walk using Dz hX,Dz hY
  exact⟨_,rfl,z⟩
theorem Ac {prog:Program} {w:World} {A:Around} {E:Value->Shared->Prop} {s:Shared} {t1 t2:Addr} {xs ys:Array Value} {Q:Value->Shared->Prop} (hx:s.heap.IsList t1 xs) (hy:s.heap.IsList t2 ys)
  (q:∀h',IsZip h' (s.heap.objs.size+4) (s.heap.objs.size+2) (s.heap.objs.size+3) .none->IsPair h' (s.heap.objs.size+2) (.ref s.heap.objs.size) (.ref (s.heap.objs.size+1))->IsPair h' (s.heap.objs.size+3) .none .none ->
   h'.IsListIter s.heap.objs.size t1 0->h'.IsListIter (s.heap.objs.size+1) t2 0->(∀c o,s.heap.get? c=some o->h'.get? c=some o)->Q (.ref (s.heap.objs.size+4)) { s with heap:=h' }) :
  wpAny (model prog w) A (call (.type "zip") [.ref t1,.ref t2]) Q E s:=by
 have n1:(Yu s.heap t1).objs.size=s.heap.objs.size+1:=g8 ..;have n2:(zB2 s.heap t1 t2).objs.size=s.heap.objs.size+2:=by rw[g8,n1]
 have n3:(zB3 s.heap t1 t2).objs.size=s.heap.objs.size+3:=by rw[g8,n2]
 have n4:(zB4 s.heap t1 t2).objs.size=s.heap.objs.size+4:=by rw[g8,n3]
 have up:∀c o,s.heap.get? c=some o->(VJ s.heap t1 t2).get? c=some o:=fun c o e=>dW _ (dW _ (dW _ (dW _ (dW _ e))));have v5:(VJ s.heap t1 t2).get? (zB4 s.heap t1 t2).objs.size=some _:=dw _ rfl;have v4:(VJ s.heap t1 t2).get? (zB3 s.heap t1 t2).objs.size=some _:=dW _ (dw _ rfl);have v3:(VJ s.heap t1 t2).get? (zB2 s.heap t1 t2).objs.size=some _:=dW _ (dW _ (dw _ rfl));have v2:(VJ s.heap t1 t2).get? (Yu s.heap t1).objs.size=some _:=dW _ (dW _ (dW _ (dw _ rfl)));have v1:(VJ s.heap t1 t2).get? s.heap.objs.size=some _:=dW _ (dW _ (dW _ (dW _ (dw _ rfl))));refine callType_new F.called_zip (by decide) (F.typeCall_zip_2 _ _) (F.newCall_zip_2 _ _) (fun x=>F.args_object_init_3 x _ _) F.entry_zip_new (Tc t1 t2 xs ys) ⟨hx,hy,?_⟩
 show _/\_;rw[n2,n3,n4] at v5;rw[n1,n2] at v3;rw[n3] at v4;rw[n1] at v2;rw[n4];exact⟨⟨_,v5,rfl⟩,q _ v5 v3 v4 ⟨_,v1,rfl,rfl⟩ ⟨_,v2,rfl,rfl⟩ up⟩
theorem V9 {X:Cx} {pins:List (Addr×Obj)} {σ:St} {H:Hp} {s:Shared} {a b:Addr} {xs:List V} (I:Inv X pins σ H s) (hq:b_ X.K H a xs) (hf:gb X pins H b):a≠b:=fun z=>by
 rcases hq with h | ⟨o,its,n,hk,_⟩
 ·rcases h with h | ⟨o,h⟩ <;> (rw[z,hf.1] at h; cases h)
 ·have e:X.base.get? a=some o:=I.ok.mod.Vj a o hk;rcases hf.2.2.2.1 with y | y
  ·exact I.ok.Hf a o e (z▸y)
  ·have l:=cg e;have m:=I.ok.MJ;rw[z] at l;exact absurd (mJ l (ik m y)) (sZ _)
def kL:Knd:=⟨fun K=>b_ K,fun h i a n=>h.IsListIter i a n,fun h a us=>h.IsList a us,fun⟨o,g,_,d⟩=>⟨o,g,fun v q=>by rw[d] at q; cases q⟩,fun g k=>g.at k,fun I h=>(I.list h).elim fun us p=>⟨us,p.1,p.2.1.isList⟩,fun I h h'=>I.wY h h',fun I h f=>V9 I h f,fun hh i a n us=>Draws.list hh i a n us⟩
abbrev aba:=Yg kL kL
section
variable {X:Cx}
def Qj (K:PySem.W.Frag) (ta:TA):TI:=fun σ H R=>ta σ H fun vs H1=>∃a b,vs=[.ref a,.ref b]/\(∃xs,b_ K H1 a xs)/\(∃ys,b_ K H1 b ys)/\R (aba K a b) H1
theorem R6 {K:PySem.W.Frag} {e e':Expr} {elts:List Expr} {x1} {tp p pos:Pos} {ta:TA} (hK:X.K=K) (hm:X.mg "zip" = none) (ha:PA X [e,e'] ta) (hg:Gl X "zip" := by rfl) (h1:b8 e=true:=by rfl) (h2:b8 e'=true:=by rfl) :
  PI X (.Tuple elts x1 tp) (.Call (.Name "zip" p) [e,e'] [] pos) (Qj K ta):=by
 subst hK;refine .mk ?_;intro pins s σ H R I h;refine uG (iK I hg hm HX ?_ (by decide) (by decide))
 refine PyProof.Rows.callWith_type1 (cM (ha pos pins s σ H _ I h) fun us s1 ⟨vs,H1,I1,r1,q1⟩=>?_) (cD h1) (cP (es:=[e']) (by simp[h2]))
 obtain⟨a,b,rfl,⟨xs,hx⟩,⟨ys,hy⟩,q⟩:=q1;obtain⟨u,v,rfl,ru,rv⟩:=r1.two;cases ru;cases rv;obtain⟨us,_,pu,_⟩:=I1.list hx;obtain⟨ws,_,pw,_⟩:=I1.list hy;refine Ac pu.isList pw.isList fun h' hz hp ho h1 h2 kk=>?_;have I2:Inv X pins σ H1 { s1 with heap:=h' }:=I1.kept (t':=s1.toks) kk
 have fr:∀n,H1 (s1.heap.objs.size+n)=none:=fun n=>I1.hok.fresh (Kw _ _);have fk:∀n,gb X pins H1 (s1.heap.objs.size+n):=fun n=>I1.tL (Kw _ _) (fr n);have ne:∀i j:Nat,i≠j->s1.heap.objs.size+i≠s1.heap.objs.size+j:=fun i j n e=>n (Nat.add_left_cancel e);refine Jf hz ⟨s1.heap.objs.size+4,_,_,aba X.K a b,H1,rfl,I2,yO kL kL a b (s1.heap.objs.size+4) (s1.heap.objs.size+2) (s1.heap.objs.size+3) s1.heap.objs.size (s1.heap.objs.size+1) (ne _ _ (by decide)) (ne _ _ (by decide)) (ne _ _ (by decide)) (ne 0 _ (by decide)) (ne _ _ (by decide)) (ne _ 0 (by decide)) (ne _ _ (by decide)) (ne 0 _ (by decide)) (ne _ 0 (by decide)) (ne _ _ (by decide)),⟨hz,hp,⟨_,_,ho⟩,h1,h2⟩,fun c hc=>?_,q⟩
 simp only[bF,dU,or_false] at hc;rcases hc with rfl | rfl | rfl | rfl | rfl
 ·exact fk 4
 ·exact fk 2
 ·exact fk 3
 ·exact fk 0
 ·exact fk 1
end
theorem Ma {K:PySem.W.Frag} {js:List Nat} {a b:Addr} {xs ys:List V} {es:List PyData} {ta:TA} {te:TE} {σ:St} {H:Hp} {Q:VK} (hl:∀R:List V->Hp->Prop,R [.ref a,.ref b] H->ta σ H R) (ha:H a=some (.lst xs)) (hb:H b=some (.lst ys)) (n1:xs.length=es.length) (n2:ys.length=es.length) (hz:es.length<=sizeLine) (hL:bK es=true)
  (val:∀(i:Nat) x y e H',xs[i]?=some x->ys[i]?=some y->es[i]?=some e->aM H H'->∀R:VK,(∀v cQ,aM H' cQ->At cQ e v->R v cQ)->te (some x::some y::bQ js σ) H' R)
  (fin:∀acc zs H',aM H H'->H acc=none->H' acc=some (.lst zs)->aj (hid acc H') es zs->Q (.ref acc) H'):fD 2 js (Qj K ta) (Ly K 2 (jN (fU 0) (jN (fU 1) Cd))) qH te σ H Q:=by
 refine hl _ ⟨a,b,rfl,⟨xs,b_.of ha⟩,⟨ys,b_.of hb⟩,fun acc hacc=>?_⟩;have gx:∀i,i<es.length->xs[i]?=some (xs.getD i .non):=fun i hi=>by rw[jD,eF (by omega)]; rfl
 have gy:∀i,i<es.length->ys[i]?=some (ys.getD i .non):=fun i hi=>by rw[jD,eF (by omega)]; rfl
 refine xF (es:=es) (fun i=>xs.getD i .non) (fun i=>ys.getD i .non) hz hL hacc (fun i H' hi s=>⟨xs,ys,_,_,b_.of (s _ _ ha),b_.of (s _ _ hb),gx i hi,gy i hi⟩) (fun i H' v cQ hi s y=>?_) (fun H' s=>⟨xs,ys,b_.of (s _ _ ha),b_.of (s _ _ hb),.inl n1.symm⟩) (fun i e H' he s R hR=>?_) fun zs H' s h1 h2=>fin acc zs H' s hacc h1 h2
 ·obtain⟨p,x,y,fp,e1,e2,h1,h2⟩:=y;have q1:=h1 xs (b_.of (s _ _ ha));have q2:=h2 ys (b_.of (s _ _ hb));rw[gx i hi] at q1;rw[gy i hi] at q2;cases q1;cases q2;exact⟨p,fp,e1,e2⟩
 ·have hi:i<es.length:=by
   by_cases z:i<es.length
   ·exact z
   ·rw[Jk (by omega)] at he; cases he
  exact val i _ _ e H' (gx i hi) (gy i hi) he s R hR
theorem T7 {K:PySem.W.Frag} {js:List Nat} {a:Addr} {xs:List V} {tl te:TE} {σ:St} {H:Hp} {Q:VK} (hl:∀R:VK,R (.ref a) H->tl σ H R) (ha:H a=some (.lst xs)) (hz:xs.length<=sizeLine)
  (h:∀acc,H acc=none->∃Pv:Nat->List V->Hp->Prop,Pv 0 [] (upd H acc (.lst []))/\(∀i ys H',i<=xs.length->Pv i ys H'->ys.length=i/\H' a=some (.lst xs)/\H' acc=some (.lst ys)) /\
   (∀i x ys H',xs[i]?=some x->Pv i ys H'->∀R:VK,(∀y cQ,cQ acc=some (.lst ys)->Pv (i+1) (ys++[y]) (upd cQ acc (.lst (ys++[y])))->R y cQ)->te (some x::bQ js σ) H' R) /\
   ∀ys H',Pv xs.length ys H'->Q (.ref acc) H'):gG js (jM K tl) te σ H Q:=by
 refine hl _ ⟨a,rfl,⟨xs,b_.of ha⟩,fun acc hacc=>?_⟩;obtain⟨Pv,p0,keep,step,fin⟩:=h acc hacc;refine⟨fun i m ys H2=>m=xs.length-i/\i<=xs.length/\Pv i ys H2,⟨_,rfl,gm _,p0⟩,?_⟩;rintro i m ys H2 ⟨rfl,hi,p⟩;obtain⟨ly,ka,kc⟩:=keep i ys H2 hi p;by_cases hlt:i<xs.length
 ·refine .inr ⟨⟨xs,xs[i],b_.of ka,eF hlt⟩,fun x H3 y=>?_⟩;obtain⟨e,y⟩:=y;subst e;exact step i x ys H3 (y xs (b_.of ka)) p _ fun y' H4 e4 p4=>⟨e4,by omega,xs.length-(i+1),by omega,rfl,hlt,p4⟩
 ·have e:i=xs.length:=by omega
  subst e;exact .inl ⟨⟨xs,b_.of ka,bD _⟩,fin _ _ p⟩
theorem LCK.inv {K:PySem.W.Frag} {js:List Nat} {a:Addr} {xs:List V} {te:TE} {σ:St} {H:Hp} {Q:VK} (ha:H a=some (.lst xs)) (hz:xs.length<=sizeLine)
  (h:∀acc,H acc=none->∃Pv:Nat->List V->Hp->Prop,Pv 0 [] (upd H acc (.lst []))/\(∀i ys H',i<=xs.length->Pv i ys H'->ys.length=i/\H' a=some (.lst xs)/\H' acc=some (.lst ys)) /\
   (∀i x ys H',xs[i]?=some x->Pv i ys H'->∀R:VK,(∀y cQ,cQ acc=some (.lst ys)->Pv (i+1) (ys++[y]) (upd cQ acc (.lst (ys++[y])))->R y cQ)->te (some x::bQ js σ) H' R) /\
   ∀ys H',Pv xs.length ys H'->Q (.ref acc) H'):LCK K js te σ Q (.ref a) H:=T7 (fun R h=>h) ha hz h
end L2
namespace L2
open PySem
structure Pl (n:Nat) (d:PyData):Prop where
 hd:d.hasDict=false
 cl:d.canLay0=true
 dp:d.depth<=n
end L2
namespace L2
open PySem PySem.Spec PyProof.Rows
def Yl (h:Heap) (e:Addr) (cls:Value) (T:Addr):Prop:=∃oe vs,h.get? e=some oe/\(oe.cls=cls/\oe.dict=none)/\oe.data=.fields vs/\vs[1]?=some (.ref T)/\vs[2]?=some .none
def X6 (h:Heap) (T:Addr):Prop:=∃oT ts,h.get? T=some oT/\oT.data=.fields ts/\ts[3]?=some .none
structure af7 (fs:List Addr) (h h':Heap) (e T:Addr) (cls:Value):Prop where
 keep:∀b o,b≠e->b∉fs->h.get? b=some o->h'.get? b=some o
 slot:∀b o,b≠e->h.get? b=some o->∃sl,h'.get? b=some { o with slots:=sl }
 fresh:h.objs.size<=T
 ex:Yl h' e cls T
 tb:X6 h' T
section
variable {M:Model} {A:Around} {E:Value->Shared->Prop} {s:Shared}
structure ad_ (fs:List Addr) (h h':Heap) (e T0 T:Addr) (cls:Value):Prop where
 keep:∀b o,b≠e->b≠T0->b∉fs->h.get? b=some o->h'.get? b=some o
 slot:∀b o,b≠e->b≠T0->h.get? b=some o->∃sl,h'.get? b=some { o with slots:=sl }
 old:∃o,h'.get? T0=some o
 fresh:h.objs.size<=T
 ex:Yl h' e cls T
 tb:X6 h' T
end
section
variable {P:Program} {w:World} {H H':Hp} {h h':Heap} {a:Addr} {o:HO}
def ExO (e:Addr) (cls:Value) (T:Addr):HO:=.ext fun h=>Yl h e cls T
def TbO (T:Addr):HO:=.ext fun h=>X6 h T
end
def Q7 (P:Program) (w:World):J5:=fun outer H s E e s'=>∃(a T:Addr) (cls:Value) (H':Hp),e=.ref a/\s'.os=s.os/\AllBare s'.gens/\Un (frs outer) [] H H' s.heap s'.heap/\n_ P w H' s'.heap /\
 H' a=some (ExO a cls T)/\H' T=some (TbO T)/\T≠a/\(s.heap.get? a=none/\s.heap.get? T=none)/\E cls none H'
section
variable {P:Program} {w:World} {K:PySem.W.Frag} {mg:Str->Option Value} {base:Heap} {N:List Str} {qual:Str} {scope:Scope} {f:Addr} {cd:Value} {A:Around} {outer:List Env} {s0:Shared} {H0:Hp} {E:XK}
end
def veM:List Value:=[.type "ValueError",.type "Exception",.type "BaseException",.type "object"]
structure ExC (K:PySem.W.Frag) (mg:Str->Option Value) (x:Str) (C:Addr):Prop where
 bound:mg x=some (.ref C)
 ok:PySem.W.excIn K C veM "ValueError.__new__" = true
def V3 (E:XK) (C:Addr) (ta:TA):TS:=fun _ σ H=>ta σ H fun vs H1=>vs.length<=sizeLine/\∀H',aM H1 H'->E (.ref C) none H'
section
variable {P:Program} {w:World} {K:PySem.W.Frag} {mg:Str->Option Value} {base:Heap} {N:List Str} {qual:Str} {scope:Scope} {f:Addr} {cd:Value} {A:Around} {outer:List Env} {s0:Shared} {H0:Hp} {E:XK}
end
section
variable {X:Cx} {pins:List (Addr×Obj)} {σ:St} {H:Hp} {s:Shared}
end
section
variable {X:Cx} {pins:List (Addr×Obj)} {σ:St} {H:Hp} {s:Shared}
end
section
variable {X:Cx} {pins:List (Addr×Obj)} {σ:St} {H1:Hp} {s1 s':Shared}
end
section
variable {P:Program} {w:World} {K:PySem.W.Frag} {mg:Str->Option Value} {base:Heap}
theorem Xz {CX:J5} {k:Nat} {f:Addr} {name qual:Str} {params:Arguments} {body:List Stmt} {scope:Scope} {dV kV doc pm cdv ct oc:Value} {an od:Option Addr}
  {osl:Array (Option Value)} {N ps:List Str} {sp:Sp} (lk:K.lookup f=some ⟨oc,od,.func (PySem.W.fnOf name qual params body scope dV kV doc pm an cdv ct),osl⟩) (hcd:PySem.W.codeIn K cdv qual=true) (S:aV N ps scope)
  (len:∀vs H Q E,sp vs H Q E->vs.length=ps.length)
  (hbody:∀(A:Around) (outer:List Env) (s:Shared) (H:Hp) (vs:List V) (Q:VK) (E:XK),n_ P w H s.heap->fQ k (A.deeper (envOfC qual scope s.heap.objs.size f cdv))->sp vs H Q E ->
   ∃t,Fv (xu CX P w K mg base N qual scope f cdv A outer s H E) body t/\t { nx:=fun _ H'=>Q .non H',rt:=Q } (start N vs) H) :
  bJ P w K mg base CX (k+1) f (PySem.W.fnOf name qual params body scope dV kV doc pm an cdv ct) ps sp:=by
 refine⟨len,fun A outer s H args us vs Q E hr e0 hb r hsp=>?_⟩;have hl:=len _ _ _ _ hsp;have KX:K.In s.heap:=e0.mod.Vj.keeps fun b o e=>(e0.bs b o e).1;have lim:s.heap.NoLimit:=e0.mod.nolimit.keeps fun b o e=>(e0.bs b o e).1
 have hkind:∀y∈ps.zip us,scope.names.lookup y.1=some .local\/(scope.names.lookup y.1=some .cell/\((cellsFrom (s.heap.objs.size+1) scope.names []).lookup y.1).isSome=true):=fun⟨n,v⟩ hy=>by
  rcases S.par n (DR hy).1 with q | q
  ·exact .inl q
  ·exact .inr ⟨q,PySem.W.cellsFrom_some _ _ _ (.inl q)⟩
 refine codeAny_call_function hr.depth (KX _ _ lk) rfl S.co S.gen rfl (PySem.W.codeRec_of KX hcd) (hb _ _ _ _ ?_);refine wpAny_newFunctionEnv_cells S.kind hkind fun env he s1 x=>?_;subst he;refine⟨lim.keeps x.toInCall.keep,codeAny_func ?_⟩;obtain⟨t,ht,hq⟩:=hbody A outer s H vs Q E e0.hok (hr.deeper _) hsp;have I:Inv (xu CX P w K mg base N qual scope f cdv A outer s H E) [] (start N vs) H s1:=zU S hr.hd e0 hl r x;refine oM (ht [] s1 (start N vs) H _ I hq) (fun fl s' hs=>?_) fun e s' hs=>hs
 have fin:∀{σ':St} {H':Hp} {v:V} {u:Value},Inv (xu CX P w K mg base N qual scope f cdv A outer s H E) [] σ' H' s'->RelV v u->Q v H'->CE outer P w H s Q u s':=
  fun {σ' H' v u} J rv q=>⟨v,H',J.os,J.bare,J.base,J.hok,rv,q⟩
 cases fl with
 | ret u=>
  obtain⟨v,σ',H',J,rv,q⟩:=hs;exact fin J rv q
 | next=>
  obtain⟨σ',H',J,q⟩:=hs;exact fin (v:=V.non) (u:=Value.none) J rfl q
 | brk=>
  obtain⟨_,_,_,q⟩:=hs;exact False.elim q
 | cont=>
  obtain⟨_,_,_,q⟩:=hs;exact False.elim q
structure CtE (P:Program) (w:World) (K:PySem.W.Frag) (mg:Str->Option Value) (base:Heap) (k:Nat) (x:Str) (ps:List Str) (sp:Sp) where
 f:Addr
 fd:FuncData
 G:bJ P w K mg base (Q7 P w) k f fd ps sp
 kp:PySem.W.keepIn K (.ref f)=true
 b:Binds K fd ps []
 m:mg x=some (.ref f)
end
section
variable {prog:Program} {w:World} {A:Around} {E:Value->Shared->Prop} {s:Shared} {K:PySem.W.Frag} {x D:Addr} {ox:Obj} {od:Option Obj}
structure ExK (K:PySem.W.Frag) (D:Addr):Prop where
 ga:PySem.W.findIn K (.ref D) "__getattribute__" = some (some (.builtin "BaseException.__getattribute__"))
 gt:PySem.W.findIn K (.ref D) "__getattr__" = some none
 fo:PySem.W.findObj K D none "__class__" = some (.bind (.builtin "getset_descriptor.__get__") (.builtin "object.__class__"))
 sb:PySem.W.subIn K (.ref D) (.type "BaseException")=some true
 ob:PySem.W.mroIn K D (.type "object")=some true
end
section
variable {X:Cx}
end
noncomputable instance abO:DecidableEq PyData:=fun a b=>Classical.propDecidable (a=b)
mutual
def ndK:PyData->Bool
 | .int _=>true
 | .tuple ds=>aaq ds
 | _=>false
def aaq:List PyData->Bool
 | []=>true
 | d::ds=>ndK d&&aaq ds
end
mutual
def Qo:PyData->Int
 | .int i=>hashInt i
 | .tuple ds=>reduceHash (Builtin.Tuple.tupleHashOf (Qn ds))
 | _=>0
def Qn:List PyData->List Int
 | []=>[]
 | d::ds=>Qo d::Qn ds
end
structure aa8 (d:PyData):Prop where
 t:∃ds,d=.tuple ds
 k:ndK d=true
 dp:d.depth<=8
section
variable {X:Cx} {pins:List (Addr×Obj)} {σ:St} {H:Hp} {s:Shared} {a:Addr} {kvs:List (PyData×V)}
def aa9 (H:Hp) (d:PyData) (y:V):Prop:=aa8 d/\At H d y
end
section
variable {X:Cx}
end
section
variable {P:Program} {w:World} {K:PySem.W.Frag} {mg:Str->Option Value} {base:Heap} {N:List Str} {qual:Str} {scope:Scope} {f:Addr} {cd:Value} {A:Around} {outer:List Env} {s0:Shared} {H0:Hp} {E:XK}
def V6 (sp:Sp) (uQ:List V) (E:XK) (t:TA):TE:=fun σ H Q=>t σ H fun vs H1=>sp (vs++uQ) H1 Q (fun cls _ H2=>∀H3,(aM H1 H2->aM H1 H3)->E cls none H3)
end
abbrev TX:=St->Hp->VK->(Value->Hp->Hp->Prop)->Prop
abbrev Ug:=Ends->(Value->St->Hp->Hp->Prop)->St->Hp->Prop
def XL (X:Cx) (pins:List (Addr×Obj)) (σ:St) (EE:Value->Hp->Hp->Prop):Value->Shared->Prop:=fun e s'=>∃H1 s1 E',Inv X pins σ H1 s1/\Q7 X.prog X.w X.stack H1 s1 E' e s'/\∀cls H2,E' cls none H2->EE cls H1 H2
def XLs (X:Cx) (pins:List (Addr×Obj)) (EE:Value->St->Hp->Hp->Prop):Value->Shared->Prop:=fun e s'=>∃σ1 H1 s1 E',Inv X pins σ1 H1 s1/\Q7 X.prog X.w X.stack H1 s1 E' e s'/\∀cls H2,E' cls none H2->EE cls σ1 H1 H2
structure PX (X:Cx) (e:Expr) (t:TX):Prop where
 mk ::
 go:∀(pins:List (Addr×Obj)) (s:Shared) (σ:St) (H:Hp) (Q:VK) (EE:Value->Hp->Hp->Prop),Inv X pins σ H s->t σ H Q EE->wpAny (model X.prog X.w) X.A (eval e X.env) (EP X pins σ Q) (XL X pins σ EE) s
structure PSX (X:Cx) (st:Stmt) (t:Ug):Prop where
 mk ::
 go:∀(pins:List (Addr×Obj)) (s:Shared) (σ:St) (H:Hp) (D:Ends) (EE:Value->St->Hp->Hp->Prop),Inv X pins σ H s->t D EE σ H->wpAny (model X.prog X.w) X.A (exec st X.env) (SP X pins D) (XLs X pins EE) s
structure ajl (X:Cx) (st:List Stmt) (t:Ug):Prop where
 mk ::
 go:∀(pins:List (Addr×Obj)) (s:Shared) (σ:St) (H:Hp) (D:Ends) (EE:Value->St->Hp->Hp->Prop),Inv X pins σ H s->t D EE σ H->wpAny (model X.prog X.w) X.A (execs st X.env) (SP X pins D) (XLs X pins EE) s
def xPe (te:TE):TX:=fun σ H Q _=>te σ H Q
def Zf (sp:Sp) (uQ:List V) (ta:TA):TX:=fun σ H Q EE=>ta σ H fun vs H1=>sp (vs++uQ) H1 Q (fun cls _ H2=>EE cls H1 H2)
def xIf (tc:TT) (a b:TX):TX:=fun σ H Q EE=>tc σ H fun d H1=>if d=true then a σ H1 Q EE else b σ H1 Q EE
def ab6 (i:Nat) (t:TX):Ug:=fun D EE σ H=>t σ H (fun v H'=>D.nx (σ.set i (some v)) H') (fun cls H1 H2=>EE cls σ H1 H2)
def Zd (t:TX):Ug:=fun D EE σ H=>t σ H (fun _ H'=>D.nx σ H') (fun cls H1 H2=>EE cls σ H1 H2)
def ab_ (tc:TT) (a b:Ug):Ug:=fun D EE σ H=>tc σ H fun d H1=>if d=true then a D EE σ H1 else b D EE σ H1
def xPs (t:TS):Ug:=fun D _ σ H=>t D σ H
def ab7 (a b:Ug):Ug:=fun D EE σ H=>a { D with nx:=fun σ' H'=>b D EE σ' H' } EE σ H
section
variable {X:Cx}
end
section
variable {X:Cx}
end
abbrev mQ (K:PySem.W.Frag) (x:Str) (st:Stmt) (f:Addr):Prop:=∃(oc:Value) (od an:Option Addr) (sl:Array (Option Value)) (kV dc pm cd ct:Value),PySem.W.nsIn K mainGlobals x=some (some (.ref f))/\K.lookup f=some ⟨oc,od,.func (PySem.W.fnOf x x (cz st) (bV st) (aG st) .none kV dc pm an cd ct),sl⟩/\PySem.W.codeIn K cd x=true/\PySem.W.keepIn K (.ref f)=true
abbrev VB (K:PySem.W.Frag) (x:Str) (st:Stmt) (f:Addr) (T:Addr) (i:Int):Prop:=∃(oc oT:Value) (od an dT:Option Addr) (sl sT:Array (Option Value)) (kV dc pm cd ct:Value) (t:Tok) (nT:Nat),PySem.W.nsIn K mainGlobals x=some (some (.ref f))/\K.lookup f=some ⟨oc,od,.func (PySem.W.fnOf x x (cz st) (bV st) (aG st) (.ref T) kV dc pm an cd ct),sl⟩/\PySem.W.codeIn K cd x=true/\PySem.W.keepIn K (.ref f)=true/\K.lookup T=some ⟨oT,dT,.seq #[.int i t] nT,sT⟩
structure Has (K:PySem.W.Frag) (mg:Str->Option Value) (x:Str) (st:Stmt) (ps:List Str) where
 f:Addr
 fd:FuncData
 F:iM K x x st f fd
 b:Binds K fd ps []
 m:mg x=some (.ref f)
structure Yi (K:PySem.W.Frag) (mg:Str->Option Value) (x:Str) (st:Stmt) (ps:List Str) (i:Int) where
 f:Addr
 fd:FuncData
 T:Addr
 t:Tok
 F:Ii K x x st f fd T i t
 b:Binds K fd ps []
 bd:Binds K fd ps [.int i t]
 m:mg x=some (.ref f)
section
variable {K:PySem.W.Frag} {h:Heap} {mg:Str->Option Value}
theorem mQ.mk {x:Str} {st:Stmt} {f:Addr} {oc:Value} {od an:Option Addr} {sl:Array (Option Value)} {kV dc pm cd ct:Value} (a:PySem.W.nsIn K mainGlobals x=some (some (.ref f))) (l:K.lookup f=some ⟨oc,od,.func (PySem.W.fnOf x x (cz st) (bV st) (aG st) .none kV dc pm an cd ct),sl⟩) (c:PySem.W.codeIn K cd x=true) (k:PySem.W.keepIn K (.ref f)=true):mQ K x st f:=⟨oc,od,an,sl,kV,dc,pm,cd,ct,a,l,c,k⟩
theorem VB.mk {x:Str} {st:Stmt} {f T:Addr} {i:Int} {oc oT:Value} {od an dT:Option Addr} {sl sT:Array (Option Value)} {kV dc pm cd ct:Value} {t:Tok} {nT:Nat} (a:PySem.W.nsIn K mainGlobals x=some (some (.ref f))) (l:K.lookup f=some ⟨oc,od,.func (PySem.W.fnOf x x (cz st) (bV st) (aG st) (.ref T) kV dc pm an cd ct),sl⟩) (c:PySem.W.codeIn K cd x=true) (k:PySem.W.keepIn K (.ref f)=true) (e:K.lookup T=some ⟨oT,dT,.seq #[.int i t] nT,sT⟩):VB K x st f T i:=⟨oc,oT,od,an,dT,sl,sT,kV,dc,pm,cd,ct,t,nT,a,l,c,k,e⟩
theorem mQ.has {x:Str} {st:Stmt} {f:Addr} (e:mQ K x st f) (X:K.In h) (G:h.Ns mainGlobals mg) {ps:List Str} (H:∀(kV doc pm:Value) (an:Option Addr) (cdv ct:Value) (us:List Value),us.length=ps.length->bindArgs (PySem.W.fnOf x x (cz st) (bV st) (aG st) .none kV doc pm an cdv ct) ⟨us,[]⟩=pure (ps.zip us)):Nonempty (Has K mg x st ps):=by
 obtain⟨oc,od,an,sl,kV,dc,pm,cd,ct,a,l,c,k⟩:=e;have F:=Hw (st:=st) l c k;exact⟨⟨_,_,F,F.binds H,PySem.W.mg_of X G a⟩⟩
theorem VB.has {x:Str} {st:Stmt} {f T:Addr} {i:Int} (e:VB K x st f T i) (X:K.In h) (G:h.Ns mainGlobals mg) {ps:List Str}
  (H:∀(t:Tok) (kV doc pm:Value) (an:Option Addr) (cdv ct:Value) (us:List Value),(us++[]).length=ps.length->∃k,bindArgs (PySem.W.fnOf x x (cz st) (bV st) (aG st) (.ref T) kV doc pm an cdv ct) ⟨us,[]⟩=seqItems? (.ref T) >>= k/\k (some #[.int i t])=pure (ps.zip (us++[])))
  (H':∀(t:Tok) (kV doc pm:Value) (an:Option Addr) (cdv ct:Value) (us:List Value),(us++[Value.int i t]).length=ps.length->∃k,bindArgs (PySem.W.fnOf x x (cz st) (bV st) (aG st) (.ref T) kV doc pm an cdv ct) ⟨us,[]⟩=seqItems? (.ref T) >>= k/\k (some #[.int i t])=pure (ps.zip (us++[.int i t]))):Nonempty (Yi K mg x st ps i):=by
 obtain⟨oc,oT,od,an,dT,sl,sT,kV,dc,pm,cd,ct,t,nT,a,l,c,k,e⟩:=e;have F:Ii K x x st f _ T i t:=⟨⟨_,_,_,_,_,_,_,_,_,rfl,l,c⟩,k,⟨_,_,e,rfl⟩⟩;exact⟨⟨_,_,_,_,F,F.binds (H t),F.binds (H' t),PySem.W.mg_of X G a⟩⟩
def Has.ct {x:Str} {st:Stmt} {ps:List Str} {k:Nat} {sp:Sp} (h:Has K mg x st ps) (P:Program) (w:World) (base:Heap) (G:bJ P w K mg base gD k h.f h.fd ps sp):Ct P w K mg base k x ps sp:=⟨h.f,h.fd,G,h.F.kp,h.b,h.m⟩
def Yi.ct {x:Str} {st:Stmt} {ps:List Str} {i:Int} {k:Nat} {sp:Sp} (h:Yi K mg x st ps i) (P:Program) (w:World) (base:Heap) (G:bJ P w K mg base gD k h.f h.fd ps sp):Ri P w K mg base k x ps i sp:=⟨h.f,h.fd,h.t,G,h.F.kp,h.b,h.bd,h.m⟩
abbrev Nb (K:PySem.W.Frag) (x:Str):Prop:=PySem.W.nsIn K mainGlobals x=some none
abbrev Ni (K:PySem.W.Frag) (x:Str) (i:Int):Prop:=∃t,PySem.W.nsIn K mainGlobals x=some (some (.int i t))
abbrev CP (K:PySem.W.Frag) (x s:Str):Prop:=∃t,PySem.W.nsIn K mainGlobals x=some (some (.str s t))
theorem Ni.mk {x:Str} {i:Int} {t:Tok} (a:PySem.W.nsIn K mainGlobals x=some (some (.int i t))):Ni K x i:=⟨t,a⟩
theorem CP.mk {x s:Str} {t:Tok} (a:PySem.W.nsIn K mainGlobals x=some (some (.str s t))):CP K x s:=⟨t,a⟩
theorem Ni.gi {x:Str} {i:Int} (e:Ni K x i) (X:K.In h) (G:h.Ns mainGlobals mg):Gi mg x i:=let ⟨t,z⟩:=e; ⟨t,PySem.W.mg_of X G z⟩
theorem CP.gs {x s:Str} (e:CP K x s) (X:K.In h) (G:h.Ns mainGlobals mg):Gs mg x s:=let ⟨t,z⟩:=e; ⟨t,PySem.W.mg_of X G z⟩
abbrev NT (K:PySem.W.Frag) (x:Str) (vs:List Value):Prop:=∃(a:Addr) (n:Nat) (sl:Array (Option Value)),PySem.W.nsIn K mainGlobals x=some (some (.ref a))/\K.lookup a=some ⟨.type "tuple",none,.seq vs.toArray n,sl⟩
theorem NT.mk {x:Str} {vs:List Value} {a:Addr} {n:Nat} {sl:Array (Option Value)} (b:PySem.W.nsIn K mainGlobals x=some (some (.ref a))) (l:K.lookup a=some ⟨.type "tuple",none,.seq vs.toArray n,sl⟩):NT K x vs:=⟨a,n,sl,b,l⟩
end
theorem QR:bootBuiltins "set" = some (.type "set"):=by decide +kernel
section
variable {X:Cx} {pins:List (Addr×Obj)} {σ:St} {H1:Hp} {s1 s':Shared}
end
section
variable {P:Program} {w:World} {K:PySem.W.Frag} {mg:Str->Option Value} {base:Heap}
structure CtF (P:Program) (w:World) (K:PySem.W.Frag) (mg:Str->Option Value) (base:Heap) (k:Nat) (x:Str) (ps:List Str) (i:Int) (sp:Sp) where
 f:Addr
 fd:FuncData
 t:Tok
 G:bJ P w K mg base (Q7 P w) k f fd ps sp
 kp:PySem.W.keepIn K (.ref f)=true
 b:Binds K fd ps []
 bd:Binds K fd ps [.int i t]
 m:mg x=some (.ref f)
end
section
variable {X:Cx}
end
section
variable {X:Cx}
def Z1:List V->Hp->VK->Prop:=fun vs H Q=>∃j:Int,vs=[.int j]/\-(2 ^ 62)<=j/\j<2 ^ 62/\∀p H',H p=none->aM H H'->H' p=some (.ZW 0 j)->Q (.ref p) H'
def Z3:List V->Hp->VK->Prop:=fun vs H Q=>∃(p:Addr) (j:Int),vs=[.ref p]/\H p=some (.ZW 0 j)/\-(2 ^ 62)<=j/\j<2 ^ 62/\j.toNat<=1000/\∀l H',H l=none->aM H H'->H' l=some (.lst ((List.range j.toNat).map fun i:Nat=>V.int i))->Q (.ref l) H'
end
def iOr (a b:TI):TI:=fun σ H R=>a σ H R\/b σ H R
theorem PI.or {X:Cx} {tg it:Expr} {a b:TI} (h:PI X tg it a) (h':PI X tg it b):PI X tg it (iOr a b):=.mk fun pins s σ H R I q=>q.elim (h pins s σ H R I) (h' pins s σ H R I)
theorem yU {nt:Nat} {js:List Nat} {a b:TI} {g:TG} {tc:TT} {te:TE} {σ:St} {H:Hp} {Q:VK}:fD nt js (iOr a b) g tc te σ H Q=(fD nt js a g tc te σ H Q\/fD nt js b g tc te σ H Q):=rfl
theorem R7 {X:Cx} {K:PySem.W.Frag} {e e':Expr} {elts:List Expr} {x1} {tp p pos:Pos} {ta:TA} (hK:X.K=K) (hm:X.mg "zip" = none) (ha:PA X [e,e'] ta) (hg:Gl X "zip" := by rfl) (h1:b8 e=true:=by rfl) (h2:b8 e'=true:=by rfl) :
  PI X (.Tuple elts x1 tp) (.Call (.Name "zip" p) [e,e'] [] pos) (iOr (Qi K ta) (Qj K ta)):=.or (R5 hK hm ha hg h1 h2) (R6 hK hm ha hg h1 h2)
section
variable {X:Cx}
theorem M9 {xs:List V}:∀{us:List Value},Vals xs us->∀{j:Nat} {x:V},xs[j]?=some x->∃u,us[j]?=some u/\RelV x u:=by
 induction xs with
 | nil=>intro us _ j x h; simp at h
 | cons y ys ih=>
  intro us r j x h;cases r with
  | cons r1 r2=>
   cases j with
   | zero=>simp at h; subst h; exact⟨_,rfl,r1⟩
   | succ j=>simp at h; obtain⟨u,h1,h2⟩:=ih r2 h; exact⟨u,by simpa using h1,h2⟩
theorem J9 {xs:List V}:∀{us:List Value},Vals xs us->∀{j:Nat} {u:Value},us[j]?=some u->∃x,xs[j]?=some x/\RelV x u:=by
 induction xs with
 | nil=>intro us r j u h; cases r; simp at h
 | cons y ys ih=>
  intro us r j x h;cases r with
  | cons r1 r2=>
   cases j with
   | zero=>simp at h; subst h; exact⟨_,rfl,r1⟩
   | succ j=>simp at h; obtain⟨u,h1,h2⟩:=ih r2 h; exact⟨u,by simpa using h1,h2⟩
end
section
variable {X:Cx}
theorem vD (hu:X.A.units+64<cLine):Mu X (fun o i v H Q=>∃a H',o=.ref a/\rR H a i v H'/\Q H'):=by
 refine .mk ?_;intro pins s σ H o i v ov iv u Q I ro ri rv h;obtain⟨a,H',rfl,g,q⟩:=h;cases ro;exact z_ (by omega) I g ri rv fun s' I'=>⟨H',I',q⟩
theorem um (hu:X.A.units+64<cLine):MN X (fun x y H Q=>∃a v,x=.ref a/\mR H a y (some v)/\Q v H):=by
 refine .mk ?_;intro value slice pins s σ H x y v u Q I rx ry h hs;obtain⟨a,v',rfl,g,q⟩:=h;cases rx;have hT:=Ey I g;unfold subscriptTail;refine aW ?_;rw[getitemInPython_of_ne hT.not_modules];refine aW (wpAny_specialOf hT PySem.F.slot_dict_getitem.lookup ?_)
 have fin:wpAny (model X.prog X.w) X.A (subscripted slice false (.ref a) u) (fun r s₃=>wpAny (model X.prog X.w) X.A (letTemporaryGo value (.ref a) r >>= fun _=>pure r) (EP X pins σ Q) X.xe s₃) X.xe s:=by
  rw[hs];exact wpAny_operating (Aa (by omega) I g ry fun w' s' I' Dq=>aW (wpAny_letTemporaryGo (aZ ⟨v',H,I',Dq,q⟩)))
 first
  | exact aZ (aW fin)
  | exact aW (aZ (aW fin))
  | exact aW fin
end
section
variable {X:Cx}
end
section
variable {X:Cx}
def Z6:V->List V->Hp->VK->Prop:=fun x vs H Q=>∃(l:Addr) (ns:List V) (j:Int) (i:Nat) (n:V),x=.ref l/\vs=[.int j,n]/\j=(i:Int)/\H l=some (.lst ns)/\i<=ns.length/\ns.length<1000/\Q .non (upd H l (.lst (ns.take i++n::ns.drop i)))
theorem Hi:MtM X "list.insert" Z6:=by
 intro pins s σ H x vs v us Q I rx rv h;obtain⟨l,ns,ij,i,n,rfl,rfl,hij,hH,hi,hn,q⟩:=h;cases rx;obtain⟨u,u2,rfl,⟨t,rfl⟩,ru⟩:=rv.two;obtain⟨z,its,k,r,hl,e⟩:=I.Lj hH;have hlen:=r.length;have hs:1000<sizeLine:=aP (bD _);have ss:its.toArray.size<=sizeLine:=by rw[eU]; omega
 have fi:¬(!Builtin.List.listFitsIndex ij)=true:=Qv (by omega) (by omega)
 have mm:=AutoListH.list_insert_list_int_val_1 l its.toArray k ij t u2 fi ss;have aa:argsOk "list.insert" ⟨[Value.ref l,Value.int ij t,u2],[]⟩:=QX _ _ _;refine call_meets PySem.F.slot_list_insert ⟨_,e,rfl⟩ PySem.F.entry_list_insert aa mm ⟨e,?_⟩
 ·have rt:∀{xs:List V} {ys:List Value} (j:Nat),Vals xs ys->Vals (xs.take j) (ys.take j):=fun {xs ys} j q=>by
   induction j generalizing xs ys with
   | zero=>exact(.nil:Vals [] [])
   | succ j ih=>
    cases q with
    | nil=>exact(.nil:Vals [] [])
    | cons a b=>exact .cons a (ih b)
  have rd:∀{xs:List V} {ys:List Value} (j:Nat),Vals xs ys->Vals (xs.drop j) (ys.drop j):=fun {xs ys} j q=>by
   induction j generalizing xs ys with
   | zero=>simpa using q
   | succ j ih=>
    cases q with
    | nil=>exact(.nil:Vals [] [])
    | cons a b=>exact ih b
  refine⟨.non,_,I.Xb (its':=its.take i++(u2::its.drop i)) hH e ?_ ((rt i r).append (.cons ru (rd i r))) ?_,rfl,q⟩
  ·have ek:(if ij<0 then(ij+((its.toArray.size:Nat):Int)).toNat else min ij.toNat its.toArray.size)=i:=by
    rw[aX (by omega),hij,tu,eU]; omega
   show(its.toArray.extract 0 (if ij<0 then(ij+((its.toArray.size:Nat):Int)).toNat else min ij.toNat its.toArray.size)).push u2++its.toArray.extract (if ij<0 then(ij+((its.toArray.size:Nat):Int)).toNat else min ij.toNat its.toArray.size)=_
   rw[ek]
   apply Array.ext'
   simp[List.take_take];exact Jl (by rw[uE]; exact bD _)
  ·simp;omega
end
section
variable {X:Cx}
end
def xB (r:List V->Hp->VK->Prop) (t:TX):TX:=fun σ H Q EE=>t σ H (fun v H1=>r [v] H1 Q) EE
section
variable {X:Cx}
end
theorem QC {K:PySem.W.Frag} {nt:Nat} {g:TG} {js:List Nat} {a:Addr} {xs:List V} {tl te:TE} {σ:St} {H:Hp} {Q:VK} (τ:Nat->St) (hτ:∀i,(τ i).length=nt) (hl:∀R:VK,R (.ref a) H->tl σ H R) (ha:H a=some (.tup xs))
  (h:∀acc,H acc=none->∃Pv:Nat->List V->Hp->Prop,Pv 0 [] (upd H acc (.lst []))/\(∀i ys H',Pv i ys H'->H' a=some (.tup xs)) /\
   (∀i x ys H',xs[i]?=some x->Pv i ys H'->(∀R:St->Hp->Prop,R (τ i++bQ js σ) H'->g x (List.replicate nt none++bQ js σ) H' R)/\te (τ i++bQ js σ) H' fun y H4=>H4 acc=some (.lst ys)/\ys.length<sizeLine/\Pv (i+1) (ys++[y]) (upd H4 acc (.lst (ys++[y]))))/\∀ys H',Pv xs.length ys H'->Q (.ref acc) H'):fD nt js (Eu K tl) g qH te σ H Q:=by
 refine hl _ ⟨a,rfl,⟨xs,e_.of ha⟩,fun acc hacc=>?_⟩;obtain⟨Pv,p0,pA,ps,pf⟩:=h acc hacc;refine⟨fun i m ys H2=>m=xs.length-i/\i<=xs.length/\Pv i ys H2,⟨_,rfl,gm _,p0⟩,?_⟩;rintro i m ys H2 ⟨rfl,hi,hP⟩;have ht:e_ K H2 a xs:=e_.of (pA _ _ _ hP);by_cases hlt:i<xs.length
 ·refine .inr ⟨⟨xs,xs[i],ht,eF hlt⟩,fun x H3 y=>?_⟩;obtain⟨e1,y⟩:=y;subst e1;obtain⟨gg,tt⟩:=ps i x ys _ (y xs ht) hP;refine gg _ ⟨⟨?_,?_⟩,?_⟩
  ·rw[O3 (by rw[hτ]; exact bD _),<- hτ i,Du,Kv]
  ·rw[cB,cB,hτ,qR]
  unfold qH;simp only[if_true]
  have e:(fun(y:V) (H4:Hp)=>H4 acc=some (.lst ys)/\ys.length<sizeLine/\Pv (i+1) (ys++[y]) (upd H4 acc (.lst (ys++[y]))))=fun y H4=>H4 acc=some (.lst ys)/\ys.length<sizeLine/\∃m',m'<xs.length-i/\(m'=xs.length-(i+1)/\i+1<=xs.length/\Pv (i+1) (ys++[y]) (upd H4 acc (.lst (ys++[y])))):=
   funext fun y=>funext fun H4=>propext ⟨fun⟨z1,z2,z3⟩=>⟨z1,z2,xs.length-(i+1),by omega,rfl,hlt,z3⟩,fun⟨z1,z2,_,_,_,_,z3⟩=>⟨z1,z2,z3⟩⟩
  rw[e] at tt;exact tt
 ·have e:i=xs.length:=by omega
  subst e;exact .inl ⟨⟨xs,ht,bD _⟩,pf _ _ hP⟩
abbrev TAX:=St->Hp->(List V->Hp->Prop)->(Value->Hp->Hp->Prop)->Prop
structure PXA (X:Cx) (es:List Expr) (t:TAX):Prop where
 mk ::
 go:∀(pos:Pos) (pins:List (Addr×Obj)) (s:Shared) (σ:St) (H:Hp) (Q:List V->Hp->Prop) (EE:Value->Hp->Hp->Prop),Inv X pins σ H s->t σ H Q EE->wpAny (model X.prog X.w) X.A (spliced (backTo pos (starEach es X.env))) (AP X pins σ Q) (XL X pins σ EE) s
def ab8:TAX:=fun _ H Q _=>Q [] H
def Ze (t:TX) (u:TAX):TAX:=fun σ H Q EE=>t σ H (fun v H1=>u σ H1 (fun vs H2=>Q (v::vs) H2) EE) EE
def ab9 (t:TAX):TX:=fun σ H Q EE=>t σ H (fun xs H1=>xs.length<=sizeLine/\∀p H',H1 p=none->aM H1 H'->H' p=some (.lst xs)->Q (.ref p) H') EE
def ab5 (t:TAX):TX:=fun σ H Q EE=>t σ H (fun xs H1=>xs.length<=sizeLine/\∀p H',H1 p=none->aM H1 H'->H' p=some (.tup xs)->Q (.ref p) H') EE
section
variable {X:Cx}
end
theorem EY {K:PySem.W.Frag} {nt:Nat} {g:TG} {js:List Nat} {a:Addr} {xs:List V} {tl te:TE} {σ:St} {H:Hp} {Q:VK} (τ:Nat->St) (hτ:∀i,(τ i).length=nt) (hl:∀R:VK,R (.ref a) H->tl σ H R) (ha:H a=some (.lst xs))
  (h:∀acc,H acc=none->∃Pv:Nat->List V->Hp->Prop,Pv 0 [] (upd H acc (.lst []))/\(∀i ys H',Pv i ys H'->H' a=some (.lst xs)) /\
   (∀i x ys H',xs[i]?=some x->Pv i ys H'->(∀R:St->Hp->Prop,R (τ i++bQ js σ) H'->g x (List.replicate nt none++bQ js σ) H' R)/\te (τ i++bQ js σ) H' fun y H4=>H4 acc=some (.lst ys)/\ys.length<sizeLine/\Pv (i+1) (ys++[y]) (upd H4 acc (.lst (ys++[y]))))/\∀ys H',Pv xs.length ys H'->Q (.ref acc) H'):fD nt js (jM K tl) g qH te σ H Q:=by
 refine hl _ ⟨a,rfl,⟨xs,b_.of ha⟩,fun acc hacc=>?_⟩;obtain⟨Pv,p0,pA,ps,pf⟩:=h acc hacc;refine⟨fun i m ys H2=>m=xs.length-i/\i<=xs.length/\Pv i ys H2,⟨_,rfl,gm _,p0⟩,?_⟩;rintro i m ys H2 ⟨rfl,hi,hP⟩;have ht:b_ K H2 a xs:=b_.of (pA _ _ _ hP);by_cases hlt:i<xs.length
 ·refine .inr ⟨⟨xs,xs[i],ht,eF hlt⟩,fun x H3 y=>?_⟩;obtain⟨e1,y⟩:=y;subst e1;obtain⟨gg,tt⟩:=ps i x ys _ (y xs ht) hP;refine gg _ ⟨⟨?_,?_⟩,?_⟩
  ·rw[O3 (by rw[hτ]; exact bD _),<- hτ i,Du,Kv]
  ·rw[cB,cB,hτ,qR]
  unfold qH;simp only[if_true]
  have e:(fun(y:V) (H4:Hp)=>H4 acc=some (.lst ys)/\ys.length<sizeLine/\Pv (i+1) (ys++[y]) (upd H4 acc (.lst (ys++[y]))))=fun y H4=>H4 acc=some (.lst ys)/\ys.length<sizeLine/\∃m',m'<xs.length-i/\(m'=xs.length-(i+1)/\i+1<=xs.length/\Pv (i+1) (ys++[y]) (upd H4 acc (.lst (ys++[y])))):=
   funext fun y=>funext fun H4=>propext ⟨fun⟨z1,z2,z3⟩=>⟨z1,z2,xs.length-(i+1),by omega,rfl,hlt,z3⟩,fun⟨z1,z2,_,_,_,_,z3⟩=>⟨z1,z2,z3⟩⟩
  rw[e] at tt;exact tt
 ·have e:i=xs.length:=by omega
  subst e;exact .inl ⟨⟨xs,ht,bD _⟩,pf _ _ hP⟩
section
variable {prog:Program} {w:World} {A:Around} {E:Value->Shared->Prop} {s:Shared}
end
section
variable {X:Cx} {pins:List (Addr×Obj)} {σ:St} {H1:Hp} {s1 s':Shared}
end
def vq (nt:Nat) (js:List Nat) (wi:TI) (g:TG) (tk tv:TE):TE:=fun σ H Q=>wi σ H fun J H1=>∀acc,H1 acc=none->∃W:Nat->Nat->List (Key×V)->Hp->Prop,(∃m,W 0 m [] (upd H1 acc (.dK [])))/\∀i m kvs H2,W i m kvs H2 ->
 (J.stop i H2/\Q (.ref acc) H2)\/(J.go i H2/\∀x H3,J.Fx i H2 x H3->g x (List.replicate nt none++bQ js σ) H3 fun σ' H'=>(σ'.drop nt=bQ js σ/\σ'.length=(List.replicate nt (none:Option V)++bQ js σ).length)/\tk σ' H' fun y H4=>tv σ' H4 fun v H5=>
  ∃k,y=kV k/\H5 acc=some (.dK kvs)/\kvs.length<sizeLine/\∃m',m'<m/\W (i+1) m' (putK kvs k v) (upd H5 acc (.dK (putK kvs k v))))
theorem yr {prog:Program} {w:World} {A:Around} {R:Result->Shared->Prop} {s:Shared} {kx vx target iter:Expr} {sc:Scope} {pos:Pos} {it:Value} {D:Addr} {env:Env} (Iv:Nat->Shared->Prop)
  (turn:∀n s,Iv n s->wpAny (model prog w) A (pyNext it) (fun r s1=>match r with
   | none=>R (.ok .next) s1
   | some v=>wpAny (model prog w) A (letOwnedTupleGo target it v) (fun _ s2=>wpAny (model prog w) A (assign target env v) (fun _ s3=>
     wpAny (model prog w) A (eval kx env) (fun kv s4=>wpAny (model prog w) A (eval vx env) (fun vv s5=>
     wpAny (model prog w) A (dictSet D kv vv) (fun _ s6=>∃m,m<n/\Iv m s6) (fun _ _=>False) s5) (fun _ _=>False) s4) (fun _ _=>False) s3) (fun _ _=>False) s2) (fun _ _=>False) s1) (fun _ _=>False) s)
  (n:Nat) (h:Iv n s):codeAny (model prog w) A (.compLoop (.DictComp kx vx [⟨target,iter,[],0⟩] sc pos) 0 it (.ref D) env) R s:=by
 refine codeAny_loop rfl Iv (fun n s hI=>?_) n h;show wpAny _ _ ((compTurn (.DictComp kx vx [⟨target,iter,[],0⟩] sc pos) 0 it (.ref D) env).onRaise (fun x=>do noteFrame x env; theTreesLotGoes x)) _ _ s
 refine wpAny_noted ?_;rw[compTurn_dict];refine aW (Bc (aW (oM (turn n s hI) (fun r s1 q1=>?_) fun _ _ f=>f.elim)));cases r with
 | none=>exact aZ q1
 | some v=>
  refine aW (oM q1 (fun _ s2 q2=>?_) fun _ _ f=>f.elim);refine aW (oM q2 (fun _ s3 q3=>aW (wpAny_tests_nil ?_)) fun _ _ f=>f.elim);exact aW (aW (oM q3 (fun kv s4 q4=>aW (oN (oM q4 (fun vv s5 q5=>aW (Bc (oN (oM q5 (fun _ s6 q6=>aZ ⟨rfl,q6⟩) fun _ _ f=>f.elim)))) fun _ _ f=>f.elim))) fun _ _ f=>f.elim))
theorem xr {X:Cx} {kx vx iter:Expr} {tg:Expr} {g:TG} {nt:Nat} {pos:Pos} {sc:Scope} {wi:TI} {tk tv:TE} {N':List Str} {js:List Nat} {use:Option (Value->Sem Unit)} {Qc:Value->Shared->Prop} {pins:List (Addr×Obj)} {s:Shared} {σ:St} {H:Hp} {Q:VK} {kp:Pos} (hc:X.calm=true) (hi:PI X tg iter wi) (S:qz X nt N' js sc)
  (hgt:∀fp s H,PG (oH X N' sc fp s H) tg g) (hk:∀fp s H,PE (oH X N' sc fp s H) kx tk) (hv:∀fp s H,PE (oH X N' sc fp s H) vx tv) (hs:∀x,foldedSetIterable iter X.env x=pure x) (I:Inv X pins σ H s) (h:vq nt js wi g tk tv σ H Q)
  (fin:∀(acc C:Addr) (H':Hp) (s':Shared),Inv X pins σ H' s'->gb X pins H' C->(∃m,s'.heap.Ns C m)->Q (.ref acc) H'->compPost (model X.prog X.w) X.A X.xe use Qc (.ref acc) C (.ok .next) s') :
  wpAny (model X.prog X.w) X.A (comprehension (.DictComp kx vx [⟨tg,iter,[],0⟩] sc pos) sc X.env kp newDict false (eval iter X.env) use) Qc X.xe s:=by
 refine wpAny_comprehension_free (use:=use) rfl hs S.clos S.kind S.names ?_;refine cM (hi pins s σ H _ I h) fun v s1 q1=>cM q1 fun itv s2 q2=>?_;obtain⟨it,fp,tn,J,H2,e,I2,T,st2,f2,q3⟩:=q2;subst e;refine uF ?_;obtain⟨W,⟨m0,w0⟩,turn⟩:=q3 s2.heap.objs.size I2.fresh;have I3:=I2.laid (a:=s2.heap.objs.size) (o:=.dK []) (t':=s2.toks) (fun _ _ q=>dW _ q) (bD _) (Ex s2.heap I2.big)
 have lt2:∀b∈fp,b<s2.heap.objs.size:=fun b hb=>by
  obtain⟨o,ho,_⟩:=T.obj 0 _ st2 b hb;exact cg ho
 generalize e3:({ s2 with heap:=s2.heap.push { cls:=.type "dict",data:=.dict #[] },toks:=s2.toks }:Shared)=s3 at I3
 have e3':({ s2 with heap:=s2.heap.push { cls:=.type "dict",dict:=none,data:=.dict #[] } }:Shared)=s3:=e3
 have sz3:s3.heap.objs.size=s2.heap.objs.size+1:=by rw[<- e3]; exact g8 ..
 have st3:tn 0 s3.heap:=T.keep 0 _ _ st2 fun b hb o ho=>by rw[<- e3]; exact dW _ ho
 have lt3:∀b∈fp,b<s3.heap.objs.size:=fun b hb=>by rw[sz3]; exact Dy (lt2 b hb)
 have f3:∀b∈fp,gb X pins (upd H2 s2.heap.objs.size (.dK [])) b:=fun b hb=>⟨by rw[aL (fJ (lt2 b hb))]; exact(f2 b hb).1,(f2 b hb).2⟩
 generalize hH3:upd H2 s2.heap.objs.size (.dK [])=H3 at I3 f3 w0;refine o_ ?_;generalize XH:pushCells (s3.heap.push { cls:=.type "dict",data:=.dict #[] }) sc.names=h1;have hkp:∀b o,s3.heap.get? b=some o->h1.get? b=some o:=fun b o q=>by rw[<- XH]; exact pushCells_keeps _ _ b o (dW _ q)
 have hns':h1.Ns s3.heap.objs.size fun _=>none:=by rw[<- XH]; exact(Heap.Ns.new s3.heap (.type "dict")).keeps (pushCells_keeps _ _)
 have I4:Inv (oH X N' sc fp s3 H3) [] (List.replicate nt none++bQ js σ) H3 { s3 with heap:=h1,toks:=s3.toks }:=zV I3 f3 lt3 S (fun {x c} e=>by
  have:=rJ sc.names (s3.heap.push { cls:=.type "dict",data:=.dict #[] }) (qm sc X.env) x c (by rw[g8]; exact e)
  rw[XH,g8] at this
  exact this) hns' hkp
 have ZC:tn 0 h1:=T.keep 0 _ _ st3 fun b hb o ho=>hkp b o ho;have stat:∀{H':Hp},(∀b∈fp,H' b=none)->∀b∈fp,gb (oH X N' sc fp s3 H3) [] H' b:=fun hn b hb=>⟨hn b hb,fJ (lt3 b hb),I4.ok.LQ b hb,.inl hb,(I4.ok.exf b hb).2,fun p hp=>absurd (show p∈([]:List (Addr×Obj)) from hp) (by simp)⟩
 have out:∀{σ':St} {H':Hp} {s':Shared},Inv (oH X N' sc fp s3 H3) [] σ' H' s'->Q (.ref s2.heap.objs.size) H'->compPost (model X.prog X.w) X.A X.xe use Qc (.ref s2.heap.objs.size) s3.heap.objs.size (.ok .next) s':=by
  intro σ' H' s' I' q';obtain⟨m,hn,_⟩:=id I'.loc;have I5:Inv X pins σ H' s':=I3.call' I'.os I'.base I'.hok I'.bare fun b hb=>⟨(f3 b hb).2.2.2.1,(f3 b hb).2.1,(f3 b hb).2.2.2.2.1,(f3 b hb).2.2.2.2.2⟩;exact fin _ _ H' s' I5 (I3.tL (bD _) I'.free) ⟨m,hn⟩ q'
 have loop:∀s4:Shared,s4={ s3 with heap:=h1,toks:=s3.toks }->codeAny (model X.prog X.w) X.A (.compLoop (.DictComp kx vx [⟨tg,iter,[],0⟩] sc pos) 0 (.ref it) (.ref s2.heap.objs.size) (compEnvC sc (cellsFrom (s3.heap.objs.size+1) sc.names (qm sc X.env)) s3.heap.objs.size X.env))
   (compPost (model X.prog X.w) X.A X.xe use Qc (.ref s2.heap.objs.size) s3.heap.objs.size) s4:=by
  rintro s4 rfl;refine yr (fun n s'=>∃i ys H',Inv (oH X N' sc fp s3 H3) [] (List.replicate nt none++bQ js σ) H' s'/\tn i s'.heap/\(∀b∈fp,H' b=none)/\W i n ys H') ?_ m0 ⟨0,[],H3,I4,ZC,fun b hb=>(f3 b hb).1,w0⟩;rintro n s5 ⟨i,ys,H5,I5,RG,Xy,w5⟩;rcases turn i n ys H5 w5 with⟨stop,qn⟩ | ⟨go,step⟩
  ·refine cM (T.done (oH X N' sc fp s3 H3) rfl rfl rfl hc i [] s5 _ H5 (fun _ _=>False) I5 (stat Xy) RG stop) fun r s6 qx=>?_;obtain⟨hr,I6⟩:=qx;subst hr;exact out I6 qn
  ·refine cM (T.item (oH X N' sc fp s3 H3) rfl rfl rfl hc i [] s5 _ H5 (fun _ _=>False) I5 (stat Xy) RG go) fun r s6 qx=>?_;obtain⟨u,hr,q6⟩:=qx;subst hr;refine cM q6 fun _ s7 qx=>?_;obtain⟨y,H7,I7,r7,y7,RD,Vm⟩:=qx;have I7':=I7.pinned (stat Vm) (T.obj _ _ RD);refine cM (hgt fp s3 H3 _ s7 _ H7 y u _ I7' r7 (step y _ y7)) fun _ s8 qx=>?_;obtain⟨σ8,H8,I8,hsh,q8⟩:=qx
   have wk:∀k v,(List.replicate nt none++bQ js σ)[k]?=some (some v)->σ8[k]?=some (some v):=fun k v e=>by
    by_cases hlt:k<nt
    ·rw[DK (by rw[qR]; exact hlt),Jp,bx hlt] at e
     cases e
    ·rw[xV (by rw[qR]; omega),qR,<- hsh.1,DY] at e
     rw[show nt+(k-nt)=k by omega] at e
     exact e
   refine cM (hk fp s3 H3 _ s8 _ _ _ I8 q8) fun zk s9 qx=>?_;obtain⟨yk,H9,I9,rk,q9⟩:=qx;refine cM (hv fp s3 H3 _ s9 _ _ _ I9 q9) fun zv Fz qx=>?_;obtain⟨yv,Q6,YM,rv,k,ek,ha,hz,m',hm,w10⟩:=qx;subst ek;obtain⟨z,hd,vs,rel,dd⟩:=JV YM.hok ha;have hz':vs.length<=sizeLine:=by rw[<- rel.length]; exact z
   have hl:(putK ys k yv).length<=sizeLine:=by have:=iG ys k yv; omega
   refine wpAny_dictSet_pairs (hsz:=hz') (Es rk) dd fun h' XN hs'=>?_;have he:∃q,h'.get? s2.heap.objs.size=some q:=let ⟨q,_,_,hq,_⟩:=XN; ⟨q,hq⟩;have I11:=rH (t':=Fz.toks+1) YM (by rw[ha]; exact True.intro) hs' he (Hz hl hd (rel.put k rv) XN)
   refine⟨m',hm,i+1,putK ys k yv,_,(I11.iB).weak hsh.2.symm wk,T.keep _ _ _ RD fun b hb o e=>(I11.pin (b,o) (gJ _ (gJ _ (dB hb e)))).1,fun b hb=>?_,w10⟩;obtain⟨o,e,d⟩:=T.obj _ _ RD b hb;exact(I11.pin (b,o) (gJ _ (gJ _ (dB hb e)))).2.1
 exact codeAny_compStart_dict (loop _ rfl) (T.self X.A 0 _ _ _ ZC (loop _ rfl))
theorem O5 {X:Cx} {kx vx iter:Expr} {tg:Expr} {g:TG} {nt:Nat} {y:Str} {py pos spos:Pos} {sc:Scope} {wi:TI} {tk tv:TE} {N':List Str} {js:List Nat} {i:Nat} (hN:X.N.Nodup) (hi':X.N[i]?=some y) (hy:Loc X.env.scope y) (hc:X.calm=true) (hi:PI X tg iter wi) (S:qz X nt N' js sc)
  (hgt:∀fp s H,PG (oH X N' sc fp s H) tg g) (hk:∀fp s H,PE (oH X N' sc fp s H) kx tk) (hv:∀fp s H,PE (oH X N' sc fp s H) vx tv) (hs:∀x,foldedSetIterable iter X.env x=pure x:=by intro _; rfl) (hw:swapsWith (.DictComp kx vx [⟨tg,iter,[],0⟩] sc pos) (some (.Name y py)) spos.line X.env=pure true:=by rfl)
  (hf:X.fn y=true\/X.env.scope.names.lookup y=some .local:=by first | exact .inl rfl | exact .inr rfl | assumption) :
  PS X (.Assign [.Name y py] (.DictComp kx vx [⟨tg,iter,[],0⟩] sc pos) spos) (Av (vq nt js wi g tk tv) (fU i)):=by
 refine .mk ?_;intro pins s σ H D I h;rw[exec_Assign_Name_used _ _ _ _ hw];refine aW (Bc (aW ?_));refine aW (xr hc hi S hgt hk hv hs I h fun acc C H' s' I5 fc ⟨m,hn⟩ q=>?_)
 have ho:∀b∈[C],∃o,s'.heap.get? b=some o/\∀v,o.data≠.cell v:=fun b hb=>by
  rw[dH.mp hb];obtain⟨o,es,n,e,ed,_⟩:=hn;exact⟨o,e,fun v z=>by rw[ed] at z; cases z⟩
 have I6:=I5.pinned (fp:=[C]) (fun b hb=>by rw[dH.mp hb]; exact fc) ho
 have hg:PG X (.Name y py) (fU i):=aH hN hi' hy hf;show wpAny _ _ (assign (.Name y py) X.env (.ref acc)) (fun _ s''=>∃m,s''.heap.Ns C m/\∀h',Heap.SameBut C s''.heap h'->_) _ s';refine cM (hg _ s' _ H' (.ref acc) (.ref acc) _ I6 rfl q) fun _ s7 qx=>?_;obtain⟨σ7,H7,I7,q7⟩:=qx
 have pc:∀o,s'.heap.get? C=some o->s7.heap.get? C=some o/\H7 C=none:=fun o e=>by
  have:=I7.pin (C,o) (gJ _ (gJ _ (dB (by simp) e)))
  exact⟨this.1,this.2.1⟩
 refine⟨m,hn.at fun o e=>(pc o e).1,fun h' sb=>aZ (aZ ⟨σ7,H7,?_,q7⟩)⟩
 have fr:H7 C=none:=by
  obtain⟨o,es,n,e,ed,_⟩:=hn;exact(pc o e).2
 exact I7.iB.turned (it:=C) (t':=s7.toks) (fun b o hb e=>sb.extBut b o hb e) fr fc.2.1 fc.2.2.2.1 fc.2.2.2.2.1 fc.2.2.2.2.2
theorem wA {X:Cx} {kx vx iter tg:Expr} {g:TG} {nt:Nat} {pos:Pos} {sc:Scope} {wi:TI} {tk tv:TE} {N':List Str} {js:List Nat} (hc:X.calm=true) (hi:PI X tg iter wi) (S:qz X nt N' js sc)
  (hgt:∀fp s H,PG (oH X N' sc fp s H) tg g) (hk:∀fp s H,PE (oH X N' sc fp s H) kx tk) (hv:∀fp s H,PE (oH X N' sc fp s H) vx tv) (hs:∀x,foldedSetIterable iter X.env x=pure x:=by intro _; rfl):PE X (.DictComp kx vx [⟨tg,iter,[],0⟩] sc pos) (vq nt js wi g tk tv):=by
 refine .mk ?_;intro pins s σ H Q I h;rw[arm_eval_DictComp];refine xr (use:=none) hc hi S hgt hk hv hs I h fun acc C H' s' I5 fc ⟨m,hn⟩ q=>?_;refine⟨m,hn,fun h' sb=>?_⟩;exact⟨.ref acc,H',I5.turned (it:=C) (t':=s'.toks) (fun b o hb q=>sb.extBut b o hb q) fc.1 fc.2.1 fc.2.2.2.1 fc.2.2.2.2.1 fc.2.2.2.2.2,rfl,q⟩
theorem Inv.freeze {X:Cx} {pins:List (Addr×Obj)} {σ:St} {H:Hp} {s:Shared} {d:Addr} {kvs:List (Key×V)} (I:Inv X pins σ H s) (hd:H d=some (.dK kvs)) :
  ∃o es ep,s.heap.get? d=some o/\o.data=.dict es ep/\Inv X pins σ (upd H d (.rW o (.dK kvs))) s:=by
 obtain⟨z,y,vs,r,o,es,ep,e,c,hdt,rest⟩:=id (I.hok d _ hd);refine⟨o,es,ep,e,hdt,?_⟩;have:=rH (t':=s.toks) (h':=s.heap) (ob:=.rW o (.dK kvs)) I (by rw[hd]; exact True.intro) (Heap.SameBut.refl _ _) ⟨o,e⟩ ⟨e,z,y,vs,r,o,es,ep,e,c,hdt,rest⟩
 exact this
theorem Inv.acf {X:Cx} {pins:List (Addr×Obj)} {σ σ':St} {H H':Hp} {s s':Shared} {d:Addr} {kvs:List (Key×V)} {o:Obj} (I:Inv X pins σ H s) (hd:H d=some (.dK kvs)) (J:Inv X pins σ' H' s') (hf:H' d=some (.rW o (.dK kvs))) :
  Inv X pins σ' (upd H' d (.dK kvs)) s':=by
 have ne:∀b,H' b=none->b≠d:=fun b n z=>by rw[z,hf] at n; cases n
 refine⟨J.ok,J.os,J.bare,⟨J.base.keep,J.base.slot,fun b q e n x=>?_,J.base.there,fun b xs e=>?_,fun b q u e=>?_,fun b ps e=>?_⟩,J.loc,J.cell,?_,fun x c e=>?_,fun p hp=>?_,fun b u e=>?_,J.len⟩
 ·rw[aL (ne b (J.base.free b q e n x))];exact J.base.free b q e n x
 ·have:=J.base.tups b xs e;rw[aL (fun z=>by rw[z,hf] at this; cases this)]
  exact this
 ·have h1:=I.base.xm b q u e;rw[aL (fun z=>by rw[z,hd] at h1; cases h1)]
  exact J.base.xm b q u e
 ·obtain⟨m,h1⟩:=J.base.Aq b ps e;refine⟨m,?_⟩;rw[aL (fun z=>by rw[z,hf] at h1; cases h1)]
  exact h1
 ·rw[aL (ne _ J.free)]; exact J.free
 ·rw[aL (ne _ (J.kJ x c e))]; exact J.kJ x c e
 ·obtain⟨h1,h2,h3⟩:=J.pin p hp;exact⟨h1,by rw[aL (ne _ h2)]; exact h2,h3⟩
 ·have own:∀c,H' c=some (.own b)->upd H' d (.dK kvs) c=some (.own b):=fun c q=>by rw[aL (fun z=>by rw[z,hf] at q; cases q)]; exact q
  have tup:∀c xs,H' c=some (.tup xs)->upd H' d (.dK kvs) c=some (.tup xs):=fun c xs q=>by rw[aL (fun z=>by rw[z,hf] at q; cases q)]; exact q
  by_cases z:b=d
  ·rw[z,aD] at e;cases e;rw[z];exact(show cF _ _ _ _ _ _ from(show cF X.prog X.w H' s'.heap d (.rW o (.dK kvs)) from J.hok d _ hf).2).stay (fun _ _ _ q=>q) (fun c q=>by rw[aL (fun z=>by rw[z,hf] at q; cases q)]; exact q) tup
  ·rw[aL z] at e;exact(J.hok b u e).stay (fun _ _ _ q=>q) own tup
def Ut (t:TE):TE:=fun σ H Q=>t σ H fun v H'=>∃d kvs o,H d=some (.dK kvs)/\H' d=some (.rW o (.dK kvs))/\Q v (upd H' d (.dK kvs))
theorem Sd {X:Cx} {e:Expr} {t:TE} (h:PE X e t):PE X e (Ut t):=by
 refine .mk ?_;intro pins s σ H Q I hq;refine cM (h pins s σ H _ I hq) fun u s1 qx=>?_;obtain⟨v,H1,I1,r,d,kvs,o,h1,h2,q⟩:=qx;exact⟨v,_,I.acf h1 I1 h2,r,q⟩
def ItV (d:Addr) (o:Obj) (kvs:List (Key×V)):It:=
 ⟨fun i H=>H d=some (.rW o (.dK kvs))/\i<kvs.length,fun i H x H'=>H'=H/\∃k,kvs[i]?=some (k,x),fun i H=>H d=some (.rW o (.dK kvs))/\kvs.length<=i⟩
theorem Hx {X:Cx} {pins:List (Addr×Obj)} {σ:St} {H:Hp} {s:Shared} {d:Addr} {kvs:List (Key×V)} {o:Obj} {es:Array DictEntry} {ep:Nat} (I:Inv X pins σ H s) (hd:H d=some (.rW o (.dK kvs))) (ho:o.data=.dict es ep) :
  ∃vs,KV kvs vs/\s.heap.DictAt (d9 X.prog X.w) d vs ep:=by
 obtain⟨e,z,y,vs,r,o',es',ep',e',c,hdt,rest⟩:=(show cF X.prog X.w H s.heap d (.rW o (.dK kvs)) from I.hok d _ hd);rw[e] at e';cases e';rw[ho] at hdt;cases hdt;exact⟨vs,r,o,es,e,c,ho,rest⟩
theorem Xf {kvs:List (Key×V)} {vs:List (Key×Value)} (r:KV kvs vs):∀{i:Nat} {k:Key} {x:V},kvs[i]?=some (k,x)->∃u,vs[i]?=some (k,u)/\RelV x u:=by
 induction r with
 | nil=>intro i k x h; cases h
 | @cons a b l1 l2 h1 h2 ih=>
  intro i k x h;cases i with
  | zero=>
   cases h;obtain⟨e1,e2⟩:=h1;exact⟨b.2,by rw[Jo]; congr 1; exact Prod.ext e1.symm rfl,e2⟩
  | succ i=>exact ih h
theorem J_ {P:Program} {w:World} {K:PySem.W.Frag} {tg:Expr} {d it:Addr} {o:Obj} {kvs:List (Key×V)} {es:Array DictEntry} {ep:Nat} (ho:o.data=.dict es ep):Turn P w K tg (ItV d o kvs) [it] it (fun i h=>h.IsValIter it d i kvs.length ep) where
 mem:=by simp
 obj:=fun i h st b hb=>by
  have e:b=it:=by simpa using hb
  subst e;obtain⟨o,e,c,d⟩:=st;exact⟨o,e,fun v z=>by rw[d] at z; cases z⟩
 keep:=fun i h h' st k=>st.at fun o e=>k it (by simp) o e
 item:=by
  intro X hP hw hK hc i pins s σ H E I hf st hg;subst hP hw hK;obtain⟨hd,hi⟩:=hg;obtain⟨vs,r,da⟩:=Hx I hd ho;obtain⟨u,hu,ru⟩:=Xf r (i:=i) (k:=(kvs[i]).1) (x:=(kvs[i]).2) (eF hi);obtain⟨f0,f1,f2,f3,f4,f5⟩:=hf it (by simp)
  have st2:s.heap.IsValIter it d i vs.length ep:=by rw[<- r.length]; exact st
  refine wpAny_pyNext_values_item st2 da hu fun h' st' sb=>?_;have I1:Inv X pins σ H { s with heap:=h' }:=I.turned (t':=s.toks) (fun b o hb e=>(sb.2 b hb).trans e) f0 f1 f3 f4 f5
  obtain⟨o2,e2,c2,d2⟩:=id st';refine⟨u,rfl,zX (s:={ s with heap:=h' }) e2 c2 d2 (by decide) ⟨(kvs[i]).2,H,I1,ru,⟨rfl,(kvs[i]).1,eF hi⟩,?_,fun b hb=>(hf b hb).1⟩⟩
  rw[r.length]; exact st'
 done:=by
  intro X hP hw hK hc i pins s σ H E I hf st hg;subst hP hw hK;obtain⟨hd,hi⟩:=hg;obtain⟨vs,r,da⟩:=Hx I hd ho;obtain⟨f0,f1,f2,f3,f4,f5⟩:=hf it (by simp)
  have st2:s.heap.IsValIter it d i vs.length ep:=by rw[<- r.length]; exact st
  exact wpAny_pyNext_values_end (I.ok.hd hc) st2 da (List.getElem?_eq_none_iff.mpr (by rw[<- r.length]; exact hi)) fun h' eb=>⟨rfl,I.turned (t':=s.toks) (fun b o hb e=>eb b o hb e) f0 f1 f3 f4 f5⟩
 self:=fun _ _ _ _ _ st h=>wpAny_pyIter_valiter st h
def Vk (K:PySem.W.Frag) (to:TE):TI:=fun σ H R=>to σ H fun x H1=>∃d kvs,x=.ref d/\H1 d=some (.dK kvs)/\∀o,R (ItV d o kvs) (upd H1 d (.rW o (.dK kvs)))
theorem R8 {X:Cx} {K:PySem.W.Frag} {tg o:Expr} {to:TE} {apos cpos:Pos} (hK:X.K=K) (ho:PE X o to) (hbase:attributeBase o "values" X.env (eval o X.env)=eval o X.env:=by rfl) (hline:(apos.endLine==cpos.line)=true:=by rfl) :
  PI X tg (.Call (.Attribute o "values" apos) [] [] cpos) (Vk K to):=by
 refine .mk ?_;intro pins s σ H R I h;refine wpAny_Call_method0_late hbase hline (cM (ho pins s σ H _ I h) fun v s1 qx=>?_);obtain⟨x,H1,I1,r1,d,kvs,ex,hd,q⟩:=qx;subst ex;cases r1;obtain⟨hz,hsm,vs,rel,dd⟩:=JV I1.hok hd;have tyd:tyV X.K "dict" (.ref d) H1:=.inr (.inr (.inl ⟨rfl,.inl ⟨kvs,hd⟩⟩));obtain⟨h1,h2⟩:=Ge I1 (x:=.ref d) (v:=.ref d) rfl tyd;refine⟨"dict","dict.values",PySem.F.plainAttrs_dict,PySem.F.slot_dict_values,PySem.F.type_dict_values,h1,h2,Calls.callWith_builtin rfl (PySem.evalArgs_none ?_)⟩;refine call_meetsIn PySem.F.slot_dict_values dd.typeIs PySem.F.entry_dict_values (PySem.F.args_dict_values_1 _) (meets_dict_values (d9 X.prog X.w) d hsm) ⟨⟨vs,dd⟩,?_⟩;have I2:Inv X pins σ H1 { s1 with heap:=s1.heap.push { cls:=.type "dict_values",data:=.fields #[.ref d] } }:=I1.kept (t':=s1.toks) fun b u e=>dW _ e
 obtain⟨ob,es,ep,he,hdt,I3⟩:=I2.freeze hd;obtain⟨vs',r',da⟩:=Hx I3 aD hdt;refine wpAny_pyIter_values (v:=s1.heap.objs.size) ⟨_,dw _ rfl,rfl,rfl⟩ da ?_;have hz2:(s1.heap.push { cls:=.type "dict_values",data:=.fields #[.ref d] }).objs.size=s1.heap.objs.size+1:=g8 ..;refine⟨_,[_],_,_,_,rfl,I3.kept (t':=s1.toks) fun b u e=>dW _ e,J_ hdt,?_,fun b hb=>?_,q ob⟩
 ·exact⟨_,dw _ rfl,rfl,by rw[r'.length]; rfl⟩
 ·have e:=dH.mp hb;subst e;exact I3.tL (bD _) (I3.hok.fresh (bD _))
def qu (l:List Str) (x:Str):List Str:=if l.any (· == x) then l else l++[x]
def lN (val:Nat->Str) (i:Nat):List Str:=((List.range i).map val).foldl qu []
theorem tH (val:Nat->Str) (i:Nat):lN val (i+1)=qu (lN val i) (val i):=by
 unfold lN; rw[List.range_succ,gq,List.foldl_append]; rfl
theorem Jx (val:Nat->Str):∀i,(lN val i).length<=i
 | 0=>bD _
 | i+1=>by
  rw[tH]; unfold qu;have ih:=Jx val i;split
  ·omega
  ·rw[cB,List.length_singleton]; omega
theorem QZ (l:List Str) (v k:Str):(qu l v).any (· == k)=(l.any (· == k) || decide (k=v)):=by
 unfold qu;by_cases h:l.any (· == v)=true
 ·rw[bx h];by_cases e:k=v
  ·subst e; rw[h]; simp
  ·simp[e]
 ·rw[aX h,List.any_append];by_cases e:k=v
  ·subst e; simp
  ·have hb:(v==k)=false:=by simpa[beq_iff_eq] using(fun h':v=k=>e h'.symm)
   simp[hb,e]
theorem Fq (l:List Str) (v:Str):(qu l v).length=if l.any (· == v) then l.length else l.length+1:=by
 unfold qu; split <;> simp
section
variable {prog:Program} {w:World} {A:Around} {R:Result->Shared->Prop} {I:Addr} {fp wr:List Addr} {G:Array GenState->Array GenState->Prop} {n:Nat} {P:Nat->Value->Prop} {St:Nat->Shared->Prop}
theorem Kl (W:WalksS prog w A.in1 I fp wr G n P St) (S:Addr) (hSf:S∉fp)
  (val:Nat->Str) (hval:∀i v,P i v->∃t,v=.str (val i) t) (hb:n+1<scanBound) :
  ∀(k i:Nat) (s:Shared),n-i=k->i<=n->St i s ->
   s.heap.SetOf (strKind prog w) S (fun k'=>(lN val i).any (· == k')) (lN val i).length ->
   (∀s',Moved (S::wr) G s s'->s'.heap.SetOf (strKind prog w) S (fun k'=>(lN val n).any (· == k')) (lN val n).length->R (.ok (.ret .none)) s') ->
   codeAny (model prog w) A (.builtin "set.update.loop" ⟨[.ref S,.ref I],[]⟩) R s:=by
 have hSw:S∉wr:=fun h=>hSf (W.sub _ h);have hsub:∀b∈wr,b∈S::wr:=fun b hb=>gk _ hb;intro k
 induction k with
 | zero=>
  intro i s hk hi hst hS hR;have hin:i=n:=by omega
  subst hin;refine codeAny_builtin PyProof.Rows.F.entry_set_update_loop ?_;rw[Around.under_plainId PyProof.Rows.F.plain_set_update_loop _];show wpAny _ A.in1 (pyNext (.ref I) >>= _) _ _ s;refine aW (W.done s _ _ hst fun s' hm=>?_);show wpAny _ A.in1 (ret Value.none) _ _ s';refine aZ (hR s' (hm.mono hsub) ?_);obtain⟨o,es,ep,t,ho,rest⟩:=hS;exact⟨o,es,ep,t,hm.heap S _ hSw ho,rest⟩
 | succ k ih=>
  intro i s hk hi hst hS hR;have hlt:i<n:=by omega
  refine codeAny_builtin PyProof.Rows.F.entry_set_update_loop ?_;rw[Around.under_plainId PyProof.Rows.F.plain_set_update_loop _];show wpAny _ A.in1 (pyNext (.ref I) >>= _) _ _ s;refine aW (W.item i s _ _ hlt hst fun v s' hP hst' hm=>?_);obtain⟨t,rfl⟩:=hval i v hP
  have hS':s'.heap.SetOf (strKind prog w) S (fun k'=>(lN val i).any (· == k')) (lN val i).length:=by
   obtain⟨o,es,ep,tb,ho,rest⟩:=hS;exact⟨o,es,ep,tb,hm.heap S _ hSw ho,rest⟩
  show wpAny _ A.in1 (holding [Value.str (val i) t] (setAdd S (.str (val i) t)) >>= _) _ _ s';refine aW (oN ?_);unfold setAdd;refine oN ?_;refine aW ((strKind prog w).pyHash (k:=val i) (strKind_is _ _ _ _) ?_);have hroom:(lN val i).length+1<scanBound:=by have:=Jx val i; omega
  refine wpAny_setAddHashed_of (knd:=strKind prog w) (s:={ s' with toks:=s'.toks+1 }) (strKind_is _ _ _ _) rfl hS' hroom fun h' hsb hS2=>?_
  have hSi:h'.SetOf (strKind prog w) S (fun k'=>(lN val (i+1)).any (· == k')) (lN val (i+1)).length:=
   SetOf_congr hS2 (fun k'=>by rw[tH,QZ]) (by rw[tH,Fq])
  refine aZ ⟨plainId_quiet PyProof.Rows.F.plain_set_update_loop _,ih (i+1) _ (by omega) hlt (W.frame _ s' _ _ hst' (zp _) fun b hb o e=>?_) hSi fun s'' hm'' hS''=>?_⟩
  ·rw[hsb.2 b (fun h:b=S=>hSf (by rw[<- h]; exact hb))]; exact e
  ·refine hR s'' (Moved.trans W.gtrans ((hm.mono hsub).then_heap (zp _) fun b o hb e=>?_) hm'') hS'';rw[hsb.2 b (fun h:b=S=>hb (by rw[h]; exact cY))]; exact e
end
theorem Iu:∀{ss:List Str} {us:List Value} {i:Nat} {v:Value},Vals (ss.map V.str) us->us[i]?=some v->∃t,v=.str (ss.getD i Str.empty) t
 | [],us,i,v,h,e=>by
  cases h;cases e
 | x::ss,us,i,v,h,e=>by
  cases h with
  | cons h1 h2=>
   cases i with
   | zero=>
    cases e;obtain⟨t,rfl⟩:=h1;exact⟨t,rfl⟩
   | succ i=>exact Iu (ss:=ss) h2 e
section
variable {prog:Program} {w:World} {A:Around} {E:Value->Shared->Prop} {s:Shared}
theorem Og {l:Addr} {items:Array Value} {ss:List Str} {Q:Value->Shared->Prop}
  (hh:A.handled=none) (hl:s.heap.IsList l items) (hi:Vals (ss.map V.str) items.toList) (hb:items.size+1<scanBound)
  (h:∀(h':Heap) (tk:Nat),h'.SetOf (strKind prog w) s.heap.objs.size (fun k'=>(lN (fun i=>ss.getD i Str.empty) items.size).any (· == k')) (lN (fun i=>ss.getD i Str.empty) items.size).length ->
   (∀b o,b<s.heap.objs.size->s.heap.get? b=some o->h'.get? b=some o)->Q (.ref s.heap.objs.size) { s with heap:=h',toks:=tk }) :
  wpAny (model prog w) A (call (.type "set") [.ref l]) Q E s:=by
 obtain⟨c,tl,hmro⟩:=PySem.F.called_set.mro;have hmade:=PySem.F.called_set.made;have hsub:=PySem.F.called_set.sub;refine wpAny_call (codeAny_of_tree ?_);show wpAny _ _ (callAny (.type "set") _) _ _ _;refine aZ ⟨Code.quiet_builtin _ (by decide +kernel),codeAny_builtin PySem.F.entry_type_call ?_⟩
 rw[Around.under_plain (weight_type_call_type "set" [.ref l] []) rfl];have h1:=PySem.F.called_set.notType;have h2:=PySem.F.called_set.canCreate;have hct:=PySem.F.typeCall_set_1 (.ref l)
 repeat (any_goals (first | assumption | wp_step))
 refine codeAny_mono (code_set_new_1 (.ref l) (E:=E) (Q₁:=fun obj s₁=>∃led:Bool,obj=.ref s.heap.objs.size/\s₁={ s with heap:=s.heap.push { cls:=.type "set",dict:=none,data:=.set #[] 0 (.fresh 0 0 led) } }) fun led=>⟨led,rfl,rfl⟩) fun r s₁ hr=>?_
 cases r with
 | error e=>exact hr
 | ok fl=>
  cases fl with
  | ret obj=>
   obtain⟨led,rfl,rfl⟩:=hr;have hS:(s.heap.push { cls:=.type "set",dict:=none,data:=.set #[] 0 (.fresh 0 0 led) }).get? s.heap.objs.size=some { cls:=.type "set",dict:=none,data:=.set #[] 0 (.fresh 0 0 led) }:=dw _ rfl;have hT:Shared.TypeIs { s with heap:=s.heap.push { cls:=.type "set",dict:=none,data:=.set #[] 0 (.fresh 0 0 led) } } (.ref s.heap.objs.size) "set" := ⟨_,hS,rfl⟩
   have hli:=PySem.F.called_set.init.lookup;have hbi:=PySem.F.called_set.init.bind (.ref s.heap.objs.size)
   repeat (any_goals (first | assumption | wp_step))
   refine codeAny_mono (codeAny_call_builtin (R:=wants (fun r s₂=>r=.none/\∃h' tk,s₂={ s with heap:=h',toks:=tk } /\
     h'.SetOf (strKind prog w) s.heap.objs.size (fun k'=>(lN (fun i=>ss.getD i Str.empty) items.size).any (· == k')) (lN (fun i=>ss.getD i Str.empty) items.size).length /\
     (∀b o,b<s.heap.objs.size->s.heap.get? b=some o->h'.get? b=some o)) E) PySem.F.called_set.init.plain PySem.F.entry_set_init (check_set_init_1 hT ?_)) fun r₂ s₂ hr₂=>?_
   ·obtain⟨ol,hol,hcl,nl,hdl⟩:=hl;obtain⟨ocls,odict,odata,oslots⟩:=ol;simp only at hcl hdl;subst hcl; subst hdl;have hol':(s.heap.push { cls:=.type "set",dict:=none,data:=.set #[] 0 (.fresh 0 0 led) }).get? l=some { cls:=.type "list",dict:=odict,data:=.seq items nl,slots:=oslots }:=dW _ hol;have hsls:=PySem.F.sub_list_set;have hslf:=PySem.F.sub_list_frozenset;have hne:(Value.type "list" == Value.type "dict")=false:=by decide
    have hl1:(s.heap.push { cls:=.type "set",dict:=none,data:=.set #[] 0 (.fresh 0 0 led) }).IsList l items:=⟨_,hol',rfl,nl,rfl⟩;unfold Builtin.«set.__init__» noKeywords Builtin.Frozenset.updateFrom;generalize hPI:pyIter=PI
    wp_walk
    subst hPI;refine Dz hl1 ?_;refine aW (wpAny_runValue ?_);have hlS:l<s.heap.objs.size:=cg hol;have hh3:A.in1.in1.in1.handled=none:=by simp[hh]
    have hneI:l≠(s.heap.push { cls:=.type "set",dict:=none,data:=.set #[] 0 (.fresh 0 0 led) }).objs.size:=by
     rw[g8]; exact fJ (Dy hlS)
    have hSf:s.heap.objs.size∉[(s.heap.push { cls:=.type "set",dict:=none,data:=.set #[] 0 (.fresh 0 0 led) }).objs.size,l]:=by
     rw[g8]; simp only[bF,dH,dU,or_false,not_or];exact⟨fJ (Dv _),Ds hlS⟩
    have hval:∀(i:Nat) (v:Value),items[i]?=some v->∃t,v=.str ((fun i=>ss.getD i Str.empty) i) t:=fun i v hv=>Iu hi (by rw[Array.getElem?_toList]; exact hv)
    refine Kl ((Walks.list hh3 _ l hneI items).toS) s.heap.objs.size
     hSf (fun i=>ss.getD i Str.empty) hval hb (items.size-0) 0 _ (by omega) (gm _)
     ⟨⟨_,dw _ rfl,rfl,rfl⟩,(hl1.push _)⟩ ?hS0 ?hR
    case hS0=>
     have hget:((s.heap.push { cls:=.type "set",dict:=none,data:=.set #[] 0 (.fresh 0 0 led) }).push { cls:=.type "list_iterator",data:=.fields #[.ref l,.int 0 0] }).get? s.heap.objs.size
       = some { cls:=.type "set",dict:=none,data:=.set #[] 0 (.fresh 0 0 led) }:=dW _ hS
     exact PyProof.Rows.SetOf_congr ((PyProof.Rows.setObjOf_fresh (knd:=strKind prog w) led).setOf hget (by unfold scanBound; omega)) (fun _=>rfl) rfl
    case hR=>
     intro s' hm hS';obtain⟨h',g',d',tk',os'⟩:=s';have eg:g'=s.gens:=hm.gens;have ed:d'=s.drawn:=hm.drawn;have eo:os'=s.os:=hm.os;subst eg; subst ed; subst eo;show wpAny _ _ _ _ _ _;refine aZ ?_;show wpAny _ _ (ret Value.none) _ _ _;refine aZ ⟨rfl,h',tk',rfl,hS',fun b o hb e=>?_⟩;have hb1:b≠s.heap.objs.size:=fJ hb
     have hb2:b≠(s.heap.push { cls:=.type "set",dict:=none,data:=.set #[] 0 (.fresh 0 0 led) }).objs.size:=by
      rw[g8]; exact fJ (Dy hb)
     exact hm.heap b o (by simp only[bF,dH,dU,or_false,not_or]; exact⟨hb1,hb2⟩) (dW _ (dW _ e))
   ·cases r₂ with
    | error e=>exact hr₂
    | ok fl₂=>
     cases fl₂ with
     | ret r=>
      obtain⟨rfl,h',tk,rfl,hS',hk'⟩:=hr₂
      repeat (any_goals (first | assumption | wp_step))
      exact h _ _ hS' hk'
     | _=>exact hr₂.elim
  | _=>exact hr.elim
end
def X8 (a:Addr) (n:Nat):HO:=.ext fun h=>∃o es ep t,h.get? a=some o/\o.ExactSet/\o.data=.set es ep t/\t.fits es.size=true/\es.size=n
def ql (ss:List Str):Nat:=(lN (fun i=>ss.getD i Str.empty) ss.length).length
theorem Ad {X:Cx} (hc:X.calm=true):cV X (.type "set") (fun vs H Q=>∃(l:Addr) (ss:List Str),vs=[.ref l]/\H l=some (.lst (ss.map V.str))/\ss.length<=1000/\∀p H',H p=none->aM H H'->H' p=some (X8 p (ql ss))->Q (.ref p) H'):=by
 refine .mk ?_;intro pins s σ H vs us Q I r h;obtain⟨l,ss,rfl,hl,hz,q⟩:=h;obtain⟨u,rfl,ru⟩:=r.one;cases ru;obtain⟨_,its,n,rv,e⟩:=I.hok l _ hl;have hn:=rv.length;rw[b7] at hn;refine Og (ss:=ss) (items:=its.toArray) (I.ok.hd hc) ⟨_,e,rfl,_,rfl⟩ (by simpa using rv) (by rw[eU,<- hn]; unfold scanBound; omega) fun h' tk hS hk=>?_
 have hf:=I.hok.fresh (bD s.heap.objs.size);have hsz:its.toArray.size=ss.length:=by rw[eU,<- hn]
 rw[hsz] at hS;refine⟨.ref s.heap.objs.size,_,I.laid (a:=s.heap.objs.size) (o:=X8 s.heap.objs.size (ql ss)) (t':=tk) (fun b o q=>hk b o (cg q) q) (bD _) ?_,rfl,q _ _ hf (aN hf _) aD⟩;obtain⟨o,es,ep,t,h1,h2,h3,h4,h5,h6,h7,h8⟩:=hS;refine⟨⟨o,es,ep,t,h1,h2,h3,h7,h8⟩,⟨o,h1⟩,fun g1 g2 z k=>?_⟩;obtain⟨o',es',ep',t',a1,a2⟩:=z;exact⟨o',es',ep',t',k _ a1,a2⟩
theorem Ae {X:Cx}:cV X (.builtin "len") (fun vs H Q=>∃(p:Addr) (n:Nat),vs=[.ref p]/\H p=some (X8 p n)/\n<=1000/\Q (.int n) H):=by
 refine .mk ?_;intro pins s σ H vs us Q I r h;obtain⟨p,n,rfl,hp,hn,q⟩:=h;obtain⟨u,rfl,ru⟩:=r.one;cases ru;obtain⟨o,es,ep,t,h1,h2,h3,h4,h5⟩:=(show ∃o es ep t,s.heap.get? p=some o/\o.ExactSet/\o.data=.set es ep t/\t.fits es.size=true/\es.size=n from(I.hok p _ hp).1);refine call_len_set h1 h2 h3 h4 (by rw[h5]; omega) ?_
 rw[h5];exact⟨.int n,H,I.tok _,⟨_,rfl⟩,q⟩
theorem z7:∀(l acc:List Str),(l.foldl qu acc).length<=acc.length+l.length/\((l.foldl qu acc).length=acc.length+l.length↔l.Nodup/\∀x∈l,x∉acc)
 | [],acc=>⟨bD _,⟨fun _=>⟨List.nodup_nil,fun x h=>by cases h⟩,fun _=>rfl⟩⟩
 | y::l,acc=>by
  obtain⟨h1,h2⟩:=z7 l (qu acc y);have e:((y::l).foldl qu acc)=l.foldl qu (qu acc y):=rfl;rw[e,gw];have hl:=Fq acc y;by_cases c:acc.any (· == y)=true
  ·rw[bx c] at hl
   have hy:y∈acc:=by
    obtain⟨z,hz,ez⟩:=Je.mp c;rw[<- beq_iff_eq.mp ez]; exact hz
   refine⟨by omega,⟨fun z=>by omega,fun z=>absurd hy (z.2 y cY)⟩⟩
  ·rw[aX c] at hl;have hy:y∉acc:=fun h=>c (Je.mpr ⟨y,h,beq_self_eq_true y⟩);have ea:qu acc y=acc++[y]:=aX c;refine⟨by omega,⟨fun z=>?_,fun z=>?_⟩⟩
   ·obtain⟨n1,n2⟩:=h2.mp (by omega)
    rw[ea] at n2;refine⟨iW.mpr ⟨fun hm=>n2 y hm (by simp),n1⟩,fun x hx=>?_⟩
    rcases bF.mp hx with w | w
    ·rw[w]; exact hy
    ·exact fun hm=>n2 x w (by simp[hm])
   ·obtain⟨n1,n2⟩:=z;obtain⟨m1,m2⟩:=iW.mp n1
    have:=h2.mpr ⟨m2,fun x hx=>by
     rw[ea];intro hm;rcases eQ.mp hm with w | w
     ·exact n2 x (gk _ hx) w
     ·rw[dH.mp w] at hx; exact m1 hx⟩
    omega
theorem oG (ss:List Str):ql ss<=ss.length/\(ql ss<ss.length↔¬ss.Nodup):=by
 have e:(List.range ss.length).map (fun i=>ss.getD i Str.empty)=ss:=by
  apply List.ext_getElem
  ·simp
  ·intro i h1 h2;simp[jD,h2]
 have d:ql ss=(ss.foldl qu []).length:=by unfold ql lN; rw[e]
 obtain⟨h1,h2⟩:=z7 ss [];rw[<- d] at h1 h2;simp only[uD,Nat.zero_add] at h1 h2;refine⟨h1,⟨fun z n=>?_,fun z=>?_⟩⟩
 ·have:=h2.mpr ⟨n,fun x _=>by simp⟩; omega
 ·rcases Nat.lt_or_ge (ql ss) ss.length with w | w
  ·exact w
  ·exact absurd (h2.mp (by omega)).1 z
section
variable {prog:Program} {w:World} {A:Around} {E:Value->Shared->Prop} {s:Shared}
end
structure abW (H:Hp) (xs:List V) (kvs:List (PyData×V)):Prop where
 n:xs.length=kvs.length
 p:∀(i:Nat) (x:V) (q:PyData×V),xs[i]?=some x->kvs[i]?=some q->∃t y,x=.ref t/\H t=some (.tup [y,q.2])/\aa9 H q.1 y
theorem oh:plainId "dict.update.loop" = true:=by decide +kernel
theorem yN:entryFor table "dict.update.loop" = some Builtin.«dict.update.loop»:=entryFor_of_tree (by kernel_rfl)
section
variable {X:Cx} {pins:List (Addr×Obj)} {σ:St}
end
section
variable {X:Cx}
end
theorem oX:typeLookup (.type "zip") "__getattr__" = pure none:=by rw[typeLookup_type,builtinLookup_eq_fast]; kernel_rfl
theorem jF:entryFor table "zip.__getattribute__" = some Builtin.«object.__getattribute__»:=
 entryFor_alias (id':="object.__getattribute__") (by kernel_rfl) (by decide +kernel) (by decide +kernel) (by kernel_rfl)
theorem PQ:typeLookup (.type "zip") "keys" = pure none:=by rw[typeLookup_type,builtinLookup_eq_fast]; kernel_rfl
theorem iY (a:Addr) (xs:Array Value) (sl:Array (Option Value)) (name:Str) (u:Tok) (hmiss:typeLookup (.type "zip") name=pure none) (hname:(["__module__","__name__","__qualname__","__doc__","__annotations__"]:List Str).contains name=false) (hsz:name.length+100<=sizeLine:=by size_fits) :
  Meets (Builtin.«object.__getattribute__» ⟨[.ref a,.str name u],[]⟩) (fun A R s=>s.heap.get? a=some { cls:=.type "zip",dict:=none,data:=.fields xs,slots:=sl }/\raisesAttr (.ref a) name A R s):=
 Meets.of_wp fun prog w A R s hs=>by
  obtain⟨hp,g,d,tk,os⟩:=s;obtain⟨hx,hs⟩:=hs;have hT:(⟨hp,g,d,tk,os⟩:Shared).TypeIs (.ref a) "zip" := ⟨_,hx,rfl⟩;unfold Builtin.«object.__getattribute__»
  repeat (any_goals (first | assumption | wp_step))
  simp only[hname,GD,if_false]
  repeat (any_goals (first | assumption | wp_step))
  exact wpAny_raiseAttrError hs.1 hs.2 (attrMsg_fits (by decide +kernel) hsz)
section
variable {prog:Program} {w:World} {A:Around} {E:Value->Shared->Prop} {s:Shared}
theorem Hn {a:Addr} {xs:Array Value} {sl:Array (Option Value)} {Q:Option Value->Shared->Prop} (hx:s.heap.get? a=some { cls:=.type "zip",dict:=none,data:=.fields xs,slots:=sl }) (hA:A.handled=none)
  (h:∀h' tk,(∀b o,s.heap.get? b=some o->h'.get? b=some o)->Q none { s with heap:=h',toks:=tk }):wpAny (model prog w) A (getAttr? (.ref a) "keys") Q E s:=by
 obtain⟨hp,g,d,tk,os⟩:=s;have hT:∀tk',(⟨hp,g,d,tk',os⟩:Shared).TypeIs (.ref a) "zip" := fun _=>⟨_,hx,rfl⟩;have f1:=sub_AttributeError;have f3:=F.slot_zip_getattribute.lookup;have f4:=F.slot_zip_getattribute.bind (.ref a);have f5:=oX;unfold getAttr? getAttrBy? getAttrBy
 repeat (any_goals (first | assumption | exact hT _ | ((with_reducible show wpAny _ _ (call (Value.builtin "zip.__getattribute__") _ _) _ _ _); refine call_meets F.slot_zip_getattribute (hT _) jF (F.args_zip_getattribute_2 _ _) (iY a xs sl "keys" _ PQ (by decide +kernel)) ⟨hx,hA,fun h' tk' e hx'=>?_⟩) | wp_step))
 obtain⟨t',u',he⟩:=hx'.there;show wpAny _ _ (getattributeRaised _ _ _ _ _ _ _) _ _ _;unfold getattributeRaised
 repeat (any_goals (first | assumption | wp_step))
 exact h _ _ fun b o e=>hx'.keeps b o e
end
abbrev yK (h:Heap) (z TI TO t:Addr) (b:Bool):Prop:=
 h.get? z=some { cls:=.type "zip",dict:=none,data:=.fields #[rawInt t,.bool b,.bool false,.ref TI,.ref TO],slots:=#[] }
section
variable {prog:Program} {w:World} {A:Around} {E:Value->Shared->Prop} {s:Shared}
theorem Il {z TI TO t:Addr} {b:Bool} {Q:Bool->Shared->Prop} (hz:yK s.heap z TI TO t b) (ht:∃o,s.heap.get? t=some o) (q:∀h',yK h' z TI TO t true->Heap.SameBut z s.heap h'->Q false { s with heap:=h' }) :
  wpAny (model prog w) A (Builtin.SmallTypes.ownedTupleIsFree (.ref z)) Q E s:=by
 obtain⟨o,ho⟩:=ht;unfold Builtin.SmallTypes.ownedTupleIsFree;refine aW (iV hz rfl (x:=rawInt t) rfl ?_);show wpAny _ _ (loadIfAlive ((t:Int).toNat) >>= _) _ _ _;rw[tu];refine aW (PySem.W.kdx_alive ho ?_);simp only[Option.isNone_some,GD,if_false];refine aW (iV hz rfl (x:=.bool b) rfl ?_);cases b with
 | true=>
  rw[aX (by decide)]
  exact aZ (q s.heap hz (Heap.SameBut.refl _ _))
 | false=>
  rw[bx (by decide)]
  refine aW (GF hz (by simp) fun hA zA sA=>?_)
  exact aZ (q hA zA sA)
structure YD (z i1 i2:Addr) (f1 f2:List Addr):Prop where
 a4:i1≠z
 a5:i2≠z
 b1:z∉f1
 b2:z∉f2
 b5:i1∉f2
 b6:i2∉f1
theorem Ro {z TI TO t i1 i2:Addr} {f1 f2:List Addr} {n1 n2 k:Nat} {P1 P2:Nat->Value->Prop} {S1 S2:Nat->Heap->Prop} {b:Bool} {Q:Value->Shared->Prop} (Z:YD z i1 i2 f1 f2) (D1:Draws prog w A i1 f1 n1 P1 S1) (D2:Draws prog w A i2 f2 n2 P2 S2)
  (hz:yK s.heap z TI TO t b) (ht:∃o,s.heap.get? t=some o) (hi:IsPair s.heap TI (.ref i1) (.ref i2)) (s1:S1 k s.heap) (s2:S2 k s.heap) (k1:k<n1) (k2:k<n2)
  (q:∀x y h' tk,P1 k x->P2 k y->yK h' z TI TO t true->S1 (k+1) h'->S2 (k+1) h'->IsPair h' s.heap.objs.size x y->(∀c o,c≠z->c≠i1->c≠i2->s.heap.get? c=some o->h'.get? c=some o)->Q (.ref s.heap.objs.size) { s with heap:=h',toks:=tk }) :
  wpAny (model prog w) A (Builtin.«zip.__next__» ⟨[.ref z],[]⟩) (fun fin s'=>∃v,fin=.done (.ret v)/\Q v s') E s:=by
 show wpAny _ _ (field (.ref z) 2 >>= _) _ _ _; refine aW (iV hz rfl (x:=.bool false) rfl ?_);show wpAny _ _ (field (.ref z) 3 >>= _) _ _ _; refine aW (iV hz rfl (x:=.ref TI) rfl (aW (qQ hi rfl ?_)));show wpAny _ _ (Builtin.SmallTypes.ownedTupleIsFree (.ref z) >>= _) _ _ _;refine aW (Il hz ht fun hA zA sA=>?_);simp only[GD,if_false];refine aW ?_;rw[<- Array.forIn_toList];simp only[Dt,DP];refine aW (aW (oN ?_)); show wpAny _ _ (Builtin.SmallTypes.nextOf (.ref i1) >>= _) _ _ _;refine aW (D1.item k _ _ _ k1 (D1.frame _ _ _ s1 (CZ sA Z.b1)) fun x hB tB pB stb sB=>aZ ?_);have uB:S2 k hB:=D2.frame _ _ _ (D2.frame _ _ _ s2 (CZ sA Z.b2)) (CZ sB Z.b5);refine aZ (aW (aW (oN ?_))); show wpAny _ _ (Builtin.SmallTypes.nextOf (.ref i2) >>= _) _ _ _;refine aW (D2.item k _ _ _ k2 uB fun y hD tD pD std sD=>aZ ?_);refine aZ (aZ (aW (wpAny_newTuple (hsz:=mF (aP (by decide:2<=1000))) ?_)))
 have zD:yK hD z TI TO t true:=sD.extBut _ _ Z.a5.symm (sB.extBut _ _ Z.a4.symm zA);have size:hD.objs.size=s.heap.objs.size:=by rw[sD.1,sB.1,sA.1]
 have up:∀c o,hD.get? c=some o->(hD.push { cls:=.type "tuple",data:=.seq #[x,y] }).get? c=some o:=fun c o e=>dW _ e;have kB:∀c o,c≠z->c≠i1->c≠i2->s.heap.get? c=some o->hD.get? c=some o:=fun c o n1 n3 n4 e=>sD.extBut _ _ n4 (sB.extBut _ _ n3 (sA.extBut _ _ n1 e));have u1:S1 (k+1) hD:=D1.frame _ _ _ stb (CZ sD Z.b6);have tJ:(hD.push { cls:=.type "tuple",data:=.seq #[x,y] }).get? hD.objs.size=some { cls:=.type "tuple",data:=.seq #[x,y] }:=dw _ rfl;refine aZ ⟨_,rfl,?_⟩;show Q (.ref hD.objs.size) _;rw[size] at tJ ⊢;exact q x y _ tD pB pD (up _ _ zD) (D1.frame _ _ _ u1 fun c hc o e=>up c o e) (D2.frame _ _ _ std fun c hc o e=>up c o e) tJ fun c o n1 n3 n4 e=>up c o (kB c o n1 n3 n4 e)
theorem M7 {z TI TO t i1 i2:Addr} {f1 f2:List Addr} {n1 n2:Nat} {P1 P2:Nat->Value->Prop} {S1 S2:Nat->Heap->Prop} {b:Bool} {Q:Fin->Shared->Prop} (Z:YD z i1 i2 f1 f2) (D1:Draws prog w A i1 f1 n1 P1 S1) (D2:Draws prog w A i2 f2 n2 P2 S2)
  (hz:yK s.heap z TI TO t b) (ht:∃o,s.heap.get? t=some o) (hi:IsPair s.heap TI (.ref i1) (.ref i2)) (s1:S1 n1 s.heap)
  (q:∀h' e,(∀c o,c≠z->c≠i1->c≠i2->s.heap.get? c=some o->h'.get? c=some o)->(∃o,h'.get? e=some o/\o.cls=.type "StopIteration")->∀tk,E (.ref e) { s with heap:=h',toks:=tk }) :
  wpAny (model prog w) A (Builtin.«zip.__next__» ⟨[.ref z],[]⟩) Q E s:=by
 show wpAny _ _ (field (.ref z) 2 >>= _) _ _ _; refine aW (iV hz rfl (x:=.bool false) rfl ?_);show wpAny _ _ (field (.ref z) 3 >>= _) _ _ _; refine aW (iV hz rfl (x:=.ref TI) rfl (aW (qQ hi rfl ?_)));show wpAny _ _ (Builtin.SmallTypes.ownedTupleIsFree (.ref z) >>= _) _ _ _;refine aW (Il hz ht fun hA zA sA=>?_);simp only[GD,if_false];refine aW ?_;rw[<- Array.forIn_toList];simp only[Dt,DP];refine aW (aW (oN ?_)); show wpAny _ _ (Builtin.SmallTypes.nextOf (.ref i1) >>= _) _ _ _;refine aW (D1.done _ _ _ (D1.frame _ _ _ s1 (CZ sA Z.b1)) fun hB x sB hx=>?_);exact q hB x (fun c o m1 m3 _ e=>sB _ _ m3 (sA.extBut _ _ m1 e)) hx _
theorem Zc {z TI TO t i1 i2:Addr} {f1 f2:List Addr} {n1 n2 k:Nat} {P1 P2:Nat->Value->Prop} {S1 S2:Nat->Heap->Prop} {b:Bool} {Q:Option Value->Shared->Prop} (Z:YD z i1 i2 f1 f2) (D1:Draws prog w A.in1 i1 f1 n1 P1 S1) (D2:Draws prog w A.in1 i2 f2 n2 P2 S2)
  (hz:yK s.heap z TI TO t b) (ht:∃o,s.heap.get? t=some o) (hi:IsPair s.heap TI (.ref i1) (.ref i2)) (s1:S1 k s.heap) (s2:S2 k s.heap) (k1:k<n1) (k2:k<n2)
  (q:∀x y h' tk,P1 k x->P2 k y->yK h' z TI TO t true->S1 (k+1) h'->S2 (k+1) h'->IsPair h' s.heap.objs.size x y->(∀c o,c≠z->c≠i1->c≠i2->s.heap.get? c=some o->h'.get? c=some o)->Q (some (.ref s.heap.objs.size)) { s with heap:=h',toks:=tk }) :
  wpAny (model prog w) A (pyNext (.ref z)) Q E s:=by
 have ty:s.TypeIs (.ref z) "zip" := ⟨_,hz,rfl⟩;unfold pyNext;refine aW (wpAny_attempt (DG (name:=Str.ofString "__next__") ty F.slot_zip_next (xU F.slot_zip_next ty F.entry_zip_next ?_ (F.args_zip_next_1 _))));exact Ro Z D1 D2 hz ht hi s1 s2 k1 k2 fun x y h' tk p1 p2 v1 v2 v3 v4 v5=>aZ (q x y h' tk p1 p2 v1 v2 v3 v4 v5)
theorem VM {z TI TO t i1 i2:Addr} {f1 f2:List Addr} {n1 n2:Nat} {P1 P2:Nat->Value->Prop} {S1 S2:Nat->Heap->Prop} {b:Bool} {Q:Option Value->Shared->Prop} (Z:YD z i1 i2 f1 f2) (D1:Draws prog w A.in1 i1 f1 n1 P1 S1) (D2:Draws prog w A.in1 i2 f2 n2 P2 S2)
  (hz:yK s.heap z TI TO t b) (ht:∃o,s.heap.get? t=some o) (hi:IsPair s.heap TI (.ref i1) (.ref i2)) (s1:S1 n1 s.heap)
  (q:∀h' tk,(∀c o,c≠z->c≠i1->c≠i2->s.heap.get? c=some o->h'.get? c=some o)->Q none { s with heap:=h',toks:=tk }):wpAny (model prog w) A (pyNext (.ref z)) Q E s:=by
 have ty:s.TypeIs (.ref z) "zip" := ⟨_,hz,rfl⟩;unfold pyNext;refine aW (wpAny_attempt (DG (name:=Str.ofString "__next__") ty F.slot_zip_next (xU F.slot_zip_next ty F.entry_zip_next ?_ (F.args_zip_next_1 _))));refine M7 Z D1 D2 hz ht hi s1 fun h' e k hx tk=>?_;obtain⟨o,g,c⟩:=hx;exact aW (wpAny_isInstance (T:="StopIteration") (b:=true) ⟨o,g,c⟩ isSubtype_stop (aZ (q _ tk k)))
end
def jk (acc:List (Key×V)) (kvs:List (Key×V)):List (Key×V):=kvs.foldl (fun a p=>putK a p.1 p.2) acc
structure ZS (z TI TO i1 i2 a b:Addr) (i:Nat) (h:Heap):Prop where
 st:(IsZip h z TI TO .none/\∃x y,IsPair h TO x y)\/∃t fl,yK h z TI TO t fl/\(∃o,h.get? t=some o)/\t≠z/\t≠i1/\t≠i2
 p:IsPair h TI (.ref i1) (.ref i2)
 l:h.IsListIter i1 a i
 r:h.IsListIter i2 b i
structure Zn (z TI TO i1 i2:Addr):Prop where
 n1:TI≠z
 n2:TO≠z
 n3:TI≠TO
 n4:i1≠z
 n5:i2≠z
 n6:TO≠i1
 n7:TO≠i2
 n8:i1≠i2
 n9:TI≠i1
 n10:TI≠i2
section
variable {X:Cx} {pins:List (Addr×Obj)} {σ:St} {z TI TO i1 i2 a b:Addr}
theorem ZS.keep {i:Nat} {h h':Heap} (S:ZS z TI TO i1 i2 a b i h) (k:∀c o,h.get? c=some o->h'.get? c=some o):ZS z TI TO i1 i2 a b i h':=by
 obtain⟨st,p,l,r⟩:=S;refine⟨?_,k _ _ p,l.at fun o e=>k _ _ e,r.at fun o e=>k _ _ e⟩;rcases st with⟨g,x,y,e⟩ | ⟨t,fl,g,⟨o,e⟩,n⟩
 ·exact .inl ⟨k _ _ g,x,y,k _ _ e⟩
 ·exact .inr ⟨t,fl,k _ _ g,⟨o,k _ _ e⟩,n⟩
theorem Rj {H:Hp} {s:Shared} {A:Around} {E:Value->Shared->Prop} {xs ys:List V} {i:Nat} {x y:V} {Q:Option Value->Shared->Prop} (N:Zn z TI TO i1 i2) (I:Inv X pins σ H s) (hh:A.handled=none) (ha:H a=some (.lst xs)) (hb:H b=some (.lst ys)) (S:ZS z TI TO i1 i2 a b i s.heap)
  (hf:∀c∈[z,TI,TO,i1,i2],gb X pins H c) (hx:xs[i]?=some x) (hy:ys[i]?=some y)
  (q:∀t u v s1,RelV x u->RelV y v->Inv X pins σ H s1->IsPair s1.heap t u v->ZS z TI TO i1 i2 a b (i+1) s1.heap->Q (some (.ref t)) s1):wpAny (model X.prog X.w) A (pyNext (.ref z)) Q E s:=by
 obtain⟨us,ru,pu⟩:=kL.inv I (b_.of ha);obtain⟨vs,rv,pv⟩:=kL.inv I (b_.of hb);obtain⟨u,hu,ru'⟩:=ru.get hx;obtain⟨v,hv,rv'⟩:=rv.get hy;have na:∀c∈[z,TI,TO,i1,i2],a≠c:=fun c hc=>kL.ne I (b_.of ha) (hf c hc);have nb:∀c∈[z,TI,TO,i1,i2],b≠c:=fun c hc=>kL.ne I (b_.of hb) (hf c hc);have hh1:A.in1.handled=none:=hh;have l1:i<us.toArray.size:=by have:=(i_.mp hu).1; simpa using this
 have l2:i<vs.toArray.size:=by have:=(i_.mp hv).1; simpa using this
 have eu:∀{u':Value},us.toArray[i]?=some u'->u'=u:=fun {u'} hu'=>by
  have:us[i]?=some u':=by simpa using hu'
  rw[hu] at this; exact(Option.some.inj this).symm
 have ev:∀{u':Value},vs.toArray[i]?=some u'->u'=v:=fun {u'} hu'=>by
  have:vs[i]?=some u':=by simpa using hu'
  rw[hv] at this; exact(Option.some.inj this).symm
 obtain⟨st,p,l,r⟩:=S;have fk:∀c∈[z,TO,i1,i2],gb X pins H c:=fun c hc=>hf c (by simp only[bF,dU,or_false] at hc ⊢; rcases hc with h | h | h | h <;> simp[h])
 rcases st with⟨g,xo,yo,e⟩ | ⟨t,fl,g,e,nt⟩
 ·have Z:Vv z TI TO i1 i2 [i1,a] [i2,b]:=⟨N.n1,N.n2,N.n3,N.n4,N.n5,N.n6,N.n7,N.n8,by simp; exact⟨N.n4.symm,(na z (by simp)).symm⟩,by simp; exact⟨N.n5.symm,(nb z (by simp)).symm⟩,by simp; exact⟨N.n6,(na TO (by simp)).symm⟩,by simp; exact⟨N.n7,(nb TO (by simp)).symm⟩,by simp; exact⟨N.n8,(nb i1 (by simp)).symm⟩,by simp; exact⟨N.n8.symm,(na i2 (by simp)).symm⟩⟩
  have lz:z<s.heap.objs.size:=cg g;have li1:i1<s.heap.objs.size:=by obtain⟨o,e,_⟩:=l; exact cg e
  have li2:i2<s.heap.objs.size:=by obtain⟨o,e,_⟩:=r; exact cg e
  refine MT Z (kL.dr hh1 (na i1 (by simp)) us.toArray) (kL.dr hh1 (nb i2 (by simp)) vs.toArray) g p e (show _/\_ from⟨l,pu⟩) (show _/\_ from⟨r,pv⟩) l1 l2 fun u' v' h' tk hu' hv' z1 z2 z3 z4 z5 z6 kk=>?_
  cases eu hu';cases ev hv';have I1:Inv X pins σ H { s with heap:=h',toks:=tk }:=I.lB (fp:=[z,TO,i1,i2]) (fun c o hc q=>kk c o (fun w=>hc (by simp[w])) (fun w=>hc (by simp[w])) (fun w=>hc (by simp[w])) (fun w=>hc (by simp[w])) q) fk
  exact q _ _ _ _ ru' rv' I1 z5 ⟨.inr ⟨_,false,z1,⟨_,z5⟩,Ds lz,Ds li1,Ds li2⟩,kk _ _ N.n1 N.n3 N.n9 N.n10 p,z3.1,z4.1⟩
 ·have Z:YD z i1 i2 [i1,a] [i2,b]:=⟨N.n4,N.n5,by simp; exact⟨N.n4.symm,(na z (by simp)).symm⟩,by simp; exact⟨N.n5.symm,(nb z (by simp)).symm⟩,by simp; exact⟨N.n8,(nb i1 (by simp)).symm⟩,by simp; exact⟨N.n8.symm,(na i2 (by simp)).symm⟩⟩
  refine Zc Z (kL.dr hh1 (na i1 (by simp)) us.toArray) (kL.dr hh1 (nb i2 (by simp)) vs.toArray) g e p (show _/\_ from⟨l,pu⟩) (show _/\_ from⟨r,pv⟩) l1 l2 fun u' v' h' tk hu' hv' z1 z3 z4 z5 kk=>?_
  cases eu hu';cases ev hv';have I1:Inv X pins σ H { s with heap:=h',toks:=tk }:=I.lB (fp:=[z,TO,i1,i2]) (fun c o hc q=>kk c o (fun w=>hc (by simp[w])) (fun w=>hc (by simp[w])) (fun w=>hc (by simp[w])) q) fk
  obtain⟨ot,et⟩:=e;exact q _ _ _ _ ru' rv' I1 z5 ⟨.inr ⟨t,true,z1,⟨ot,kk _ _ nt.1 nt.2.1 nt.2.2 et⟩,nt⟩,kk _ _ N.n1 N.n9 N.n10 p,z3.1,z4.1⟩
theorem Rk {H:Hp} {s:Shared} {A:Around} {E:Value->Shared->Prop} {xs ys:List V} {Q:Option Value->Shared->Prop} (N:Zn z TI TO i1 i2) (I:Inv X pins σ H s) (hh:A.handled=none) (ha:H a=some (.lst xs)) (hb:H b=some (.lst ys)) (S:ZS z TI TO i1 i2 a b xs.length s.heap)
  (hf:∀c∈[z,TI,TO,i1,i2],gb X pins H c)
  (q:∀s1,Inv X pins σ H s1->Q none s1):wpAny (model X.prog X.w) A (pyNext (.ref z)) Q E s:=by
 obtain⟨us,ru,pu⟩:=kL.inv I (b_.of ha);obtain⟨vs,rv,pv⟩:=kL.inv I (b_.of hb);have na:∀c∈[z,TI,TO,i1,i2],a≠c:=fun c hc=>kL.ne I (b_.of ha) (hf c hc);have nb:∀c∈[z,TI,TO,i1,i2],b≠c:=fun c hc=>kL.ne I (b_.of hb) (hf c hc);have hh1:A.in1.handled=none:=hh;have el:xs.length=us.toArray.size:=by rw[ru.length,eU]
 obtain⟨st,p,l,r⟩:=S;have fk:∀c∈[z,TO,i1,i2],gb X pins H c:=fun c hc=>hf c (by simp only[bF,dU,or_false] at hc ⊢; rcases hc with h | h | h | h <;> simp[h])
 rcases st with⟨g,xo,yo,e⟩ | ⟨t,fl,g,e,nt⟩
 ·have Z:Vv z TI TO i1 i2 [i1,a] [i2,b]:=⟨N.n1,N.n2,N.n3,N.n4,N.n5,N.n6,N.n7,N.n8,by simp; exact⟨N.n4.symm,(na z (by simp)).symm⟩,by simp; exact⟨N.n5.symm,(nb z (by simp)).symm⟩,by simp; exact⟨N.n6,(na TO (by simp)).symm⟩,by simp; exact⟨N.n7,(nb TO (by simp)).symm⟩,by simp; exact⟨N.n8,(nb i1 (by simp)).symm⟩,by simp; exact⟨N.n8.symm,(na i2 (by simp)).symm⟩⟩
  refine Ik Z (kL.dr hh1 (na i1 (by simp)) us.toArray) (kL.dr hh1 (nb i2 (by simp)) vs.toArray) g p e (show _/\_ from⟨l,pu⟩) (show _/\_ from⟨r,pv⟩) (.inl el) fun h' tk kk=>q _ ?_
  exact I.lB (fp:=[z,TO,i1,i2]) (fun c o hc q=>kk c o (fun w=>hc (by simp[w])) (fun w=>hc (by simp[w])) (fun w=>hc (by simp[w])) (fun w=>hc (by simp[w])) q) fk
 ·have Z:YD z i1 i2 [i1,a] [i2,b]:=⟨N.n4,N.n5,by simp; exact⟨N.n4.symm,(na z (by simp)).symm⟩,by simp; exact⟨N.n5.symm,(nb z (by simp)).symm⟩,by simp; exact⟨N.n8,(nb i1 (by simp)).symm⟩,by simp; exact⟨N.n8.symm,(na i2 (by simp)).symm⟩⟩
  refine VM Z (kL.dr hh1 (na i1 (by simp)) us.toArray) (kL.dr hh1 (nb i2 (by simp)) vs.toArray) g e p (show _/\_ from⟨by rw[<- el]; exact l,pu⟩) fun h' tk kk=>q _ ?_
  exact I.lB (fp:=[z,TO,i1,i2]) (fun c o hc q=>kk c o (fun w=>hc (by simp[w])) (fun w=>hc (by simp[w])) (fun w=>hc (by simp[w])) q) fk
end
section
variable {X:Cx} {pins:List (Addr×Obj)} {σ:St} {z TI TO i1 i2 a b p:Addr} {ks:List Key} {ys:List V}
theorem J6 (N:Zn z TI TO i1 i2) (hn:ks.length=ys.length) (hz:ks.length<=1000):∀(k i:Nat) (H:Hp) (s:Shared) (A:Around) (acc:List (Key×V)) (R:Result->Shared->Prop),ks.length-i=k->i<=ks.length->A.handled=none->Inv X pins σ H s->H p=some (.dK acc)->acc.length<=i ->
  H a=some (.lst (ks.map kV))->H b=some (.lst ys)->ZS z TI TO i1 i2 a b i s.heap->(∀c∈[z,TI,TO,i1,i2],gb X pins H c) ->
  (∀s',Inv X pins σ (upd H p (.dK (jk acc ((ks.zip ys).drop i)))) s'->R (.ok (.ret .none)) s') ->
  wpAny (model X.prog X.w) A.in1 (Builtin.«dict.update.loop» ⟨[.ref p,.ref z,rawInt i,.none],[]⟩) (fun fin s'=>match fin with | .done f=>R (.ok f) s' | .again c'=>c'.quiet=true/\codeAny (model X.prog X.w) A c' R s') (fun e s'=>R (.error e) s') s:=by
 intro k
 induction k with
 | zero=>
  intro i H s A acc R hk hi hh I hp hacc ha hb S fp q;have ei:i=ks.length:=by omega
  unfold Builtin.«dict.update.loop»;refine aW (Rk N I hh ha hb (by rw[b7,<- ei]; exact S) fp fun s1 I1=>?_)
  dsimp only;unfold Builtin.Dict.addKeywords
  wp_walk
  refine q s1 ?_;have e:(ks.zip ys).drop i=[]:=List.drop_eq_nil_of_le (by rw[List.length_zip]; omega)
  rw[e]
  have eH:upd H p (.dK (jk acc []))=H:=by
   funext c
   by_cases w:c=p
   ·rw[w,aD,hp]; rfl
   ·rw[aL w]
  rw[eH];exact I1
 | succ k ih=>
  intro i H s A acc R hk hi hh I hp hacc ha hb S fp q;have hik:i<ks.length:=by omega
  have hiy:i<ys.length:=by omega
  have hd:(ks.zip ys).drop i=(ks[i],ys[i])::(ks.zip ys).drop (i+1):=by
   rw[KH (by rw[List.length_zip]; omega),List.getElem_zip]
  unfold Builtin.«dict.update.loop»;refine aW (Rj N I hh ha hb S fp (x:=kV ks[i]) (y:=ys[i]) (by rw[cT,eF hik]; rfl) (eF hiy) fun t u v s1 ru rv I1 e1 S1=>?_)
  dsimp only;have hT:s1.TypeIs (.ref t) "tuple" := ⟨_,e1,rfl⟩;refine aW (oN ?_);unfold Builtin.Dict.pairItems;refine aW (zL (aW (DN hT ?_)));rw[bx (by decide)]
  refine aW (qQ e1 rfl (aZ ?_));obtain⟨zz,hsm,ws,rel,dd⟩:=JV I1.hok hp;have hz':ws.length<=sizeLine:=by rw[<- rel.length]; exact zz
  have hl:(putK acc ks[i] ys[i]).length<=sizeLine:=by have h1:=iG acc ks[i] ys[i]; have h2:=aP (n:=acc.length+1) (by omega); omega
  refine oN (wpAny_dictSet_pairs (hsz:=hz') (Es ru) dd fun h2 dd2 hs=>?_);have he:∃q,h2.get? p=some q:=let ⟨q,_,_,hq,_⟩:=dd2; ⟨q,hq⟩;have I2:=rH (t':=s1.toks+1) I1 (by rw[hp]; exact True.intro) hs he (Hz hl hsm (rel.put ks[i] rv) dd2)
  have npH:∀c,H c=none->c≠p:=fun c hc w=>by rw[w,hp] at hc; cases hc
  have nl:∀c zs,H c=some (.lst zs)->c≠p:=fun c zs hc w=>by rw[w,hp] at hc; cases hc
  refine aZ ⟨plainId_quiet oh _,codeAny_builtin yN ?_⟩;rw[Around.under_plainId oh _];refine ih (i+1) _ _ A (putK acc ks[i] ys[i]) R (by omega) (by omega) hh I2 aD (by have:=iG acc ks[i] ys[i]; omega) (by rw[aL (nl _ _ ha)]; exact ha) (by rw[aL (nl _ _ hb)]; exact hb) ?_ (fun c hc=>⟨by rw[aL (npH c (fp c hc).1)]; exact(fp c hc).1,(fp c hc).2⟩) fun s' J=>?_
  ·have kc:∀c o,c∈[z,TI,TO,i1,i2]->s1.heap.get? c=some o->h2.get? c=some o:=fun c o hc e=>(hs.2 c (npH c (fp c hc).1)).trans e;obtain⟨st,p',l,r⟩:=S1;refine⟨?_,kc _ _ (by simp) p',l.at fun o e=>kc _ _ (by simp) e,r.at fun o e=>kc _ _ (by simp) e⟩
   rcases st with⟨g,x,y,e⟩ | ⟨t',fl,g,⟨o,e⟩,n⟩
   ·exact .inl ⟨kc _ _ (by simp) g,x,y,kc _ _ (by simp) e⟩
   ·refine .inr ⟨t',fl,kc _ _ (by simp) g,?_,n⟩
    by_cases w:t'=p
    ·rw[w]; exact he
    ·exact⟨o,(hs.2 t' w).trans e⟩
  ·rw[hd] at q;refine q s' ?_;have eH:upd (upd H p (.dK (putK acc ks[i] ys[i]))) p (.dK (jk (putK acc ks[i] ys[i]) ((ks.zip ys).drop (i+1))))=upd H p (.dK (jk acc ((ks[i],ys[i])::(ks.zip ys).drop (i+1)))):=Io;rw[<- eH];exact J
end
section
variable {X:Cx}
def Dj (ta:TA):TE:=fun σ H Q=>ta σ H fun vs H1=>∃(a b:Addr) (ks:List Key) (ys:List V),vs=[.ref a,.ref b]/\H1 a=some (.lst (ks.map kV))/\H1 b=some (.lst ys)/\ks.length=ys.length/\ks.length<=1000/\∀p H',H1 p=none->aM H1 H'->H' p=some (.dK (jk [] (ks.zip ys)))->Q (.ref p) H'
theorem GX {e e':Expr} {p p2 pos pos2:Pos} {ta:TA} (hc:X.calm=true) (hm:X.mg "dict" = none) (hm2:X.mg "zip" = none) (ha:PA X [e,e'] ta) (hg:Gl X "dict" := by rfl) (hg2:Gl X "zip" := by rfl) (h1:b8 e=true:=by rfl) (h2:b8 e'=true:=by rfl)
  (h3:b8 (.Call (.Name "zip" p2) [e,e'] [] pos2)=true:=by rfl) :
  PE X (.Call (.Name "dict" p) [.Call (.Name "zip" p2) [e,e'] [] pos2] [] pos) (Dj ta):=by
 refine .mk ?_;intro pins s σ H Q I h;refine uG (iK I hg hm Ua ?_ (by decide) (by decide))
 refine PyProof.Rows.callWith_type1 ?_ (cD h3) rfl;rw[cD h3];show wpAny _ _ (spliced ((false,eval (.Call (.Name "zip" p2) [e,e'] [] pos2) X.env)::backTo pos (starEach [] X.env))) _ _ s;refine Calls.spliced_cons ?_;refine uG (iK I hg2 hm2 HX ?_ (by decide) (by decide))
 refine PyProof.Rows.callWith_type1 (cM (ha pos2 pins s σ H _ I h) fun us s1 qx=>?_) (cD h1) (cP (es:=[e']) (by simp[h2]))
 obtain⟨vs,H1,I1,r1,a,b,ks,ys,rfl,hla,hlb,hn,hz,q⟩:=qx;obtain⟨u,v,rfl,ru,rv⟩:=r1.two;cases ru;cases rv;obtain⟨us,_,pu,_⟩:=I1.list (b_.of hla);obtain⟨ws,_,pw,_⟩:=I1.list (b_.of hlb);refine Ac pu.isList pw.isList fun h' hzz hp ho l1 l2 kk=>?_;have I2:Inv X pins σ H1 { s1 with heap:=h' }:=I1.kept (t':=s1.toks) kk
 have fr:∀n,H1 (s1.heap.objs.size+n)=none:=fun n=>I1.hok.fresh (Kw _ _);have fk:∀n,gb X pins H1 (s1.heap.objs.size+n):=fun n=>I1.tL (Kw _ _) (fr n);have ne:∀i j:Nat,i≠j->s1.heap.objs.size+i≠s1.heap.objs.size+j:=fun i j n e=>n (Nat.add_left_cancel e);have N:Zn (s1.heap.objs.size+4) (s1.heap.objs.size+2) (s1.heap.objs.size+3) s1.heap.objs.size (s1.heap.objs.size+1):=⟨ne _ _ (by decide),ne _ _ (by decide),ne _ _ (by decide),ne 0 _ (by decide),ne _ _ (by decide),ne _ 0 (by decide),ne _ _ (by decide),ne 0 _ (by decide),ne _ 0 (by decide),ne _ _ (by decide)⟩
 have S0:ZS (s1.heap.objs.size+4) (s1.heap.objs.size+2) (s1.heap.objs.size+3) s1.heap.objs.size (s1.heap.objs.size+1) a b 0 h':=⟨.inl ⟨hzz,_,_,ho⟩,hp,l1,l2⟩
 have fp:∀c∈[s1.heap.objs.size+4,s1.heap.objs.size+2,s1.heap.objs.size+3,s1.heap.objs.size,s1.heap.objs.size+1],gb X pins H1 c:=fun c hc=>by
  simp only[bF,dU,or_false] at hc;rcases hc with rfl | rfl | rfl | rfl | rfl
  ·exact fk 4
  ·exact fk 2
  ·exact fk 3
  ·exact fk 0
  ·exact fk 1
 clear fr fk ne l1 l2 hp ho;generalize s1.heap.objs.size+4=z at *;generalize s1.heap.objs.size+2=TI at *;generalize s1.heap.objs.size+3=TO at *;generalize s1.heap.objs.size+1=i2 at *;generalize s1.heap.objs.size=i1 at *;obtain⟨s2,hs2⟩:∃s2,({ s1 with heap:=h' }:Shared)=s2:=⟨_,rfl⟩
 have e2:h'=s2.heap:=by rw[<- hs2]
 rw[hs2] at I2 ⊢;rw[e2] at S0 hzz;refine Calls.spliced_nil ?_;have hh:X.A.handled=none:=I2.ok.hd hc;have hf:=I2.hok.fresh (bD s2.heap.objs.size);have I3:=I2.laid (a:=s2.heap.objs.size) (o:=.dK []) (t':=s2.toks) (fun _ _ q=>dW _ q) (bD _) (Ex s2.heap I2.big);have sm:=aN hf (.dK []);have hd3:upd H1 s2.heap.objs.size (.dK []) s2.heap.objs.size=some (.dK []):=aD;refine callType_codes (Q₁:=fun obj s₁=>obj=.ref s2.heap.objs.size/\s₁={ s2 with heap:=s2.heap.push { cls:=.type "dict",data:=.dict #[] } }) F.kt_called_dict (F.kt_typeCall_dict_1 _) F.entry_dict_init (kt_code_dict_new _ ⟨rfl,rfl⟩) ?_
 rintro obj s₁ ⟨rfl,rfl⟩;have hT:Shared.TypeIs { s2 with heap:=s2.heap.push { cls:=.type "dict",data:=.dict #[] } } (.ref s2.heap.objs.size) "dict" := ⟨_,dw _ rfl,rfl⟩
 refine⟨hT,F.args_dict_init_2 _ _,?_⟩;unfold Builtin.«dict.__init__»;refine aW ?_;unfold Builtin.Dict.selfAndRest;refine aW (wpAny_notOrdered_dict hT ?_);show wpAny _ _ (pure (s2.heap.objs.size,[Value.ref z])) _ _ _;refine aZ ?_;show wpAny _ _ (Builtin.Dict.updateFrom "dict.__init__" s2.heap.objs.size (.ref z) [] .none) _ _ _;unfold Builtin.Dict.updateFrom;have ez:(s2.heap.push { cls:=.type "dict",data:=.dict #[] }).get? z=some _:=dW _ hzz;refine aW (DN ⟨_,ez,rfl⟩ ?_);rw[bx (by decide)]
 refine aW (Hn ez hh fun h4 tk k4=>?_);rw[bx (by decide)]
 refine aW (qT ?_);have I4:=I3.kept (t':=tk) k4;have S4:=S0.keep (h':=h4) fun c o e=>k4 _ _ (dW _ e)
 have fp4:∀c∈[z,TI,TO,i1,i2],gb X pins (upd H1 s2.heap.objs.size (.dK [])) c:=fun c hc=>by
  have lt:c<s2.heap.objs.size:=by
   obtain⟨st,p',l,r⟩:=S0;rcases st with⟨g,x,y,e⟩ | ⟨t',fl,g,⟨o,e⟩,n⟩
   ·simp only[bF,dU,or_false] at hc;rcases hc with rfl | rfl | rfl | rfl | rfl
    ·exact cg g
    ·exact cg p'
    ·exact cg e
    ·obtain⟨o,e,_⟩:=l; exact cg e
    ·obtain⟨o,e,_⟩:=r; exact cg e
   ·have g':s2.heap.get? z=some _:=g;have h'':s2.heap.get? z=some _:=hzz;rw[h''] at g';exact absurd g' (by intro w; cases w)
  exact⟨by rw[aL (fJ lt)]; exact(fp c hc).1,(fp c hc).2⟩
 refine aW (Jf (show IsZip h4 z TI TO .none from k4 _ _ ez) ?_);refine aZ ⟨plainId_quiet oh _,codeAny_builtin yN ?_⟩;rw[Around.under_plainId oh _];refine J6 (p:=s2.heap.objs.size) (ks:=ks) (ys:=ys) N hn hz ks.length 0 _ _ X.A.in1 [] _ (by omega) (gm _) hh I4 aD (gm _) (sm _ _ hla) (sm _ _ hlb) S4 fp4 fun s' J=>?_
 rw[Io] at J;exact⟨rfl,.ref s2.heap.objs.size,_,J,rfl,q _ _ hf (aN hf _) aD⟩
end
structure Ih (K:PySem.W.Frag) (x qual:Str) (st:Stmt) (f:Addr) (fd:FuncData) (T:Addr):Prop where
 ex:∃(oc:Value) (od:Option Addr) (kV doc pm:Value) (an:Option Addr) (cdv ct:Value) (osl:Array (Option Value)),
  fd=PySem.W.fnOf x qual (cz st) (bV st) (aG st) (.ref T) kV doc pm an cdv ct/\K.lookup f=some ⟨oc,od,.func fd,osl⟩/\PySem.W.codeIn K cdv qual=true
 kp:PySem.W.keepIn K (.ref f)=true
 df:∃o n,K.lookup T=some o/\o.data=.seq #[.none] n
section
variable {P:Program} {w:World} {K:PySem.W.Frag} {mg:Str->Option Value} {base:Heap}
theorem Ih.okE {x qual:Str} {st:Stmt} {f T:Addr} {fd:FuncData} {N ps:List Str} {k:Nat} {sp:Sp} (F:Ih K x qual st f fd T) (S:aV N ps (aG st)) (len:∀vs H Q E,sp vs H Q E->vs.length=ps.length)
  (hbody:∀(cdv:Value) (A:Around) (outer:List Env) (s:Shared) (H:Hp) (vs:List V) (Q:VK) (E:XK),n_ P w H s.heap->fQ k (A.deeper (envOfC qual (aG st) s.heap.objs.size f cdv))->sp vs H Q E ->
   ∃t,Fv (xu (Q7 P w) P w K mg base N qual (aG st) f cdv A outer s H E) (bV st) t/\t { nx:=fun _ H'=>Q .non H',rt:=Q } (start N vs) H):bJ P w K mg base (Q7 P w) (k+1) f fd ps sp:=by
 obtain⟨oc,od,kV,doc,pm,an,cdv,ct,osl,rfl,lk,hcd⟩:=F.ex;exact Xz lk hcd S len fun A outer s H vs Q E h00 hr hsp=>hbody cdv A outer s H vs Q E h00 hr hsp
theorem Ih.binds {x qual:Str} {st:Stmt} {f T:Addr} {fd:FuncData} {ps:List Str} {ds:List Value} (F:Ih K x qual st f fd T)
  (h:∀(kV doc pm:Value) (an:Option Addr) (cdv ct:Value) (us:List Value),(us++ds).length=ps.length->∃k,bindArgs (PySem.W.fnOf x qual (cz st) (bV st) (aG st) (.ref T) kV doc pm an cdv ct) ⟨us,[]⟩=seqItems? (.ref T) >>= k/\k (some #[.none])=pure (ps.zip (us++ds))):Binds K fd ps ds:=by
 obtain⟨oc,od,kV,doc,pm,an,cdv,ct,osl,rfl,lk,hcd⟩:=F.ex;obtain⟨o,n,ho,hd⟩:=F.df;intro s us KX hl;obtain⟨k,h1,h2⟩:=h kV doc pm an cdv ct us hl;exact BindsTo.of_defaults rfl (KX _ _ ho) hd h1 h2
structure ux (P:Program) (w:World) (K:PySem.W.Frag) (mg:Str->Option Value) (base:Heap) (k:Nat) (C:Addr) (m:Str) (ps:List Str) (sp:Sp) where
 f:Addr
 fd:FuncData
 G:bJ P w K mg base gD k f fd ps sp
 M:Meth K C m f
 c:Fw K C
 b:Binds K fd ps []
structure ajv (P:Program) (w:World) (K:PySem.W.Frag) (mg:Str->Option Value) (base:Heap) (k:Nat) (C:Addr) (m:Str) (ps:List Str) (sp:Sp) where
 f:Addr
 fd:FuncData
 G:bJ P w K mg base (Q7 P w) k f fd ps sp
 M:Meth K C m f
 c:Fw K C
 b:Binds K fd ps []
structure YQ (P:Program) (w:World) (K:PySem.W.Frag) (mg:Str->Option Value) (base:Heap) (k:Nat) (C:Addr) (x:Str) (ps:List Str) (sp:Sp) where
 f:Addr
 fd:FuncData
 j:Nat
 hj:j+1<=k
 G:bJ P w K mg base gD j f fd ps sp
 M:Mk K C f
 b:Binds K fd ps []
 bd:Binds K fd ps [.none]
 m:mg x=some (.ref C)
structure Ym (P:Program) (w:World) (K:PySem.W.Frag) (mg:Str->Option Value) (base:Heap) (k:Nat) (C:Addr) (x:Str) (ps:List Str) (sp:Sp) where
 f:Addr
 fd:FuncData
 j:Nat
 hj:j+1<=k
 G:bJ P w K mg base (Q7 P w) j f fd ps sp
 M:Mk K C f
 b:Binds K fd ps []
 bd:Binds K fd ps [.none]
 m:mg x=some (.ref C)
theorem bJ.calm {k:Nat} {f:Addr} {fd:FuncData} {ps:List Str} {sp:Sp} (G:bJ P w K mg base (Q7 P w) k f fd ps sp):bJ P w K mg base gD k f fd ps (fun vs H Q _=>sp vs H Q E0):=
 ⟨fun vs H Q E h=>G.len _ _ _ _ h,fun A outer s H args us vs Q E hr he hb hv h=>codeAny_mono (G.run A outer s H args us vs Q E0 hr he hb hv h) fun r s' z=>by
  cases r with
  | error e=>
   obtain⟨_,_,_,_,_,_,_,_,_,_,_,_,_,q⟩:=z;exact q.elim
  | ok fl=>cases fl <;> exact z⟩
def ux.mono {j k:Nat} {C:Addr} {m:Str} {ps:List Str} {sp:Sp} (c:ux P w K mg base j C m ps sp) (h:j<=k):ux P w K mg base k C m ps sp:={ c with G:=c.G.mono h }
def YQ.mono {j k:Nat} {C:Addr} {m:Str} {ps:List Str} {sp:Sp} (c:YQ P w K mg base j C m ps sp) (h:j<=k):YQ P w K mg base k C m ps sp:={ c with hj:=ik c.hj h }
def Ym.calm {k:Nat} {C:Addr} {m:Str} {ps:List Str} {sp:Sp} (c:Ym P w K mg base k C m ps sp):YQ P w K mg base k C m ps (fun vs H Q _=>sp vs H Q E0):=⟨c.f,c.fd,c.j,c.hj,c.G.calm,c.M,c.b,c.bd,c.m⟩
def Ri.alias {k:Nat} {x y:Str} {ps:List Str} {i:Int} {sp:Sp} (c:Ri P w K mg base k x ps i sp) (h:mg y=some (.ref c.f)):Ri P w K mg base k y ps i sp:=⟨c.f,c.fd,c.t,c.G,c.kp,c.b,c.bd,h⟩
end
section
variable {X:Cx} {C:Addr} {m x:Str} {apos pos p:Pos} {o e:Expr} {es:List Expr} {ta:TE} {t:TA} {k:Nat} {ps:List Str} {sp:Sp}
theorem pm (c:ux X.prog X.w X.K X.mg X.base k C m ps sp) (hr:fQ k X.A) (ho:PE X o ta) (ha:PA X (e::es) t) (h1:b8 e=true:=by rfl) (h2:es.all b8=true:=by rfl) {pl:Sem Bool}
  (ht:eval (.Call (.Attribute o m apos) (e::es) [] pos) X.env=(do
   let ov <- eval o X.env
   standAt apos.atName
   let (f,first) <- holding [ov] (getMethod ov m pl)
   callWith pos f first (backTo pos (starEach (e::es) X.env)) (backToKw pos (keywordEach [] X.env))):=by rfl):PE X (.Call (.Attribute o m apos) (e::es) [] pos) (Dh C m sp [] E0 ta t):=
 Sg ho c.c c.M c.G hr c.b .nil Ec ha (cD h1) (cP h2) ht
theorem KQ (c:ux X.prog X.w X.K X.mg X.base k C m ps sp) (hr:fQ k X.A) (ho:PE X o ta) {pl:Sem Bool}
  (ht:eval (.Call (.Attribute o m apos) [] [] pos) X.env=(do
   let ov <- eval o X.env
   standAt apos.atName
   let (f,first) <- holding [ov] (getMethod ov m pl)
   callWith pos f first (backTo pos (starEach [] X.env)) (backToKw pos (keywordEach [] X.env))):=by rfl):PE X (.Call (.Attribute o m apos) [] [] pos) (Dh C m sp [] E0 ta Ar):=
 O_ ho c.c c.M c.G hr c.b .nil Ec ht
theorem pk (c:YQ X.prog X.w X.K X.mg X.base k C x ps sp) (hr:fQ k X.A) (ha:PA X (e::es) t) (hg:Gl X x:=by rfl) (hdb:(x==("__debug__" : Str))=false:=by decide) (h1:b8 e=true:=by rfl) (h2:es.all b8=true:=by rfl) :
  PE X (.Call (.Name x p) (e::es) [] pos) (Nu C sp [] E0 t):=Ss c.M c.G (hr.mono c.hj) hg c.m c.b .nil Ec ha hdb (cD h1) (cP h2)
theorem bU {K:PySem.W.Frag} {f:Str} (hK:X.K=K) (he:PE X e ta) (hb:attributeBase e f X.env (eval e X.env)=eval e X.env:=by rfl):PE X (.Attribute e f pos) (V5 K ta f):=by
 subst hK;exact Wz he hb
theorem lK {K:PySem.W.Frag} {f:Str} {value:Expr} {pos':Pos} {tv:TE} (hK:X.K=K) (ha:PE X o ta) (hv:PE X value tv) (hs:swapsWith value (some (.Attribute o f pos')) pos.line X.env=pure false:=by rfl):PS X (.Assign [.Attribute o f pos'] value pos) (Wg K ta tv f):=by
 subst hK;exact Wo ha hv hs
end
section
variable {P:Program} {w:World} {K:PySem.W.Frag} {mg:Str->Option Value} {base:Heap} {N:List Str} {qual:Str} {scope:Scope} {f:Addr} {cd:Value} {A:Around} {outer:List Env} {s0:Shared} {H0:Hp} {E:XK}
def V4 (C:Addr) (m:Str) (sp:Sp) (E:XK) (ta:TE) (t:TA):TE:=fun σ H Q=>ta σ H fun x H1=>∃a dx fs,x=.ref a/\H1 a=some (.ins C dx fs)/\fs.lookup m=none/\t σ H1 fun vs H2=>sp (.ref a::vs) H2 Q (fun cls _ H3=>∀H4,(aM H2 H3->aM H2 H4)->E cls none H4)
end
theorem WN {X:Cx} {K:PySem.W.Frag} (hK:X.K=K):mL X (compareOp .In) (Z7 K false):=by
 subst hK;exact K9
theorem KY {X:Cx} {K:PySem.W.Frag} (hK:X.K=K):mL X (compareOp .NotIn) (Z7 K true):=by
 subst hK;exact Bo
theorem z8 (ns:List Str):(ns.map V.str).all rF=true:=by
 rw[List.all_map];exact j4.mpr fun _ _=>rfl
theorem JM (n:Str) (ns:List Str):inV (.str n) (ns.map V.str)=decide (n∈ns):=by
 unfold inV;rw[List.any_map]
 induction ns with
 | nil=>rfl
 | cons a r ih=>
  rw[GC,ih];by_cases h:n=a
  ·subst h;simp[Rc]
  ·have:¬a=n:=fun z=>h z.symm;simp[Rc,h,this]
def cU (H H':Hp):Prop:=∀b xs,H b=some (.tup xs)->H' b=some (.tup xs)
theorem cU.refl (H:Hp):cU H H:=fun _ _ z=>z
theorem cU.trans {H H1 H2:Hp} (a:cU H H1) (b:cU H1 H2):cU H H2:=fun c xs z=>b c xs (a c xs z)
theorem aM.kp {H H':Hp} (s:aM H H'):cU H H':=fun b _ z=>s b _ z
theorem cU.put {H:Hp} {p:Addr} {o:HO} (n:∀xs,H p≠some (.tup xs)):cU H (upd H p o):=fun b xs z=>by
 by_cases e:b=p
 ·subst e; exact absurd z (n xs)
 ·rw[aL e]; exact z
theorem cU.putL {H:Hp} {p:Addr} {o:HO} {xs:List V} (n:H p=some (.lst xs)):cU H (upd H p o):=cU.put fun ys z=>by rw[n] at z; cases z
theorem cU.putD {H:Hp} {p:Addr} {o:HO} {xs:List (Key×V)} (n:H p=some (.dK xs)):cU H (upd H p o):=cU.put fun ys z=>by rw[n] at z; cases z
mutual
theorem At.kp {H H':Hp} (m:cU H H'):∀(d:PyData) (v:V),uf d=true->At H d v->At H' d v
 | .none,_,_,h=>by unfold At at h ⊢; exact h
 | .bool _,_,_,h=>by unfold At at h ⊢; exact h
 | .int _,_,_,h=>by unfold At at h ⊢; exact h
 | .str _,_,_,h=>by unfold At at h ⊢; exact h
 | .tuple ds,v,n,h=>by
  unfold At at h ⊢;obtain⟨a,ys,e,h1,h2⟩:=h;exact⟨a,ys,e,m _ _ h1,aj.kp m ds ys (by simpa[uf] using n) h2⟩
 | .list _,_,n,_=>by simp[uf] at n
 | .dict _,_,n,_=>by simp[uf] at n
theorem aj.kp {H H':Hp} (m:cU H H'):∀(ds:List PyData) (ys:List V),bK ds=true->aj H ds ys->aj H' ds ys
 | [],_,_,h=>by unfold aj at h ⊢; exact h
 | d::ds,ys,n,h=>by
  unfold aj at h ⊢;obtain⟨x,r,e,h1,h2⟩:=h;simp only[bK,xT] at n;exact⟨x,r,e,At.kp m d x n.1 h1,aj.kp m ds r n.2 h2⟩
end
theorem aj.nth {H:Hp}:∀{ds:List PyData} {ys:List V} {i:Nat} {d:PyData},aj H ds ys->ds[i]?=some d->∃y,ys[i]?=some y/\At H d y
 | [],_,_,_,_,e=>by cases e
 | d::ds,ys,i,d',h,e=>by
  unfold aj at h;obtain⟨x,r,rfl,h1,h2⟩:=h;cases i with
  | zero=>cases e; exact⟨x,rfl,h1⟩
  | succ i=>exact aj.nth (ds:=ds) (ys:=r) (i:=i) h2 e
theorem aj.snoc {H:Hp} {ds:List PyData} {ys:List V} {d:PyData} {y:V} (h:aj H ds ys) (a:At H d y):aj H (ds++[d]) (ys++[y]):=aj.append h (aj.cons a aj.nil)
def Fr (S:List Addr) (H H':Hp):Prop:=∀b o,H b=some o->b∉S->H' b=some o
theorem Fr.refl (S:List Addr) (H:Hp):Fr S H H:=fun _ _ z _=>z
theorem aM.fr {H H':Hp} (s:aM H H') (S:List Addr):Fr S H H':=fun b o z _=>s b o z
theorem Fr.trans {S:List Addr} {H H1 H2:Hp} (a:Fr S H H1) (b:Fr S H1 H2):Fr S H H2:=fun c o z n=>b c o (a c o z n) n
theorem Fr.sub {S T:List Addr} {H H':Hp} (a:Fr S H H') (h:∀b∈S,b∈T\/H b=none):Fr T H H':=fun b o z n=>a b o z fun hb=>(h b hb).elim n fun e=>by rw[e] at z; cases z
theorem Fr.put {S:List Addr} {H:Hp} {p:Addr} {o:HO} (h:p∈S):Fr S H (upd H p o):=fun b u z n=>by
 have e:b≠p:=fun e=>n (by rw[e]; exact h)
 rw[aL e]; exact z
theorem Fr.kp {S:List Addr} {H H':Hp} (a:Fr S H H') (n:∀b∈S,∀xs,H b≠some (.tup xs)):cU H H':=fun b xs z=>a b _ z fun hb=>n b hb xs z
def zK (ns:List Str) (vs:List V):List (Key×V):=(ns.map Sum.inr).zip vs
theorem FZ {ns:List Str} {vs:List V} (h:ns.length=vs.length):(zK ns vs).length=ns.length:=by unfold zK; rw[List.length_zip,b7]; omega
theorem M4:∀{ns:List Str} {vs:List V} {i:Nat} {n:Str},ns.Nodup->ns[i]?=some n->ns.length=vs.length->qD (zK ns vs) (Sum.inr n:Key)=vs[i]?
 | [],_,_,_,_,h,_=>by cases h
 | a::ns,[],_,_,_,_,h=>by cases h
 | a::ns,v::vs,0,n,_,h,_=>by
  cases h;exact qC rfl
 | a::ns,v::vs,i+1,n,nd,h,l=>by
  have hn:a≠n:=fun z=>by
   subst z;exact(iW.mp nd).1 (dz h)
  show qD ((Sum.inr a,v)::zK ns vs) (Sum.inr n:Key)=_;unfold qD;rw[List.find?_cons_of_neg (by simpa using hn)]
  exact M4 (iW.mp nd).2 h (Nat.succ.inj l)
theorem F_:∀{ns:List Str} {vs:List V} {n:Str},ns.length=vs.length->((zK ns vs).any fun kv=>decide (kv.1=(Sum.inr n:Key)))=decide (n∈ns)
 | [],_,_,_=>by simp[zK]
 | a::ns,[],_,h=>by cases h
 | a::ns,v::vs,n,l=>by
  show(((Sum.inr a,v)::zK ns vs).any _)=_;rw[GC,F_ (Nat.succ.inj l)];by_cases h:n=a
  ·subst h; simp
  ·have:¬a=n:=fun z=>h z.symm;simp[h,this]
theorem M6:∀{ns:List Str} {vs:List V} {i:Nat} {n:Str} {u:V},ns.Nodup->ns[i]?=some n->ns.length=vs.length->((zK ns vs).map fun kv=>if kv.1=(Sum.inr n:Key) then(kv.1,u) else kv)=zK ns (vs.set i u)
 | [],_,_,_,_,_,h,_=>by cases h
 | a::ns,[],_,_,_,_,_,h=>by cases h
 | a::ns,v::vs,0,n,u,nd,h,l=>by
  cases h;show(((Sum.inr a,v)::zK ns vs).map _)=(Sum.inr a,u)::zK ns vs;rw[gZ,bx rfl]
  congr 1
  have hn:=(iW.mp nd).1;rw[List.map_congr_left (g:=id),List.map_id];intro kv hkv;refine aX fun z=>hn ?_;have:=DR hkv;rw[z] at this;simpa using this.1
 | a::ns,v::vs,i+1,n,u,nd,h,l=>by
  have hn:a≠n:=fun z=>by
   subst z;exact(iW.mp nd).1 (dz h)
  show(((Sum.inr a,v)::zK ns vs).map _)=(Sum.inr a,v)::zK ns (vs.set i u);rw[gZ,aX (by simpa using hn),M6 (iW.mp nd).2 h (Nat.succ.inj l)]
theorem VH {ns:List Str} {vs:List V} {i:Nat} {n:Str} {u:V} (nd:ns.Nodup) (h:ns[i]?=some n) (l:ns.length=vs.length):putK (zK ns vs) (Sum.inr n:Key) u=zK ns (vs.set i u):=by
 unfold putK;rw[bx (by rw[F_ l]; exact j0 (dz h)),M6 nd h l]
theorem M5 {ns:List Str} {vs:List V} {n:Str} {u:V} (h:n∉ns) (l:ns.length=vs.length):putK (zK ns vs) (Sum.inr n:Key) u=zK (ns++[n]) (vs++[u]):=by
 unfold putK;rw[aX (by rw[F_ l]; simpa using h)]
 unfold zK;rw[gq,List.zip_append (by rw[b7]; exact l)]
 rfl
theorem Dd:∀(ns:List Str) (vs:List V) (ms:List Str) (us:List V),(ms++ns).Nodup->ms.length=us.length->ns.length=vs.length->jk (zK ms us) (zK ns vs)=zK (ms++ns) (us++vs)
 | [],vs,ms,us,_,_,l=>by
  cases vs with
  | nil=>rw[uA,uA]; rfl
  | cons=>cases l
 | a::ns,[],ms,us,_,_,l=>by cases l
 | a::ns,v::vs,ms,us,nd,h,l=>by
  have hn:a∉ms:=fun z=>by
   rw[pY] at nd;exact nd.2.2 a z a (cY ..) rfl
  show jk (putK (zK ms us) (Sum.inr a) v) (zK ns vs)=_;rw[M5 hn h,Dd ns vs (ms++[a]) (us++[v]) (by rw[Dw]; exact nd) (by simp[h]) (Nat.succ.inj l),Dw,Dw]
  rfl
theorem mR.z {H:Hp} {a:Addr} {ns:List Str} {vs:List V} {i:Nat} {n:Str} {v:V} (e:H a=some (.dK (zK ns vs))) (nd:ns.Nodup) (h:ns[i]?=some n) (l:ns.length=vs.length) (hv:vs[i]?=some v):mR H a (.str n) (some v):=by
 have:=mR.k (k:=(Sum.inr n:Key)) e;rw[M4 nd h l,hv] at this;exact this
theorem rR.z {H:Hp} {a:Addr} {ns:List Str} {vs:List V} {i:Nat} {n:Str} {v:V} (e:H a=some (.dK (zK ns vs))) (nd:ns.Nodup) (h:ns[i]?=some n) (l:ns.length=vs.length) (z:ns.length<=1000):rR H a (.str n) v (upd H a (.dK (zK ns (vs.set i v)))):=by
 have:=rR.k (k:=(Sum.inr n:Key)) (v:=v) e (aP (by rw[FZ l]; exact z))
 rw[VH nd h l] at this;exact this
theorem QB {K:PySem.W.Frag} {nt:Nat} {g:TG} {js:List Nat} {a:Addr} {xs:List V} {tl tk tv:TE} {σ:St} {H:Hp} {Q:VK} (τ:Nat->St) (hτ:∀i,(τ i).length=nt) (hl:∀R:VK,R (.ref a) H->tl σ H R) (ha:H a=some (.lst xs))
  (h:∀acc,H acc=none->∃Pv:Nat->List (Key×V)->Hp->Prop,Pv 0 [] (upd H acc (.dK []))/\(∀i ys H',Pv i ys H'->H' a=some (.lst xs)) /\
   (∀i x ys H',xs[i]?=some x->Pv i ys H'->(∀R:St->Hp->Prop,R (τ i++bQ js σ) H'->g x (List.replicate nt none++bQ js σ) H' R)/\tk (τ i++bQ js σ) H' fun y H4=>tv (τ i++bQ js σ) H4 fun v H5=>∃k,y=kV k/\H5 acc=some (.dK ys)/\ys.length<sizeLine/\Pv (i+1) (putK ys k v) (upd H5 acc (.dK (putK ys k v))))/\∀ys H',Pv xs.length ys H'->Q (.ref acc) H'):vq nt js (jM K tl) g tk tv σ H Q:=by
 refine hl _ ⟨a,rfl,⟨xs,b_.of ha⟩,fun acc hacc=>?_⟩;obtain⟨Pv,p0,pA,ps,pf⟩:=h acc hacc;refine⟨fun i m ys H2=>m=xs.length-i/\i<=xs.length/\Pv i ys H2,⟨_,rfl,gm _,p0⟩,?_⟩;rintro i m ys H2 ⟨rfl,hi,hP⟩;have ht:b_ K H2 a xs:=b_.of (pA _ _ _ hP);by_cases hlt:i<xs.length
 ·refine .inr ⟨⟨xs,xs[i],ht,eF hlt⟩,fun x H3 y=>?_⟩;obtain⟨e1,y⟩:=y;subst e1;obtain⟨gg,tt⟩:=ps i x ys _ (y xs ht) hP;refine gg _ ⟨⟨?_,?_⟩,?_⟩
  ·rw[O3 (by rw[hτ]; exact bD _),<- hτ i,Du,Kv]
  ·rw[cB,cB,hτ,qR]
  have e:(fun(y:V) (H4:Hp)=>tv (τ i++bQ js σ) H4 fun v H5=>∃k,y=kV k/\H5 acc=some (.dK ys)/\ys.length<sizeLine/\Pv (i+1) (putK ys k v) (upd H5 acc (.dK (putK ys k v))))=fun y H4=>tv (τ i++bQ js σ) H4 fun v H5=>∃k,y=kV k/\H5 acc=some (.dK ys)/\ys.length<sizeLine/\∃m',m'<xs.length-i/\(m'=xs.length-(i+1)/\i+1<=xs.length/\Pv (i+1) (putK ys k v) (upd H5 acc (.dK (putK ys k v)))):=by
   funext y H4
   congr 1
   funext v H5
   exact propext ⟨fun⟨k,z0,z1,z2,z3⟩=>⟨k,z0,z1,z2,xs.length-(i+1),by omega,rfl,hlt,z3⟩,fun⟨k,z0,z1,z2,_,_,_,_,z3⟩=>⟨k,z0,z1,z2,z3⟩⟩
  rw[e] at tt;exact tt
 ·have e:i=xs.length:=by omega
  subst e;exact .inl ⟨⟨xs,ht,bD _⟩,pf _ _ hP⟩
theorem cG {α:Type} {l:List α} {i:Nat} {x:α} (h:l[i]?=some x):l.take (i+1)=l.take i++[x]:=by
 rw[List.take_add_one,h]; rfl
theorem vd {K:PySem.W.Frag} {nt:Nat} {g:TG} {js:List Nat} {a:Addr} {xs:List V} {tl tk tv:TE} {σ:St} {H:Hp} {Q:VK} (ns:List Str) (ds:List PyData) (τ:Nat->St) (hτ:∀i,(τ i).length=nt) (hl:∀R:VK,R (.ref a) H->tl σ H R) (ha:H a=some (.lst xs))
  (nd:ns.Nodup) (ln:ns.length=xs.length) (ld:ds.length=xs.length) (hz:xs.length<=1000) (hn:bK ds=true)
  (step:∀i x n d H',xs[i]?=some x->ns[i]?=some n->ds[i]?=some d->aM H H'->(∀R:St->Hp->Prop,R (τ i++bQ js σ) H'->g x (List.replicate nt none++bQ js σ) H' R)/\(∀R:VK,R (.str n) H'->tk (τ i++bQ js σ) H' R)/\∀R:VK,(∀v H5,aM H' H5->At H5 d v->R v H5)->tv (τ i++bQ js σ) H' R)
  (fin:∀acc vs H',H acc=none->aM H H'->H' acc=some (.dK (zK ns vs))->aj H' ds vs->ns.length=vs.length->Q (.ref acc) H'):vq nt js (jM K tl) g tk tv σ H Q:=by
 refine QB τ hτ hl ha fun acc hacc=>?_;refine⟨fun i ys H2=>∃vs,ys=zK (ns.take i) vs/\(ns.take i).length=vs.length/\aj H2 (ds.take i) vs/\aM H H2/\H2 acc=some (.dK ys),⟨[],rfl,rfl,aj.nil,aN hacc _,aD⟩,fun i ys H2 q=>?_,?_,?_⟩
 ·obtain⟨vs,_,_,_,s2,_⟩:=q;exact s2 _ _ ha
 ·rintro i x ys H2 hx ⟨vs,rfl,lv,av,s2,e2⟩;have hi:i<xs.length:=(i_.mp hx).1;have en:ns[i]?=some ns[i]:=eF (by omega)
  have ed:ds[i]?=some ds[i]:=eF (by omega)
  obtain⟨g1,g2,g3⟩:=step i x _ _ H2 hx en ed s2;refine⟨g1,g2 _ (g3 _ fun v H5 s5 a5=>⟨Sum.inr ns[i],rfl,s5 _ _ e2,aP ?_,vs++[v],?_,?_,?_,?_,aD⟩)⟩
  ·rw[FZ lv,j5]; omega
  ·rw[cG en,M5 _ lv];intro z;rw[<- List.take_append_drop i ns,pY] at nd;exact nd.2.2 _ z _ (by rw[KH (by omega)]; exact cY ..) rfl
  ·rw[cG en,cB,cB,lv]; rfl
  ·rw[cG ed];have k5:cU H2 (upd H5 acc (.dK (putK (zK (ns.take i) vs) (Sum.inr ns[i]) v))):=s5.kp.trans (cU.putD (s5 _ _ e2));have hn':=bu.mp hn;exact(aj.kp k5 _ _ (bu.mpr fun d hd=>hn' d (wj hd)) av).snoc (At.kp (cU.putD (s5 _ _ e2)) _ _ (hn' _ (oO _)) a5)
  ·intro b o z;rw[aL (fun e=>by rw[e,hacc] at z; cases z)]
   exact s5 _ _ (s2 _ _ z)
 ·rintro ys H2 ⟨vs,rfl,lv,av,s2,e2⟩;rw[show xs.length=ns.length from ln.symm,pX] at e2 lv;rw[show xs.length=ds.length from ld.symm,pX] at av;exact fin acc vs H2 hacc s2 e2 av lv
theorem oJ {K:PySem.W.Frag} {nt:Nat} {g:TG} {js:List Nat} {a:Addr} {xs:List V} {tl te:TE} {σ:St} {H:Hp} {Q:VK} (ds:List PyData) (τ:Nat->St) (hτ:∀i,(τ i).length=nt) (hl:∀R:VK,R (.ref a) H->tl σ H R) (ha:H a=some (.lst xs))
  (ld:ds.length=xs.length) (hz:xs.length<=1000) (hn:bK ds=true)
  (step:∀i x d H',xs[i]?=some x->ds[i]?=some d->aM H H'->(∀R:St->Hp->Prop,R (τ i++bQ js σ) H'->g x (List.replicate nt none++bQ js σ) H' R)/\∀R:VK,(∀v H5,aM H' H5->At H5 d v->R v H5)->te (τ i++bQ js σ) H' R)
  (fin:∀acc vs H',H acc=none->aM H H'->H' acc=some (.lst vs)->aj H' ds vs->Q (.ref acc) H'):fD nt js (jM K tl) g qH te σ H Q:=by
 refine EY τ hτ hl ha fun acc hacc=>?_;refine⟨fun i ys H2=>ys.length=i/\aj H2 (ds.take i) ys/\aM H H2/\H2 acc=some (.lst ys),⟨rfl,aj.nil,aN hacc _,aD⟩,fun i ys H2 q=>q.2.2.1 _ _ ha,?_,?_⟩
 ·rintro i x ys H2 hx ⟨lv,av,s2,e2⟩;have hi:i<xs.length:=(i_.mp hx).1;have ed:ds[i]?=some ds[i]:=eF (by omega)
  obtain⟨g1,g3⟩:=step i x _ H2 hx ed s2;refine⟨g1,g3 _ fun v H5 s5 a5=>⟨s5 _ _ e2,aP (by omega),by rw[cB,lv]; rfl,?_,?_,aD⟩⟩
  ·rw[cG ed];have k5:cU H2 (upd H5 acc (.lst (ys++[v]))):=s5.kp.trans (cU.putL (s5 _ _ e2));have hn':=bu.mp hn;exact(aj.kp k5 _ _ (bu.mpr fun d hd=>hn' d (wj hd)) av).snoc (At.kp (cU.putL (s5 _ _ e2)) _ _ (hn' _ (oO _)) a5)
  ·intro b o z;rw[aL (fun e=>by rw[e,hacc] at z; cases z)]
   exact s5 _ _ (s2 _ _ z)
 ·rintro ys H2 ⟨lv,av,s2,e2⟩;rw[show xs.length=ds.length from ld.symm,pX] at av;exact fin acc ys H2 hacc s2 e2 av
theorem jO {K:PySem.W.Frag} {js:List Nat} {a:Addr} {xs:List V} {tl te:TE} {σ:St} {H:Hp} {Q:VK} (ds:List PyData) (hl:∀R:VK,R (.ref a) H->tl σ H R) (ha:H a=some (.lst xs))
  (ld:ds.length=xs.length) (hz:xs.length<=1000) (hn:bK ds=true)
  (step:∀(i:Nat) x d H',xs[i]?=some x->ds[i]?=some d->aM H H'->∀R:VK,(∀v H5,aM H' H5->At H5 d v->R v H5)->te (some x::bQ js σ) H' R)
  (fin:∀acc vs H',H acc=none->aM H H'->H' acc=some (.lst vs)->aj H' ds vs->Q (.ref acc) H'):gG js (jM K tl) te σ H Q:=by
 refine hl _ ⟨a,rfl,⟨xs,b_.of ha⟩,fun acc hacc=>?_⟩;refine⟨fun i m ys H2=>m=xs.length-i/\i<=xs.length/\ys.length=i/\aj H2 (ds.take i) ys/\aM H H2/\H2 acc=some (.lst ys),⟨_,rfl,gm _,rfl,aj.nil,aN hacc _,aD⟩,?_⟩;rintro i m ys H2 ⟨rfl,hi,lv,av,s2,e2⟩;have ht:b_ K H2 a xs:=b_.of (s2 _ _ ha);by_cases hlt:i<xs.length
 ·refine .inr ⟨⟨xs,xs[i],ht,eF hlt⟩,fun x H3 y=>?_⟩;obtain⟨e1,y⟩:=y;subst e1;have ed:ds[i]?=some ds[i]:=eF (by omega)
  refine step i x _ _ (y xs ht) ed s2 _ fun v H5 s5 a5=>⟨s5 _ _ e2,aP (by omega),xs.length-(i+1),by omega,rfl,hlt,by rw[cB,lv]; rfl,?_,?_,aD⟩
  ·rw[cG ed];have k5:cU H3 (upd H5 acc (.lst (ys++[v]))):=s5.kp.trans (cU.putL (s5 _ _ e2));have hn':=bu.mp hn;exact(aj.kp k5 _ _ (bu.mpr fun d hd=>hn' d (wj hd)) av).snoc (At.kp (cU.putL (s5 _ _ e2)) _ _ (hn' _ (oO _)) a5)
  ·intro b o z;rw[aL (fun e=>by rw[e,hacc] at z; cases z)]
   exact s5 _ _ (s2 _ _ z)
 ·have e:i=xs.length:=by omega
  subst e;rw[show xs.length=ds.length from ld.symm,pX] at av;exact .inl ⟨⟨xs,ht,bD _⟩,fin acc ys H2 hacc s2 e2 av⟩
theorem T4 {K:PySem.W.Frag} {js:List Nat} {d:Addr} {kvs:List (Key×V)} {tl te:TE} {σ:St} {H:Hp} {Q:VK} (ms:List Int) (hl:∀R:VK,R (.ref d) H->tl σ H R) (ha:H d=some (.dK kvs)) (ld:ms.length=kvs.length) (hz:kvs.length<=1000)
  (step:∀(i:Nat) k x m H',kvs[i]?=some (k,x)->ms[i]?=some m->cU H H'->∀R:VK,(∀H5,aM H' H5->R (.int m) H5)->te (some x::bQ js σ) H' R)
  (fin:∀acc H',H acc=none->aM H H'->H' acc=some (.lst (ms.map V.int))->Q (.ref acc) H'):Ut (gG js (Vk K tl) te) σ H Q:=by
 refine hl _ ⟨d,kvs,rfl,ha,fun o acc hacc=>?_⟩;have nd:acc≠d:=fun z=>by rw[z,aD] at hacc; cases hacc
 rw[aL nd] at hacc;refine⟨fun i m ys H2=>m=kvs.length-i/\i<=kvs.length/\ys=(ms.take i).map V.int/\H2 acc=some (.lst ys)/\H2 d=some (.rW o (.dK kvs))/\∀b u,H b=some u->b≠d->H2 b=some u,⟨_,rfl,gm _,rfl,aD,by rw[aL nd.symm,aD],fun b u z n=>by rw[aL (fun e=>by rw[e,hacc] at z; cases z),aL n]; exact z⟩,?_⟩
 rintro i m ys H2 ⟨rfl,hi,rfl,e2,f2,k2⟩;by_cases hlt:i<kvs.length
 ·refine .inr ⟨⟨f2,hlt⟩,fun x H3 y=>?_⟩;obtain⟨e1,k,hx⟩:=y;subst e1;have em:ms[i]?=some ms[i]:=eF (by omega)
  refine step i k x _ _ hx em (fun b xs z=>k2 b _ z fun e=>by rw[e,ha] at z; cases z) _ fun H5 s5=>⟨s5 _ _ e2,aP (by rw[b7,j5]; omega),kvs.length-(i+1),by omega,rfl,hlt,?_,aD,?_,?_⟩
  ·rw[cG em,gq]; rfl
  ·rw[aL nd.symm]; exact s5 _ _ f2
  ·intro b u z n;rw[aL (fun e=>by rw[e,hacc] at z; cases z)]
   exact s5 _ _ (k2 b u z n)
 ·have e:i=kvs.length:=by omega
  subst e;refine .inl ⟨⟨f2,bD _⟩,d,kvs,o,ha,f2,?_⟩;refine fin acc _ hacc (fun b u z=>?_) (by rw[aL nd,e2,<- ld,pX])
  by_cases e:b=d
  ·subst e; rw[aD,<- z,ha]
  ·rw[aL e]; exact k2 b u z e
def Z8:V->List V->Hp->VK->Prop:=fun x xs H Q=>∃(p:Addr) (ns:List Str) (i:Str) (j:Nat),x=.ref p/\H p=some (.lst (ns.map V.str))/\xs=[.str i]/\ns.length<=1000/\ns.Nodup/\ns[j]?=some i/\Q (.int (j:Nat)) H
def Iw (i:Str):Value->Bool
 | .str a _=>decide (a=i)
 | _=>false
theorem En {ns:List Str} (h:ns.Nodup) {i j:Nat} {x:Str} (a:ns[i]?=some x) (b:ns[j]?=some x):i=j:=by
 obtain⟨ha,ea⟩:=i_.mp a;obtain⟨hb,eb⟩:=i_.mp b;rcases Nat.lt_trichotomy i j with c | c | c
 ·exact absurd (ea.trans eb.symm) (List.pairwise_iff_getElem.mp h i j ha hb c)
 ·exact c
 ·exact absurd (eb.trans ea.symm) (List.pairwise_iff_getElem.mp h j i hb ha c)
section
variable {X:Cx}
theorem Hh:YH X "list.index" Z8:=by
 intro pins s σ H x xs v us Q I rx rv h;obtain⟨p,ns,i,j,rfl,hp,rfl,hl,hnd,hj,q⟩:=h;cases rx;obtain⟨u,rfl,tk,rfl⟩:=rv.one;obtain⟨_,its,n,r,e⟩:=I.hok p _ hp
 have back:∀{m:Nat} {u:Value},its[m]?=some u->∃a k,ns[m]?=some a/\u=.str a k:=fun {m u} hm=>by
  obtain⟨x,h1,h2⟩:=J9 r hm;rw[cT] at h1;cases ha:ns[m]? with
  | none=>rw[ha] at h1; cases h1
  | some a=>
   rw[ha] at h1;cases h1;obtain⟨k,rfl⟩:=(h2:∃tk,u=Value.str a tk);exact⟨a,k,rfl,rfl⟩
 have ee:∀y,y∈its.toArray->SeqAt.EqAt X.A.in1 s y (.str i tk) (Iw i y):=fun y hy=>by
  obtain⟨m,hm⟩:=List.mem_iff_getElem?.mp (List.mem_toArray.mp hy);obtain⟨a,k,_,rfl⟩:=back hm;exact SeqAt.EqAt.str_str _ _ _ _
 obtain⟨u,hu,k,rfl⟩:=M9 r (x:=.str i) (by rw[cT,hj]; rfl)
 have hlt:j<its.length:=(i_.mp hu).1;have hlen:its.length=ns.length:=by rw[<- r.length,b7]
 refine call_meets PySem.F.slot_list_index ⟨_,e,rfl⟩ PySem.F.entry_list_index (PySem.F.args_list_index_2 _ _) (SeqAt.list_indexAt p its.toArray n none #[] (.str i tk) (Iw i) j (by simpa using hlt) (by omega) ?_ ?_) ⟨e,ee,?_⟩
 ·have:=(i_.mp hu).2;show Iw i its[j]=true;rw[this];show decide (i=i)=true;simp
 ·intro m hm h;have hm':m<its.length:=by simpa using hm
  obtain⟨a,k2,h1,h2⟩:=back (eF hm');show Iw i its[m]=false;rw[h2];show decide (a=i)=false;refine mH fun z=>?_;subst z;have:=En hnd h1 hj;omega
 ·exact⟨.int (j:Nat),H,I.tok _,⟨_,rfl⟩,q⟩
end
theorem T8 {K:PySem.W.Frag} {g:TG} {js:List Nat} {a:Addr} {xs:List V} {tl te:TE} {tc:TT} {σ:St} {H:Hp} {Q:VK} (ds:List (Option PyData)) (hl:∀R:VK,R (.ref a) H->tl σ H R) (ha:H a=some (.lst xs))
  (ld:ds.length=xs.length) (hz:xs.length<=1000) (hn:∀d,some d∈ds->uf d=true)
  (step:∀(i:Nat) x o H',xs[i]?=some x->ds[i]?=some o->aM H H'->(∀R:St->Hp->Prop,R (some x::bQ js σ) H'->g x (List.replicate 1 none++bQ js σ) H' R)/\(∀R:Bool->Hp->Prop,(∀H5,aM H' H5->R o.isSome H5)->tc (some x::bQ js σ) H' R) /\
   ∀d H4,o=some d->aM H' H4->∀R:VK,(∀v H5,aM H4 H5->At H5 d v->R v H5)->te (some x::bQ js σ) H4 R)
  (fin:∀acc vs H',H acc=none->aM H H'->H' acc=some (.lst vs)->aj H' (ds.filterMap id) vs->Q (.ref acc) H'):fD 1 js (jM K tl) g tc te σ H Q:=by
 refine hl _ ⟨a,rfl,⟨xs,b_.of ha⟩,fun acc hacc=>?_⟩;refine⟨fun i m ys H2=>m=xs.length-i/\i<=xs.length/\ys.length<=i/\aj H2 ((ds.take i).filterMap id) ys/\aM H H2/\H2 acc=some (.lst ys),⟨_,rfl,gm _,bD _,aj.nil,aN hacc _,aD⟩,?_⟩;rintro i m ys H2 ⟨rfl,hi,lv,av,s2,e2⟩;have ht:b_ K H2 a xs:=b_.of (s2 _ _ ha);by_cases hlt:i<xs.length
 ·refine .inr ⟨⟨xs,xs[i],ht,eF hlt⟩,fun x H3 y=>?_⟩;obtain⟨e1,y⟩:=y;subst e1;have ed:ds[i]?=some ds[i]:=eF (by omega)
  obtain⟨g1,g2,g3⟩:=step i x _ _ (y xs ht) ed s2;refine g1 _ ⟨⟨rfl,rfl⟩,g2 _ fun H4 s4=>?_⟩;have kk:∀{G:Hp} {zs:List V},aM H3 G->cU H3 (upd G acc (.lst zs)):=fun s=>s.kp.trans (cU.putL (s _ _ e2))
  have hnn:bK ((ds.take i).filterMap id)=true:=bu.mpr fun d hd=>by
   obtain⟨o,ho,eo⟩:=List.mem_filterMap.mp hd;exact hn d (by cases eo; exact wj ho)
  cases eo:ds[i] with
  | none=>
   rw[aX (by decide)]
   refine⟨xs.length-(i+1),by omega,rfl,hlt,by omega,?_,s2.trans s4,s4 _ _ e2⟩
   rw[cG ed,List.filterMap_append,eo];simpa using av.mono s4
  | some d=>
   rw[bx (by rfl)]
   refine g3 d H4 eo s4 _ fun v H5 s5 a5=>⟨s5 _ _ (s4 _ _ e2),aP (by omega),xs.length-(i+1),by omega,rfl,hlt,by rw[cB]; simp; omega,?_,?_,aD⟩
   ·rw[cG ed,List.filterMap_append,eo];exact(aj.kp (kk (s4.trans s5)) _ _ hnn av).snoc (At.kp (cU.putL (s5 _ _ (s4 _ _ e2))) _ _ (hn d (by rw[<- eo]; exact oO _)) a5)
   ·intro b o z;rw[aL (fun e=>by rw[e,hacc] at z; cases z)]
    exact s5 _ _ (s4 _ _ (s2 _ _ z))
 ·have e:i=xs.length:=by omega
  subst e;rw[show xs.length=ds.length from ld.symm,pX] at av;exact .inl ⟨⟨xs,ht,bD _⟩,fin acc ys H2 hacc s2 e2 av⟩
open SetTable (Probe runEnd leap turns bits)
def adv (m:Nat) (p:Probe):Probe:=
 if p.more>0 then { p with j:=p.j+1,more:=p.more-1 } else
 { p with j:=(leap m p.i p.perturb).1,more:=runEnd m (leap m p.i p.perturb).1-(leap m p.i p.perturb).1,i:=(leap m p.i p.perturb).1,perturb:=(leap m p.i p.perturb).2 }
def itr (m:Nat):Nat->Probe->Probe
 | 0,p=>p
 | n+1,p=>itr m n (adv m p)
structure WP (m:Nat) (p:Probe):Prop where
 i:p.i<=m
 j:p.j+p.more=runEnd m p.i
 q:p.perturb<2 ^ 64
 d:p.dummy=none
 ij:p.i<=p.j
def jmp (m i q:Nat):Probe:={ j:=i,more:=runEnd m i-i,i:=i,perturb:=q,dummy:=none }
def aa4 (xs:Array Nat):Prop:=∀(a b x y:Nat),xs[a]?=some x->xs[b]?=some y->a<b->x<y
end L2
namespace L2
open PySem PySem.Spec PyProof.Rows
open SetTable (Probe runEnd leap turns bits)
def way (m:Nat) (h:Int) (n:Nat):Nat:=(itr m n (jmp m (bits h % (m+1)) (bits h))).j
def Path (m:Nat) (occ:Nat->Prop) (h:Int) (j:Nat):Prop:=∃n,way m h n=j/\∀n',n'<n->occ (way m h n')
structure TbI (t:SetTable) (hs:List Int):Prop where
 dm:t.dummies = #[]
 ri:aa4 t.place
 sz:t.place.size=hs.length
 le:∀i j:Nat,t.place[i]?=some j->j<=t.mask
 pw:∃k,3<=k/\k<=12/\t.mask+1=2 ^ k
 fl:5*hs.length<3*t.mask
 pa:∀(i:Nat) (h:Int) (j:Nat),hs[i]?=some h->t.place[i]?=some j->Path t.mask (fun y=>∃i:Nat,t.place[i]?=some y) h j
structure TbJ (t:SetTable) (hs:List Int):Prop where
 dm:t.dummies = #[]
 ri:aa4 t.place
 sz:t.place.size=hs.length
 le:∀i j:Nat,t.place[i]?=some j->j<=t.mask
 pw:∃k,3<=k/\k<=12/\t.mask+1=2 ^ k
 fl:hs.length<=t.mask
 pa:∀(i:Nat) (h:Int) (j:Nat),hs[i]?=some h->t.place[i]?=some j->Path t.mask (fun y=>∃i:Nat,t.place[i]?=some y) h j
end L2
namespace L2
open PySem PySem.Spec PyProof.Rows
open SetTable (Probe runEnd leap turns bits)
structure OW (m:Nat) (ow:Array (Option Nat)) (hs:List Int):Prop where
 sz:ow.size=m+1
 ct:ow.toList.countP Option.isSome=hs.length
 at_:∀(l:Nat) (h:Int),hs[l]?=some h->∃j,j<=m/\ow[j]?=some (some l)/\Path m (fun y=>∃l,ow[y]?=some (some l)) h j
 lt:∀j l:Nat,ow[j]?=some (some l)->l<hs.length
 inj:∀j j' l:Nat,ow[j]?=some (some l)->ow[j']?=some (some l)->j=j'
theorem getD_none {ow:Array (Option Nat)} {j:Nat} (h:ow.getD j (some 0)=none):ow[j]?=some none:=by
 rw[Array.getD_eq_getD_getElem?] at h;cases e:ow[j]? with
 | none=>rw[e] at h; cases h
 | some o=>rw[e] at h; exact pW some h
end L2
namespace L2
open PySem PySem.Spec PyProof.Rows
open SetTable (Probe runEnd leap turns bits)
section
variable {prog:Program} {w:World} {A:Around} {E:Value->Shared->Prop} {s:Shared}
def skE (x:PyData×Addr):Int×Value:=(Qo x.1,.ref x.2)
structure SkI (h:Heap) (a:Addr) (o:Obj) (es:Array (Int×Value)) (ep:Nat) (t:SetTable) (xs:List (PyData×Addr)):Prop where
 get:h.get? a=some o
 ex:o.ExactSet
 dt:o.data=.set es ep t
 es:es.toList=xs.map skE
 ti:TbI t (xs.map fun x=>Qo x.1)
 nd:(xs.map (·.1)).Nodup
end
end L2
namespace L2
open PySem PySem.Spec PyProof.Rows
open SetTable (Probe runEnd leap turns bits)
section
variable {prog:Program} {w:World} {A:Around} {E:Value->Shared->Prop} {s:Shared}
end
section
variable {X:Cx} {pins:List (Addr×Obj)} {σ:St} {H:Hp} {s:Shared} {a:Addr} {ks:List PyData}
end
end L2
namespace L2
open PySem PySem.Spec PyProof.Rows
section
variable {X:Cx} {pins:List (Addr×Obj)} {σ:St} {H:Hp} {s:Shared} {a:Addr} {ks:List PyData}
end
section
variable {X:Cx}
end
end L2
namespace L2
open PySem PySem.Spec PyProof.Rows PySem.SeqAt
section
variable {A:Around} {s:Shared}
end
section
variable {X:Cx}
end
structure Wt (D M:Nat) (d:PyData):Prop where
 can:d.showable=true
 len:d.shown.length<=M
 dep:d.depth<=D
structure dq (D M:Nat) (ds:List PyData):Prop where
 can:PyData.showableAll ds=true
 len:((PyData.shownAll ds).map (·.length)).sum+2*(PyData.shownAll ds).length<=M
 dep:PyData.depthAll ds<=D
theorem Wt.mono {D D' M M':Nat} {d:PyData} (h:Wt D M d) (h1:D<=D') (h2:M<=M'):Wt D' M' d:=⟨h.can,ik h.len h2,ik h.dep h1⟩
theorem dq.mono {D D' M M':Nat} {d:List PyData} (h:dq D M d) (h1:D<=D') (h2:M<=M'):dq D' M' d:=⟨h.can,ik h.len h2,ik h.dep h1⟩
theorem Ul.wt {b D M:Nat} {d:PyData} (h:Ul b D M d) (hb:b<10 ^ 60):Wt D M d:=by
 obtain⟨h1,h2,h3⟩:=xq hb d h.f;exact⟨h1,ik h3 h.m,h.dp⟩
theorem dq.nil {D:Nat}:dq D 0 []:=⟨rfl,bD _,gm _⟩
theorem dq.cons {D M M':Nat} {d:PyData} {ds:List PyData} (h:Wt D M d) (t:dq D M' ds):dq D (M+2+M') (d::ds):=by
 have h1:=h.len; have h2:=t.len; have h3:=h.dep; have h4:=t.dep;refine⟨?_,?_,?_⟩
 ·simp only[PyData.showableAll,h.can,t.can,Bool.and_self]
 ·simp only[PyData.shownAll,gZ,qP,gw]; omega
 ·simp only[PyData.depthAll]; omega
theorem dq.tup {D M:Nat} {ds:List PyData} (h:dq D M ds):Wt (D+1) (M+3) (.tuple ds):=by
 have h1:=h.len; have h2:=h.dep;refine⟨h.can,?_,?_⟩
 ·have q:=tupleText_len_le (PyData.shownAll ds);show(tupleText (PyData.shownAll ds)).length<=M+3;omega
 ·simp only[PyData.depth]; omega
theorem dq.lst {D M:Nat} {ds:List PyData} (h:dq D M ds):Wt (D+1) (M+3) (.list ds):=by
 have h1:=h.len; have h2:=h.dep;refine⟨h.can,?_,?_⟩
 ·have q:=listText_len_le (PyData.shownAll ds);show(listText (PyData.shownAll ds)).length<=M+3;omega
 ·simp only[PyData.depth]; omega
def nw (H H':Hp):Hp:=fun b=>if H b=none then(match H' b with
 | some (.lst xs)=>if b=sysModules then none else some (.lst xs)
 | o=>o) else none
section
variable {H H':Hp} {b:Addr} {o:HO}
end
section
variable {X:Cx}
end
end L2
namespace L2
open PySem PySem.Spec PyProof.Rows PyProof
section
variable {X:Cx}
theorem iu {k:Nat} (hr:fQ k X.A):cV X (.type "str") (fun vs H Q=>∃(v:V) (ds:List PyData),vs=[v]/\At H (.list ds) v/\Wt 60 sizeLine (.list ds)/\PyData.hasDict (.list ds)=false/\Q (.str (PyData.shown (.list ds))) H):=by
 refine .mk ?_;intro pins s σ H vs us Q I r h;obtain⟨v,ds,rfl,hv,hs,nd,q⟩:=h;obtain⟨u,rfl,ru⟩:=r.one;obtain⟨as,R⟩:=kE I.hok _ _ _ hv ru nd;unfold At at hv;obtain⟨a,xs,e,_⟩:=hv;subst e;cases(show u=Value.ref a from ru);have hu:=hr.units;have hd:=hs.dep;exact str_of_reads R hs.can (fun z=>by rw[nd] at z; cases z) hr.gd (by omega) (fun _ _ e=>e) (fun h' t tk hk=>⟨.str _,H,I.kept (t':=tk) hk,⟨t,rfl⟩,q⟩) hs.len
end
end L2
namespace L2
open PySem
structure Tps (H:Hp) (as:List Addr) (N:Nat):Prop where
 tp:∀a∈as,∃n,n<=N/\Tp H a n
end L2
namespace L2
open PySem
end L2
namespace L2
open PySem PySem.Spec PyProof.Rows
section
variable {X:Cx}
def Z5:List V->Hp->VK->Prop:=fun vs H Q=>∃v d,vs=[v,.ty "list"]/\(∀K,qw K H v (.type (Nk d)))/\Q (.bl (uo d)) H
theorem Et:cV X (.builtin "isinstance") Z5:=by
 refine .mk ?_;intro pins s σ H vs us Q I r h;obtain⟨v,d,rfl,hv,q⟩:=h;obtain⟨u,t,rfl,ru,rt⟩:=r.two;cases(show t=Value.type "list" from rt);exact zT I ru (hv X.K) (BR X.K d) fun tk=>⟨.bl (uo d),H,I.tok tk,rfl,q⟩
end
end L2
namespace L2
open PySem PySem.PyData
def my (x:Str):Prop:=∀c∈x.cps.toList,c<1114112
theorem my.ok {x:Str} (h:my x):PyData.canLay0 (.str x)=true:=by
 show x.cps.all (· < 0x110000)=true;rw[Array.all_eq_true_iff_forall_mem];intro c hc;exact j0 (h c (Array.mem_toList_iff.mpr hc))
theorem my.app {x y:Str} (h:my x) (g:my y):my (x++y):=fun c hc=>by
 rw[PyProof.Rows.cps_toList_append] at hc;rcases eQ.mp hc with h' | h'
 ·exact h c h'
 ·exact g c h'
theorem my.join {s:Str} {ts:List Str} (h:my s) (g:∀t∈ts,my t):my (Str.join s ts):=fun c hc=>by
 rcases(PyProof.Rows.mem_join s c ts).mp hc with⟨t,ht,hc⟩ | ⟨_,hc⟩
 ·exact g t ht c hc
 ·exact h c hc
theorem my.lit {x:Str} (h:(x.cps.toList.all fun c=>decide (c<1114112))=true):my x:=fun c hc=>nF (j4.mp h c hc)
theorem my.int (i:Int):my (PyData.shown (.int i)):=fun c hc=>by
 by_cases hk:c<1114112
 ·exact hk
 ·exact(PyProof.Rows.int_text_free' c (by omega) i hc).elim
theorem v9:∀c:Fin 128,((PySem.Builtin.Str.reprChar 34 c.val).all fun d=>decide (d<1114112))=true/\((PySem.Builtin.Str.reprChar 39 c.val).all fun d=>decide (d<1114112))=true:=by decide +kernel
theorem my.repr {x:Str} (h:∀c∈x.cps.toList,c<128):my (reprText x):=by
 have hq:reprQuote x=34\/reprQuote x=39:=by unfold reprQuote; split <;> simp
 have key:∀(l:List Nat) (out:Array Nat),(∀c∈l,c<128)->(∀c∈out.toList,c<1114112)->∀c∈(l.foldl (fun out c=>out++(PySem.Builtin.Str.reprChar (reprQuote x) c).toArray) out).toList,c<1114112:=by
  intro l
  induction l with
  | nil=>intro out _ ho; exact ho
  | cons d l ih=>
   intro out hl ho;refine ih _ (fun c hc=>hl c (gk _ hc)) fun c hc=>?_;rw[Array.toList_append] at hc;rcases eQ.mp hc with h' | h'
   ·exact ho c h'
   ·have:=v9 ⟨d,hl d (cY ..)⟩;rcases hq with e | e
    ·rw[e] at h'; exact nF (j4.mp this.1 c h')
    ·rw[e] at h'; exact nF (j4.mp this.2 c h')
 intro c hc
 have e:(reprText x).cps.toList=(x.cps.toList.foldl (fun out c=>out++(PySem.Builtin.Str.reprChar (reprQuote x) c).toArray) #[reprQuote x]).toList++[reprQuote x]:=by
  unfold reprText;rw[Array.toList_push,<- Array.foldl_toList]
 rw[e] at hc;have hb:reprQuote x<1114112:=by rcases hq with e | e <;> rw[e] <;> decide
 rcases eQ.mp hc with h' | h'
 ·refine key _ _ h (fun c hc=>?_) c h';have:c=reprQuote x:=by simpa using hc
  omega
 ·rw[dH.mp h']; exact hb
theorem my.tup {ds:List PyData} (h:∀t∈ds.map PyData.shown,my t):my (PyData.shown (.tuple ds)):=by
 show my (tupleText (PyData.shownAll ds));rw[PyProof.Rows.shownAll_eq_map];unfold tupleText;exact((my.lit (by decide +kernel)).app (my.join (my.lit (by decide +kernel)) h)).app (by split <;> exact my.lit (by decide +kernel))
theorem my.lst {ds:List PyData} (h:∀t∈ds.map PyData.shown,my t):my (PyData.shown (.list ds)):=by
 show my (listText (PyData.shownAll ds));rw[PyProof.Rows.shownAll_eq_map,listText_eq_join];exact((my.lit (by decide +kernel)).app (my.join (my.lit (by decide +kernel)) h)).app (my.lit (by decide +kernel))
end L2
namespace L2
open PySem PySem.Spec PyProof.Rows PySem.Builtin PySem.Builtin.ObjectAttr
section
variable {prog:Program} {w:World} {A:Around} {E:Value->Shared->Prop} {h:Heap} {g:Array GenState} {d:Drawn} {t:Nat} {os:OsState}
variable {nm q:Str} {C N:Addr} {bs bm bmB:List Value} {hdct:Bool} {sn:List Str} {sub:List Value} {ab:Bool} {col:Option Bool} {dd:Option Addr} {k0 k1 k2 k3 k5:Option Value} {B Bn newId nid initId inN:String} {bmN:List Value}
end
section
variable {prog:Program} {w:World} {A:Around} {E:Value->Shared->Prop} {h:Heap} {g:Array GenState} {d:Drawn} {t:Nat} {os:OsState}
variable {nm q:Str} {C N x HE:Addr} {bs bm:List Value} {sn:List Str} {sub:List Value} {ab:Bool} {col:Option Bool} {dd:Option Addr} {k0 k1 k2 k3 k5:Option Value} {newId:String} {name:Str} {v:Value} {K:PySem.W.Frag}
structure abU (h h':Heap) (x:Addr) (o:Obj) (dx:Addr) (name:Str) (v:Value):Prop where
 at_:h'.get? x=some { o with dict:=some dx }
 new:h.get? dx=none
 ns:h'.Ns1 dx (fun y=>if y=name then some v else none)
 keep:∀b u,b≠x->h.get? b=some u->h'.get? b=some u
end
end L2
namespace L2
open PySem PySem.Spec PyProof.Rows PySem.Builtin PySem.Builtin.ObjectAttr
structure ExS (K:PySem.W.Frag) (C HE:Addr) (f:Str):Prop where
 ob:∃nm q N bs sn sub ab col dd k0 k1 k2 k3 k5,K.lookup C=some (excClassObj nm q C N bs (.ref HE::veM) true sn sub ab col dd k0 k1 k2 k3 k5 "ValueError.__new__")
 he:PySem.W.excIn K HE veM "ValueError.__new__" = true
 sa:PySem.W.findIn K (.ref C) "__setattr__" = some (some (.builtin "object.__setattr__"))
 nf:PySem.W.findIn K (.ref C) f=some none
structure ExM (K:PySem.W.Frag) (C HE f:Addr) (fl:Str):Prop where
 s:ExS K C HE fl
 init:PySem.W.findIn K (.ref C) "__init__" = some (some (.ref f))
 own:∃N,(PySem.W.clsIn K C).map (·.ns)=some N/\PySem.W.nsIn K N "__init__" = some (some (.ref f))/\PySem.W.nsOkIn K N=true
 fn:PySem.W.isFn K (.ref f)=true
 kp:PySem.W.keepIn K (.ref C)=true
section
variable {X:Cx} {C HE:Addr} {fl x:Str} {o value:Expr} {ta tv:TE} {pos pos' p:Pos}
end
section
variable {prog:Program} {w:World} {A:Around} {E:Value->Shared->Prop} {s:Shared} {K:PySem.W.Frag} {x D:Addr} {ox:Obj} {od:Option Obj}
structure ExR (K:PySem.W.Frag) (D:Addr):Prop where
 ga:PySem.W.findIn K (.ref D) "__getattribute__" = some (some (.builtin "BaseException.__getattribute__"))
 gt:PySem.W.findIn K (.ref D) "__getattr__" = some none
 fo:∀od,PySem.W.findObj K D od "__class__" = some (.bind (.builtin "getset_descriptor.__get__") (.builtin "object.__class__"))
 sb:PySem.W.subIn K (.ref D) (.type "BaseException")=some true
 ob:PySem.W.mroIn K D (.type "object")=some true
 cl:(PySem.W.clsIn K D).isSome=true
 hd:PySem.W.hasDictIn K D=true
end
section
variable {X:Cx} {pins:List (Addr×Obj)} {σ:St} {H:Hp} {s:Shared} {a C:Addr} {f:Str} {v:V}
end
structure CtX (P:Program) (w:World) (K:PySem.W.Frag) (mg:Str->Option Value) (base:Heap) (k:Nat) (C:Addr) (x:Str) (ps:List Str) (sp:Sp) where
 f:Addr
 fd:FuncData
 j:Nat
 hj:j+1<=k
 HE:Addr
 fl:Str
 G:bJ P w K mg base gD j f fd ps sp
 M:ExM K C HE f fl
 b:Binds K fd ps []
 m:mg x=some (.ref C)
section
variable {K:PySem.W.Frag} {C HE f:Addr} {fl:Str}
abbrev FnM (K:PySem.W.Frag) (x qual:Str) (st:Stmt) (f:Addr):Prop:=∃(oc:Value) (od an:Option Addr) (sl:Array (Option Value)) (kV dc pm cd ct:Value),K.lookup f=some ⟨oc,od,.func (PySem.W.fnOf x qual (cz st) (bV st) (aG st) .none kV dc pm an cd ct),sl⟩/\PySem.W.codeIn K cd qual=true/\PySem.W.keepIn K (.ref f)=true
end
end L2
namespace L2
open PySem PySem.Spec PyProof.Rows
structure FQ (K:PySem.W.Frag) (C:Addr) (m qual:Str) (st:Stmt) (f:Addr):Prop where
 me:Meth K C m f
 fn:FnM K m qual st f
theorem FQ.mk' {K:PySem.W.Frag} {C:Addr} {m qual:Str} {st:Stmt} {f:Addr} {oc:Value} {od an:Option Addr} {sl:Array (Option Value)} {kV dc pm cd ct:Value} (a:PySem.W.findIn K (.ref C) m=some (some (.ref f))) (i:PySem.W.isFn K (.ref f)=true) (l:K.lookup f=some ⟨oc,od,.func (PySem.W.fnOf m qual (cz st) (bV st) (aG st) .none kV dc pm an cd ct),sl⟩) (c:PySem.W.codeIn K cd qual=true) (k:PySem.W.keepIn K (.ref f)=true):FQ K C m qual st f:=⟨⟨a,i,k⟩,⟨oc,od,an,sl,kV,dc,pm,cd,ct,l,c,k⟩⟩
structure Yh (K:PySem.W.Frag) (C:Addr) (m qual:Str) (st:Stmt) (ps:List Str) where
 f:Addr
 fd:FuncData
 F:iM K m qual st f fd
 b:Binds K fd ps []
 M:Meth K C m f
section
variable {K:PySem.W.Frag} {h:Heap} {mg:Str->Option Value} {C:Addr}
theorem FQ.has {m qual:Str} {st:Stmt} {f:Addr} (e:FQ K C m qual st f) {ps:List Str} (H:∀(kV doc pm:Value) (an:Option Addr) (cdv ct:Value) (us:List Value),us.length=ps.length->bindArgs (PySem.W.fnOf m qual (cz st) (bV st) (aG st) .none kV doc pm an cdv ct) ⟨us,[]⟩=pure (ps.zip us)):Nonempty (Yh K C m qual st ps):=by
 obtain⟨M,oc,od,an,sl,kV,dc,pm,cd,ct,l,c,k⟩:=e;have F:=Hw (st:=st) l c k;exact⟨⟨_,_,F,F.binds H,M⟩⟩
def Yh.ct {m qual:Str} {st:Stmt} {ps:List Str} {k:Nat} {sp:Sp} (h:Yh K C m qual st ps) (c:Fw K C) (P:Program) (w:World) (base:Heap) (G:bJ P w K mg base gD k h.f h.fd ps sp):ux P w K mg base k C m ps sp:=⟨h.f,h.fd,G,h.M,c,h.b⟩
theorem VB.ns {x:Str} {st:Stmt} {f T:Addr} {i:Int} (e:VB K x st f T i):PySem.W.nsIn K mainGlobals x=some (some (.ref f)):=by
 obtain⟨_,_,_,_,_,_,_,_,_,_,_,_,_,_,a,_⟩:=e;exact a
structure YS (K:PySem.W.Frag) (x qual:Str) (st:Stmt) (C:Addr):Prop where
 ns:PySem.W.nsIn K mainGlobals x=some (some (.ref C))
 c:Fw K C
 init:∃f,Mk K C f/\∃(oc oT:Value) (od an dT:Option Addr) (sl sT:Array (Option Value)) (kV dc pm cd ct:Value) (T:Addr) (nT:Nat),K.lookup f=some ⟨oc,od,.func (PySem.W.fnOf "__init__" qual (cz st) (bV st) (aG st) (.ref T) kV dc pm an cd ct),sl⟩/\PySem.W.codeIn K cd qual=true/\PySem.W.keepIn K (.ref f)=true/\K.lookup T=some ⟨oT,dT,.seq #[.none] nT,sT⟩
theorem YS.mk' {x qual:Str} {st:Stmt} {f T:Addr} {oc oT:Value} {od an dT:Option Addr} {sl sT:Array (Option Value)} {kV dc pm cd ct:Value} {nT:Nat} (a:PySem.W.nsIn K mainGlobals x=some (some (.ref C))) (a1:PySem.W.findIn K (.ref C) "__init__" = some (some (.ref f))) (i:PySem.W.isFn K (.ref f)=true)
  (l:K.lookup f=some ⟨oc,od,.func (PySem.W.fnOf "__init__" qual (cz st) (bV st) (aG st) (.ref T) kV dc pm an cd ct),sl⟩) (c:PySem.W.codeIn K cd qual=true) (k:PySem.W.keepIn K (.ref f)=true) (e:K.lookup T=some ⟨oT,dT,.seq #[.none] nT,sT⟩)
  (pg:PySem.W.plainGet K C Str.empty=true) (hd:PySem.W.hasDictIn K C=true) (po:PySem.W.plainOver K C=true) (sa:PySem.W.findIn K (.ref C) "__setattr__" = some (some (.builtin "object.__setattr__"))) (mk:PySem.W.makesIn K C=true) (kc:PySem.W.keepIn K (.ref C)=true):YS K x qual st C:=
 ⟨a,⟨pg,hd,po,sa⟩,f,⟨mk,a1,i,kc⟩,oc,oT,od,an,dT,sl,sT,kV,dc,pm,cd,ct,T,nT,l,c,k,e⟩
structure Yj (K:PySem.W.Frag) (mg:Str->Option Value) (x qual:Str) (st:Stmt) (ps:List Str) (C:Addr) where
 f:Addr
 fd:FuncData
 T:Addr
 F:Ih K "__init__" qual st f fd T
 b:Binds K fd ps []
 bd:Binds K fd ps [.none]
 M:Mk K C f
 m:mg x=some (.ref C)
theorem YS.has {x qual:Str} {st:Stmt} (e:YS K x qual st C) (X:K.In h) (G:h.Ns mainGlobals mg) {ps:List Str}
  (H:∀(T:Addr) (kV doc pm:Value) (an:Option Addr) (cdv ct:Value) (us:List Value),(us++[]).length=ps.length->∃k,bindArgs (PySem.W.fnOf "__init__" qual (cz st) (bV st) (aG st) (.ref T) kV doc pm an cdv ct) ⟨us,[]⟩=seqItems? (.ref T) >>= k/\k (some #[.none])=pure (ps.zip (us++[])))
  (H':∀(T:Addr) (kV doc pm:Value) (an:Option Addr) (cdv ct:Value) (us:List Value),(us++[Value.none]).length=ps.length->∃k,bindArgs (PySem.W.fnOf "__init__" qual (cz st) (bV st) (aG st) (.ref T) kV doc pm an cdv ct) ⟨us,[]⟩=seqItems? (.ref T) >>= k/\k (some #[.none])=pure (ps.zip (us++[.none]))):Nonempty (Yj K mg x qual st ps C):=by
 obtain⟨a,cl,f,M,oc,oT,od,an,dT,sl,sT,kV,dc,pm,cd,ct,T,nT,l,c,k,e⟩:=e;have F:Ih K "__init__" qual st f _ T:=⟨⟨_,_,_,_,_,_,_,_,_,rfl,l,c⟩,k,⟨_,_,e,rfl⟩⟩;exact⟨⟨_,_,_,F,F.binds (H T),F.binds (H' T),M,PySem.W.mg_of X G a⟩⟩
def Yj.ctE {x qual:Str} {st:Stmt} {ps:List Str} {k:Nat} {sp:Sp} (h:Yj K mg x qual st ps C) (P:Program) (w:World) (base:Heap) (G:bJ P w K mg base (Q7 P w) k h.f h.fd ps sp):Ym P w K mg base (k+1) C x ps sp:=⟨h.f,h.fd,k,bD _,G,h.M,h.b,h.bd,h.m⟩
end
end L2
namespace K36
open PySem L2
def top (i:Nat):Stmt:=PySem.Challenge.pw_waithands_k36_what_beats_told.main.body.getD i (.Pass ⟨0,0,0,0⟩)
abbrev sX:Stmt:=top 9
abbrev Gw:Stmt:=top 11
abbrev nC:Stmt:=top 12
abbrev pO:Stmt:=top 13
abbrev jU:Stmt:=top 16
abbrev pR:Stmt:=top 17
abbrev Gx:Stmt:=top 19
abbrev ie:Stmt:=top 21
abbrev nD:Stmt:=top 22
abbrev jT:Stmt:=top 23
abbrev nq:Stmt:=top 24
abbrev jV:Stmt:=top 32
abbrev jW:Stmt:=top 33
abbrev jh:Stmt:=top 34
abbrev jg:Stmt:=top 35
abbrev vQ:Stmt:=top 37
abbrev vU:Stmt:=top 38
abbrev sE:Stmt:=top 39
abbrev A_:Stmt:=top 40
abbrev sS:Stmt:=top 41
abbrev vR:Stmt:=top 42
abbrev jf:Stmt:=top 43
abbrev sH:Stmt:=top 44
abbrev sU:Stmt:=top 45
abbrev vP:Stmt:=top 46
abbrev pQ:Stmt:=top 47
abbrev sV:Stmt:=top 48
abbrev qM:Stmt:=top 49
abbrev sO:Stmt:=top 50
abbrev sW:Stmt:=top 51
abbrev vV:Stmt:=top 52
abbrev pP:Stmt:=top 53
abbrev vO:Stmt:=top 54
abbrev ig:Stmt:=inClass (top 31) 0
abbrev lF:Stmt:=inClass (top 31) 1
abbrev gH:Stmt:=inClass (top 31) 2
abbrev fX:Stmt:=inClass (top 31) 3
abbrev jX:Stmt:=inClass (top 31) 4
abbrev lD:Stmt:=inClass (top 31) 5
abbrev ji:Stmt:=inClass (top 31) 8
abbrev jY:Stmt:=inClass (top 31) 9
abbrev jZ:Stmt:=inClass (top 31) 10
abbrev jj:Stmt:=inClass (top 31) 11
abbrev lE:Stmt:=inClass (top 31) 12
abbrev lC:Stmt:=inClass (top 31) 14
structure Bi (mg:Str->Option Value):Prop where
 all:mg "all" = none
 isinstance:mg "isinstance" = none
 str:mg "str" = none
 len:mg "len" = none
 max:mg "max" = none
 min:mg "min" = none
 sum:mg "sum" = none
 list:mg "list" = none
 reversed:mg "reversed" = none
 range:mg "range" = none
 tuple:mg "tuple" = none
 enumerate:mg "enumerate" = none
 set:mg "set" = none
 abs:mg "abs" = none
 int:mg "int" = none
 bool:mg "bool" = none
 zip:mg "zip" = none
 any:mg "any" = none
 dict:mg "dict" = none
structure Co (K:PySem.W.Frag) (mg:Str->Option Value):Prop where
 aa1:GT2 K mg "WHATS" Uq
 OVER:Gs mg "OVER" "over"
 UNDER:Gs mg "UNDER" "under"
 EACH:Gs mg "EACH" "each"
 LETTERS:Gs mg "LETTERS" "abcdefghijklmnopqrstuvwxyz"
 CQ:Gi mg "MOST_LETTERS" 8
 Ig:Gi mg "MOST_HANDS" 12
 CN:Gi mg "TRIPLES_SEEN" 3
 Ie:Gi mg "MOST_POSTS" 5
local macro_rules | `(tactic| walk_at "o")=>`(tactic| first | exact Or.inl rfl | exact Or.inr rfl)
local macro_rules | `(tactic| walk_at "c")=>`(tactic| exact⟨rfl,rfl,rfl,by decide +kernel,rfl,by decide +kernel,by decide +kernel⟩)
local macro_rules | `(tactic| walk_at "rd")=>`(tactic| simp only[L2.start,gZ,zq,gw,uD,Nat.reduceAdd,Nat.reduceSub,List.replicate,List.cons_append,Kv,uA,
 uy,RC,Zk,Zj,Ux,Av,fU,UG,RN,RM,Oq,RV,if_true,if_false,GD,Bool.not_true,Bool.not_false,RT,RQ,Wm,Wj,Wl,Wi,RW,RX,Ot,RP,Wk,ZX,tC,RB,tUn,RZ,rI,rU,Nt,Zw,tOr,Zo,UL,ach,Uw,Zr,mX,Yp,ph,Ar,tB,Ny,tSl,Ip,Uu,aaI,Zm,Zq,V2,Uz,Us,tBM,Zu,Zv,Uv,UJ,ipI,Uy,Zt,tFv,tJs,tJ1,tJ0,acg,V6,V3,xPe,Zf,xIf,ab6,Zd,ab_,xPs,ab7,ab9,ab5,Ze,ab8,Z1,Z3,V5,Wg,Dh,V4,Nu,U7,Dj])
section
variable {P:Program} {w:World} {K:PySem.W.Frag} {mg:Str->Option Value} {base:Heap} {f:Addr} {fd:FuncData} {k:Nat}
theorem Ef {X:Cx}:mL X (binaryOp .FloorDiv) (rI (fun _ j=>0<j/\j<10 ^ 60) fun i j=>.int (i / j)):=opI fun i j _ _ _ _ _ hc q=>by
 have h1:(0:Int)<j:=hc.1;have h2:j<10 ^ 60:=hc.2;refine PyProof.Rows.floordiv_int (by omega) (by rw[Int.fdiv_eq_ediv_of_nonneg i (by omega)]; exact q) (.inl (PyProof.noPylong_of_log2 ?_))
 have:j.natAbs<10 ^ 60:=by omega
 by_cases z:j.natAbs=0
 ·omega
 ·have h3:j.natAbs<2 ^ 1000:=zu this (by decide +kernel)
  have:=(Nat.log2_lt z).mpr h3;omega
structure kh where
 w:Str
 s:Nat
 g:Str
 n:Int
 t:Int
def Ba (r:kh):PyData:=.tuple [.str r.w,.int r.s,.str r.g,.int r.n,.int r.t]
def vY (rs:List kh):PyData:=.tuple (rs.map Ba)
def vW (dR:List (List kh)):PyData:=.tuple (dR.map vY)
structure xO (r:kh):Prop where
 w:r.w∈(["come","done","wait"]:List Str)
 s:1<=r.s/\r.s<=4
 n:0<=r.n/\r.n<=1000000000000
 e:r.g = "each" -> 1<=r.n
def jR (l:List Int):PyData:=.tuple (l.map .int)
def Gj (fC:List (List Int)):PyData:=.tuple (fC.map jR)
structure qy (fC:List (List Int)):Prop where
 n:fC.length=4
 l:∀x∈fC,x.length=3
def yQ (w:Str) (s:Nat) (fC:List (List Int)):Int:=((fC.take s).map fun l=>l.getD (jQ w) 0).sum
def says (r:kh) (h:Int) (fC:List (List Int)):Option Int:=
 if r.g = "each" then some ((yQ r.w r.s fC+r.n*r.s-1) / (r.n*r.s))
 else if(r.g = "over" /\ yQ r.w r.s fC>r.n*r.s)\/(r.g = "under" /\ yQ r.w r.s fC<r.n*r.s) then some (h+r.t) else none
def U6:Option Int->V
 | none=>.non
 | some i=>.int i
def mq (h:Int) (fC:List (List Int)):List kh->Int
 | []=>h
 | r::rs=>match says r h fC with
  | some i=>i
  | none=>mq h fC rs
def topOf (h:Int):List Int->Int
 | []=>h
 | b::r=>oU b r
def yL (dR:List (List kh)) (l m h:Int) (fC:List (List Int)):Int:=
 let x:=topOf h (dR.map (mq h fC))
 let y:=if l>x then l else x
 if m<y then m else y
theorem J8 (w:Str):jQ w<3:=by
 unfold jQ;split
 ·decide
 ·split <;> decide
theorem bw {H:Hp} {ds:List PyData} {v:V} (h:At H (.tuple ds) v):∃a xs,v=.ref a/\H a=some (.tup xs)/\aj H ds xs:=by unfold At at h; exact h
theorem aj.aO {H:Hp} {d:PyData} {ds:List PyData} {xs:List V} (h:aj H (d::ds) xs):∃x r,xs=x::r/\At H d x/\aj H ds r:=by unfold aj at h; exact h
theorem aj.h_ {H:Hp} {xs:List V} (h:aj H [] xs):xs=[]:=by unfold aj at h; exact h
theorem cN {G:Hp}:∀{cs:List Int} {xs:List V},aj G (cs.map PyData.int) xs->xs=cs.map V.int
 | [],xs,h=>by unfold aj at h; exact h
 | c::cs,xs,h=>by
  obtain⟨x,r,rfl,h1,h2⟩:=aj.aO h;unfold At at h1;rw[h1,cN h2]; rfl
theorem dh {H:Hp}:∀cs:List Int,aj H (cs.map .int) (cs.map V.int)
 | []=>aj.nil
 | c::cs=>aj.cons (At.int c) (dh cs)
theorem row_shape {H:Hp} {r:kh} {v:V} (h:At H (Ba r) v):∃a,v=.ref a/\H a=some (.tup [.str r.w,.int r.s,.str r.g,.int r.n,.int r.t]):=by
 obtain⟨a,xs,rfl,h1,h2⟩:=bw h;obtain⟨x1,_,rfl,a1,h2⟩:=aj.aO h2;obtain⟨x2,_,rfl,a2,h2⟩:=aj.aO h2;obtain⟨x3,_,rfl,a3,h2⟩:=aj.aO h2;obtain⟨x4,_,rfl,a4,h2⟩:=aj.aO h2;obtain⟨x5,_,rfl,a5,h2⟩:=aj.aO h2;cases aj.h_ h2;unfold At at a1 a2 a3 a4 a5;subst a1 a2 a3 a4 a5;exact⟨a,rfl,h1⟩
theorem J0 {K:PySem.W.Frag} {js:List Nat} {a:Addr} {xs:List V} {ds:List PyData} {f:Nat->Int} {tl te:TE} {σ:St} {H:Hp} {Q:VK} (hl:∀R:VK,R (.ref a) H->tl σ H R) (ha:H a=some (.tup xs)) (hd:aj H ds xs) (hz:ds.length<=sizeLine)
  (step:∀(i:Nat) x d H',aM H H'->ds[i]?=some d->At H' d x->∀R:VK,(∀cQ,aM H' cQ->R (.int (f i)) cQ)->te (some x::bQ js σ) H' R)
  (fin:∀acc H',aM H H'->H' acc=some (.lst (((List.range ds.length).map f).map V.int))->Q (.ref acc) H'):gG js (Eu K tl) te σ H Q:=by
 refine hl _ ⟨a,rfl,⟨xs,e_.of ha⟩,fun acc hacc=>?_⟩;have hlen:=hd.length;refine⟨fun i m ys H2=>m=ds.length-i/\i<=ds.length/\ys=((List.range i).map f).map V.int/\aM H H2/\H2 acc=some (.lst ys),⟨_,rfl,gm _,rfl,aN hacc _,aD⟩,?_⟩;rintro i m ys H2 ⟨rfl,hi,rfl,sm,hy⟩;have ht:e_ K H2 a xs:=e_.of (sm _ _ ha);by_cases hlt:i<ds.length
 ·refine .inr ⟨⟨xs,xs[i]'(by omega),ht,eF (by omega)⟩,fun x H3 y=>?_⟩
  obtain⟨e,y⟩:=y;subst e;obtain⟨d,e1,e2⟩:=hd.get (y xs ht);refine step i x d _ sm e1 (e2.mono sm) _ fun H4 s4=>⟨s4 _ _ hy,?_,ds.length-(i+1),by omega,rfl,hlt,?_,?_,aD⟩
  ·rw[b7,b7,List.length_range]; omega
  ·rw[List.range_succ]; simp
  ·refine fun b o q=>?_;have nb:b≠acc:=cH q hacc;rw[aL nb];exact s4 _ _ (sm _ _ q)
 ·have e:i=ds.length:=by omega
  subst e;exact .inl ⟨⟨xs,ht,by omega⟩,fin _ _ sm hy⟩
def CT (K:PySem.W.Frag) (js:List Nat) (te:TE) (σ:St) (Q:VK) (x:V) (H1:Hp):Prop:=gG js (Eu K (fun _ H R=>R x H)) te σ H1 Q
theorem yS {K:PySem.W.Frag} {js:List Nat} {tl te:TE} {σ:St} {H:Hp} {Q:VK}:gG js (Eu K tl) te σ H Q=tl σ H (CT K js te σ Q):=rfl
def Gr:Sp:=fun vs H Q _=>∃(v u:V) (h:Int) (r:kh) (fC:List (List Int)),vs=[v,.int h,u]/\At H (Ba r) v/\At H (Gj fC) u/\xO r/\qy fC/\∀H',aM H H'->Q (U6 (says r h fC)) H'
theorem ad7.of {v u:V} {h:Int} {r:kh} {fC:List (List Int)} {H:Hp} {Q:VK} {E:XK} (a1:At H (Ba r) v) (a2:At H (Gj fC) u) (h1:xO r) (h2:qy fC) (q:∀H',aM H H'->Q (U6 (says r h fC)) H'):Gr ([v,.int h,u]++[]) H Q E:=⟨v,u,h,r,fC,rfl,a1,a2,h1,h2,q⟩
theorem xQ {fC:List (List Int)} {w:Str} {s:Nat}:((List.range (fC.take s).length).map fun i=>((fC.take s).getD i []).getD (jQ w) 0).sum=yQ w s fC:=by
 unfold yQ
 congr 1
 generalize fC.take s=l
 apply List.ext_getElem
 ·simp
 ·intro i h1 h2;simp at h1 h2;simp[jD,h2]
theorem tY:aV ["row","hands","newest","what","span","sign","number","step","place","total","mark"] ["row","hands","newest"] (aG pO):=(by walk_at "c")
theorem Eg (F:iM K "row_says" "row_says" pO f fd) (B:Bi mg) (O:Co K mg):bJ P w K mg base gD (k+1) f fd ["row","hands","newest"] Gr:=by
 refine F.ok tY (by rintro vs H Q E ⟨v,u,h,r,fC,rfl,_⟩; rfl) (fun cdv A outer s H vs Q E hr h=>?_)
 obtain⟨v,u,h,r,fC,rfl,a1,a2,hR,hN,q⟩:=h;have ND:=tY.nd;refine⟨_,(aq (eX (pv 0) (bT (K:=K) (n:=5) rfl rfl (aJ (aH (i:=3) ND rfl (by walk_at "o")) (aJ (aH (i:=4) ND rfl (by walk_at "o")) (aJ (aH (i:=5) ND rfl (by walk_at "o")) (aJ (aH (i:=6) ND rfl (by walk_at "o")) (aJ (aH (i:=7) ND rfl (by walk_at "o")) bR))))))) (aq (aU (i:=8) ND rfl (by walk_at "o") (d7 (K:=K) rfl PySem.F.plainAttrs_tuple PySem.F.slot_tuple_index PySem.F.type_tuple_index (Li (K:=K) rfl) (R_ (K:=K) rfl O.aa1) (ao (pv 3) ak))) (aq (aU (i:=9) ND rfl (by walk_at "o") (pb (fM rfl) B.sum lW (ao (dG (N':=["triple","place"]) (js:=[8]) rfl (qY (K:=K) rfl (cZ jH (pv 2) fB (fu (pv 4)))) rT.mk1 rfl (by decide) rfl (fun fp s' H'=>(bz bj (pv 0) (pv 1) (fun _ _=>rfl)))) ak))) (aq (aU (i:=10) ND rfl (by walk_at "o") (aQ j7 (pv 6) (pv 4))) (aq (cL (bh gC (pv 5) (Bk O.EACH) (bf _)) (aF (a_ (aQ Ef (aQ j6 (aQ bB (pv 9) (pv 10)) aC) (pv 10)))) bH) (aq (cL (PW.pt (qU (PW.pt (Bf (bh gC (pv 5) (Bk O.OVER) (bf _)) (uY (bh zO (pv 9) (pv 10) (bf _))))) (lH (PW.pt (Bf (bh gC (pv 5) (Bk O.UNDER) (bf _)) (uY (bh wG (pv 9) (pv 10) (bf _)))))))) (aF (a_ (aQ bB (pv 1) (pv 7)))) bH) (aF (a_ fZ)))))))),?_⟩
 obtain⟨a,rfl,h1⟩:=row_shape a1;obtain⟨b,xs,rfl,h2,h3⟩:=bw a2;walk_at "rd";refine⟨a,_,rfl,e_.of h1,rfl,?_⟩;walk_at "rd";intro aw ho hw;refine⟨.inr (.inl ⟨rfl,ho⟩),aw,r.w,rfl,hw _,rfl,hR.w,?_⟩;show gG _ _ _ _ _ _;rw[yS];walk_at "rd";refine⟨b,xs,rfl,h2,fun p H1 s1 e1=>?_⟩;rw[Ci (by omega),tu] at e1
 have h3':aj H1 ((fC.take r.s).map jR) (xs.take r.s):=by rw[List.map_take]; exact(h3.take r.s).mono s1
 have hs4:=hR.s;have htl:(fC.take r.s).length<=4:=by rw[j5]; omega
 refine J0 (a:=p) (f:=fun i=>((fC.take r.s).getD i []).getD (jQ r.w) 0) (fun R hR=>hR) e1 h3' (mF (aP (by rw[b7]; omega))) (fun i x d H' s' ed hx R hR'=>?_) (fun acc H' s' hl=>?_)
 ·rw[cT] at ed;obtain⟨l,el,rfl⟩:=Jm.mp ed;have l3:l.length=3:=hN.l l (wj (dz el));obtain⟨c,ys,rfl,g1,g2⟩:=bw hx;cases cN g2;show RB _ _ _ [some _,some (.int (jQ r.w:Nat))] H' R;walk_at "rd";have hw:=J8 r.w;refine Ix.tup g1 (v:=.int (l.getD (jQ r.w) 0)) (aY (by rw[cT,eF (by omega),jD,eF (by omega)]; rfl)) ?_
  have:=hR' H' (aM.refl H');have eg:(fC.take r.s).getD i []=l:=by rw[jD,el]; rfl
  rw[eg] at this;exact this
 ·have sm:=s1.trans s';rw[b7] at hl;refine⟨acc,_,rfl,.inl hl,.inl (by have:=hR.n; omega),?_⟩
  rw[xQ];have q1:=q H' sm;unfold says at q1;refine cR (fun c1=>?_) (fun c1=>?_)
  ·have c1':=nF c1;rw[bx c1'] at q1;have h1n:=hR.e c1';have hpos:0<r.n*(r.s:Int):=Int.mul_pos (by omega) (by omega)
   have hup:r.n*(r.s:Int)<=1000000000000*4:=Int.mul_le_mul hR.n.2 (by omega) (by omega) (by decide)
   exact⟨⟨hpos,Int.lt_of_le_of_lt hup (by decide)⟩,q1⟩
  ·have c1':=Ky c1;rw[aX c1'] at q1;generalize yQ r.w r.s fC=tot at q1 ⊢;generalize r.n*(r.s:Int)=mark at q1 ⊢;by_cases o1:r.g = "over"
   ·have u1:¬r.g = "under" := by rw[o1]; decide +kernel
    rw[j0 o1,bx rfl];by_cases o2:mark<tot
    ·rw[j0 o2,bx rfl];rw[bx (.inl ⟨o1,o2⟩)] at q1; exact q1
    ·rw[mH o2,aX (by decide),mH u1,aX (by decide)]
     rw[aX (fun z=>by rcases z with z | z; exact o2 z.2; exact u1 z.1)] at q1; exact q1
   ·rw[mH o1,aX (by decide)]
    by_cases u1:r.g = "under"
    ·rw[j0 u1,bx rfl];by_cases o2:tot<mark
     ·rw[j0 o2,bx rfl];rw[bx (.inr ⟨u1,o2⟩)] at q1; exact q1
     ·rw[mH o2,aX (by decide)]
      rw[aX (fun z=>by rcases z with z | z; exact o1 z.1; exact o2 z.2)] at q1; exact q1
    ·rw[mH u1,aX (by decide)]
     rw[aX (fun z=>by rcases z with z | z; exact o1 z.1; exact u1 z.1)] at q1; exact q1
def Wb:Sp:=fun vs H Q _=>∃(v u:V) (h:Int) (rs:List kh) (fC:List (List Int)),vs=[v,.int h,u]/\At H (vY rs) v/\At H (Gj fC) u/\(∀r∈rs,xO r)/\qy fC/\∀H',aM H H'->Q (.int (mq h fC rs)) H'
theorem Rw.of {v u:V} {h:Int} {rs:List kh} {fC:List (List Int)} {H:Hp} {Q:VK} {E:XK} (a1:At H (vY rs) v) (a2:At H (Gj fC) u) (h1:∀r∈rs,xO r) (h2:qy fC) (q:∀H',aM H H'->Q (.int (mq h fC rs)) H'):Wb ([v,.int h,u]++[]) H Q E:=⟨v,u,h,rs,fC,rfl,a1,a2,h1,h2,q⟩
theorem qK:aV ["rule","hands","newest","row","said"] ["rule","hands","newest"] (aG nC):=(by walk_at "c")
theorem Bq (F:iM K "rule_wish" "rule_wish" nC f fd) (qp:Ct P w K mg base k "row_says" ["row","hands","newest"] Gr):bJ P w K mg base gD (k+1) f fd ["rule","hands","newest"] Wb:=by
 refine F.ok qK (by rintro vs H Q E ⟨v,u,h,r,fC,rfl,_⟩; rfl) (fun cdv A outer s H vs Q E hr h=>?_)
 obtain⟨v,u,h,rs,fC,rfl,a1,a2,hR,hN,q⟩:=h;have ND:=qK.nd;refine⟨_,(aq (gK PassesOwn.never rfl (qY (K:=K) rfl (pv 0)) (aH (i:=3) ND rfl (by walk_at "o")) (aq (aU (i:=4) ND rfl (by walk_at "o") (pf qp hr (ao (pv 3) (ao (pv 1) (ao (pv 2) ak))))) (aF (cL (bh uZ (pv 4) fZ (bf _)) (aF (a_ (pv 4))) bH)))) (aF (a_ (pv 1)))),?_⟩
 obtain⟨a,xs,rfl,h1,h2⟩:=bw a1;have hlen:=h2.length;rw[b7] at hlen;walk_at "rd";rw[Di];walk_at "rd";refine TK.of h1 (fun n σ H'=>∃o1 o2,σ=[some (.ref a),some (.int h),some u,o1,o2]/\aM H H'/\mq h fC (rs.drop n)=mq h fC rs) ⟨_,_,rfl,aM.refl H,rfl⟩ (fun n σ H' _ ⟨o1,o2,_,sm,_⟩=>sm _ _ h1) ?_ ?_
 ·rintro n x σ H1 hx ⟨o1,o2,rfl,sm,e⟩;obtain⟨d,e1,e2⟩:=h2.get hx;rw[cT] at e1;obtain⟨r,er,rfl⟩:=Jm.mp e1
  have hn:n<rs.length:=by
   obtain⟨z,_⟩:=i_.mp er; exact z
  have ed:rs.drop n=r::rs.drop (n+1):=by
   rw[KH hn];obtain⟨z,ez⟩:=i_.mp er;rw[ez]
  rw[ed,mq] at e;walk_at "rd";refine ad7.of (e2.mono sm) (a2.mono sm) (hR r (dz er)) hN fun H2 s2=>?_;have s2:=sm.trans s2;cases es:says r h fC with
  | none=>
   rw[es] at e;refine⟨trivial,?_⟩;exact⟨_,_,rfl,s2,e⟩
  | some i=>
   rw[es] at e;refine⟨trivial,?_⟩;have e:i=mq h fC rs:=e;show Q (.int i) H2;rw[e]; exact q H2 s2
 ·rintro σ H1 ⟨o1,o2,rfl,sm,e⟩;walk_at "rd";rw[hlen,Du] at e;have e:h=mq h fC rs:=e;rw[e];have:=q H1 sm;rw[<- e] at this ⊢;exact this
def O7 (d0 d1 d3 d4 d5:PyData) (l m:Int) (dR:List (List kh)):PyData:=.tuple [d0,d1,.tuple [.int l,.int m],d3,d4,d5,vW dR]
def NQ:Sp:=fun vs H Q _=>∃(v u:V) (h l m:Int) (d0 d1 d3 d4 d5:PyData) (dR:List (List kh)) (fC:List (List Int)),vs=[v,.int h,u]/\At H (O7 d0 d1 d3 d4 d5 l m dR) v/\At H (Gj fC) u/\(∀rs∈dR,∀r∈rs,xO r)/\dR.length<=100/\qy fC /\
 ∀H',aM H H'->Q (.int (yL dR l m h fC)) H'
theorem Jb:aV ["post","hands","newest","least","most","wishes","wished"] ["post","hands","newest"] (aG Gw):=(by walk_at "c")
theorem SQ (F:iM K "wish" "wish" Gw f fd) (B:Bi mg) (nY:Ct P w K mg base k "rule_wish" ["rule","hands","newest"] Wb):bJ P w K mg base gD (k+1) f fd ["post","hands","newest"] NQ:=by
 refine F.ok Jb (by rintro vs H Q E ⟨v,u,h,l,m,d0,d1,d3,d4,d5,dR,fC,rfl,_⟩; rfl) (fun cdv A outer s H vs Q E hr h=>?_)
 obtain⟨v,u,h,l,m,d0,d1,d3,d4,d5,dR,fC,rfl,a1,a2,hR,hn,hN,q⟩:=h;have ND:=Jb.nd;refine⟨_,(aq (eX (bz bj (pv 0) aC (fun _ _=>rfl)) (bT (K:=K) (n:=2) rfl rfl (aJ (aH (i:=3) ND rfl (by walk_at "o")) (aJ (aH (i:=4) ND rfl (by walk_at "o")) bR)))) (aq (Bg (i:=5) ND rfl (by walk_at "o") (N':=["rule","hands","newest"]) (js:=[1,2]) rfl (qY (K:=K) rfl (bz bj (pv 0) aC (fun _ _=>rfl))) rT.mk2 rfl (by decide) rfl (fun fp s' H'=>(pf nY hr (ao (pv 0) (ao (pv 1) (ao (pv 2) ak)))))) (aq (aU (i:=6) ND rfl (by walk_at "o") (Sh rfl B.max (ao (pv 5) ak) (pv 1))) (aF (a_ (pb (fO rfl) B.min lX (ao (pb (kY rfl) B.max tW (ao (pv 6) (ao (pv 3) ak))) (ao (pv 4) ak)))))))),?_⟩
 obtain⟨a,xs,rfl,h1,h2⟩:=bw a1;obtain⟨x0,_,rfl,b0,h2⟩:=aj.aO h2;obtain⟨x1,_,rfl,b1,h2⟩:=aj.aO h2;obtain⟨x2,_,rfl,b2,h2⟩:=aj.aO h2;obtain⟨x3,_,rfl,b3,h2⟩:=aj.aO h2;obtain⟨x4,_,rfl,b4,h2⟩:=aj.aO h2;obtain⟨x5,_,rfl,b5,h2⟩:=aj.aO h2;obtain⟨x6,_,rfl,b6,h2⟩:=aj.aO h2;cases aj.h_ h2;obtain⟨c,ys,rfl,g1,g2⟩:=bw b2;obtain⟨y0,_,rfl,k0,g2⟩:=aj.aO g2;obtain⟨y1,_,rfl,k1,g2⟩:=aj.aO g2;cases aj.h_ g2;unfold At at k0 k1;subst k0 k1;obtain⟨e,zs,rfl,m1,m2⟩:=bw b6;walk_at "rd";refine Ix.tup h1 (aY (j:=2) rfl) ⟨c,_,rfl,e_.of g1,rfl,?_⟩;walk_at "rd";rw[yS];walk_at "rd";refine Ix.tup h1 (aY (j:=6) rfl) ?_;refine J0 (a:=e) (f:=fun i=>mq h fC (dR.getD i [])) (fun R hR=>hR) m1 m2 (mF (aP (by rw[b7]; omega))) (fun i x d H' s' ed hx R hR'=>?_) (fun acc H' s' hl=>?_)
 ·rw[cT] at ed;obtain⟨rs,el,rfl⟩:=Jm.mp ed;show mX _ _ _ _ [some x,some (.int h),some u] H' R;walk_at "rd";refine Rw.of hx (a2.mono s') (hR rs (dz el)) hN fun H2 s2=>?_;have:=hR' H2 s2;have eg:dR.getD i []=rs:=by rw[jD,el]; rfl
  rw[eg] at this;exact this
 ·rw[b7] at hl
  have el:(List.range dR.length).map (fun i=>mq h fC (dR.getD i []))=dR.map (mq h fC):=by
   apply List.ext_getElem
   ·simp
   ·intro i h1 h2;simp at h1 h2;simp[jD,h2]
  rw[el] at hl;have q1:=q H' s';unfold yL topOf at q1;refine⟨acc,_,rfl,hl,fun en=>?_,fun b r er=>?_⟩
  ·rw[en] at q1;exact q1
  ·rw[er] at q1;exact q1
def uV:Sp:=fun vs H Q _=>∃(v x:V) (a:Addr) (r:Int) (b:Addr) (ns:List Int) (u:List V),v=.ref a/\vs=[v]/\H a=some (.tup (x::.int r::.ref b::u))/\H b=some (.tup (ns.map V.int))/\Q (.int (r+ns.sum)) H
theorem uc:aV ["stand"] ["stand"] (aG pR):=(by walk_at "c")
theorem Ej (F:iM K "hands_of" "hands_of" pR f fd) (B:Bi mg):bJ P w K mg base gD (k+1) f fd ["stand"] uV:=by
 refine F.ok uc (by rintro vs H Q E ⟨v,x,a,r,b,ns,u,_,rfl,_⟩; rfl) (fun cdv A outer s H vs Q E hr h=>?_)
 obtain⟨v,x,a,r,b,ns,u,rfl,rfl,h1,h2,q⟩:=h;have ND:=uc.nd;refine⟨_,(aF (a_ (aQ bB (bz bj (pv 0) aC (fun _ _=>rfl)) (pb (fM rfl) B.sum lW (ao (bz bj (pv 0) aC (fun _ _=>rfl)) ak))))),?_⟩;walk_at "rd";refine⟨a,_,1,_,rfl,rfl,.inr h1,aY (j:=1) rfl,?_⟩;refine⟨a,_,2,_,rfl,rfl,.inr h1,aY (j:=2) rfl,?_⟩;refine⟨b,ns,rfl,.inr h2,?_⟩;exact⟨_,_,rfl,rfl,q⟩
theorem Qs {X:Cx}:aa5 X (fun o i H Q=>∃(p:Addr) (xs:List V) (j:Nat) (v:V),o=.ref p/\i=.int j/\H p=some (.lst xs)/\xs[j]?=some v/\Q v H):=by
 intro pins s σ H o i ov iv Q I ro ri h;obtain⟨p,xs,j,v,rfl,rfl,hp,hv,q⟩:=h;cases ro;obtain⟨t,rfl⟩:=ri;obtain⟨its,r,pl,hz⟩:=I.list (b_.of (K:=X.K) hp);obtain⟨w,ew,Dq⟩:=r.get hv;have hl:=r.length;have hn:=qg;have hj:j<xs.length:=by obtain⟨z,_⟩:=i_.mp hv; exact z
 exact wpAny_getItem_list pl.isList (by omega) (by omega) (by simpa using ew) ⟨v,H,I,Dq,q⟩
theorem Tj {n j:Nat} (h:j<n):Qf n (j:Int)=some j:=by
 unfold Qf;rw[bx (by omega),bx (by omega),tu]
structure iR where
 w:Int
 r:Int
 cs:List Int
 s:Int
 t:Int
 us:List (List Int)
def vA (x:iR):PyData:=.tuple [.int x.w,.int x.r,.tuple (x.cs.map .int),.int x.s,.int x.t,.tuple (x.us.map jR)]
structure Ia (x:iR):Prop where
 c:x.cs.length=5
 u:x.us.length=3
 l:∀y∈x.us,y.length=3
structure g_ where
 p:Int
 m:Int
 lo:Int
 hi:Int
 a:Nat
 e:Int
 u:Int
 d:Int
 dR:List (List kh)
def eV (x:g_):PyData:=O7 (.int x.p) (.int x.m) (.int x.a) (.int x.e) (.tuple [.int x.u,.int x.d]) x.lo x.hi x.dR
structure Q4 (x:g_):Prop where
 a:x.a<=4
 p:0<=x.p/\x.p<=1000000
 n:x.dR.length<=100
 g:∀rs∈x.dR,∀r∈rs,xO r
theorem tE {H:Hp} {x:g_} {v:V} (h:At H (eV x) v):∃a b c d,v=.ref a/\H a=some (.tup [.int x.p,.int x.m,.ref b,.int x.a,.int x.e,.ref c,.ref d])/\H c=some (.tup [.int x.u,.int x.d]):=by
 obtain⟨a,xs,rfl,h1,h2⟩:=bw h;obtain⟨x0,_,rfl,b0,h2⟩:=aj.aO h2;obtain⟨x1,_,rfl,b1,h2⟩:=aj.aO h2;obtain⟨x2,_,rfl,b2,h2⟩:=aj.aO h2;obtain⟨x3,_,rfl,b3,h2⟩:=aj.aO h2;obtain⟨x4,_,rfl,b4,h2⟩:=aj.aO h2;obtain⟨x5,_,rfl,b5,h2⟩:=aj.aO h2;obtain⟨x6,_,rfl,b6,h2⟩:=aj.aO h2;cases aj.h_ h2;unfold At at b0 b1 b3 b4;subst b0 b1 b3 b4;obtain⟨b,ys,rfl,_,_⟩:=bw b2;obtain⟨c,zs,rfl,g1,g2⟩:=bw b5;obtain⟨d,ws,rfl,_,_⟩:=bw b6;obtain⟨y0,_,rfl,k0,g2⟩:=aj.aO g2;obtain⟨y1,_,rfl,k1,g2⟩:=aj.aO g2;cases aj.h_ g2;unfold At at k0 k1;subst k0 k1;exact⟨a,b,c,d,rfl,h1,g1⟩
theorem yW {H:Hp} {x:iR} {v:V} (h:At H (vA x) v):∃a b c,v=.ref a/\H a=some (.tup [.int x.w,.int x.r,.ref b,.int x.s,.int x.t,.ref c])/\H b=some (.tup (x.cs.map V.int))/\At H (.tuple (x.us.map jR)) (.ref c):=by
 obtain⟨a,xs,rfl,h1,h2⟩:=bw h;obtain⟨x0,_,rfl,b0,h2⟩:=aj.aO h2;obtain⟨x1,_,rfl,b1,h2⟩:=aj.aO h2;obtain⟨x2,_,rfl,b2,h2⟩:=aj.aO h2;obtain⟨x3,_,rfl,b3,h2⟩:=aj.aO h2;obtain⟨x4,_,rfl,b4,h2⟩:=aj.aO h2;obtain⟨x5,_,rfl,b5,h2⟩:=aj.aO h2;cases aj.h_ h2;unfold At at b0 b1 b3 b4;subst b0 b1 b3 b4;obtain⟨b,ys,rfl,g1,g2⟩:=bw b2;cases cN g2;obtain⟨c,zs,rfl,_,_⟩:=bw b5;exact⟨a,b,c,rfl,h1,g1,b5⟩
def Az (e s:Int):Int:=if s+1<e then s+1 else 0
def BL (e s t:Int):Bool:=if s+1<e then false else decide (t=0)
def IW:Sp:=fun vs H Q _=>∃(v:V) (x:g_) (s t:Int),vs=[v,.int s,.int t]/\At H (eV x) v/\∀p H',aM H H'->H' p=some (.tup [.int (Az x.e s),.bl (BL x.e s t)])->Q (.ref p) H'
theorem jJ:aV ["post","since","rest","every"] ["post","since","rest"] (aG ie):=(by walk_at "c")
theorem qZ (F:iM K "since_and_look" "since_and_look" ie f fd):bJ P w K mg base gD (k+1) f fd ["post","since","rest"] IW:=by
 refine F.ok jJ (by rintro vs H Q E ⟨v,x,s,t,rfl,_⟩; rfl) (fun cdv A outer s H vs Q E hr h=>?_)
 obtain⟨v,x,sn,t,rfl,a1,q⟩:=h;have ND:=jJ.nd;refine⟨_,(aq (aU (i:=3) ND rfl (by walk_at "o") (bz bj (pv 0) aC (fun _ _=>rfl))) (aq (cL (bh wG (aQ bB (pv 1) aC) (pv 3) (bf _)) (aF (a_ (bc (ao (aQ bB (pv 1) aC) (ao pI ak))))) bH) (aF (a_ (bc (ao aC (ao (dZ gC (pv 2) aC (bf _)) ak))))))),?_⟩
 obtain⟨a,b,c,d,rfl,h1,h2⟩:=tE a1;walk_at "rd";refine Ix.tup h1 (aY (j:=4) rfl) ?_;walk_at "rd";refine cR (fun c1=>?_) (fun c1=>?_)
 ·have c1':=nF c1;refine⟨(by decide),fun p H1 f1 s1 e1=>q p H1 s1 ?_⟩
  unfold Az BL;rw[bx c1',bx c1']; exact e1
 ·have c1':=Ky c1;refine⟨(by decide),fun p H1 f1 s1 e1=>q p H1 s1 ?_⟩
  unfold Az BL;rw[aX c1',aX c1']; exact e1
def Cm (x:g_) (h fr:Int) (fC:List (List Int)):Int:=if fr<yL x.dR x.lo x.hi h fC-h then fr else yL x.dR x.lo x.hi h fC-h
def Dm:Sp:=fun vs H Q _=>∃(v u:V) (x:g_) (h fr:Int) (fC:List (List Int)),vs=[v,.int h,u,.int fr]/\At H (eV x) v/\At H (Gj fC) u/\Q4 x/\qy fC/\∀H',aM H H'->Q (.int (Cm x h fr fC)) H'
theorem qL:aV ["post","hands","newest","free"] ["post","hands","newest","free"] (aG nD):=(by walk_at "c")
theorem Br (F:iM K "change_of" "change_of" nD f fd) (B:Bi mg) (HN:Ct P w K mg base k "wish" ["post","hands","newest"] NQ):bJ P w K mg base gD (k+1) f fd ["post","hands","newest","free"] Dm:=by
 refine F.ok qL (by rintro vs H Q E ⟨v,u,x,h,fr,fC,rfl,_⟩; rfl) (fun cdv A outer s H vs Q E hr h=>?_)
 obtain⟨v,u,x,h,fr,fC,rfl,a1,a2,hP,hN,q⟩:=h;have ND:=qL.nd;refine⟨_,(aF (a_ (pb (fO rfl) B.min lX (ao (aQ j6 (pf HN hr (ao (pv 0) (ao (pv 1) (ao (pv 2) ak)))) (pv 1)) (ao (pv 3) ak))))),?_⟩;walk_at "rd";refine⟨v,u,h,x.lo,x.hi,_,_,_,_,_,x.dR,fC,rfl,a1,a2,hP.g,hP.n,hN,fun H1 s1=>?_⟩;walk_at "rd";exact q H1 s1
def bG:List Int->Int->List Int×Int
 | [],n=>([],n)
 | c::cs,n=>((c-(if(bG cs n).2<c then(bG cs n).2 else c))::(bG cs n).1,(bG cs n).2-(if(bG cs n).2<c then(bG cs n).2 else c))
theorem qi:∀(cs:List Int) (n:Int),(bG cs n).1.length=cs.length
 | [],_=>rfl
 | c::cs,n=>by rw[bG,gw,gw,qi cs n]
def N7:Sp:=fun vs H Q _=>∃(r n:Int) (b:Addr) (cs:List Int),vs=[.int r,.ref b,.int n]/\H b=some (.tup (cs.map V.int))/\cs.length<=100/\∀p b' H',aM H H'->H' p=some (.tup [.int (r-(bG cs n).2),.ref b'])->H' b'=some (.tup ((bG cs n).1.map V.int))->Q (.ref p) H'
theorem qJ:aV ["ready","called","many","left","place","gone"] ["ready","called","many"] (aG nq):=(by walk_at "c")
theorem Bp (F:iM K "sent_home" "sent_home" nq f fd) (B:Bi mg):bJ P w K mg base gD (k+1) f fd ["ready","called","many"] N7:=by
 refine F.ok qJ (by rintro vs H Q E ⟨r,n,b,cs,rfl,_⟩; rfl) (fun cdv A outer s H vs Q E hr h=>?_)
 obtain⟨r,n,b,cs,rfl,h1,hlen,q⟩:=h;have ND:=qJ.nd;refine⟨_,(aq (aU (i:=3) ND rfl (by walk_at "o") (pt (Mh) B.list gY (ao (pv 1) ak))) (aq (gK PassesOwn.never rfl (Wv B.reversed B.range (ao (pb (cA (K:=K) rfl) B.len dM (ao (pv 3) ak)) ak)) (aH (i:=4) ND rfl (by walk_at "o")) (aq (aU (i:=5) ND rfl (by walk_at "o") (pb (fO rfl) B.min lX (ao (bz bj (pv 3) (pv 4) (fun _ _=>rfl)) (ao (pv 2) ak)))) (aq (R3 (pv 3) (pv 4) Qs (pv 5) Hs set_list) (aF (Bh (i:=2) ND rfl (by walk_at "o") (pv 5) Hs))))) (aF (a_ (bc (ao (aQ j6 (pv 0) (pv 2)) (ao (pt (jc) B.tuple gW (ao (pv 3) ak)) ak))))))),?_⟩
 walk_at "rd";refine⟨b,_,rfl,h1,fun p1 f1=>?_⟩;have s1:=aN f1 (HO.lst (cs.map V.int));have e1:upd H p1 (HO.lst (cs.map V.int)) p1=some (.lst (cs.map V.int)):=aD;generalize upd H p1 (HO.lst (cs.map V.int))=H1 at s1 e1 ⊢;rw[Nx];walk_at "rd";refine⟨p1,_,rfl,.inl (b_.of e1),?_⟩;rw[b7];refine VK'.of (n:=cs.length) rfl (by omega) (fun i σ H'=>∃o4 o5:Option V,σ=[some (.int r),some (.ref b),some (.int (bG (cs.drop (cs.length-i)) n).2),some (.ref p1),o4,o5]/\H' p1=some (.lst ((cs.take (cs.length-i)++(bG (cs.drop (cs.length-i)) n).1).map V.int))/\aM H H')
  ⟨_,_,by rw[Nat.sub_zero,Du]; rfl,by rw[Nat.sub_zero,Du,pX]; simpa[bG] using e1,s1⟩ ?_ ?_
 ·rintro i σ H2 hi ⟨o4,o5,rfl,h2,s2⟩;obtain⟨j,ej⟩:∃j:Nat,cs.length-i=j+1:=⟨cs.length-i-1,by omega⟩
  have ej2:cs.length-(i+1)=j:=by omega
  have ei:(cs.length:Int)-1-(i:Nat)=(j:Nat):=by omega
  rw[ej] at h2;rw[ei,ej,ej2];have hj:j<cs.length:=by omega
  have dj:cs.drop j=cs[j]::cs.drop (j+1):=KH hj;have tj:cs.take (j+1)=cs.take j++[cs[j]]:=by rw[List.take_succ,eF hj]; rfl
  rw[dj,bG];generalize bG (cs.drop (j+1)) n=gh at h2 ⊢;rw[tj] at h2;generalize cs[j]=cj at h2 ⊢;have lt:(cs.take j).length=j:=by rw[j5]; omega
  have gj:((cs.take j++[cj]++gh.1).map V.int)[j]?=some (.int cj):=by
   rw[cT,Dw,xV (by omega),lt,zx]; rfl
  walk_at "rd";refine Ix.lst h2 (aY gj) ?_;walk_at "rd";refine⟨p1,_,j,_,rfl,rfl,h2,gj,?_⟩;walk_at "rd";refine⟨p1,_,_,j,rfl,rfl,h2,Tj (by rw[b7,cB,cB,lt]; show j<j+1+_; omega),?_⟩
  refine⟨_,rfl,_,_,rfl,rfl,_,_,rfl,?_,fun z o w=>?_⟩
  ·rw[aD]
   congr 2
   have e:cs.take j++[cj]++gh.1=cs.take j++(cj::gh.1):=by simp
   rw[e,gq,gq,List.set_append_right _ _ (by rw[b7]; omega),b7,lt,zx]
   rfl
  ·rw[aL (cH w f1)];exact s2 _ _ w
 ·rintro σ H2 ⟨o4,o5,rfl,h2,s2⟩;rw[zx,List.drop_zero,List.take_zero,Kv] at h2;rw[zx,List.drop_zero];walk_at "rd";refine⟨p1,_,rfl,h2,fun p3 f3=>?_⟩;have s3:=aN f3 (HO.tup ((bG cs n).1.map V.int));have e3:upd H2 p3 (HO.tup ((bG cs n).1.map V.int)) p3=some (.tup ((bG cs n).1.map V.int)):=aD;generalize upd H2 p3 (HO.tup ((bG cs n).1.map V.int))=H3 at s3 e3 ⊢;refine⟨(by decide),fun p4 H4 f4 s4 e4=>?_⟩
  exact q p4 p3 H4 (s2.trans (s3.trans s4)) e4 (s4 _ _ e3)
def gF (x:g_) (st:iR) (ch:Int):iR:=
 if ch=0 then st else if 0<ch then { st with cs:=st.cs.take x.a++[st.cs.getD x.a 0+ch]++st.cs.drop (x.a+1),t:=x.u }
 else { st with r:=st.r-(bG st.cs (-ch)).2,cs:=(bG st.cs (-ch)).1,t:=x.d }
def Gq:Sp:=fun vs H Q _=>∃(v u:V) (x:g_) (st:iR) (ch:Int),vs=[v,u,.int ch]/\At H (eV x) v/\At H (vA st) u/\Q4 x/\Ia st/\∀u' H',aM H H'->At H' (vA (gF x st ch)) u'->Q u' H'
theorem mZ:aV ["post","stand","change","late","rests","wait","ready","called","since","rest","seen"] ["post","stand","change"] (aG jT):=(by walk_at "c")
theorem wI (F:iM K "with_change" "with_change" jT f fd) (B:Bi mg) (nW:Ct P w K mg base k "sent_home" ["ready","called","many"] N7):bJ P w K mg base gD (k+1) f fd ["post","stand","change"] Gq:=by
 refine F.ok mZ (by rintro vs H Q E ⟨v,u,x,st,ch,rfl,_⟩; rfl) (fun cdv A outer s H vs Q E hr h=>?_)
 obtain⟨v,u,x,st,ch,rfl,a1,a2,hP,hS,q⟩:=h;have ND:=mZ.nd;refine⟨_,(aq (cL (bh gC (pv 2) aC (bf _)) (aF (a_ (pv 1))) bH) (aq (tG (i:=3) (j:=4) rfl ND rfl rfl (by decide) rfl rfl (ao (bz bj (pv 0) aC (fun _ _=>rfl)) (ao (bz bj (pv 0) aC (fun _ _=>rfl)) ak)) (by rfl)) (aq (eX (pv 1) (bT (K:=K) (n:=6) rfl rfl (aJ (aH (i:=5) ND rfl (by walk_at "o")) (aJ (aH (i:=6) ND rfl (by walk_at "o")) (aJ (aH (i:=7) ND rfl (by walk_at "o")) (aJ (aH (i:=8) ND rfl (by walk_at "o")) (aJ (aH (i:=9) ND rfl (by walk_at "o")) (aJ (aH (i:=10) ND rfl (by walk_at "o")) bR)))))))) (aq (cL (bh zO (pv 2) aC (bf _)) (aq (aU (i:=7) ND rfl (by walk_at "o") (aQ oE (aQ oE (cZ jH (pv 7) fB (fu (pv 3))) (bc (ao (aQ bB (bz bj (pv 7) (pv 3) (fun _ _=>rfl)) (pv 2)) ak))) (cZ jH (pv 7) (fu (aQ bB (pv 3) aC)) fB))) (aF (aU (i:=9) ND rfl (by walk_at "o") (bz bj (pv 4) aC (fun _ _=>rfl))))) (aq (eX (pf nW hr (ao (pv 6) (ao (pv 7) (ao (Ve Nf (pv 2)) ak)))) (bT (K:=K) (n:=2) rfl rfl (aJ (aH (i:=6) ND rfl (by walk_at "o")) (aJ (aH (i:=7) ND rfl (by walk_at "o")) bR)))) (aF (aU (i:=9) ND rfl (by walk_at "o") (bz bj (pv 4) aC (fun _ _=>rfl)))))) (aF (a_ (bc (ao (pv 5) (ao (pv 6) (ao (pv 7) (ao (pv 8) (ao (pv 9) (ao (pv 10) ak))))))))))))),?_⟩
 walk_at "rd";refine cR (fun c1=>?_) (fun c1=>?_)
 ·have:=q u H (aM.refl H);unfold gF at this;rw[bx (nF c1)] at this;exact this a2
 have c1':=Ky c1;obtain⟨pa,pb,pc,pd,rfl,p1,p2⟩:=tE a1;obtain⟨sa,sb,sc,rfl,g1,g2,g3⟩:=yW a2;have ha4:=hP.a;have hc5:=hS.c;refine Ix.tup p1 (aY (j:=3) rfl) (Ix.tup p1 (aY (j:=5) rfl) ⟨_,_,rfl,?_⟩);refine⟨sa,_,rfl,e_.of g1,rfl,?_⟩;walk_at "rd";refine cR (fun c2=>?_) (fun c2=>?_)
 ·have c2':=nF c2
  have ga:(st.cs.map V.int)[x.a]?=some (.int (st.cs.getD x.a 0)):=by
   rw[cT,eF (by omega),jD,eF (by omega)]; rfl
  refine⟨sb,_,rfl,g2,fun p3 H3 s3 e3=>?_⟩;rw[Ci (by omega),tu] at e3
  refine Ix.tup (s3 _ _ g2) (aY ga) ?_;walk_at "rd";refine⟨(by decide),fun p4 H4 f4 s4 e4=>?_⟩
  refine⟨p3,p4,_,_,rfl,rfl,s4 _ _ e3,e4,mF (aP (by simp; omega)),fun p5 H5 s5 e5=>?_⟩
  walk_at "rd";have ZP:=s3.trans (s4.trans s5);refine⟨sb,_,rfl,ZP _ _ g2,fun p6 H6 s6 e6=>?_⟩;rw[kW (by omega)] at e6
  refine⟨p5,p6,_,_,rfl,rfl,s6 _ _ e5,e6,mF (aP (by simp; omega)),fun p7 H7 s7 e7=>?_⟩
  have Mv:=ZP.trans (s6.trans s7);walk_at "rd";refine Ix.tup (Mv _ _ p2) (aY (j:=0) rfl) ⟨(by decide),fun p8 H8 f8 s8 e8=>?_⟩
  have ZM:=Mv.trans s8;refine q (.ref p8) H8 ZM ?_;unfold gF;rw[aX c1',bx c2'];refine At.tup e8 (aj.cons (At.int _) (aj.cons (At.int _) (aj.cons (At.tup (s8 _ _ e7) ?_) (aj.cons (At.int _) (aj.cons (At.int _) (aj.cons (g3.mono ZM) aj.nil))))));have e:(((x.a:Int)+1).toNat)=x.a+1:=by omega
  rw[e];have:=dh (H:=H8) (st.cs.take x.a++[st.cs.getD x.a 0+ch]++st.cs.drop (x.a+1));simpa using this
 ·have c2':=Ky c2;refine⟨st.r,-ch,sb,st.cs,rfl,g2,by omega,fun p3 b3 H3 s3 e3 e4=>?_⟩
  refine⟨p3,_,rfl,e_.of e3,rfl,?_⟩;walk_at "rd";refine Ix.tup (s3 _ _ p2) (aY (j:=1) rfl) ⟨(by decide),fun p8 H8 f8 s8 e8=>?_⟩
  have ZM:=s3.trans s8;refine q (.ref p8) H8 ZM ?_;unfold gF;rw[aX c1',aX (by omega)]
  exact At.tup e8 (aj.cons (At.int _) (aj.cons (At.int _) (aj.cons (At.tup (s8 _ _ e4) (dh _)) (aj.cons (At.int _) (aj.cons (At.int _) (aj.cons (g3.mono ZM) aj.nil))))))
def dX (x:g_) (st:iR) (come:Int):Int:=if(if 0>x.m-st.w then 0 else x.m-st.w)<come then(if 0>x.m-st.w then 0 else x.m-st.w) else come
def fH (st:iR):Int:=st.r+st.cs.getD 0 0
def iJ (x:g_) (st:iR) (come:Int):Int:=if fH st*x.p<st.w+dX x st come then fH st*x.p else st.w+dX x st come
def iy (x:g_) (st:iR) (come:Int):List (List Int):=[come,iJ x st come,st.w+dX x st come-iJ x st come]::st.us
def jr (x:g_) (st:iR) (come:Int):iR:=⟨st.w+dX x st come-iJ x st come,fH st,st.cs.drop 1++[0],Az x.e st.s,if 0>st.t-1 then 0 else st.t-1,(iy x st come).take 3⟩
def xH (x:g_) (st:iR) (come fr:Int):Int:=if BL x.e st.s st.t=true then Cm x (fH st+(st.cs.drop 1++[0]).sum) fr (iy x st come) else 0
def Ob:Sp:=fun vs H Q _=>∃(v u:V) (x:g_) (st:iR) (come fr:Int),vs=[v,u,.int come,.int fr]/\At H (eV x) v/\At H (vA st) u/\Q4 x/\Ia st /\
 ∀p u' H',aM H H'->At H' (vA (gF x (jr x st come) (xH x st come fr))) u'->H' p=some (.tup [u',.int (iJ x st come),.int (come-dX x st come),.int (xH x st come fr)])->Q (.ref p) H'
theorem Jc:aV ["post","stand","come","free","pace","room","wait","ready","called","since","rest","seen","taken","done","newest","looks","moved","change"] ["post","stand","come","free"] (aG Gx):=(by walk_at "c")
theorem Eo {x:g_} {st:iR} {come:Int} (h:Ia st):Ia (jr x st come):=by
 refine⟨?_,?_,fun y hy=>?_⟩
 ·show(st.cs.drop 1++[0]).length=5;have:=h.c;simp; omega
 ·show((iy x st come).take 3).length=3;have:=h.u;unfold iy;simp; omega
 ·have hy:=wj hy;unfold iy at hy;rcases bF.mp hy with z | z
  ·rw[z]; rfl
  ·exact h.l y z
theorem Jv {T:Addr} {tk:Tok} (F:Ii K "beat" "beat" Gx f fd T 12 tk) (B:Bi mg) (O:Co K mg) (fP:Ct P w K mg base k "since_and_look" ["post","since","rest"] IW) (jP:Ct P w K mg base k "change_of" ["post","hands","newest","free"] Dm) (dC:Ct P w K mg base k "hands_of" ["stand"] uV)
  (iz:Ct P w K mg base k "with_change" ["post","stand","change"] Gq):bJ P w K mg base gD (k+1) f fd ["post","stand","come","free"] Ob:=by
 refine F.ok Jc (by rintro vs H Q E ⟨v,u,x,st,come,fr,rfl,_⟩; rfl) (fun cdv A outer s H vs Q E hr h=>?_)
 obtain⟨v,u,x,st,come,fr,rfl,a1,a2,hP,hS,q⟩:=h;have ND:=Jc.nd;refine⟨_,(aq (eX (cZ jH (pv 0) fB (fu aC)) (bT (K:=K) (n:=2) rfl rfl (aJ (aH (i:=4) ND rfl (by walk_at "o")) (aJ (aH (i:=5) ND rfl (by walk_at "o")) bR)))) (aq (eX (pv 1) (bT (K:=K) (n:=6) rfl rfl (aJ (aH (i:=6) ND rfl (by walk_at "o")) (aJ (aH (i:=7) ND rfl (by walk_at "o")) (aJ (aH (i:=8) ND rfl (by walk_at "o")) (aJ (aH (i:=9) ND rfl (by walk_at "o")) (aJ (aH (i:=10) ND rfl (by walk_at "o")) (aJ (aH (i:=11) ND rfl (by walk_at "o")) bR)))))))) (aq (Bh (i:=7) ND rfl (by walk_at "o") (bz bj (pv 8) aC (fun _ _=>rfl)) Qh) (aq (aU (i:=8) ND rfl (by walk_at "o") (aQ oE (cZ jH (pv 8) (fu aC) fB) (bc (ao aC ak)))) (aq (aU (i:=12) ND rfl (by walk_at "o") (pb (fO rfl) B.min lX (ao (pv 2) (ao (pb (kY rfl) B.max tW (ao (aQ j6 (pv 5) (pv 6)) (ao aC ak))) ak)))) (aq (Bh (i:=6) ND rfl (by walk_at "o") (pv 12) Qh) (aq (aU (i:=13) ND rfl (by walk_at "o") (pb (fO rfl) B.min lX (ao (pv 6) (ao (aQ j7 (pv 7) (pv 4)) ak)))) (aq (Bh (i:=6) ND rfl (by walk_at "o") (pv 13) Hs) (aq (aU (i:=14) ND rfl (by walk_at "o") (aQ oE (bc (ao (bc (ao (pv 2) (ao (pv 13) (ao (pv 6) ak)))) ak)) (pv 11))) (aq (eX (pf fP hr (ao (pv 0) (ao (pv 9) (ao (pv 10) ak)))) (bT (K:=K) (n:=2) rfl rfl (aJ (aH (i:=9) ND rfl (by walk_at "o")) (aJ (aH (i:=15) ND rfl (by walk_at "o")) bR)))) (aq (aU (i:=16) ND rfl (by walk_at "o") (bc (ao (pv 6) (ao (pv 7) (ao (pv 8) (ao (pv 9) (ao (pb (kY rfl) B.max tW (ao (aQ j6 (pv 10) aC) (ao aC ak))) (ao (cZ jH (pv 14) fB (fu (Bl O.CN))) ak)))))))) (aq (aU (i:=17) ND rfl (by walk_at "o") (dI (dY (pv 15)) (pf jP hr (ao (pv 0) (ao (pf dC hr (ao (pv 16) ak)) (ao (pv 14) (ao (pv 3) ak))))) aC)) (aF (a_ (bc (ao (pf iz hr (ao (pv 0) (ao (pv 16) (ao (pv 17) ak)))) (ao (pv 13) (ao (aQ j6 (pv 2) (pv 12)) (ao (pv 17) ak))))))))))))))))))),?_⟩
 obtain⟨pa,pb,pc,pd,rfl,p1,p2⟩:=tE a1;obtain⟨sa,sb,sc,rfl,g1,g2,g3⟩:=yW a2;have hc5:=hS.c;have hpp:=hP.p
 have gc0:(st.cs.map V.int)[0]?=some (.int (st.cs.getD 0 0)):=by
  rw[cT,eF (by omega),jD,eF (by omega)]; rfl
 walk_at "rd";refine⟨pa,_,rfl,p1,fun q1 H1 s1 e1=>?_⟩;rw[Ci (by decide)] at e1
 replace e1:H1 q1=some (.tup [.int x.p,.int x.m]):=e1
 refine⟨q1,_,rfl,e_.of e1,rfl,?_⟩;walk_at "rd";refine⟨sa,_,rfl,e_.of (s1 _ _ g1),rfl,?_⟩;walk_at "rd";refine⟨_,rfl,Ix.tup (s1 _ _ g2) (aY gc0) ⟨_,_,rfl,rfl,?_⟩⟩;refine⟨sb,_,rfl,s1 _ _ g2,fun q2 H2 s2 e2=>?_⟩;rw[kW (by decide)] at e2
 have s12:=s1.trans s2;refine⟨(by decide),fun q3 H3 f3 s3 e3=>?_⟩
 refine⟨q2,q3,_,_,rfl,rfl,s3 _ _ e2,e3,mF (aP (by simp; omega)),fun q4 H4 s4 e4=>?_⟩
 have RK:=s12.trans (s3.trans s4);walk_at "rd";refine⟨_,rfl,_,_,rfl,rfl,.inr (by omega),_,rfl,_,_,rfl,rfl,(by decide),fun q5 H5 f5 s5 e5=>⟨(by decide),fun q6 H6 f6 s6 e6=>?_⟩⟩
 replace e5:H5 q5=some (.tup [.int come,.int (iJ x st come),.int (st.w+dX x st come-iJ x st come)]):=e5
 obtain⟨sc',us',ec,gu,au⟩:=bw g3;cases ec;have Wh:=RK.trans (s5.trans s6);have lus:us'.length=3:=by have:=au.length; rw[b7,hS.u] at this; exact this
 refine⟨q6,sc,_,_,rfl,rfl,e6,Wh _ _ gu,mF (aP (by simp; omega)),fun q7 H7 s7 e7=>?_⟩
 have s17:=Wh.trans s7;have a7:At H7 (Gj (iy x st come)) (.ref q7):=At.tup e7 (aj.cons (At.tup ((s6.trans s7) _ _ e5) (dh [come,iJ x st come,st.w+dX x st come-iJ x st come])) (au.mono s17))
 have hN:qy (iy x st come):=⟨by show st.us.length+1=4; rw[hS.u],fun y hy=>by
  rcases bF.mp hy with z | z
  ·rw[z]; rfl
  ·exact hS.l y z⟩
 refine⟨.ref pa,x,st.s,st.t,rfl,a1.mono s17,fun q8 H8 s8 e8=>?_⟩;refine⟨q8,_,rfl,e_.of e8,rfl,?_⟩;walk_at "rd";have s18:=s17.trans s8;obtain⟨q7',nws,en,gn,an⟩:=bw (a7.mono s8);cases en;refine⟨q7,_,rfl,gn,fun q9 H9 s9 e9=>?_⟩;rw[Ci (by decide)] at e9
 have s19:=s18.trans s9;refine⟨(by decide),fun q10 Q6 f10 Fz e10=>?_⟩
 have ZV:=s19.trans Fz;have e4':H4 q4=some (.tup ((st.cs.drop 1++[0]).map V.int)):=by rw[e4]; simp
 have ZL:aM H4 Q6:=s5.trans (s6.trans (s7.trans (s8.trans (s9.trans Fz))))
 have am:At Q6 (vA (jr x st come)) (.ref q10):=by
  refine At.tup e10 (aj.cons (At.int _) (aj.cons (At.int _) (aj.cons (At.tup (ZL _ _ e4') (dh _)) (aj.cons (At.int _) (aj.cons (At.int _) (aj.cons (At.tup (Fz _ _ e9) ?_) aj.nil))))));show aj Q6 (((iy x st come).take 3).map jR) _;rw[List.map_take];exact(an.take 3).mono (s9.trans Fz)
 have fin:∀(c:Int) (Um:Hp),xH x st come fr=c->aM Q6 Um->Gq [.ref pa,.ref q10,.int c] Um (fun y H1=>4<=sizeLine/\∀p H',H1 p=none->aM H1 H'->H' p=some (.tup [y,.int (iJ x st come),.int (come-dX x st come),.int c])->Q (.ref p) H') E0:=fun c Um ec Q9=>by
  subst ec;have ZR:=ZV.trans Q9;exact⟨.ref pa,.ref q10,x,jr x st come,_,rfl,a1.mono ZR,am.mono Q9,hP,Eo hS,fun u' H12 acs a12=>⟨(by decide),fun q13 H13 f13 pU XM=>q q13 u' H13 (ZR.trans (acs.trans pU)) (a12.mono pU) XM⟩⟩
 refine cR (fun c1=>?_) (fun c1=>?_)
 ·refine⟨.ref q10,_,q10,fH st,q4,st.cs.drop 1++[0],_,rfl,rfl,e10,ZL _ _ e4',?_⟩;refine⟨.ref pa,.ref q7,x,_,fr,iy x st come,rfl,a1.mono ZV,a7.mono (s8.trans (s9.trans Fz)),hP,hN,fun Um Q9=>?_⟩;exact fin _ Um (by unfold xH; rw[bx c1]) Q9
 ·exact fin 0 Q6 (by unfold xH; rw[aX (by rw[c1]; decide)]) (aM.refl _)
local macro_rules | `(tactic| walk_at "cap")=>`(tactic| simp only[bQ,gZ,zq,Jo,O1,Option.join_some])
def NZ (K:PySem.W.Frag):Sp:=fun vs H Q _=>∃(s:Addr) (ns:List Int) (i:Int),vs=[.ref s,.int i]/\b_ K H s (ns.map V.int)/\0<=i/\i<=1000/\∀p H',H p=none->aM H H'->Tp H' p 0->Q (.ref p) H'
theorem zb:aV ["_law_script","_law_k","_law_cell"] ["_law_script","_law_k"] (aG vQ):=(by walk_at "c")
theorem La (F:iM K "_law_tape" "_law_tape" vQ f fd) (B:Bi mg):bJ P w K mg base gD (k+1) f fd ["_law_script","_law_k"] (NZ K):=by
 refine F.ok zb (by rintro vs H Q E ⟨a,ns,i,rfl,_⟩; rfl) (fun cdv A outer s H vs Q E hr h=>?_)
 obtain⟨a,ns,i,rfl,hS,h0,h1,q⟩:=h;have ND:=zb.nd;refine⟨_,(aq (aU (i:=2) ND rfl (by walk_at "o") (dI (bh wG (pv 1) (pb (cA (K:=K) rfl) B.len dM (ao (pv 0) ak)) (bf _)) (bz JF (pv 0) (pv 1) (fun _ _=>rfl)) aC)) (aF (a_ (Pa (ao (aQ j7 (pb (Fd) B.abs QT (ao (pv 2) ak)) (pt (Af) B.int HY (ao (dZ aaf (pb (Fd) B.abs QT (ao (pv 2) ak)) (aQ p_ aC aC) (bf _)) ak))) (ao (aQ bB (aQ bB (aQ lL (pv 2) aC) (aQ j7 aC (pv 1))) aC) (ao aC ak))))))),?_⟩
 walk_at "rd";refine⟨a,_,rfl,.inl hS,?_⟩;show ∃i_1 j,V.int i=V.int i_1/\V.int ((ns.map V.int).length:Int)=V.int j/\_;walk_at "rd";have X5:∀c:Int,0<=(if c<0 then -c else c):=fun c=>by split <;> omega
 have fin:∀(c x y:Int),x=(if c<0 then -c else c)*(if decide (10 ^ Int.toNat 18<=(if c<0 then -c else c))=true then 1 else 0)->y=c % 2305843009213693951+39373*i+17->∀p,H p=none->Q (.ref p) (upd H p (.lst [.int x,.int y,.int 0])):=fun c x y ex ey p hp=>by
  have hx:0<=x:=by
   rw[ex];have nn:=X5 c;generalize (if c<0 then -c else c)=u at nn ⊢
   split
   ·rw[Int.mul_one]; exact nn
   ·rw[Int.mul_zero]; exact zm 0
  have h2:=wg c (show(2305843009213693951:Int)≠0 by decide)
  have h3:=Be c (show(0:Int)<2305843009213693951 by decide)
  exact q p _ hp (aN hp _) ⟨x,y,0,aD,hx,by omega,by omega,zm 0,zm 0⟩
 have cm:∀(c:Int) (b:Bool),Uo c (if b=true then 1 else 0):=fun c b=>.inr (by cases b <;> decide)
 refine cR (fun c1=>?_) (fun c1=>?_)
 ·have c1':=nF c1;have hi:i.toNat<ns.length:=by rw[b7] at c1'; omega
  refine⟨a,_,i,.int (ns[i.toNat]),rfl,rfl,hS,?_,?_⟩
  ·have:=aY (xs:=ns.map V.int) (j:=i.toNat) (v:=.int (ns[i.toNat])) (by rw[cT,eF hi]; rfl)
   rwa [show((i.toNat:Nat):Int)=i by omega] at this
  ·walk_at "rd";refine⟨⟨by decide,by decide,by decide⟩,cm _ _,by decide,.inl (by decide),(by show 3<=sizeLine; decide),fun p hp=>?_⟩
   exact fin _ _ _ rfl rfl p hp
 ·refine⟨⟨by decide,by decide,by decide⟩,cm _ _,by decide,.inl (by decide),(by show 3<=sizeLine; decide),fun p hp=>?_⟩
  exact fin 0 _ _ rfl rfl p hp
def fW:Sp:=fun vs H Q _=>∃(a:Addr) (m:Int) (n:Nat),vs=[.ref a,.int m]/\Tp H a n/\n<=1000000000/\0<m/\m<1000000000000000/\∀v H',0<=v->v<m->Tp H' a (n+1)->SX a H H'->Q (.int v) H'
theorem zg:aV ["_law_tape_here","_law_many","_law_found","_law_once","_law_twice"] ["_law_tape_here","_law_many"] (aG vU):=(by walk_at "c")
theorem Ld (F:iM K "_law_draw" "_law_draw" vU f fd) (B:Bi mg):bJ P w K mg base gD (k+1) f fd ["_law_tape_here","_law_many"] fW:=by
 refine F.ok zg (by rintro vs H Q E ⟨a,m,n,rfl,_⟩; rfl) (fun cdv A outer s H vs Q E hr h=>?_)
 obtain⟨a,m,n,rfl,⟨x,y,z,hT,hx,hy,hy2,hz,hz2⟩,hn,hm,hm2,q⟩:=h;have ND:=zg.nd;refine⟨_,(aq (cL (bh zO (bz bj (pv 0) aC (fun _ _=>rfl)) aC (bf _)) (aq (aU (i:=2) ND rfl (by walk_at "o") (aQ lL (bz bj (pv 0) aC (fun _ _=>rfl)) (pv 1))) (aq (eX (aQ Ef (bz bj (pv 0) aC (fun _ _=>rfl)) (pv 1)) (pZ (pv 0) aC set_list)) (aF (a_ (pv 2))))) bH) (aq (eX (aQ bB (bz bj (pv 0) aC (fun _ _=>rfl)) aC) (pZ (pv 0) aC set_list)) (aq (aU (i:=3) ND rfl (by walk_at "o") (aQ lL (aQ p_ (aQ bB (bz bj (pv 0) aC (fun _ _=>rfl)) (aQ j7 aC (bz bj (pv 0) aC (fun _ _=>rfl)))) aC) aC)) (aq (aU (i:=4) ND rfl (by walk_at "o") (aQ lL (aQ j7 (aQ bB (pv 3) (bz bj (pv 0) aC (fun _ _=>rfl))) (aQ bB (aQ bB (aQ lL (pv 3) aC) aC) (bz bj (pv 0) aC (fun _ _=>rfl)))) aC)) (aF (a_ (aQ lL (aQ Sx (aQ lL (aQ bB (aQ j7 (pv 4) aC) (pv 3)) aC) aC) (pv 1)))))))),?_⟩
 walk_at "rd";refine Ix.lst hT (aY (j:=0) rfl) ?_;walk_at "rd";refine cR (fun c1=>?_) (fun c1=>?_)
 ·refine Ix.lst hT (aY (j:=0) rfl) ?_;walk_at "rd";refine⟨hm,Ix.lst hT (aY (j:=0) rfl) ?_⟩;walk_at "rd";refine⟨⟨hm,Int.lt_trans hm2 (by decide)⟩,a,_,0,0,rfl,rfl,hT,rfl,?_⟩
  refine q _ _ (wg _ (by omega)) (Be _ hm) ⟨x / m,y,z,aD,Int.ediv_nonneg hx (by omega),hy,hy2,hz,by omega⟩ SX.upd
 ·refine Ix.lst hT (aY (j:=2) rfl) ?_;walk_at "rd";refine⟨a,_,2,2,rfl,rfl,hT,rfl,?_⟩;have hT2:upd H a (.lst [.int x,.int y,.int (z+1)]) a=some (.lst [.int x,.int y,.int (z+1)]):=aD;show Dr (V.ref a) (V.int 1) (upd H a (.lst [.int x,.int y,.int (z+1)])) _;generalize eH:upd H a (.lst [.int x,.int y,.int (z+1)])=H2 at hT2 ⊢;have sx:SX a H H2:=by rw[<- eH]; exact SX.upd
  refine Ix.lst hT2 (aY (j:=1) rfl) (Ix.lst hT2 (aY (j:=2) rfl) ?_);walk_at "rd";refine⟨.inl (by decide),⟨by decide,by decide,by omega⟩,by decide,Ix.lst hT2 (aY (j:=2) rfl) ?_⟩
  generalize eo:(y+39373*(z+1)) ^ Int.toNat 5 % 2147483647=o;have o1:0<=o:=by rw[<- eo]; exact wg _ (by decide)
  have o2:o<2147483647:=by rw[<- eo]; exact Be _ (by decide)
  walk_at "rd";refine⟨by decide,Ix.lst hT2 (aY (j:=2) rfl) ?_⟩
  walk_at "rd";have m1:=wg o (show(40009:Int)≠0 by decide)
  have m2:=Be o (show(0:Int)<40009 by decide)
  refine⟨.inl (by omega),by decide,?_⟩
  generalize et:(o+(z+1))*(o % 40009+7+(z+1)) % 2147483629=t;have t1:0<=t:=by rw[<- et]; exact wg _ (by decide)
  have t2:t<2147483629:=by rw[<- et]; exact Be _ (by decide)
  refine⟨.inl (by omega),by decide,⟨by decide,by decide⟩,hm,?_⟩
  exact q _ _ (wg _ (by omega)) (Be _ hm) ⟨x,y,z+1,hT2,hx,hy,hy2,by omega,by omega⟩ sx
theorem bZ.of {a:Addr} {m:Int} {n:Nat} {H:Hp} {Q:VK} {E:XK} (t:Tp H a n) (hn:n<=1000000000) (h1:0<m) (h2:m<1000000000000000) (q:∀v H',0<=v->v<m->Tp H' a (n+1)->SX a H H'->Q (.int v) H'):fW ([.ref a,.int m]++[]) H Q E:=⟨a,m,n,rfl,t,hn,h1,h2,q⟩
def ou:Sp:=fun vs H Q _=>∃(a:Addr) (n:Nat),vs=[.ref a]/\Tp H a n/\n<=900000000/\∀v H',0<=v->v<=1000000000000->Tp H' a (n+4)->SX a H H'->Q (.int v) H'
theorem Ak.of {a:Addr} {n:Nat} {H:Hp} {Q:VK} {E:XK} (t:Tp H a n) (hn:n<=900000000) (q:∀v H',0<=v->v<=1000000000000->Tp H' a (n+4)->SX a H H'->Q (.int v) H'):ou ([.ref a]++[]) H Q E:=⟨a,n,rfl,t,hn,q⟩
theorem vG:aV ["_law_tape_here","_law_way","_law_great"] ["_law_tape_here"] (aG sE):=(by walk_at "c")
theorem G6 (F:iM K "_law_units" "_law_units" sE f fd) (B:Bi mg) (aK:Ct P w K mg base k "_law_draw" ["_law_tape_here","_law_many"] fW):bJ P w K mg base gD (k+1) f fd ["_law_tape_here"] ou:=by
 refine F.ok vG (by rintro vs H Q E ⟨a,n,rfl,_⟩; rfl) (fun cdv A outer s H vs Q E hr h=>?_)
 obtain⟨a,n,rfl,tp,hn,q⟩:=h;have ND:=vG.nd;refine⟨_,(aq (aU (i:=1) ND rfl (by walk_at "o") (pf aK hr (ao (pv 0) (ao aC ak)))) (aq (cL (bh wG (pv 1) aC (bf _)) (aF (a_ (pf aK hr (ao (pv 0) (ao aC ak))))) bH) (aq (cL (bh gC (pv 1) aC (bf _)) (aF (a_ (pf aK hr (ao (pv 0) (ao aC ak))))) bH) (aq (aU (i:=2) ND rfl (by walk_at "o") (aQ bB (aQ j7 (pf aK hr (ao (pv 0) (ao (aQ p_ aC aC) ak))) (aQ p_ aC aC)) (pf aK hr (ao (pv 0) (ao (aQ p_ aC aC) ak))))) (aF (a_ (dI (bh gC (pv 1) aC (bf _)) (pv 2) (aQ j6 (aQ p_ aC aC) (aQ lL (pv 2) aC))))))))),?_⟩
 walk_at "rd";refine bZ.of tp (by omega) (by decide) (by decide) fun v1 H1 l1 u1 t1 s1=>?_
 walk_at "rd";refine cR (fun c1=>?_) (fun c1=>?_)
 ·refine bZ.of t1 (by omega) (by decide) (by decide) fun v2 H2 l2 u2 t2 s2=>?_
  exact q v2 H2 l2 (by omega) (t2.mono (by omega)) (s1.trans s2)
 ·refine cR (fun c2=>?_) (fun c2=>?_)
  ·refine bZ.of t1 (by omega) (by decide) (by decide) fun v2 H2 l2 u2 t2 s2=>?_
   exact q v2 H2 l2 (by omega) (t2.mono (by omega)) (s1.trans s2)
  ·refine⟨⟨by decide,by decide,by decide⟩,?_⟩
   refine bZ.of t1 (by omega) (by decide) (by decide) fun v2 H2 l2 u2 t2 s2=>?_
   walk_at "rd";have e6:(10:Int) ^ Int.toNat 6=1000000:=by decide
   have Vq:(10:Int) ^ Int.toNat 12=1000000000000:=by decide
   rw[e6] at u2;refine⟨⟨by decide,by decide,by decide⟩,.inr (by decide),⟨by decide,by decide,by decide⟩,?_⟩
   refine bZ.of t2 (by omega) (by decide) (by decide) fun v3 H3 l3 u3 t3 s3=>?_
   rw[e6] at u3;walk_at "rd";rw[e6,Vq];refine cR (fun c3=>?_) (fun c3=>?_)
   ·exact q _ H3 (by omega) (by omega) (t3.mono (by omega)) (s1.trans (s2.trans s3))
   ·have m1:=wg (v2*1000000+v3) (show(3:Int)≠0 by decide)
    have m2:=Be (v2*1000000+v3) (show(0:Int)<3 by decide)
    exact⟨⟨by decide,by decide,by decide⟩,by decide,q _ H3 (by omega) (by omega) (t3.mono (by omega)) (s1.trans (s2.trans s3))⟩
def U12 (i:Int):Prop:=0<=i/\i<=1000000000000
def Vw (u:List Int):Prop:=∃a b c,u=[a,b,c]/\U12 a/\U12 b/\U12 c
structure StL (x:iR):Prop where
 w:U12 x.w
 r:0<=x.r
 c:x.cs.length=5
 cn:∀y∈x.cs,0<=y
 sm:x.r+x.cs.sum<=12
 s:0<=x.s/\x.s<=5
 t:0<=x.t/\x.t<=9
 u:x.us.length=3
 ul:∀y∈x.us,Vw y
def IV:Sp:=fun vs H Q _=>∃(a:Addr) (n:Nat),vs=[.ref a]/\Tp H a n/\n<=100000000/\∀p x H',StL x->At (hid a H') (vA x) (.ref p)->Tp H' a (n+60)->SX a H H'->Q (.ref p) H'
theorem vH:aV ["_law_tape_here","_law_left","_law_called","_law_k","_law_seen"] ["_law_tape_here"] (aG sH):=(by walk_at "c")
theorem G7 (F:iM K "_law_stand" "_law_stand" sH f fd) (B:Bi mg) (aK:Ct P w K mg base k "_law_draw" ["_law_tape_here","_law_many"] fW) (eN:Ct P w K mg base k "_law_units" ["_law_tape_here"] ou) :
  bJ P w K mg base gD (k+1) f fd ["_law_tape_here"] IV:=by
 refine F.ok vH (by rintro vs H Q E ⟨a,n,rfl,_⟩; rfl) (fun cdv A outer s H vs Q E hr h=>?_)
 obtain⟨a,n,rfl,tp,hn,q⟩:=h;have ND:=vH.nd;refine⟨_,(aq (tG (i:=1) (j:=2) rfl ND rfl rfl (by decide) rfl rfl (ao aC (ao (Pa ak) ak)) (by rfl)) (aq (gK PassesOwn.never rfl (eG (by rfl) B.range (ao aC ak)) (aH (i:=3) ND rfl (by walk_at "o")) (aq (bC (d7 (K:=K) rfl PySem.F.plainAttrs_list PySem.F.slot_list_append PySem.F.type_list_append cI (pv 2) (ao (pf aK hr (ao (pv 0) (ao (aQ bB (pb (fO rfl) B.min lX (ao (pv 1) (ao aC ak))) aC) ak))) ak))) (aF (aU (i:=1) ND rfl (by walk_at "o") (aQ j6 (pv 1) (bz bj (pv 2) (pv 3) (fun _ _=>rfl))))))) (aq (aU (i:=4) ND rfl (by walk_at "o") (pt (jc) B.tuple gW (ao (dG (N':=["_law_k","_law_tape_here"]) (js:=[0]) rfl (eG (by rfl) B.range (ao aC ak)) rT.mk1 rfl (by decide) rfl (fun fp s' H'=>(O9 (ao (pf eN hr (ao (pv 1) ak)) (ao (pf eN hr (ao (pv 1) ak)) (ao (pf eN hr (ao (pv 1) ak)) ak)))))) ak))) (aF (a_ (O9 (ao (pf eN hr (ao (pv 0) ak)) (ao (pf aK hr (ao (pv 0) (ao (aQ bB (pv 1) aC) ak))) (ao (pt (jc) B.tuple gW (ao (pv 2) ak)) (ao (pf aK hr (ao (pv 0) (ao aC ak))) (ao (pf aK hr (ao (pv 0) (ao aC ak))) (ao (pv 4) ak)))))))))))),?_⟩
 walk_at "rd";refine⟨gm _,fun p hp=>⟨_,_,rfl,?_⟩⟩;have pa:p≠a:=tp.ne hp;refine aaJ (n:=5) (fun R hR=>hR) (by decide) (fun i σ H'=>∃(left:Int) (cs:List Int) (o3:Option V),σ=[some (.ref a),some (.int left),some (.ref p),o3,none]/\H' p=some (.lst (cs.map V.int))/\cs.length=i/\(∀c∈cs,0<=c)/\cs.sum+left=12/\(0<=left/\left<=12)/\Tp H' a (n+i)/\SX a H H')
  ⟨12,[],none,rfl,aD,rfl,fun c h=>by simp at h,rfl,⟨by decide,by decide⟩,tp.same (aN hp _),SX.of (aN hp _)⟩ ?_ ?_
 ·rintro i σ H1 hi ⟨left,cs,o3,rfl,h1,h2,h3,h4,h5,t1,s1⟩;walk_at "rd";refine⟨.inl ⟨rfl,_,b_.of h1⟩,?_⟩;refine bZ.of t1 (by omega) (by split <;> omega) (by split <;> omega) fun v H2 l2 u2 t2 s2=>?_
  have h1':=s2.get pa h1;refine⟨p,_,_,rfl,rfl,h1',by rw[b7]; exact aP (by omega),?_⟩
  have e:(cs.map V.int++[V.int v])=(cs++[v]).map V.int:=by simp
  rw[e];refine Ix.lst aD (v:=.int v) ?_ ?_
  ·have:=aY (xs:=(cs++[v]).map V.int) (j:=i) (v:=.int v) (by subst h2; simp)
   rw[Int.zero_add]; exact this
  ·walk_at "rd";have lv:v<=left:=by split at u2 <;> omega
   refine⟨left-v,cs++[v],_,rfl,aD,by rw[cB,h2]; rfl,fun c hc=>?_,?_,by omega,?_,?_⟩
   ·rcases eQ.mp hc with z | z
    ·exact h3 c z
    ·rw[dH.mp z]; exact l2
   ·rw[List.sum_append]; simp; omega
   ·exact t2.du pa
   ·exact(s1.trans s2).du hp pa
 ·rintro σ H1 ⟨left,cs,o3,rfl,h1,h2,h3,h4,h5,t1,s1⟩;walk_at "rd";refine QF (n:=3) (fun R hR=>hR) (by decide) fun acc hacc=>?_
  have ca:acc≠a:=t1.ne hacc;refine⟨fun i ys H'=>∃us:List (List Int),us.length=i/\(∀u∈us,Vw u)/\aj (hid acc (hid a H')) (us.map jR) ys/\ys.length=i/\H' acc=some (.lst ys)/\Tp H' a (n+5+12*i)/\SX a H1 H',?_,?_,?_⟩
  ·exact⟨[],rfl,fun u h=>by simp at h,aj.nil,rfl,aD,t1.du ca,(SX.refl a H1).du hacc ca⟩
  ·rintro i ys H2 hi ⟨us,l2,u2,a2,y2,c2,t2,s2⟩;show V2 _ [some _,some (.ref a)] H2 _;walk_at "rd";refine Ak.of t2 (by omega) fun v1 H3 l3 u3 t3 s3=>?_
   refine Ak.of t3 (by omega) fun v2 H4 l4 u4 t4 s4=>?_
   refine Ak.of t4 (by omega) fun v3 H5 l5 u5 t5 s5=>?_
   refine⟨(by show 3<=sizeLine; decide),fun t ht=>?_⟩
   have s25:=s3.trans (s4.trans s5);have ta:t≠a:=t5.ne ht;have c5:=s25.get ca c2;have tc:t≠acc:=fun z=>by subst z; rw[ht] at c5; cases c5
   refine⟨by rw[aL (Ne.symm tc)]; exact c5,aP (by omega),us++[[v1,v2,v3]],by rw[cB,l2]; rfl,fun u hu=>?_,?_,by rw[cB,y2]; rfl,aD,?_,?_⟩
   ·rcases eQ.mp hu with z | z
    ·exact u2 u z
    ·rw[dH.mp z]; exact⟨v1,v2,v3,rfl,⟨l3,u3⟩,⟨l4,u4⟩,⟨l5,u5⟩⟩
   ·rw[cW ca,rA,cW ta,cW tc,gq];have fr:(hid acc (hid a H5)) t=none:=by rw[cJ tc,cJ ta]; exact ht
    refine aj.append ((a2.mono (aM.hid s25)).mono (aN fr _)) (aj.cons (At.tup aD ?_) aj.nil);exact aj.cons (At.int _) (aj.cons (At.int _) (aj.cons (At.int _) aj.nil))
   ·exact((t5.du ta).du ca).mono (by omega)
   ·exact(((s2.trans s25).trans (SX.of (aN ht _))).du hacc ca)
  ·rintro ys H2 ⟨us,l2,u2,a2,y2,c2,t2,s2⟩;refine⟨acc,ys,rfl,c2,fun l hl=>?_⟩;have la:l≠a:=t2.ne hl
   have A1:At (hid a (upd H2 l (.tup ys))) (.tuple (us.map jR)) (.ref l):=by
    rw[cW la];have fr:hid a H2 l=none:=by rw[cJ la]; exact hl
    exact At.tup aD ((a2.mono rB).mono (aN fr _))
   have p2:upd H2 l (.tup ys) p=some (.lst (cs.map V.int)):=by
    have:=s2.get pa h1;rw[aL (fun z=>by subst z; rw[hl] at this; cases this)]; exact this
   refine Ak.of (t2.du la) (by omega) fun v3 H3 l3 u3 t3 s3=>?_
   refine bZ.of t3 (by omega) (by omega) (by omega) fun v4 H4 l4 u4 t4 s4=>?_
   refine⟨p,_,rfl,s4.get pa (s3.get pa p2),fun m hm=>?_⟩;have ma:m≠a:=t4.ne hm
   have A2:At (hid a (upd H4 m (.tup (cs.map V.int)))) (.tuple (cs.map .int)) (.ref m):=by
    rw[cW ma];exact At.tup aD (dh cs)
   have A1':At (hid a (upd H4 m (.tup (cs.map V.int)))) (.tuple (us.map jR)) (.ref l):=(A1.mono (s3.trans s4)).mono (SX.of (aN hm _));refine bZ.of (t4.du ma) (by omega) (by decide) (by decide) fun v5 H5 l5 u5 t5 s5=>?_
   refine bZ.of t5 (by omega) (by decide) (by decide) fun v6 H6 l6 u6 t6 s6=>?_
   refine⟨(by show 6<=sizeLine; decide),fun z hz=>?_⟩
   have za:z≠a:=t6.ne hz;have fr:hid a H6 z=none:=by rw[cJ za]; exact hz
   have s56:=s5.trans s6;refine q z ⟨v3,v4,cs,v5,v6,us⟩ _ ⟨⟨l3,u3⟩,l4,h2,h3,by show v4+cs.sum<=12; omega,⟨l5,by show v5<=5; omega⟩,⟨l6,by show v6<=9; omega⟩,l2,u2⟩ ?_ ((t6.du za).mono (by omega)) ?_
   ·rw[cW za];exact At.tup aD (aj.cons (At.int _) (aj.cons (At.int _) (aj.cons ((A2.mono s56).mono (aN fr _)) (aj.cons (At.int _) (aj.cons (At.int _) (aj.cons ((A1'.mono s56).mono (aN fr _)) aj.nil))))))
   ·refine SX.trans s1 (SX.trans s2 (SX.trans (SX.of (aN hl _)) (SX.trans s3 (SX.trans s4 (SX.trans (SX.of (aN hm _)) (SX.trans s5 (SX.trans s6 (SX.of (aN hz _)))))))))
theorem Rp {x:g_} {st:iR} {ch:Int} (hx:Q4 x) (hs:Ia st):Ia (gF x st ch):=by
 have hc:=hs.c;have ha:=hx.a;unfold gF;split
 ·exact hs
 ·split
  ·refine⟨?_,hs.u,hs.l⟩;simp only[cB,j5,uE,gw,uD];omega
  ·refine⟨?_,hs.u,hs.l⟩;simp only[qi];exact hc
def Ja:Sp:=fun vs H Q _=>∃(v:V) (x:g_),vs=[v]/\At H (eV x) v/\∀u H',aM H H'->At H' (vA ⟨0,x.lo,[0,0,0,0,0],0,0,[[0,0,0],[0,0,0],[0,0,0]]⟩) u->Q u H'
theorem GP {H:Hp} {x:g_} {v:V} (h:At H (eV x) v):∃a b c d,v=.ref a/\H a=some (.tup [.int x.p,.int x.m,.ref b,.int x.a,.int x.e,.ref c,.ref d])/\H b=some (.tup [.int x.lo,.int x.hi])/\H c=some (.tup [.int x.u,.int x.d])/\At H (vW x.dR) (.ref d):=by
 obtain⟨a,xs,rfl,h1,h2⟩:=bw h;obtain⟨x0,_,rfl,b0,h2⟩:=aj.aO h2;obtain⟨x1,_,rfl,b1,h2⟩:=aj.aO h2;obtain⟨x2,_,rfl,b2,h2⟩:=aj.aO h2;obtain⟨x3,_,rfl,b3,h2⟩:=aj.aO h2;obtain⟨x4,_,rfl,b4,h2⟩:=aj.aO h2;obtain⟨x5,_,rfl,b5,h2⟩:=aj.aO h2;obtain⟨x6,_,rfl,b6,h2⟩:=aj.aO h2;cases aj.h_ h2;unfold At at b0 b1 b3 b4;subst b0 b1 b3 b4;obtain⟨b,ys,rfl,g3,g4⟩:=bw b2;obtain⟨c,zs,rfl,g1,g2⟩:=bw b5;obtain⟨d,ws,rfl,_,_⟩:=bw b6;cases cN (cs:=[x.u,x.d]) g2;cases cN (cs:=[x.lo,x.hi]) g4;exact⟨a,b,c,d,rfl,h1,g3,g1,b6⟩
theorem m6:aV ["post","least","nothing"] ["post"] (aG jU):=(by walk_at "c")
theorem wJ (F:iM K "first_stand" "first_stand" jU f fd) (B:Bi mg):bJ P w K mg base gD (k+1) f fd ["post"] Ja:=by
 refine F.ok m6 (by rintro vs H Q E ⟨v,x,rfl,_⟩; rfl) (fun cdv A outer s H vs Q E hr h=>?_)
 obtain⟨pA,x,rfl,a1,q⟩:=h;have ND:=m6.nd;refine⟨_,(aq (aU (i:=1) ND rfl (by walk_at "o") (bz bj (bz bj (pv 0) aC (fun _ _=>rfl)) aC (fun _ _=>rfl))) (aq (aU (i:=2) ND rfl (by walk_at "o") (bc (ao aC (ao aC (ao aC ak))))) (aF (a_ (bc (ao aC (ao (pv 1) (ao (bc (ao aC (ao aC (ao aC (ao aC (ao aC ak)))))) (ao aC (ao aC (ao (bc (ao (pv 2) (ao (pv 2) (ao (pv 2) ak)))) ak))))))))))),?_⟩
 obtain⟨pa,pb,pc,pd,rfl,p1,p2,p3,_⟩:=GP a1;walk_at "rd";refine Ix.tup p1 (v:=.ref pb) rfl (Ix.tup p2 (v:=.int x.lo) rfl ⟨(by decide),fun p4 H4 f4 s4 e4=>⟨(by decide),fun p5 H5 f5 s5 e5=>⟨(by decide),fun p6 H6 f6 s6 e6=>⟨(by decide),fun p7 H7 f7 s7 e7=>?_⟩⟩⟩⟩)
 have s47:=s5.trans (s6.trans s7);refine q _ _ (s4.trans s47) ?_;have tri:At H7 (jR [0,0,0]) (.ref p4):=At.tup (s47 _ _ e4) (dh [0,0,0]);exact At.tup e7 (aj.cons (At.int _) (aj.cons (At.int _) (aj.cons (At.tup ((s6.trans s7) _ _ e5) (dh [0,0,0,0,0])) (aj.cons (At.int _) (aj.cons (At.int _) (aj.cons (At.tup (s7 _ _ e6) (aj.cons tri (aj.cons tri (aj.cons tri aj.nil)))) aj.nil))))))
theorem gM:∀cs:List Int,bK (cs.map PyData.int)=true
 | []=>rfl
 | c::cs=>by show(uf (.int c)&&bK (cs.map .int))=true; rw[gM cs]; rfl
theorem Dg:∀us:List (List Int),bK (us.map jR)=true
 | []=>rfl
 | u::us=>by
  show(bK (u.map PyData.int)&&bK (us.map jR))=true;rw[Dg us,gM u]; rfl
theorem uU (n:iR):uf (vA n)=true:=by
 simp only[vA,uf,bK,gM,Dg,Bool.and_self]
structure Uh (r:kh):Prop where
 is:xO r
 g:r.g∈(["over","under","each"]:List Str)
 z:r.g = "each" -> r.t=0
 t:r.g ≠ "each" -> -12<=r.t/\r.t<=12/\r.t≠0
def N8:Sp:=fun vs H Q _=>∃(a:Addr) (n:Nat) (b:Bool),vs=[.ref a,.bl b]/\Tp H a n/\n<=800000000/\∀v r H',Uh r->At (hid a H') (Ba r) v->Tp H' a (n+12)->SX a H H'->Q v H'
def Nv (c:TT) (a b:TE):TE:=Zr c a b
theorem ac0 {c:TT} {b:TE}:Zr c (mD 6) b=Nv c (mD 6) b:=rfl
theorem Nv.of {c:TT} {a b:TE} {σ:St} {H:Hp} {Q:VK} (R:V->Hp->Prop) (hR:∀v H',R v H'->Q v H') (h:∀N:VK,(∀v H',R v H'->N v H')->Zr c a b σ H N):Nv c a b σ H Q:=h _ hR
theorem Row.of {a:Addr} {n:Nat} {b:Bool} {H:Hp} {Q:VK} {E:XK} (t:Tp H a n) (hn:n<=800000000) (q:∀v r H',Uh r->At (hid a H') (Ba r) v->Tp H' a (n+12)->SX a H H'->Q v H'):N8 ([.ref a,.bl b]++[]) H Q E:=⟨a,n,b,rfl,t,hn,q⟩
theorem Dn:aV ["_law_tape_here","_law_small","_law_sign","_law_what","_law_span","_law_number","_law_step"] ["_law_tape_here","_law_small"] (aG A_):=(by walk_at "c")
theorem Pn (F:iM K "_law_row" "_law_row" A_ f fd) (B:Bi mg) (aK:Ct P w K mg base k "_law_draw" ["_law_tape_here","_law_many"] fW) (eN:Ct P w K mg base k "_law_units" ["_law_tape_here"] ou):bJ P w K mg base gD (k+1) f fd ["_law_tape_here","_law_small"] N8:=by
 refine F.ok Dn (by rintro vs H Q E ⟨a,n,b,rfl,_⟩; rfl) (fun cdv A outer s H vs Q E hr h=>?_)
 obtain⟨a,n,b,rfl,tp,hn,q⟩:=h;have ND:=Dn.nd;refine⟨_,(aq (aU (i:=2) ND rfl (by walk_at "o") (bz bj (bM (ao fY (ao fY (ao fY ak)))) (pf aK hr (ao (pv 0) (ao aC ak))) (fun _ _=>rfl))) (aq (aU (i:=3) ND rfl (by walk_at "o") (bz bj (bM (ao fY (ao fY (ao fY (ao fY ak))))) (pf aK hr (ao (pv 0) (ao aC ak))) (fun _ _=>rfl))) (aq (aU (i:=4) ND rfl (by walk_at "o") (dI (dY (pv 1)) (bz bj (bM (ao aC (ao aC (ao aC (ao (aQ bB aC (pf aK hr (ao (pv 0) (ao aC ak)))) ak))))) (pf aK hr (ao (pv 0) (ao aC ak))) (fun _ _=>rfl)) (aQ bB aC (pf aK hr (ao (pv 0) (ao aC ak)))))) (aq (aU (i:=5) ND rfl (by walk_at "o") (dI (dY (pv 1)) (pf aK hr (ao (pv 0) (ao aC ak))) (pf eN hr (ao (pv 0) ak)))) (aq (cL (bh gC (pv 2) fY (bf _)) (aF (a_ (bc (ao (pv 3) (ao (pv 4) (ao (pv 2) (ao (pb (kY rfl) B.max tW (ao aC (ao (pv 5) ak))) (ao aC ak)))))))) bH) (aq (aU (i:=6) ND rfl (by walk_at "o") (aQ bB aC (pf aK hr (ao (pv 0) (ao (dI (dY (pv 1)) aC aC) ak))))) (aF (a_ (bc (ao (pv 3) (ao (pv 4) (ao (pv 2) (ao (pv 5) (ao (dI (bh wG (aQ bB (pf aK hr (ao (pv 0) (ao aC ak))) (aQ j7 (pt (Af) B.int HY (ao (dZ gC (pv 2) fY (bf _)) ak)) aC)) aC (bf _)) (pv 6) (aQ j6 aC (pv 6))) ak)))))))))))))),?_⟩
 simp only[yZ 4,yZ 5,yZ 6,ac0];walk_at "rd";refine⟨(by decide),fun p1 H1 f1 s1 e1=>?_⟩
 refine bZ.of (tp.same s1) (by omega) (by decide) (by decide) fun y1 H2 l2 u2 t2 s2=>?_
 have n1:p1≠a:=tp.ne f1;obtain⟨g,hg,eg⟩:=zM (ts:=["over","under","each"]) l2 u2;refine Ix.lst (s2.get n1 e1) eg ?_;refine⟨(by decide),fun p3 H3 f3 s3 e3=>?_⟩
 refine bZ.of (t2.same s3) (by omega) (by decide) (by decide) fun y4 H4 l4 u4 t4 s4=>?_
 have n3:p3≠a:=t2.ne f3;obtain⟨w,hw,ew⟩:=zM (ts:=["come","done","wait","wait"]) l4 u4
 have hw':w∈(["come","done","wait"]:List Str):=by
  simp only[bF,dU,or_false] at hw ⊢;rcases hw with z | z | z | z
  ·exact .inl z
  ·exact .inr (.inl z)
  ·exact .inr (.inr z)
  ·exact .inr (.inr z)
 refine Ix.lst (s4.get n3 e3) ew ?_;have sx4:SX a H H4:=(SX.of s1).trans (s2.trans ((SX.of s3).trans s4))
 have fin:∀(sp:Nat) (nn tt:Int) (H8:Hp) (m:Nat),(1<=sp/\sp<=4)->Tp H8 a m->m<=n+12->SX a H H8->(0<=nn/\nn<=1000000000000)->(g = "each" -> 1<=nn)->(g = "each" -> tt=0)->(g ≠ "each" -> -12<=tt/\tt<=12/\tt≠0)->∀p H',H8 p=none->aM H8 H'->H' p=some (.tup [.str w,.int sp,.str g,.int nn,.int tt])->Q (.ref p) H':=fun sp nn tt H8 m hsp t8 hm s8 hnn hge hz ht p H' fp sp' ep=>by
  have pa:p≠a:=t8.ne fp;refine q _ ⟨w,sp,g,nn,tt⟩ H' ⟨⟨hw',hsp,hnn,hge⟩,hg,hz,ht⟩ (At.tup (by rw[cJ pa]; exact ep) ?_) ((t8.same sp').mono hm) (s8.trans (SX.of sp'))
  exact aj.cons (At.str _) (aj.cons (At.int _) (aj.cons (At.str _) (aj.cons (At.int _) (aj.cons (At.int _) aj.nil))))
 cases b with
 | false=>
  show uy _ _ _ _ _;walk_at "rd";refine bZ.of t4 (by omega) (by decide) (by decide) fun y5 H5 l5 u5 t5 s5=>?_
  walk_at "rd";show uy _ _ _ _ _;walk_at "rd";refine Ak.of t5 (by omega) fun num H6 l6 u6 t6 s6=>?_
  walk_at "rd";obtain⟨sp,hsp⟩:∃sp:Nat,1+y5=(sp:Int):=⟨(1+y5).toNat,by omega⟩
  rw[hsp];have sx:SX a H H6:=sx4.trans (s5.trans s6);refine cR (fun c1=>?_) (fun c1=>?_)
  ·exact⟨(by decide),fin _ _ _ H6 _ (by omega) t6 (by omega) sx (by split <;> omega) (fun _=>by split <;> omega) (fun _=>rfl) (fun z=>absurd (nF c1) z)⟩
  ·have c1':=Ky c1;show uy _ _ _ _ _;walk_at "rd";refine bZ.of t6 (by omega) (by decide) (by decide) fun y8 H8 l8 u8 t8 s8=>?_
   walk_at "rd";refine Nv.of (R:=fun v H9=>∃tt:Int,v=.int tt/\(-12<=tt/\tt<=12/\tt≠0)/\Tp H9 a (n+12)/\SX a H H9) ?_ ?_
   ·rintro v H9 ⟨tt,rfl,ht,t9,s9⟩;exact⟨(by decide),fin _ _ _ H9 _ (by omega) t9 (by omega) s9 ⟨l6,u6⟩ (fun z=>absurd z c1') (fun z=>absurd z c1') (fun _=>ht)⟩
   ·intro N hN;walk_at "rd";refine bZ.of t8 (by omega) (by decide) (by decide) fun y9 H9 l9 u9 t9 s9=>?_
    walk_at "rd";refine⟨.inr (by decide),?_⟩
    refine cR (fun c2=>?_) (fun c2=>?_)
    ·exact hN _ _ ⟨_,rfl,by omega,t9.mono (by omega),sx.trans (s8.trans s9)⟩
    ·exact hN _ _ ⟨_,rfl,by omega,t9.mono (by omega),sx.trans (s8.trans s9)⟩
 | true=>
  show uy _ _ _ _ _;walk_at "rd";refine bZ.of t4 (by omega) (by decide) (by decide) fun y5 H5 l5 u5 t5 s5=>?_
  walk_at "rd";refine⟨(by decide),fun p6 H6 f6 s6 e6=>?_⟩
  refine bZ.of (t5.same s6) (by omega) (by decide) (by decide) fun y7 H7 l7 u7 t7 s7=>?_
  have n6:p6≠a:=t5.ne f6;obtain⟨x,hx,ex⟩:=oA (ts:=[1,1,1,1+y5]) l7 u7;refine Ix.lst (s7.get n6 e6) ex ?_
  have hx':1<=x/\x<=4:=by
   simp only[bF,dU,or_false] at hx;rcases hx with rfl | rfl | rfl | rfl <;> omega
  show uy _ _ _ _ _;walk_at "rd";refine bZ.of t7 (by omega) (by decide) (by decide) fun num H8 l8 u8 t8 s8=>?_
  walk_at "rd";obtain⟨sp,rfl⟩:∃sp:Nat,x=(sp:Int):=⟨x.toNat,by omega⟩
  have sx:SX a H H8:=sx4.trans (s5.trans ((SX.of s6).trans (s7.trans s8)));refine cR (fun c1=>?_) (fun c1=>?_)
  ·exact⟨(by decide),fin _ _ _ H8 _ (by omega) t8 (by omega) sx (by split <;> omega) (fun _=>by split <;> omega) (fun _=>rfl) (fun z=>absurd (nF c1) z)⟩
  ·have c1':=Ky c1;show uy _ _ _ _ _;walk_at "rd";refine bZ.of t8 (by omega) (by decide) (by decide) fun y8 H9 l9 u9 t9 s9=>?_
   walk_at "rd";refine Nv.of (R:=fun v H9=>∃tt:Int,v=.int tt/\(-12<=tt/\tt<=12/\tt≠0)/\Tp H9 a (n+12)/\SX a H H9) ?_ ?_
   ·rintro v Um ⟨tt,rfl,ht,Zy,Q9⟩;exact⟨(by decide),fin _ _ _ Um _ (by omega) Zy (by omega) Q9 (by omega) (fun z=>absurd z c1') (fun z=>absurd z c1') (fun _=>ht)⟩
   ·intro N hN;walk_at "rd";refine bZ.of t9 (by omega) (by decide) (by decide) fun y9 Q6 l10 u10 t10 Fz=>?_
    walk_at "rd";refine⟨.inr (by decide),?_⟩
    refine cR (fun c2=>?_) (fun c2=>?_)
    ·exact hN _ _ ⟨_,rfl,by omega,t10.mono (by omega),sx.trans (s9.trans Fz)⟩
    ·exact hN _ _ ⟨_,rfl,by omega,t10.mono (by omega),sx.trans (s9.trans Fz)⟩
theorem RL (r:kh):uf (Ba r)=true:=rfl
theorem vX (rs:List kh):uf (vY rs)=true:=by
 show bK (rs.map Ba)=true;exact bu.mpr fun d hd=>by obtain⟨r,_,rfl⟩:=cO.mp hd; rfl
structure X_ (rs:List kh):Prop where
 lo:1<=rs.length
 hi:rs.length<=4
 g:∀r∈rs,Uh r
def Aw:Sp:=fun vs H Q _=>∃(a:Addr) (n:Nat) (bs:Bool),vs=[.ref a,.bl bs]/\Tp H a n/\n<=700000000/\∀p dR H',dR.length<=3->(∀rs∈dR,X_ rs)->At (hid a H') (vW dR) (.ref p)->Tp H' a (n+300)->SX a H H'->Q (.ref p) H'
theorem vJ:aV ["_law_tape_here","_law_small","_law_rules_here","_law_k"] ["_law_tape_here","_law_small"] (aG sS):=(by walk_at "c")
theorem G_ (F:iM K "_law_rules" "_law_rules" sS f fd) (B:Bi mg) (aK:Ct P w K mg base k "_law_draw" ["_law_tape_here","_law_many"] fW) (T_:Ct P w K mg base k "_law_row" ["_law_tape_here","_law_small"] N8):bJ P w K mg base gD (k+1) f fd ["_law_tape_here","_law_small"] Aw:=by
 refine F.ok vJ (by rintro vs H Q E ⟨a,n,bs,rfl,_⟩; rfl) (fun cdv A outer s H vs Q E hr h=>?_)
 obtain⟨a,n,bs,rfl,tp,hn,q⟩:=h;have ND:=vJ.nd;refine⟨_,(aq (aU (i:=2) ND rfl (by walk_at "o") (bM ak)) (aq (gK PassesOwn.never rfl (eG (by rfl) B.range (ao (pf aK hr (ao (pv 0) (ao (dI (dY (pv 1)) aC aC) ak))) ak)) (aH (i:=3) ND rfl (by walk_at "o")) (aF (bC (d7 (K:=K) rfl PySem.F.plainAttrs_list PySem.F.slot_list_append PySem.F.type_list_append cI (pv 2) (ao (pt (jc) B.tuple gW (ao (dG (N':=["_law_j","_law_tape_here","_law_small"]) (js:=[0,1]) rfl (eG (by rfl) B.range (ao (aQ bB aC (pf aK hr (ao (pv 0) (ao (dI (dY (pv 1)) aC aC) ak)))) ak)) rT.mk2 rfl (by decide) rfl (fun fp s' H'=>(pf T_ hr (ao (pv 1) (ao (pv 2) ak))))) ak)) ak))))) (aF (a_ (pt (jc) B.tuple gW (ao (pv 2) ak)))))),?_⟩
 walk_at "rd";refine⟨gm _,fun p H1 f1 s1 e1=>?_⟩;have pa:p≠a:=tp.ne f1;rw[qF];walk_at "rd";refine(fun(hT:∀(m:Int) (H2:Hp),0<=m->m<4->Tp H2 a (n+1)->SX a H1 H2->FK _ _ _ _ [.int m] H2)=>cR (fun _=>bZ.of (tp.same s1) (by omega) (by decide) (by decide) fun m H2 l2 u2 t2 s2=>hT m H2 l2 (by omega) t2 s2) (fun _=>bZ.of (tp.same s1) (by omega) (by decide) (by decide) fun m H2 l2 u2 t2 s2=>hT m H2 l2 (by omega) t2 s2)) ?_
 intro m H2 l2 u2 t2 s2;refine FK.of (n:=m.toNat) (by omega) (by omega) (fun i σ H'=>∃(dR:List (List kh)) (ys:List V) (o3:Option V),σ=[some (.ref a),some (.bl bs),some (.ref p),o3]/\dR.length=i/\ys.length=i/\(∀rs∈dR,X_ rs)/\H' p=some (.lst ys)/\aj (hid p (hid a H')) (dR.map vY) ys/\Tp H' a (n+1+60*i)/\SX a H H')
  ⟨[],[],_,rfl,rfl,rfl,fun d h=>by simp at h,s2.get pa e1,aj.nil,t2,(SX.of s1).trans s2⟩ ?_ ?_
 ·rintro i σ H3 hi ⟨dR,ys,o3,rfl,ld,ly,od,h3,a3,t3,s3⟩;walk_at "rd";refine⟨.inl ⟨rfl,_,b_.of h3⟩,?_⟩;rw[rZ];walk_at "rd";refine(fun(hT:∀(r:Int) (H4:Hp),0<=r->r<4->Tp H4 a (n+1+60*i+1)->SX a H3 H4->∃i_1 j_1,V.int 1=V.int i_1/\V.int r=V.int j_1/\CK _ _ _ _ [.int (i_1+j_1)] H4)=>cR (fun _=>bZ.of t3 (by omega) (by decide) (by decide) fun r H4 l4 u4 t4 s4=>hT r H4 l4 (by omega) t4 s4) (fun _=>bZ.of t3 (by omega) (by decide) (by decide) fun r H4 l4 u4 t4 s4=>hT r H4 l4 (by omega) t4 s4)) ?_
  intro r H4 l4 u4 t4 s4;have h4:=s4.get pa h3;walk_at "rd";refine CK.of (n:=(1+r).toNat) (by omega) (by omega) fun acc hacc=>?_
  have ca:acc≠a:=t4.ne hacc;have cp:acc≠p:=fun z=>by subst z; rw[hacc] at h4; cases h4
  refine⟨fun j zs H'=>∃es:List kh,es.length=j/\zs.length=j/\(∀d∈es,Uh d)/\aj (hid acc (hid a H')) (es.map Ba) zs/\H' acc=some (.lst zs)/\Tp H' a (n+1+60*i+1+12*j)/\SX a H4 H',?_,?_,?_⟩
  ·exact⟨[],rfl,rfl,fun d h=>by simp at h,aj.nil,aD,t4.du ca,(SX.refl a H4).du hacc ca⟩
  ·rintro j zs H5 hj ⟨es,le,lz,oe,a5,c5,t5,s5⟩;show mX _ _ _ _ [some _,some (.ref a),some (.bl bs)] H5 _;walk_at "rd";refine Row.of t5 (by omega) fun v d H6 rk a6 t6 s6=>?_
   have c6:=s6.get ca c5;have c6':hid a H6 acc=some (.lst zs):=by rw[cJ ca]; exact c6
   refine⟨c6,(by rw[lz]; exact aP (by omega)),es++[d],by rw[cB,le]; rfl,by rw[cB,lz]; rfl,fun x hx=>?_,?_,aD,?_,?_⟩
   ·rcases eQ.mp hx with z | z
    ·exact oe x z
    ·rw[dH.mp z]; exact rk
   ·rw[cW ca,rA,gq];exact(a5.mono (aM.hid s6)).append (aj.cons (At.Hu c6' _ v (RL d) a6) aj.nil)
   ·exact(t6.du ca).mono (by omega)
   ·exact(s5.trans s6).du hacc ca
  ·rintro zs H6 ⟨es,le,lz,oe,a6,c6,t6,s6⟩;have h6:=s6.get pa h4;refine⟨acc,zs,rfl,c6,fun l hl=>?_⟩;have la:l≠a:=t6.ne hl;have lp:l≠p:=fun z=>by subst z; rw[hl] at h6; cases h6
   refine⟨p,ys,_,rfl,rfl,by rw[aL (Ne.symm lp)]; exact h6,by rw[ly]; exact aP (by omega),?_⟩
   have A1:At (hid a (upd H6 l (.tup zs))) (vY es) (.ref l):=by
    rw[cW la];have fr:hid a H6 l=none:=by rw[cJ la]; exact hl
    exact At.tup aD ((a6.mono rB).mono (aN fr _))
   have h7:hid a (upd H6 l (.tup zs)) p=some (.lst ys):=by rw[cJ pa,aL (Ne.symm lp)]; exact h6
   have s67:SX a H3 (upd H6 l (.tup zs)):=(s4.trans s6).trans (SX.of (aN hl _));refine⟨dR++[es],ys++[.ref l],_,rfl,by rw[cB,ld]; rfl,by rw[cB,ly]; rfl,fun x hx=>?_,aD,?_,?_,?_⟩
   ·rcases eQ.mp hx with z | z
    ·exact od x z
    ·rw[dH.mp z]; exact⟨by omega,by omega,oe⟩
   ·rw[cW pa,rA,gq];exact(a3.mono (aM.hid s67)).append (aj.cons (At.Hu h7 _ _ (vX es) A1) aj.nil)
   ·exact((t6.du la).du pa).mono (by omega)
   ·exact(s3.trans s67).du f1 pa
 ·rintro σ H3 ⟨dR,ys,o3,rfl,ld,ly,od,h3,a3,t3,s3⟩;walk_at "rd";refine⟨p,ys,rfl,h3,fun l hl=>?_⟩;have la:l≠a:=t3.ne hl;refine q l dR _ (by omega) od ?_ ((t3.du la).mono (by omega)) (s3.trans (SX.of (aN hl _)))
  rw[cW la];have fr:hid a H3 l=none:=by rw[cJ la]; exact hl
  exact At.tup aD ((a3.mono rB).mono (aN fr _))
structure C_ (x:g_):Prop where
 p:1<=x.p/\x.p<=1000000
 m:U12 x.m
 lo:0<=x.lo/\x.lo<=x.hi
 hi:x.hi<=12
 a:x.a<=4
 e:1<=x.e/\x.e<=6
 u:0<=x.u/\x.u<=9
 d:0<=x.d/\x.d<=9
 n:x.dR.length<=3
 r:∀rs∈x.dR,X_ rs
theorem C_.is {x:g_} (h:C_ x):Q4 x:=⟨h.a,by have:=h.p; omega,by have:=h.n; omega,fun rs hrs r hr=>((h.r rs hrs).g r hr).is⟩
def vB:Sp:=fun vs H Q _=>∃(a:Addr) (n:Nat),vs=[.ref a]/\Tp H a n/\n<=100000000/\∀p x H',C_ x->At (hid a H') (eV x) (.ref p)->Tp H' a (n+400)->SX a H H'->Q (.ref p) H'
theorem jo:aV ["_law_tape_here","_law_least","_law_hands","_law_rests","_law_late","_law_every"] ["_law_tape_here"] (aG jf):=(by walk_at "c")
theorem uH (F:iM K "_law_small_post" "_law_small_post" jf f fd) (B:Bi mg) (aK:Ct P w K mg base k "_law_draw" ["_law_tape_here","_law_many"] fW) (tR:Ct P w K mg base k "_law_rules" ["_law_tape_here","_law_small"] Aw):bJ P w K mg base gD (k+1) f fd ["_law_tape_here"] vB:=by
 refine F.ok jo (by rintro vs H Q E ⟨a,n,rfl,_⟩; rfl) (fun cdv A outer s H vs Q E hr h=>?_)
 obtain⟨a,n,rfl,tp,hn,q⟩:=h;have ND:=jo.nd;refine⟨_,(aq (aU (i:=1) ND rfl (by walk_at "o") (pf aK hr (ao (pv 0) (ao aC ak)))) (aq (aU (i:=2) ND rfl (by walk_at "o") (bc (ao (pv 1) (ao (aQ bB (aQ bB (pv 1) aC) (pf aK hr (ao (pv 0) (ao aC ak)))) ak)))) (aq (aU (i:=3) ND rfl (by walk_at "o") (bz bj (bM (ao (bc (ao aC (ao aC ak))) (ao (bc (ao aC (ao aC ak))) (ao (bc (ao aC (ao aC ak))) (ao (bc (ao aC (ao aC ak))) ak))))) (pf aK hr (ao (pv 0) (ao aC ak))) (fun _ _=>rfl))) (aq (tG (i:=4) (j:=5) rfl ND rfl rfl (by decide) rfl rfl (ao (bz bj (bM (ao aC (ao aC (ao aC (ao aC ak))))) (pf aK hr (ao (pv 0) (ao aC ak))) (fun _ _=>rfl)) (ao (bz bj (bM (ao aC (ao aC (ao aC (ao aC ak))))) (pf aK hr (ao (pv 0) (ao aC ak))) (fun _ _=>rfl)) ak)) (by rfl)) (aF (a_ (bc (ao (aQ bB aC (pf aK hr (ao (pv 0) (ao aC ak)))) (ao (aQ bB aC (pf aK hr (ao (pv 0) (ao aC ak)))) (ao (pv 2) (ao (pv 4) (ao (pv 5) (ao (pv 3) (ao (pf tR hr (ao (pv 0) (ao pI ak))) ak)))))))))))))),?_⟩
 walk_at "rd";refine bZ.of tp (by omega) (by decide) (by decide) fun y1 H1 l1 u1 t1 s1=>?_
 walk_at "rd";refine bZ.of t1 (by omega) (by decide) (by decide) fun y2 H2 l2 u2 t2 s2=>⟨_,_,rfl,rfl,(by decide),fun p3 H3 f3 s3 e3=>?_⟩
 have n3:=t2.ne f3;refine⟨(by decide),fun q1 G1 g1 r1 d1=>⟨(by decide),fun q2 G2 g2 r2 d2=>⟨(by decide),fun q3 G3 g3 r3 d3=>⟨(by decide),fun q4 G4 g4 r4 d4=>⟨(by decide),fun p4 H4 f4 s4 e4=>?_⟩⟩⟩⟩⟩
 have x34:aM H3 H4:=r1.trans (r2.trans (r3.trans (r4.trans s4)));have t4:=(t2.same s3).same x34;have m1:=((t2.same s3)).ne g1;have m2:=((t2.same s3).same r1).ne g2;have m3:=(((t2.same s3).same r1).same r2).ne g3;have m4:=((((t2.same s3).same r1).same r2).same r3).ne g4;have n4:=(((((t2.same s3).same r1).same r2).same r3).same r4).ne f4;refine bZ.of t4 (by omega) (by decide) (by decide) fun y5 H5 l5 u5 t5 s5=>?_
 have pick:∃(pr:Addr) (uu dd:Int),yH [V.ref q1,V.ref q2,V.ref q3,V.ref q4] y5=some (.ref pr)/\pr≠a/\H5 pr=some (.tup [.int uu,.int dd])/\(0<=uu/\uu<=9)/\(0<=dd/\dd<=9):=by
  have:y5=0\/y5=1\/y5=2\/y5=3:=by omega
  rcases this with rfl | rfl | rfl | rfl
  ·exact⟨q1,0,0,aY (j:=0) rfl,m1,s5.get m1 (s4 _ _ (r4 _ _ (r3 _ _ (r2 _ _ d1)))),by decide,by decide⟩
  ·exact⟨q2,1,0,aY (j:=1) rfl,m2,s5.get m2 (s4 _ _ (r4 _ _ (r3 _ _ d2))),by decide,by decide⟩
  ·exact⟨q3,0,1,aY (j:=2) rfl,m3,s5.get m3 (s4 _ _ (r4 _ _ d3)),by decide,by decide⟩
  ·exact⟨q4,2,1,aY (j:=3) rfl,m4,s5.get m4 (s4 _ _ d4),by decide,by decide⟩
 obtain⟨pr,uu,dd,ep,npr,epr,hu,hd⟩:=pick;refine Ix.lst (s5.get n4 e4) ep ?_;refine⟨(by decide),fun p6 H6 f6 s6 e6=>?_⟩
 have t6:=t5.same s6;have n6:=t5.ne f6;refine bZ.of t6 (by omega) (by decide) (by decide) fun y7 H7 l7 u7 t7 s7=>?_
 obtain⟨lt,hlt,elt⟩:=oA (ts:=[0,1,0,2]) l7 u7
 have hlt':0<=lt/\lt<=2:=by
  simp only[bF,dU,or_false] at hlt;rcases hlt with rfl | rfl | rfl | rfl <;> omega
 refine Ix.lst (s7.get n6 e6) elt ?_;clear elt hlt l7 u7;refine⟨(by decide),fun p8 H8 f8 s8 e8=>?_⟩
 have t8:=t7.same s8;have n8:=t7.ne f8;refine bZ.of t8 (by omega) (by decide) (by decide) fun y9 H9 l9 u9 t9 s9=>?_
 obtain⟨ev,hev,eev⟩:=oA (ts:=[1,2,1,3]) l9 u9
 have ahj:1<=ev/\ev<=3:=by
  simp only[bF,dU,or_false] at hev;rcases hev with rfl | rfl | rfl | rfl <;> omega
 refine Ix.lst (s9.get n8 e8) eev ⟨_,_,rfl,?_⟩;clear eev hev l9 u9;refine bZ.of t9 (by omega) (by decide) (by decide) fun y10 Q6 l10 u10 t10 Fz=>⟨_,_,rfl,rfl,?_⟩
 refine bZ.of t10 (by omega) (by decide) (by decide) fun y11 Um l11 u11 Zy Q9=>⟨_,_,rfl,rfl,?_⟩
 refine⟨a,_,true,rfl,Zy,by omega,fun p14 dR H14 Xq Xo a14 Zx RK=>⟨(by decide),fun p15 Yk f15 Q8 TV=>?_⟩⟩
 have n15:=Zx.ne f15;obtain⟨la,hla⟩:∃la:Nat,lt=(la:Int):=⟨lt.toNat,by omega⟩
 rw[hla] at TV;have x5:SX a H5 Yk:=(SX.of s6).trans (s7.trans ((SX.of s8).trans (s9.trans (Fz.trans (Q9.trans (RK.trans (SX.of Q8)))))));have x3:SX a H3 Yk:=(SX.of x34).trans (s5.trans x5);refine q p15 ⟨1+y10,3+y11,y1,y1+1+y2,la,ev,uu,dd,dR⟩ Yk ⟨by show 1<=1+y10/\1+y10<=1000000; omega,by show 0<=3+y11/\3+y11<=1000000000000; omega,by show 0<=y1/\y1<=y1+1+y2; omega,by show y1+1+y2<=12; omega,by show la<=4; omega,by show 1<=ev/\ev<=6; omega,hu,hd,Xq,Xo⟩ ?_ ((Zx.same Q8).mono (by omega)) ?_
 ·exact At.tup (by rw[cJ n15]; exact TV) (aj.cons (At.int _) (aj.cons (At.int _) (aj.cons (At.tup (by rw[cJ n3]; exact x3.get n3 e3) (dh [y1,y1+1+y2])) (aj.cons (At.int _) (aj.cons (At.int _) (aj.cons (At.tup (by rw[cJ npr]; exact x5.get npr epr) (dh [uu,dd])) (aj.cons (a14.mono (SX.of Q8)) aj.nil)))))))
 ·exact s1.trans (s2.trans ((SX.of s3).trans x3))
theorem zf:aV ["_law_tape_here","_law_pace","_law_most","_law_hands","_law_rests","_law_late","_law_every"] ["_law_tape_here"] (aG vR):=(by walk_at "c")
theorem Lb (F:iM K "_law_post" "_law_post" vR f fd) (B:Bi mg) (aK:Ct P w K mg base k "_law_draw" ["_law_tape_here","_law_many"] fW) (eN:Ct P w K mg base k "_law_units" ["_law_tape_here"] ou) (tR:Ct P w K mg base k "_law_rules" ["_law_tape_here","_law_small"] Aw):bJ P w K mg base gD (k+1) f fd ["_law_tape_here"] vB:=by
 refine F.ok zf (by rintro vs H Q E ⟨a,n,rfl,_⟩; rfl) (fun cdv A outer s H vs Q E hr h=>?_)
 obtain⟨a,n,rfl,tp,hn,q⟩:=h;have ND:=zf.nd;refine⟨_,(aq (aU (i:=1) ND rfl (by walk_at "o") (bz bj (bM (ao aC (ao (aQ bB aC (pf aK hr (ao (pv 0) (ao aC ak)))) (ao (aQ bB aC (pf aK hr (ao (pv 0) (ao (aQ p_ aC aC) ak)))) ak)))) (pf aK hr (ao (pv 0) (ao aC ak))) (fun _ _=>rfl))) (aq (aU (i:=2) ND rfl (by walk_at "o") (pf aK hr (ao (pv 0) (ao aC ak)))) (aq (aU (i:=3) ND rfl (by walk_at "o") (bc (ao (pf aK hr (ao (pv 0) (ao (aQ bB (pv 2) aC) ak))) (ao (pv 2) ak)))) (aq (aU (i:=4) ND rfl (by walk_at "o") (bc (ao (pf aK hr (ao (pv 0) (ao aC ak))) (ao (pf aK hr (ao (pv 0) (ao aC ak))) ak)))) (aq (tG (i:=5) (j:=6) rfl ND rfl rfl (by decide) rfl rfl (ao (pf aK hr (ao (pv 0) (ao aC ak))) (ao (aQ bB aC (pf aK hr (ao (pv 0) (ao aC ak)))) ak)) (by rfl)) (aF (a_ (bc (ao (pv 1) (ao (pf eN hr (ao (pv 0) ak)) (ao (pv 3) (ao (pv 5) (ao (pv 6) (ao (pv 4) (ao (pf tR hr (ao (pv 0) (ao pI ak))) ak))))))))))))))),?_⟩
 have e6:(10:Int) ^ Int.toNat 6=1000000:=by decide
 walk_at "rd";refine bZ.of tp (by omega) (by decide) (by decide) fun y1 H1 l1 u1 t1 s1=>?_
 walk_at "rd";refine⟨⟨by decide,by decide,by decide⟩,bZ.of t1 (by omega) (by decide) (by decide) fun y2 H2 l2 u2 t2 s2=>⟨_,_,rfl,rfl,(by decide),fun p3 H3 f3 s3 e3=>?_⟩⟩
 rw[e6] at u2;have n3:=t2.ne f3;refine bZ.of (t2.same s3) (by omega) (by decide) (by decide) fun y4 H4 l4 u4 t4 s4=>?_
 obtain⟨pc,hpc,epc⟩:=oA (ts:=[1,1+y1,1+y2]) l4 u4
 have ac3:1<=pc/\pc<=1000000:=by
  simp only[bF,dU,or_false] at hpc;rcases hpc with rfl | rfl | rfl <;> omega
 refine Ix.lst (s4.get n3 e3) epc ?_;clear hpc epc l4 u4;refine bZ.of t4 (by omega) (by decide) (by decide) fun y5 H5 l5 u5 t5 s5=>⟨_,_,rfl,rfl,?_⟩
 refine bZ.of t5 (by omega) (by omega) (by omega) fun y6 H6 l6 u6 t6 s6=>⟨(by decide),fun p7 H7 f7 s7 e7=>?_⟩
 have n7:=t6.ne f7;refine bZ.of (t6.same s7) (by omega) (by decide) (by decide) fun y8 H8 l8 u8 t8 s8=>?_
 refine bZ.of t8 (by omega) (by decide) (by decide) fun y9 H9 l9 u9 t9 s9=>⟨(by decide),fun p10 Q6 f10 Fz e10=>?_⟩
 have n10:=t9.ne f10;refine bZ.of (t9.same Fz) (by omega) (by decide) (by decide) fun y11 Um l11 u11 Zy Q9=>?_
 refine bZ.of Zy (by omega) (by decide) (by decide) fun y12 H12 l12 u12 t12 s12=>⟨_,_,rfl,rfl,_,_,rfl,?_⟩
 refine Ak.of t12 (by omega) fun y13 H13 l13 u13 t13 pU=>?_
 refine⟨a,_,false,rfl,t13,by omega,fun p14 dR H14 Xq Xo a14 Zx RK=>⟨(by decide),fun p15 Yk f15 Q8 TV=>?_⟩⟩
 have n15:=Zx.ne f15;obtain⟨la,hla⟩:∃la:Nat,y11=(la:Int):=⟨y11.toNat,by omega⟩
 rw[hla] at TV;have x10:SX a Q6 Yk:=Q9.trans (s12.trans (pU.trans (RK.trans (SX.of Q8))));have x7:SX a H7 Yk:=s8.trans (s9.trans ((SX.of Fz).trans x10));refine q p15 ⟨pc,y13,y6,y5,la,1+y12,y8,y9,dR⟩ Yk ⟨ac3,⟨l13,u13⟩,by show 0<=y6/\y6<=y5; omega,by show y5<=12; omega,by show la<=4; omega,by show 1<=1+y12/\1+y12<=6; omega,by show 0<=y8/\y8<=9; omega,by show 0<=y9/\y9<=9; omega,Xq,Xo⟩ ?_ ((Zx.same Q8).mono (by omega)) ?_
 ·exact At.tup (by rw[cJ n15]; exact TV) (aj.cons (At.int _) (aj.cons (At.int _) (aj.cons (At.tup (by rw[cJ n7]; exact x7.get n7 e7) (dh [y6,y5])) (aj.cons (At.int _) (aj.cons (At.int _) (aj.cons (At.tup (by rw[cJ n10]; exact x10.get n10 e10) (dh [y8,y9])) (aj.cons (a14.mono (SX.of Q8)) aj.nil)))))))
 ·exact s1.trans (s2.trans ((SX.of s3).trans (s4.trans (s5.trans (s6.trans ((SX.of s7).trans x7))))))
def ltr (c:Nat):Bool:=!(Builtin.Str.occurrences (Str.ofString "abcdefghijklmnopqrstuvwxyz") (tx [c]) 0 (Str.ofString "abcdefghijklmnopqrstuvwxyz").length 1).isEmpty
def nameB (cs:List Nat):Bool:=decide (1<=cs.length)&&decide (cs.length<=8)&&cs.all ltr
def Yc (c:Nat):Prop:=97<=c/\c<=122
structure MK (cs:List Nat):Prop where
 n:1<=cs.length/\cs.length<=8
 g:∀c∈cs,Yc c
theorem W_ {c:Nat} (h:Yc c):ltr c=true:=by
 have:∀d:Fin 26,ltr (97+d.val)=true:=by decide +kernel
 have h2:=this ⟨c-97,by have:=h.1; have:=h.2; omega⟩
 have e:97+(c-97)=c:=by have:=h.1; omega
 simpa[e] using h2
theorem MK.is {cs:List Nat} (h:MK cs):nameB cs=true:=by
 unfold nameB;rw[j0 h.n.1,j0 h.n.2,j4.mpr fun c hc=>W_ (h.g c hc)];rfl
def Gu:Sp:=fun vs H Q _=>∃(cs:List Nat),vs=[.str (tx cs)]/\(∀c∈cs,c<128)/\cs.length<=1000/\∀H',aM H H'->Q (.bl (nameB cs)) H'
theorem vN:aV ["thing"] ["thing"] (aG sX):=(by walk_at "c")
theorem Hd (F:iM K "is_name" "is_name" sX f fd) (B:Bi mg) (O:Co K mg):bJ P w K mg base gD (k+1) f fd ["thing"] Gu:=by
 refine F.ok vN (by rintro vs H Q E ⟨cs,rfl,_⟩; rfl) (fun cdv A outer s H vs Q E hr h=>?_)
 obtain⟨cs,rfl,ha,hz,q⟩:=h;have ND:=vN.nd;refine⟨_,(aq (cL (PW.pt (qU (lJ (dY (pb u_ B.isinstance bL (ao (pv 0) (ao (pty (by rfl) B.str jC) ak))))) (lH (lJ (D_ Ed Ed aC (pb (rM) B.len dM (ao (pv 0) ak)) (Bl O.CQ)))))) (aF (a_ pI)) bH) (aF (a_ (pb (k_ rfl) B.all xN (ao (dG (N':=["sign"]) (js:=[]) rfl (Wu (pv 0)) rT.Te rfl (by decide) rfl (fun fp s' H'=>(dZ KZ (pv 0) (Bk O.LETTERS) (by with_unfolding_all rfl)))) ak))))),?_⟩
 walk_at "rd";refine⟨.str (tx cs),_,rfl,At.str _,?_⟩;walk_at "rd";refine⟨tx cs,rfl,by rw[fV,sizeLine_eq]; omega,?_⟩
 rw[fV];refine aaz (fun h=>?_) (fun h=>?_)
 ·refine aaz (fun h2=>?_) (fun h2=>?_)
  ·have:nameB cs=false:=by
    have h3:¬cs.length<=8:=by simp at h2; omega
    unfold nameB; rw[mH h3]; simp
   rw[<- this]; exact q H (aM.refl H)
  ·refine XQ (l:=cs) (f:=ltr) (fun R hR=>by walk_at "rd"; exact hR) ha (by rw[sizeLine_eq]; omega) (fun c H1 s1 R hR=>?_) fun acc H1 s1 e1=>?_
   ·walk_at "rd";exact⟨_,_,rfl,rfl,hR H1 (aM.refl H1)⟩
   ·refine⟨acc,_,rfl,e1,?_⟩;have h1:1<=cs.length:=by simp at h; omega
    have h3:cs.length<=8:=by simp at h2; omega
    have:nameB cs=(cs.map ltr).all id:=by unfold nameB; rw[j0 h1,j0 h3,List.all_map]; rfl
    rw[<- this]; exact q H1 s1
 ·have:nameB cs=false:=by
   have h3:¬1<=cs.length:=fun z=>h (by simp; omega)
   unfold nameB; rw[mH h3]; simp
  rw[<- this]; exact q H (aM.refl H)
theorem Name.of {cs:List Nat} {H:Hp} {Q:VK} {E:XK} (h:MK cs) (q:∀H',aM H H'->Q (.bl true) H'):Gu ([.str (tx cs)]++[]) H Q E:=
 ⟨cs,rfl,fun c hc=>by have:=(h.g c hc).2; omega,by have:=h.n.2; omega,fun H' s'=>by rw[h.is]; exact q H' s'⟩
theorem Qe:∀cs:List Nat,jn [] (cs.map fun c=>[c])=cs
 | []=>rfl
 | [c]=>rfl
 | c::d::r=>by
  show[c]++[]++jn [] ((d::r).map fun c=>[c])=_;rw[Qe (d::r)]; rfl
theorem letter {i:Int} (h0:0<=i) (h1:i<26):yH (Str.ofString "abcdefghijklmnopqrstuvwxyz").cps.toList i=some (97+i.toNat):=by
 obtain⟨j,rfl⟩:∃j:Nat,i=(j:Int):=⟨i.toNat,by omega⟩
 have hl:(Str.ofString "abcdefghijklmnopqrstuvwxyz").cps.toList=(List.range 26).map (97 + ·):=by decide +kernel
 rw[hl];refine aY ?_;rw[cT,List.getElem?_range (by omega)]
 rfl
theorem Oc (l:List Nat) {j:Int} (h0:0<=j) (h1:j<=l.length):Txt.slice (tx l) none (some j)=tx (l.take j.toNat):=by
 have:=beq_iff_eq.mp (PyProof.Rows.slice_closes_toL (x:=tx l) h0 (by rw[fV]; exact h1))
 rw[this,vm];simp[tx]
theorem Od (l:List Nat) {j:Int} (h0:0<=j) (h1:j<=l.length):Txt.slice (tx l) (some j) none=tx (l.drop j.toNat):=by
 have:=beq_iff_eq.mp (PyProof.Rows.slice_closes_fromL (x:=tx l) (b:=(tx l).length) h0 (by rw[fV]; exact h1) rfl)
 rw[this,vm,fV];unfold tx
 congr 2
 exact Jl (by rw[uE]; omega)
theorem Kp {m:Nat} {g:Nat->Option Nat} (h:∀i j,i<j->j<m->g i≠g j):((List.range m).map g).Nodup:=by
 unfold List.Nodup;rw[List.pairwise_map];refine List.Pairwise.imp_of_mem ?_ List.pairwise_lt_range;intro a b ha hb hab;exact h a b hab (zH.mp hb)
def Rg (y:Int) (i:Nat):Nat:=97+((y+7*(i:Int)) % 26).toNat
theorem aaW (y:Int) (i:Nat):Yc (Rg y i):=by
 unfold Rg Yc;have:=wg (y+7*(i:Int)) (show(26:Int)≠0 by decide)
 have:=Be (y+7*(i:Int)) (show(0:Int)<26 by decide)
 omega
theorem aaV {y:Int} {i j:Nat} (h:i<j) (hj:j<26):Rg y i≠Rg y j:=by
 unfold Rg;have:=wg (y+7*(i:Int)) (show(26:Int)≠0 by decide)
 have:=wg (y+7*(j:Int)) (show(26:Int)≠0 by decide)
 omega
theorem word {a:Addr} {n:Nat} {LT:Str} {r:St} {H:Hp} {Q:VK} (hLl:LT.length<=sizeLine) (Qk:∀i:Int,0<=i->i<26->yH LT.cps.toList i=some (97+i.toNat)) (hc:bQ [2,0] (some (.ref a)::r)=[some (.str LT),some (.ref a)]) (tp:Tp H a n) (hn:n<=200000000)
  (q:∀acc (cs:List Nat) H',cs.length<=7->(∀c∈cs,Yc c)->H' acc=some (.lst (cs.map fun c=>V.str (tx [c])))->Tp H' a (n+10)->SX a H H'->Q (.ref acc) H') :
  gG [2,0] (zW (ph (mX fW [] E0 (ph (mD 0) (ph (tC (V.int 8)) Ar))) Ar)) (RB Z4 (mD 1) (mX fW [] E0 (ph (mD 2) (ph (tC (V.int 26)) Ar)))) (some (.ref a)::r) H Q:=by
 rw[rZ];walk_at "rd";refine bZ.of tp (by omega) (by decide) (by decide) fun y6 H6 l6 u6 t6 s6=>?_
 refine CK.of (n:=y6.toNat) (by omega) (by omega) fun acc hacc=>?_
 have ca:acc≠a:=t6.ne hacc;refine⟨fun j ws H'=>∃cs:List Nat,cs.length=j/\ws=cs.map (fun c=>V.str (tx [c]))/\(∀c∈cs,Yc c)/\H' acc=some (.lst ws)/\Tp H' a (n+1+j)/\SX a H6 H',?_,?_,?_⟩
 ·exact⟨[],rfl,rfl,fun d h=>by simp at h,aD,t6.du ca,(SX.refl a H6).du hacc ca⟩
 ·rintro j ws H7 hj ⟨cs,lc,rfl,hcs,c7,t7,s7⟩;rw[hc];walk_at "rd";refine bZ.of t7 (by omega) (by decide) (by decide) fun y8 H8 l8 u8 t8 s8=>?_
  refine⟨LT,_,_,rfl,rfl,hLl,Qk y8 l8 u8,s8.get ca c7,by rw[b7,lc]; exact aP (by omega),cs++[97+y8.toNat],by rw[cB,lc]; rfl,by rw[gq]; rfl,fun x hx=>?_,aD,(t8.du ca).mono (by omega),(s7.trans s8).du hacc ca⟩
  rcases eQ.mp hx with h | h
  ·exact hcs x h
  ·rw[dH.mp h]; unfold Yc; omega
 ·rintro ws H7 ⟨cs,lc,rfl,hcs,c7,t7,s7⟩;exact q acc cs H7 (by omega) hcs c7 (t7.mono (by omega)) (s6.trans s7)
theorem V8 {a p:Addr} {H H':Hp} (s:SX a H H') (n:p≠a) (h:H' p=none):H p=none:=by
 cases e:H p with
 | none=>rfl
 | some o=>rw[s.get n e] at h; cases h
theorem JD {cs:List Nat} (h:cs.length<=7):((cs.map fun c=>tx [c]).map fun x=>x.length).sum+(cs.map fun c=>tx [c]).length*(Str.ofString "").length<=sizeLine:=by
 have:=StrLaws.sumLen_le (B:=1) (cs.map fun c=>tx [c]) (fun y hy=>by
  obtain⟨x,hx,rfl⟩:=cO.mp hy
  exact bD _)
 rw[b7] at this ⊢;rw[show(Str.ofString "").length=0 from rfl,sizeLine_eq];omega
def Wc:Sp:=fun vs H Q _=>∃(a:Addr) (n m:Nat),vs=[.ref a,.int m]/\m<=20/\Tp H a n/\n<=100000000/\∀p (zs:List (List Nat)) H',H p=none->p≠a->zs.length=m->(∀z∈zs,MK z)->zs.Nodup->H' p=some (.lst (zs.map fun z=>V.str (tx z)))->Tp H' a (n+300)->SX a H H'->Q (.ref p) H'
theorem vK:aV ["_law_tape_here","_law_many","_law_letters","_law_first","_law_stem","_law_spot","_law_like","_law_found","_law_k","_law_letter"] ["_law_tape_here","_law_many"] (aG sU):=(by walk_at "c")
theorem Ha (F:iM K "_law_names" "_law_names" sU f fd) (B:Bi mg) (aK:Ct P w K mg base k "_law_draw" ["_law_tape_here","_law_many"] fW):bJ P w K mg base gD (k+1) f fd ["_law_tape_here","_law_many"] Wc:=by
 refine F.ok vK (by rintro vs H Q E ⟨a,n,m,rfl,_⟩; rfl) (fun cdv A outer s H vs Q E hr h=>?_)
 obtain⟨a,n,m,rfl,hm,tp,hn,q⟩:=h;have ND:=vK.nd;refine⟨_,(aq (eX (bc (ao fY (ao (pf aK hr (ao (pv 0) (ao aC ak))) ak))) (bT (K:=K) (n:=2) rfl rfl (aJ (aH (i:=2) ND rfl (by walk_at "o")) (aJ (aH (i:=3) ND rfl (by walk_at "o")) bR)))) (aq (aU (i:=4) ND rfl (by walk_at "o") (d7 (K:=K) rfl PySem.F.plainAttrs_str PySem.F.slot_str_join PySem.F.type_str_join Jw fY (ao (dG (N':=["_law_k","_law_letters","_law_tape_here"]) (js:=[2,0]) rfl (eG (by rfl) B.range (ao (pf aK hr (ao (pv 0) (ao aC ak))) ak)) rT.mk2 rfl (by decide) rfl (fun fp s' H'=>(bz Hq (pv 1) (pf aK hr (ao (pv 2) (ao aC ak))) (fun _ _=>rfl)))) ak))) (aq (Jr (i:=5) (j:=6) (l:=7) rfl ND rfl rfl rfl rfl rfl rfl (ao (pf aK hr (ao (pv 0) (ao (aQ bB (pb (rM) B.len dM (ao (pv 4) ak)) aC) ak))) (ao (dZ gC (pf aK hr (ao (pv 0) (ao aC ak))) aC (bf _)) (ao (bM ak) ak))) (by rfl)) (aq (gK PassesOwn.never rfl (eG (by rfl) B.range (ao (pv 1) ak)) (aH (i:=8) ND rfl (by walk_at "o")) (aq (aU (i:=9) ND rfl (by walk_at "o") (bz Hq (pv 2) (aQ lL (aQ bB (pv 3) (aQ j7 aC (pv 8))) aC) (fun _ _=>rfl))) (aF (cL (dY (pv 6)) (aF (bC (d7 (K:=K) rfl PySem.F.plainAttrs_list PySem.F.slot_list_append PySem.F.type_list_append cI (pv 7) (ao (aQ qb (aQ qb (cZ Oe (pv 4) fB (fu (pv 5))) (pv 9)) (cZ Oe (pv 4) (fu (pv 5)) fB)) ak)))) (aF (bC (d7 (K:=K) rfl PySem.F.plainAttrs_list PySem.F.slot_list_append PySem.F.type_list_append cI (pv 7) (ao (aQ qb (d7 (K:=K) rfl PySem.F.plainAttrs_str PySem.F.slot_str_join PySem.F.type_str_join Jw fY (ao (dG (N':=["_law_turn","_law_letters","_law_tape_here"]) (js:=[2,0]) rfl (eG (by rfl) B.range (ao (pf aK hr (ao (pv 0) (ao aC ak))) ak)) rT.mk2 rfl (by decide) rfl (fun fp s' H'=>(bz Hq (pv 1) (pf aK hr (ao (pv 2) (ao aC ak))) (fun _ _=>rfl)))) ak)) (pv 9)) ak)))))))) (aF (a_ (pv 7))))))),?_⟩
 walk_at "rd";refine bZ.of tp (by omega) (by decide) (by decide) fun y1 H1 l1 u1 t1 s1=>⟨by decide,fun p2 H2 f2 s2 e2=>?_⟩
 refine⟨p2,_,rfl,e_.of e2,rfl,?_⟩;generalize hL:Str.ofString "abcdefghijklmnopqrstuvwxyz" = LT;have hLl:LT.length<=sizeLine:=by rw[<- hL]; decide
 have Qk:∀i:Int,0<=i->i<26->yH LT.cps.toList i=some (97+i.toNat):=fun i h0 h1=>by rw[<- hL]; exact letter h0 h1
 walk_at "rd";refine⟨rfl,?_⟩;refine word hLl Qk rfl (t1.same s2) (by omega) fun acc st H3 ls gs e3 t3 s3=>?_
 have ej:∀cs:List Nat,Str.join (Str.ofString "") (cs.map fun c=>tx [c])=tx cs:=fun cs=>by
  rw[show Str.ofString "" = tx [] from rfl,show(cs.map fun c=>tx [c])=(cs.map fun c=>[c]).map tx by rw[Bb]; rfl,JC,Qe]
 refine⟨_,acc,st.map fun c=>tx [c],rfl,rfl,by rw[e3,Bb]; rfl,?_,?_⟩
 ·exact JD ls
 rw[ej];refine⟨tx st,rfl,by rw[fV,sizeLine_eq]; omega,?_⟩
 rw[fV];refine bZ.of t3 (by omega) (by omega) (by omega) fun y4 H4 l4 u4 t4 s4=>?_
 refine bZ.of t4 (by omega) (by decide) (by decide) fun y5 H5 l5 u5 t5 s5=>?_
 walk_at "rd";refine⟨by decide,fun p H6 f6 s6 e6=>?_⟩
 have pa:=t5.ne f6;have x5:SX a H H5:=s1.trans ((SX.of s2).trans (s3.trans (s4.trans s5)));have fHp:H p=none:=V8 x5 pa f6;generalize decide (y5=0)=lk
 obtain⟨g,hg1,hg2⟩:∃g:List Nat->Option Nat,(∀c,lk=true->g (st.take y4.toNat++[c]++st.drop y4.toNat)=some c)/\∀b c,lk=false->g (b++[c])=some c:=by
  cases lk with
  | true=>exact⟨fun z=>z[y4.toNat]?,fun c _=>by
    show(st.take y4.toNat++[c]++st.drop y4.toNat)[y4.toNat]?=some c
    rw[Dw,xV (by rw[j5]; omega),j5,Nat.min_eq_left (by omega),zx]; rfl,(fun _ _ h=>by cases h)⟩
  | false=>exact⟨fun z=>z.getLast?,(fun _ h=>by cases h),fun b c _=>by simp⟩
 refine⟨_,_,_,rfl,?_⟩;rw[qF];walk_at "rd";refine FK.of (n:=m) rfl (by omega) (fun i σ H'=>∃(zs:List (List Nat)) (o8 o9:Option V),σ=[some (.ref a),some (.int m),some (.str LT),some (.int y1),some (.str (tx st)),some (.int y4),some (.bl lk),some (.ref p),o8,o9]/\zs.length=i/\(∀z∈zs,MK z)/\zs.map g=(List.range i).map (fun j=>some (Rg y1 j))/\H' p=some (.lst (zs.map fun z=>V.str (tx z)))/\Tp H' a (n+20+10*i)/\SX a H H')
  ⟨[],none,none,rfl,rfl,fun z hz=>by simp at hz,rfl,e6,(t5.same s6).mono (by omega),x5.trans (SX.of s6)⟩ ?_ ?_
 ·rintro i σ H7 hi ⟨zs,o8,o9,rfl,lz,hzs,hgz,e7,t7,s7⟩;walk_at "rd";refine⟨.inl ⟨by omega,by omega⟩,by decide,?_⟩
  have m0:=wg (y1+7*(0+(i:Int))) (show(26:Int)≠0 by decide)
  have m1:=Be (y1+7*(0+(i:Int))) (show(0:Int)<26 by decide)
  refine⟨LT,_,_,rfl,rfl,hLl,Qk _ m0 m1,?_⟩;have ec:97+((y1+7*(0+(i:Int))) % 26).toNat=Rg y1 i:=by unfold Rg; rw[Int.zero_add]
  rw[ec,VV];have aaG:=aaW y1 i
  have hcn:∀b:List Nat,g b=some (Rg y1 i)->(zs++[b]).map g=(List.range (i+1)).map fun j=>some (Rg y1 j):=fun b hb=>by
   rw[gq,hgz,List.range_succ,gq];simp[hb]
  have hmem:∀b:List Nat,MK b->∀z∈zs++[b],MK z:=fun b hb z hz=>by
   rcases eQ.mp hz with h | h
   ·exact hzs z h
   ·rw[dH.mp h]; exact hb
  dsimp only;cases hlk:lk with
  | true=>
   rw[bx rfl];refine⟨.inl ⟨rfl,_,b_.of e7⟩,tx st,rfl,by rw[fV,sizeLine_eq]; omega,?_⟩
   rw[Oc st l4 (by omega)]
   refine⟨_,_,rfl,rfl,by rw[fV,fV,sizeLine_eq,j5]; simp only[gw,uD]; omega,tx st,rfl,by rw[fV,sizeLine_eq]; omega,?_⟩
   rw[Od st l4 (by omega),vo]
   refine⟨_,_,rfl,rfl,?_,?_⟩
   ·rw[fV,fV,sizeLine_eq]; simp only[cB,j5,uE,gw,uD]; omega
   rw[vo];refine⟨p,_,_,rfl,rfl,e7,by rw[b7,lz]; exact aP (by omega),zs++[_],_,_,rfl,by rw[cB,lz]; rfl,hmem _ ⟨?_,?_⟩,hcn _ (hg1 _ hlk),by rw[aD,gq]; rfl,(t7.du pa).mono (by omega),s7.du fHp pa⟩
   ·simp only[cB,j5,uE,gw,uD]; omega
   ·intro c hc;rcases eQ.mp hc with h | h
    ·rcases eQ.mp h with h | h
     ·exact gs c (wj h)
     ·rw[dH.mp h]; exact aaG
    ·exact gs c (KD h)
  | false=>
   rw[aX (by decide)]
   refine⟨.inl ⟨rfl,_,b_.of e7⟩,rfl,?_⟩;refine word hLl Qk rfl t7 (by omega) fun Ft cs H8 lc gc e8 t8 s8=>?_
   refine⟨_,Ft,cs.map fun c=>tx [c],rfl,rfl,by rw[e8,Bb]; rfl,JD lc,?_⟩
   rw[ej];refine⟨_,_,rfl,rfl,by rw[fV,fV,sizeLine_eq]; simp only[gw,uD]; omega,?_⟩
   rw[vo];refine⟨p,_,_,rfl,rfl,s8.get pa e7,by rw[b7,lz]; exact aP (by omega),zs++[_],_,_,rfl,by rw[cB,lz]; rfl,hmem _ ⟨?_,?_⟩,hcn _ (hg2 _ _ hlk),by rw[aD,gq]; rfl,(t8.du pa).mono (by omega),(s7.trans s8).du fHp pa⟩
   ·simp only[cB,gw,uD]; omega
   ·intro c hc;rcases eQ.mp hc with h | h
    ·exact gc c h
    ·rw[dH.mp h]; exact aaG
 ·rintro σ H7 ⟨zs,o8,o9,rfl,lz,hzs,hgz,e7,t7,s7⟩;walk_at "rd";refine q p zs H7 fHp pa lz hzs ?_ e7 (t7.mono (by omega)) s7
  have h1:(zs.map g).Nodup:=by
   rw[hgz];exact Kp fun i j hij hj z=>aaV hij (by omega) (Option.some.inj z)
  unfold List.Nodup at h1 ⊢;rw[List.pairwise_map] at h1;exact h1.imp fun h e=>h (by rw[e])
theorem Nm.of {a:Addr} {n m:Nat} {j:Int} {H:Hp} {Q:VK} {E:XK} (ej:j=m) (hm:m<=20) (tp:Tp H a n) (hn:n<=100000000) (q:∀p (zs:List (List Nat)) H',H p=none->p≠a->zs.length=m->(∀z∈zs,MK z)->zs.Nodup->H' p=some (.lst (zs.map fun z=>V.str (tx z)))->Tp H' a (n+300)->SX a H H'->Q (.ref p) H'):Wc ([.ref a,.int j]++[]) H Q E:=by
 subst ej;exact⟨a,n,m,rfl,hm,tp,hn,q⟩
theorem qW (x:g_):uf (eV x)=true:=by
 have h:uf (vW x.dR)=true:=by
  show bK (x.dR.map vY)=true;exact bu.mpr fun d hd=>by obtain⟨rs,_,rfl⟩:=cO.mp hd; exact vX rs
 unfold eV O7;simp[uf,bK,h]
theorem fL (xs:List g_):bK (xs.map eV)=true:=bu.mpr fun d hd=>by obtain⟨x,_,rfl⟩:=cO.mp hd; exact qW x
theorem fj (xs:List iR):bK (xs.map vA)=true:=bu.mpr fun d hd=>by obtain⟨x,_,rfl⟩:=cO.mp hd; exact uU x
theorem Rx (l:List Int):uf (jR l)=true:=by show bK (l.map PyData.int)=true; exact gM l
theorem iT (xs:List (List Int)):bK (xs.map jR)=true:=bu.mpr fun d hd=>by obtain⟨x,_,rfl⟩:=cO.mp hd; exact Rx x
structure Rw where
 n:Str
 c:Int
 d:Int
 a:Int
 h:Int
def uX (r:Rw):PyData:=.tuple [.str r.n,.int r.c,.int r.d,.int r.a,.int r.h]
theorem rw_noL (r:Rw):uf (uX r)=true:=rfl
theorem iw (xs:List Rw):bK (xs.map uX)=true:=bu.mpr fun d hd=>by obtain⟨x,_,rfl⟩:=cO.mp hd; exact rw_noL x
structure Yd where
 tot:Int
 ns:List Str
 ps:List g_
 os:List (Option Str)
 ss:List iR
 ts:List (List Int)
 pa:List (List Rw)
structure Ya where
 p:Addr
 lo:Addr
 dp:Addr
 dn:Addr
 ds:Addr
 dt:Addr
 lp:Addr
 ue:List Addr
def Ya.own (a:Ya):List Addr:=[a.p,a.lo,a.dp,a.dn,a.ds,a.dt,a.lp]++a.ue
def Ce (t:Int) (lo dp dn ds dt lp:Addr):List (Str×V):=[("total",.int t),("order",.ref lo),("posts",.ref dp),("onwards",.ref dn),("stands",.ref ds),("tallies",.ref dt),("past",.ref lp)]
section
variable (t:Int) (lo dp dn ds dt lp:Addr)
theorem Ew:(Ce t lo dp dn ds dt lp).lookup ("total" : Str)=some (.int t):=by kernel_rfl
theorem ju:(Ce t lo dp dn ds dt lp).lookup ("order" : Str)=some (.ref lo):=by kernel_rfl
theorem rG:(Ce t lo dp dn ds dt lp).lookup ("posts" : Str)=some (.ref dp):=by kernel_rfl
theorem xn:(Ce t lo dp dn ds dt lp).lookup ("onwards" : Str)=some (.ref dn):=by kernel_rfl
theorem tM:(Ce t lo dp dn ds dt lp).lookup ("stands" : Str)=some (.ref ds):=by kernel_rfl
theorem qj:(Ce t lo dp dn ds dt lp).lookup ("tallies" : Str)=some (.ref dt):=by kernel_rfl
theorem Cg:(Ce t lo dp dn ds dt lp).lookup ("past" : Str)=some (.ref lp):=by kernel_rfl
end
def lq:Option Str->V
 | none=>.non
 | some s=>.str s
def SN:Option Str->PyData
 | none=>.none
 | some s=>.str s
theorem Pk (o:Option Str):uf (SN o)=true:=by cases o <;> rfl
theorem SM (os:List (Option Str)):bK (os.map SN)=true:=bu.mpr fun d hd=>by obtain⟨x,_,rfl⟩:=cO.mp hd; exact Pk x
theorem Vh {H:Hp} (o:Option Str):At H (SN o) (lq o):=by cases o with
 | none=>show At _ .none .non; unfold At; rfl
 | some z=>exact At.str _
theorem Vg {H:Hp} {o:Option Str} {v:V} (h:At H (SN o) v):v=lq o:=by
 cases o with
 | none=>unfold SN At at h; exact h
 | some z=>unfold SN At at h; exact h
theorem Pj {H:Hp}:∀{os:List (Option Str)} {vs:List V},aj H (os.map SN) vs->vs=os.map lq
 | [],_,h=>aj.h_ h
 | o::os,vs,h=>by
  obtain⟨x,r,rfl,h1,h2⟩:=aj.aO h;rw[Vg h1,Pj h2]; rfl
def bO (H:Hp):List Addr->List (List Rw)->Prop
 | [],[]=>True
 | l::ls,r::rs=>(∃xs,H l=some (.lst xs)/\aj H (r.map uX) xs)/\bO H ls rs
 | _,_=>False
theorem bO.length {H:Hp}:∀{ls:List Addr} {rs:List (List Rw)},bO H ls rs->ls.length=rs.length
 | [],[],_=>rfl
 | l::ls,r::rs,h=>by rw[gw,gw,bO.length h.2]
 | [],_::_,h=>h.elim
 | _::_,[],h=>h.elim
theorem bO.keep {H H':Hp} (m:cU H H'):∀{ls:List Addr} {rs:List (List Rw)},bO H ls rs->(∀b∈ls,∀o,H b=some o->H' b=some o)->bO H' ls rs
 | [],[],_,_=>trivial
 | l::ls,r::rs,h,k=>by
  obtain⟨⟨xs,e,a⟩,h2⟩:=h;exact⟨⟨xs,k l (cY ..) _ e,aj.kp m _ _ (iw r) a⟩,bO.keep m h2 fun b hb=>k b (gk _ hb)⟩
 | [],_::_,h,_=>h.elim
 | _::_,[],h,_=>h.elim
theorem bO.snoc {H:Hp}:∀{ls:List Addr} {rs:List (List Rw)} {l:Addr} {r:List Rw} {xs:List V},bO H ls rs->H l=some (.lst xs)->aj H (r.map uX) xs->bO H (ls++[l]) (rs++[r])
 | [],[],l,r,xs,_,e,a=>⟨⟨xs,e,a⟩,trivial⟩
 | l::ls,r::rs,_,_,_,h,e,a=>⟨h.1,bO.snoc h.2 e a⟩
 | [],_::_,_,_,_,h,_,_=>h.elim
 | _::_,[],_,_,_,h,_,_=>h.elim
theorem bO.all {H:Hp}:∀{ls:List Addr} {rs:List (List Rw)},bO H ls rs->∀b∈ls,∃xs,H b=some (.lst xs)
 | [],[],_,b,hb=>by simp at hb
 | l::ls,r::rs,h,b,hb=>by
  rcases bF.mp hb with e | e
  ·subst e; obtain⟨⟨xs,e,_⟩,_⟩:=h; exact⟨xs,e⟩
  ·exact bO.all h.2 b e
 | [],_::_,h,_,_=>h.elim
 | _::_,[],h,_,_=>h.elim
structure bA (C:Addr) (H:Hp) (a:Ya) (y:Yd):Prop where
 ob:∃dx,H a.p=some (.ins C dx (Ce y.tot a.lo a.dp a.dn a.ds a.dt a.lp))
 lo:H a.lo=some (.lst (y.ns.map V.str))
 dp:∃vs,H a.dp=some (.dK (zK y.ns vs))/\aj H (y.ps.map eV) vs
 dn:H a.dn=some (.dK (zK y.ns (y.os.map lq)))
 ds:∃vs,H a.ds=some (.dK (zK y.ns vs))/\aj H (y.ss.map vA) vs
 dt:∃vs,H a.dt=some (.dK (zK y.ns vs))/\aj H (y.ts.map jR) vs
 lp:H a.lp=some (.lst (a.ue.map V.ref))
 pa:bO H a.ue y.pa
 nd:a.own.Nodup
theorem bA.keep {C:Addr} {H H':Hp} {a:Ya} {y:Yd} (A:bA C H a y) (m:cU H H') (k:∀b∈a.own,∀o,H b=some o->H' b=some o):bA C H' a y:=by
 obtain⟨⟨dx,h1⟩,h2,⟨v3,h3,g3⟩,h4,⟨v5,h5,g5⟩,⟨v6,h6,g6⟩,h7,h8,h9⟩:=A;have kk:∀b o,b∈[a.p,a.lo,a.dp,a.dn,a.ds,a.dt,a.lp]->H b=some o->H' b=some o:=fun b o hb e=>k b (GJ _ hb) o e;exact⟨⟨dx,kk _ _ (by simp) h1⟩,kk _ _ (by simp) h2,⟨v3,kk _ _ (by simp) h3,aj.kp m _ _ (fL _) g3⟩,kk _ _ (by simp) h4,⟨v5,kk _ _ (by simp) h5,aj.kp m _ _ (fj _) g5⟩,⟨v6,kk _ _ (by simp) h6,aj.kp m _ _ (iT _) g6⟩,kk _ _ (by simp) h7,h8.keep m fun b hb=>k b (gJ _ hb),h9⟩
theorem bA.mono {C:Addr} {H H':Hp} {a:Ya} {y:Yd} (A:bA C H a y) (s:aM H H'):bA C H' a y:=A.keep s.kp fun b _ o e=>s b o e
theorem bA.al {C:Addr} {H:Hp} {a:Ya} {y:Yd} (A:bA C H a y):∀b∈a.own,∃o,H b=some o/\∀xs,o≠.tup xs:=fun b hb=>by
 obtain⟨⟨dx,h1⟩,h2,⟨v3,h3,g3⟩,h4,⟨v5,h5,g5⟩,⟨v6,h6,g6⟩,h7,h8,h9⟩:=A;rcases eQ.mp hb with h | h
 ·simp only[bF,dU,or_false] at h;rcases h with rfl | rfl | rfl | rfl | rfl | rfl | rfl
  ·exact⟨_,h1,fun _ z=>by cases z⟩
  ·exact⟨_,h2,fun _ z=>by cases z⟩
  ·exact⟨_,h3,fun _ z=>by cases z⟩
  ·exact⟨_,h4,fun _ z=>by cases z⟩
  ·exact⟨_,h5,fun _ z=>by cases z⟩
  ·exact⟨_,h6,fun _ z=>by cases z⟩
  ·exact⟨_,h7,fun _ z=>by cases z⟩
 ·obtain⟨xs,e⟩:=h8.all b h;exact⟨_,e,fun _ z=>by cases z⟩
theorem bA.kp {C:Addr} {H H':Hp} {a:Ya} {y:Yd} (A:bA C H a y) (f:Fr a.own H H'):cU H H':=f.kp fun b hb xs z=>by
 obtain⟨o,e,n⟩:=A.al b hb;rw[e] at z; cases z; exact n _ rfl
theorem bA.off {C:Addr} {H H':Hp} {a:Ya} {y:Yd} {S:List Addr} (A:bA C H a y) (f:Fr S H H') (m:cU H H') (d:∀b∈a.own,b∉S):bA C H' a y:=A.keep m fun b hb o e=>f b o e (d b hb)
structure ZY (K:PySem.W.Frag) (C:Addr):Prop where
 cl:Fw K C
 n1:cX K C "total"
 n2:cX K C "order"
 n3:cX K C "posts"
 n4:cX K C "onwards"
 n5:cX K C "stands"
 n6:cX K C "tallies"
 n7:cX K C "past"
section
variable {C:Addr} {H:Hp} {a:Ya} {y:Yd} {Q:VK}
theorem Fl.order (Z:ZY K C) (A:bA C H a y) (q:Q (.ref a.lo) H):∃p C' dx fs v,V.ref a.p=.ref p/\H p=some (.ins C' dx fs)/\Fw K C'/\cX K C' "order" /\ fs.lookup ("order" : Str)=some v/\Q v H:=by
 obtain⟨dx,h⟩:=A.ob;exact⟨_,_,_,_,_,rfl,h,Z.cl,Z.n2,ju ..,q⟩
theorem Fl.stands (Z:ZY K C) (A:bA C H a y) (q:Q (.ref a.ds) H):∃p C' dx fs v,V.ref a.p=.ref p/\H p=some (.ins C' dx fs)/\Fw K C'/\cX K C' "stands" /\ fs.lookup ("stands" : Str)=some v/\Q v H:=by
 obtain⟨dx,h⟩:=A.ob;exact⟨_,_,_,_,_,rfl,h,Z.cl,Z.n5,tM ..,q⟩
theorem Me.of {m:Str} {R:Addr->Prop} (A:bA C H a y) (h:∀t lo dp dn ds dt lp,(Ce t lo dp dn ds dt lp).lookup m=none) (q:R a.p):∃p dx fs,V.ref a.p=.ref p/\H p=some (.ins C dx fs)/\fs.lookup m=none/\R p:=by
 obtain⟨dx,e⟩:=A.ob;exact⟨_,_,_,rfl,e,h ..,q⟩
end
structure FN (s:iR):Prop where
 r:0<=s.r
 c:s.cs.length=5
 cn:∀y∈s.cs,0<=y
 u:s.us.length=3
 ul:∀y∈s.us,y.length=3
theorem FN.is {s:iR} (h:FN s):Ia s:=⟨h.c,h.u,h.ul⟩
theorem StL.n {s:iR} (h:StL s):FN s:=⟨h.r,h.c,h.cn,h.u,fun y hy=>by obtain⟨a,b,c,rfl,_⟩:=h.ul y hy; rfl⟩
def hnd (s:iR):Int:=s.r+s.cs.sum
theorem BV {s:iR} (h:FN s):0<=hnd s:=by
 have:=su _ h.cn;have:=h.r;unfold hnd; omega
def hands (ss:List iR):Int:=(ss.map hnd).sum
structure fK (y:Yd):Prop where
 nn:y.ns.Nodup
 n1:1<=y.ns.length
 n5:y.ns.length<=5
 lp:y.ps.length=y.ns.length
 lo:y.os.length=y.ns.length
 ls:y.ss.length=y.ns.length
 lt:y.ts.length=y.ns.length
 ng:∀n∈y.ns,∃cs,n=tx cs/\MK cs
 pg:∀x∈y.ps,C_ x
 og:∀(i:Nat) s,y.os[i]?=some (some s)->s∈y.ns.drop (i+1)
 sg:∀s∈y.ss,FN s
 tg:∀t∈y.ts,t.length=3
 hs:hands y.ss<=y.tot
 lm:(y.ps.map g_.lo).sum<=y.tot
 pn:y.pa.length<=500
 pl:∀r∈y.pa,r.length<=5
abbrev T3:=Str×g_×Option Str
def Dk (t:T3):PyData:=.tuple [.str t.1,eV t.2.1,SN t.2.2]
theorem V7 (t:T3):uf (Dk t)=true:=by
 unfold Dk;simp[uf,bK,qW,Pk]
theorem qI (ts:List T3):bK (ts.map Dk)=true:=bu.mpr fun d hd=>by obtain⟨x,_,rfl⟩:=cO.mp hd; exact V7 x
theorem Nz {H:Hp} {t:T3} {v:V} (h:At H (Dk t) v):∃a vp,v=.ref a/\H a=some (.tup [.str t.1,vp,lq t.2.2])/\At H (eV t.2.1) vp:=by
 obtain⟨a,xs,rfl,h1,h2⟩:=bw h;obtain⟨x0,_,rfl,b0,h2⟩:=aj.aO h2;obtain⟨x1,_,rfl,b1,h2⟩:=aj.aO h2;obtain⟨x2,_,rfl,b2,h2⟩:=aj.aO h2;cases aj.h_ h2;have e0:x0=.str t.1:=by unfold At at b0; exact b0
 have e2:=Vg b2;subst e0 e2;exact⟨a,x1,rfl,h1,b1⟩
structure Q3 (H:Hp) (ts:List T3) (ys lg:List V):Prop where
 ly:ys.length=ts.length
 lv:lg.length=ts.length
 at_:∀(i:Nat) (t:T3),ts[i]?=some t->∃a vp,ys[i]?=some (.ref a)/\lg[i]?=some vp/\H a=some (.tup [.str t.1,vp,lq t.2.2])
 ap:aj H ((ts.map (·.2.1)).map eV) lg
theorem Q3.mono {H H':Hp} {ts:List T3} {ys lg:List V} (h:Q3 H ts ys lg) (m:cU H H'):Q3 H' ts ys lg:=
 ⟨h.ly,h.lv,fun i t e=>by obtain⟨a,vp,h1,h2,h3⟩:=h.at_ i t e; exact⟨a,vp,h1,h2,m _ _ h3⟩,aj.kp m _ _ (fL _) h.ap⟩
theorem sr {H:Hp}:∀{ts:List T3} {ys:List V},aj H (ts.map Dk) ys->∃lg,Q3 H ts ys lg
 | [],ys,h=>by
  cases aj.h_ h;exact⟨[],rfl,rfl,fun i t e=>by simp at e,aj.nil⟩
 | t::ts,ys,h=>by
  obtain⟨x,r,rfl,h1,h2⟩:=aj.aO h;obtain⟨a,vp,rfl,e,ap⟩:=Nz h1;obtain⟨lg,g1,g2,g3,g4⟩:=sr h2;refine⟨vp::lg,by simp[g1],by simp[g2],fun i u q=>?_,aj.cons ap g4⟩
  cases i with
  | zero=>cases q; exact⟨a,vp,rfl,rfl,e⟩
  | succ i=>exact g3 i u q
def rY (ts:List T3) (lg:List V) (i:Nat):St:=match ts[i]? with
 | some t=>[some (.str t.1),some (lg.getD i .non),some (lq t.2.2)]
 | none=>[none,none,none]
theorem jd (ts:List T3) (lg:List V) (i:Nat):(rY ts lg i).length=3:=by
 unfold rY;cases ts[i]? <;> rfl
theorem wD {K:PySem.W.Frag} {H:Hp} {ts:List T3} {ys lg:List V} (h:Q3 H ts ys lg) {i:Nat} {x:V} (hx:ys[i]?=some x) {cap:St} {R:St->Hp->Prop} (q:R (rY ts lg i++cap) H):Ly K 3 (jN (fU 0) (jN (fU 1) (jN (fU 2) Cd))) x (List.replicate 3 none++cap) H R:=by
 have hi:i<ts.length:=by rw[<- h.ly]; exact(i_.mp hx).1
 have et:ts[i]?=some ts[i]:=eF hi;obtain⟨a,vp,h1,h2,h3⟩:=h.at_ i _ et;rw[hx] at h1;cases h1;refine⟨a,_,rfl,e_.of h3,rfl,?_⟩;unfold rY at q;rw[et] at q;dsimp only at q;rw[jD,h2] at q;exact q
theorem iU {ts:List T3} {lg:List V} {i:Nat} {t:T3} (e:ts[i]?=some t):rY ts lg i=[some (.str t.1),some (lg.getD i .non),some (lq t.2.2)]:=by
 unfold rY; rw[e]
theorem kj {H:Hp}:∀{ns:List Str} {ys:List V},aj H (ns.map .str) ys->ys=ns.map V.str
 | [],_,h=>aj.h_ h
 | n::ns,ys,h=>by
  obtain⟨x,r,rfl,h1,h2⟩:=aj.aO h;have e:x=.str n:=by unfold At at h1; exact h1
  rw[e,kj h2]; rfl
theorem mY (ns:List Str):bK (ns.map PyData.str)=true:=bu.mpr fun d hd=>by obtain⟨z,_,rfl⟩:=cO.mp hd; rfl
def Ax:Sp:=fun vs H Q _=>∃(t:Int) (p:Addr) (ys:List V) (xs:List g_),vs=[.int t,.ref p]/\H p=some (.lst ys)/\aj H (xs.map eV) ys/\xs.length<=100/\(xs.map g_.lo).sum<=t/\∀H',aM H H'->Q .non H'
theorem m8:aV ["total","posts"] ["total","posts"] (aG jW):=(by walk_at "c")
theorem wL (F:iM K "check_least" "check_least" jW f fd) (B:Bi mg):bJ P w K mg base gD (k+1) f fd ["total","posts"] Ax:=by
 refine F.ok m8 (by rintro vs H Q E ⟨t,p,ys,xs,rfl,_⟩; rfl) (fun cdv A outer s H vs Q E hr h=>?_)
 obtain⟨t,p,ys,xs,rfl,hp,ha,hl,hs,q⟩:=h;have ND:=m8.nd;refine⟨_,(aF (cL (bh zO (pb (fM rfl) B.sum lW (ao (dG (N':=["post"]) (js:=[]) rfl (bI (K:=K) rfl (pv 1)) rT.Te rfl (by decide) rfl (fun fp s' H'=>(bz bj (bz bj (pv 0) aC (fun _ _=>rfl)) aC (fun _ _=>rfl)))) ak)) (pv 0) (bf _)) (aF wz) bH)),?_⟩
 walk_at "rd";have hlen:=ha.length;rw[b7] at hlen;refine jO ((xs.map g_.lo).map .int) (fun R hR=>by walk_at "rd"; exact hR) hp (by simp; omega) (by omega) (gM _) (fun i x d H' hx hd s' R hR=>?_) fun acc zs H' f' s' e' a'=>?_
 ·rw[cT,cT] at hd;obtain⟨d',hd',ad⟩:=ha.get hx;rw[cT] at hd';cases ex:xs[i]? with
  | none=>rw[ex] at hd; cases hd
  | some x'=>
   rw[ex] at hd hd';cases hd;cases hd';obtain⟨a0,xs0,rfl,h1,h2⟩:=bw (ad.mono s');obtain⟨x0,_,rfl,b0,h2⟩:=aj.aO h2;obtain⟨x1,_,rfl,b1,h2⟩:=aj.aO h2;obtain⟨x2,_,rfl,b2,h2⟩:=aj.aO h2;obtain⟨c0,cs0,rfl,g1,g2⟩:=bw b2;have:=cN (cs:=[x'.lo,x'.hi]) g2;subst this;walk_at "rd";refine Ix.tup h1 (aY (j:=2) rfl) (Ix.tup g1 (aY (j:=0) rfl) ?_);exact hR _ _ (aM.refl _) (At.int _)
 ·have:=cN a';subst this;refine⟨acc,_,rfl,.inl e',?_⟩;rw[aX (by simpa using hs)]
  exact q H' s'
def N_:Sp:=fun vs H Q _=>∃(o:Option Str) (p:Addr) (ns:List Str),vs=[lq o,.ref p]/\H p=some (.lst (ns.map V.str))/\(∀z,o=some z->z∈ns)/\∀H',aM H H'->Q .non H'
theorem lZ:aV ["onward","behind"] ["onward","behind"] (aG jh):=(by walk_at "c")
theorem uJ (F:iM K "check_onward" "check_onward" jh f fd):bJ P w K mg base gD (k+1) f fd ["onward","behind"] N_:=by
 refine F.ok lZ (by rintro vs H Q E ⟨o,p,ns,rfl,_⟩; rfl) (fun cdv A outer s H vs Q E hr h=>?_)
 obtain⟨o,p,ns,rfl,hp,ho,q⟩:=h;have ND:=lZ.nd;refine⟨_,(aF (cL (PW.pt (Bf (bh uZ (pv 0) fZ (bf _)) (uY (bh (KY (K:=K) rfl) (pv 0) (pv 1) (by with_unfolding_all rfl))))) (aF wz) bH)),?_⟩
 walk_at "rd";cases o with
 | none=>exact⟨trivial,by rw[aX (by simp[lq])]; exact q H (aM.refl H)⟩
 | some z=>
  refine⟨trivial,?_⟩;rw[bx (by simp[lq])]
  refine⟨p,_,rfl,.inl (b_.of hp),rfl,z8 ns,_,rfl,?_⟩;rw[bx rfl,show lq (some z)=.str z from rfl,JM,j0 (ho z rfl),aX (by decide)]
  exact q H (aM.refl H)
def N5:Sp:=fun vs H Q _=>∃(t:Int) (p p':Addr) (ys zs:List V) (ss:List iR),vs=[.int t,.ref p,.ref p']/\H p=some (.lst ys)/\H p'=some (.lst zs)/\aj H (ss.map vA) zs/\(∀s∈ss,FN s)/\ys.length=ss.length/\ss.length<=100/\hands ss<=t/\∀H',aM H H'->Q .non H'
theorem lY:aV ["total","posts","stands"] ["total","posts","stands"] (aG jg):=(by walk_at "c")
theorem uI (F:iM K "check_stands" "check_stands" jg f fd) (B:Bi mg) (dC:Ct P w K mg base k "hands_of" ["stand"] uV):bJ P w K mg base gD (k+1) f fd ["total","posts","stands"] N5:=by
 refine F.ok lY (by rintro vs H Q E ⟨t,p,p',ys,zs,ss,rfl,_⟩; rfl) (fun cdv A outer s H vs Q E hr h=>?_)
 obtain⟨t,p,p',ys,zs,ss,rfl,hp,hp',ha,hS,hl,h100,hh,q⟩:=h;have ND:=lY.nd;refine⟨_,(aq (cL (bh wF (pb (cA (K:=K) rfl) B.len dM (ao (pv 2) ak)) (pb (cA (K:=K) rfl) B.len dM (ao (pv 1) ak)) (bf _)) (aF wz) bH) (aF (cL (bh zO (pb (fM rfl) B.sum lW (ao (dG (N':=["stand"]) (js:=[]) rfl (bI (K:=K) rfl (pv 2)) rT.Te rfl (by decide) rfl (fun fp s' H'=>(pf dC hr (ao (pv 0) ak)))) ak)) (pv 0) (bf _)) (aF wz) bH))),?_⟩
 have hlen:=ha.length;rw[b7] at hlen;walk_at "rd";refine⟨p',_,rfl,.inl (b_.of hp'),p,_,rfl,.inl (b_.of hp),?_⟩;walk_at "rd";rw[aX (by simp; omega)]
 refine jO ((ss.map hnd).map .int) (fun R hR=>by walk_at "rd"; exact hR) hp' (by simp; omega) (by omega) (gM _) (fun i x d H' hx hd s' R hR=>?_) fun acc us H' f' s' e' a'=>?_
 ·rw[cT,cT] at hd;obtain⟨d',hd',ad⟩:=ha.get hx;rw[cT] at hd';cases ex:ss[i]? with
  | none=>rw[ex] at hd; cases hd
  | some x'=>
   rw[ex] at hd hd';cases hd;cases hd';obtain⟨a0,xs0,rfl,h1,h2⟩:=bw (ad.mono s');obtain⟨x0,_,rfl,b0,h2⟩:=aj.aO h2;obtain⟨x1,_,rfl,b1,h2⟩:=aj.aO h2;obtain⟨x2,_,rfl,b2,h2⟩:=aj.aO h2;obtain⟨c0,cs0,rfl,g1,g2⟩:=bw b2;have:=cN (cs:=x'.cs) g2;subst this;have e1:x1=.int x'.r:=by unfold At at b1; exact b1
   subst e1;walk_at "rd";exact⟨_,_,_,_,_,_,_,rfl,rfl,h1,g1,hR _ _ (aM.refl _) (At.int _)⟩
 ·have:=cN a';subst this;refine⟨acc,_,rfl,.inl e',?_⟩;rw[aX (by unfold hands at hh; simpa using hh)]
  exact q H' s'
structure Mt (t:Int) (ts:List T3):Prop where
 n1:1<=ts.length
 n5:ts.length<=5
 nn:(ts.map (·.1)).Nodup
 ng:∀x∈ts,∃cs,x.1=tx cs/\MK cs
 og:∀(i:Nat) (x:T3) z,ts[i]?=some x->x.2.2=some z->z∈(ts.map (·.1)).drop (i+1)
 lm:((ts.map (·.2.1)).map g_.lo).sum<=t
def U4:Sp:=fun vs H Q _=>∃(t:Int) (p:Addr) (ys:List V) (ts:List T3),vs=[.int t,.ref p]/\H p=some (.lst ys)/\aj H (ts.map Dk) ys/\Mt t ts/\∀H',aM H H'->Q .non H'
theorem m7:aV ["total","posts","names","place","name","post","onward"] ["total","posts"] (aG jV):=(by walk_at "c")
theorem wK (F:iM K "check_posts" "check_posts" jV f fd) (B:Bi mg) (O:Co K mg) (tU:Ct P w K mg base k "is_name" ["thing"] Gu) (dJ:Ct P w K mg base k "check_onward" ["onward","behind"] N_) (eO:Ct P w K mg base k "check_least" ["total","posts"] Ax):bJ P w K mg base gD (k+1) f fd ["total","posts"] U4:=by
 refine F.ok m7 (by rintro vs H Q E ⟨t,p,ys,ts,rfl,_⟩; rfl) (fun cdv A outer s H vs Q E hr h=>?_)
 obtain⟨t,p,ys,ts,rfl,hp,ha,T,q⟩:=h;have ND:=m7.nd;refine⟨_,(aq (cL (lJ (D_ Ed Ed aC (pb (cA (K:=K) rfl) B.len dM (ao (pv 1) ak)) (Bl O.Ie))) (aF wz) bH) (aq (qX (i:=2) ND rfl (by walk_at "o") (nt:=3) (N':=["name","post","onward"]) (js:=[]) rfl (bI (K:=K) rfl (pv 1)) oZ.of (fun fp s' H'=>(bT (K:=K) (n:=3) rfl rfl (aJ (aH (i:=0) (by show List.Nodup (["name","post","onward"]:List Str); decide) rfl (.inl (gA rfl)) (.inr (gA rfl))) (aJ (aH (i:=1) (by show List.Nodup (["name","post","onward"]:List Str); decide) rfl (.inl (gA rfl)) (.inr (gA rfl))) (aJ (aH (i:=2) (by show List.Nodup (["name","post","onward"]:List Str); decide) rfl (.inl (gA rfl)) (.inr (gA rfl))) bR))))) (fun fp s' H'=>gO) (fun fp s' H'=>(pv 0))) (aq (cL (PW.pt (qU (bh wG (pb Ae B.len dM (ao (pt (Ad rfl) B.set QR (ao (pv 2) ak)) ak)) (pb (cA (K:=K) rfl) B.len dM (ao (pv 2) ak)) (bf _)) (lH (lJ (dY (pb (k_ rfl) B.all xN (ao (dG (N':=["name"]) (js:=[]) rfl (bI (K:=K) rfl (pv 2)) rT.Te rfl (by decide) rfl (fun fp s' H'=>(pf tU hr (ao (pv 0) ak)))) ak))))))) (aF wz) bH) (aq (gK PassesOwn.never rfl (Jt (K:=K) rfl B.enumerate (ao (pv 1) ak)) (bT (K:=K) (n:=2) rfl rfl (aJ (aH (i:=3) ND rfl (by walk_at "o")) (aJ (bT (K:=K) (n:=3) rfl rfl (aJ (aH (i:=4) ND rfl (by walk_at "o")) (aJ (aH (i:=5) ND rfl (by walk_at "o")) (aJ (aH (i:=6) ND rfl (by walk_at "o")) bR)))) bR))) (aF (bC (pf dJ hr (ao (pv 6) (ao (cZ uW (pv 2) (fu (aQ bB (pv 3) aC)) fB) ak)))))) (aF (bC (pf eO hr (ao (pv 0) (ao (jm (nt:=3) (N':=["name","post","onward"]) (js:=[]) rfl (bI (K:=K) rfl (pv 1)) oZ.of (fun fp s' H'=>(bT (K:=K) (n:=3) rfl rfl (aJ (aH (i:=0) (by show List.Nodup (["name","post","onward"]:List Str); decide) rfl (.inl (gA rfl)) (.inr (gA rfl))) (aJ (aH (i:=1) (by show List.Nodup (["name","post","onward"]:List Str); decide) rfl (.inl (gA rfl)) (.inr (gA rfl))) (aJ (aH (i:=2) (by show List.Nodup (["name","post","onward"]:List Str); decide) rfl (.inl (gA rfl)) (.inr (gA rfl))) bR))))) (fun fp s' H'=>gO) (fun fp s' H'=>(pv 1))) ak))))))))),?_⟩
 have hlen:=ha.length;rw[b7] at hlen;have T1:=T.n1;have T5:=T.n5;simp only[yZ 15];walk_at "rd";refine⟨p,ys,rfl,.inl (b_.of hp),⟨_,_,rfl,rfl,?_⟩⟩;rw[bx (by simp; omega)]
 refine⟨_,_,rfl,rfl,?_⟩;rw[aX (by simp; omega)]
 obtain⟨lg,TA⟩:=sr ha;refine oJ ((ts.map (·.1)).map .str) (rY ts lg) (jd ts lg) (fun R hR=>by walk_at "rd"; exact hR) hp (by simp; omega) (by omega) (mY _) ?_ ?_
 ·intro i x d H' hx hd s';refine⟨fun R hR=>wD (TA.mono s'.kp) hx hR,fun R hR=>?_⟩;have hi:i<ts.length:=by rw[<- hlen]; exact(i_.mp hx).1
  have et:ts[i]?=some ts[i]:=eF hi;rw[cT,cT,et] at hd;cases hd;rw[iU et];walk_at "rd";exact hR _ _ (aM.refl _) (At.str _)
 ·intro acc us H1 f1 s1 e1 a1;have:=kj a1;subst this;refine⟨acc,ts.map (·.1),rfl,e1,by rw[b7]; omega,fun pz H2 f2 s2 e2=>⟨pz,_,rfl,e2,?_,acc,_,rfl,.inl (b_.of (s2 _ _ e1)),?_⟩⟩
  ·have:=(oG (ts.map (·.1))).1;rw[b7] at this; omega
  have hdc:=oG (ts.map (·.1));refine⟨_,_,rfl,rfl,?_⟩
  rw[aX (by
   intro z;have z':=nF z;rw[b7] at z'
   exact hdc.2.mp (by omega) T.nn)]
  have Vq:=s2 _ _ e1;have s12:=s1.trans s2;refine jO ((ts.map fun _=>true).map .bool) (fun R hR=>by walk_at "rd"; exact hR) Vq (by simp) (by simp; omega) (bu.mpr fun d hd=>by obtain⟨z,_,rfl⟩:=cO.mp hd; rfl) (fun i x d H' hx hd s' R hR=>?_) fun ab ub H3 f3 s3 e3 a3=>?_
  ·rw[cT,cT] at hx hd;cases et:ts[i]? with
   | none=>rw[et] at hx; cases hx
   | some t=>
    rw[et] at hx hd;cases hx;cases hd;obtain⟨cs,ec,hg⟩:=T.ng t (dz et);walk_at "rd";rw[ec];exact Name.of hg fun cQ s''=>hR _ _ s'' (At.bool _)
  ·have eb:ub=(ts.map fun _=>true).map V.bl:=by
    have gen:∀(bs:List Bool) (us:List V),aj H3 (bs.map .bool) us->us=bs.map V.bl:=by
     intro bs
     induction bs with
     | nil=>intro us h; exact aj.h_ h
     | cons b bs ih=>
      intro us h;obtain⟨x,r,rfl,h1,h2⟩:=aj.aO h;have e:x=.bl b:=by unfold At at h1; exact h1
      rw[e,ih r h2]; rfl
    exact gen _ _ a3
   subst eb;refine⟨ab,_,rfl,e3,?_⟩;rw[aX (by simp)]
   have pU:=s12.trans s3;have XM:=s3 _ _ Vq;rw[yR];walk_at "rd";refine EK.of (pU _ _ hp) (fun i σ H'=>∃o3 o4 o5 o6,σ=[some (.int t),some (.ref p),some (.ref acc),o3,o4,o5,o6]/\aM H3 H') ⟨_,_,_,_,rfl,aM.refl _⟩ (fun i σ H' _ ⟨_,_,_,_,_,z⟩=>z _ _ (pU _ _ hp)) ?_ ?_
   ·rintro i x σ H4 p4 hx ⟨o3,o4,o5,o6,rfl,s4⟩ f4;have hi:i<ts.length:=by rw[<- hlen]; exact(i_.mp hx).1
    have et:ts[i]?=some ts[i]:=eF hi;have U9:=pU.trans s4;obtain⟨a0,vp,g1,g2,g3⟩:=(TA.mono U9.kp).at_ i _ et;rw[hx] at g1;cases g1;have s5:=aN f4 (HO.tup [V.int (i:Nat),.ref a0]);have e5:upd H4 p4 (HO.tup [V.int (i:Nat),.ref a0]) p4=some (.tup [V.int (i:Nat),.ref a0]):=aD;generalize upd H4 p4 (HO.tup [V.int (i:Nat),.ref a0])=H5 at s5 e5 ⊢;refine⟨p4,_,rfl,e_.of e5,rfl,?_⟩;walk_at "rd";refine⟨a0,_,rfl,e_.of (s5 _ _ g3),rfl,?_⟩;walk_at "rd";have eA:=s5 _ _ (s4 _ _ XM);refine⟨acc,_,rfl,b_.of eA,fun q6 f6=>?_⟩;rw[kW (by omega),show((i:Int)+1).toNat=i+1 by omega,<- zE]
    have s6:=aN f6 (HO.lst (((ts.map (·.1)).drop (i+1)).map V.str));refine⟨_,q6,_,rfl,aD,fun z hz=>T.og i _ z et hz,fun H7 s7=>⟨_,_,_,_,rfl,s4.trans (s5.trans (s6.trans s7))⟩⟩
   ·rintro σ H4 ⟨o3,o4,o5,o6,rfl,s4⟩;walk_at "rd";have U9:=pU.trans s4;refine oJ ((ts.map (·.2.1)).map eV) (rY ts lg) (jd ts lg) (fun R hR=>by walk_at "rd"; exact hR) (U9 _ _ hp) (by simp; omega) (by omega) (fL _) ?_ ?_
    ·intro i x d H' hx hd s';have TB:=TA.mono (U9.trans s').kp;refine⟨fun R hR=>wD TB hx hR,fun R hR=>?_⟩;have hi:i<ts.length:=by rw[<- hlen]; exact(i_.mp hx).1
     have et:ts[i]?=some ts[i]:=eF hi;obtain⟨vp,ev,av⟩:=TB.ap.nth hd;rw[iU et];walk_at "rd";rw[jD,ev];exact hR _ _ (aM.refl _) av
    ·intro ac2 us2 H5 f5 s5 e5 a5;exact⟨t,ac2,us2,ts.map (·.2.1),rfl,e5,a5,by simp; omega,T.lm,fun H6 s6=>q H6 (U9.trans (s5.trans s6))⟩
def TQ (t:Int):List (Str×V):=[("total",.int t)]
theorem pf1 (t:Int):jl "total" (.int t) []=TQ t:=by kernel_rfl
def Qu (t:Int) (lo:Addr):List (Str×V):=[("total",.int t),("order",.ref lo)]
theorem pf2 (t:Int) (lo:Addr):jl "order" (.ref lo) (TQ t)=Qu t lo:=by kernel_rfl
def My (t:Int) (lo dp:Addr):List (Str×V):=[("total",.int t),("order",.ref lo),("posts",.ref dp)]
theorem pf3 (t:Int) (lo dp:Addr):jl "posts" (.ref dp) (Qu t lo)=My t lo dp:=by kernel_rfl
def Mx (t:Int) (lo dp dn:Addr):List (Str×V):=[("total",.int t),("order",.ref lo),("posts",.ref dp),("onwards",.ref dn)]
theorem pf4 (t:Int) (lo dp dn:Addr):jl "onwards" (.ref dn) (My t lo dp)=Mx t lo dp dn:=by kernel_rfl
def Mw (t:Int) (lo dp dn ds:Addr):List (Str×V):=[("total",.int t),("order",.ref lo),("posts",.ref dp),("onwards",.ref dn),("stands",.ref ds)]
theorem pf5 (t:Int) (lo dp dn ds:Addr):jl "stands" (.ref ds) (Mx t lo dp dn)=Mw t lo dp dn ds:=by kernel_rfl
def Rb (t:Int) (lo dp dn ds dt:Addr):List (Str×V):=[("total",.int t),("order",.ref lo),("posts",.ref dp),("onwards",.ref dn),("stands",.ref ds),("tallies",.ref dt)]
theorem pf6 (t:Int) (lo dp dn ds dt:Addr):jl "tallies" (.ref dt) (Mw t lo dp dn ds)=Rb t lo dp dn ds dt:=by kernel_rfl
def fl7 (t:Int) (lo dp dn ds dt lp:Addr):List (Str×V):=[("total",.int t),("order",.ref lo),("posts",.ref dp),("onwards",.ref dn),("stands",.ref ds),("tallies",.ref dt),("past",.ref lp)]
theorem pf7 (t:Int) (lo dp dn ds dt lp:Addr):jl "past" (.ref lp) (Rb t lo dp dn ds dt)=fl7 t lo dp dn ds dt lp:=by kernel_rfl
theorem LC (t:Int) (lo dp dn:Addr):(Mx t lo dp dn).lookup ("order" : Str)=some (.ref lo):=by kernel_rfl
theorem Lz (t:Int) (lo dp dn ds:Addr):(Mw t lo dp dn ds).lookup ("order" : Str)=some (.ref lo):=by kernel_rfl
def jw (x:g_):iR:=⟨0,x.lo,[0,0,0,0,0],0,0,[[0,0,0],[0,0,0],[0,0,0]]⟩
def ye (t:Int) (ts:List T3) (ss:List iR):Yd:=⟨t,ts.map (·.1),ts.map (·.2.1),ts.map (·.2.2),ss,ts.map fun _=>[0,0,0],[]⟩
def Gp (C:Addr):Sp:=fun vs H Q _=>∃(y dx:Addr) (t:Int) (p:Addr) (ys:List V) (ts:List T3) (sv:V) (ss:List iR),vs=[.ref y,.int t,.ref p,sv]/\H y=some (.ins C dx [])/\H p=some (.lst ys)/\aj H (ts.map Dk) ys/\Mt t ts/\(∀x∈ts,C_ x.2.1)/\((sv=.non/\ss=ts.map fun x=>jw x.2.1)\/∃l zs,sv=.ref l/\H l=some (.lst zs)/\aj H (ss.map vA) zs)/\ss.length=ts.length/\(∀z∈ss,FN z)/\hands ss<=t /\
 ∀a H',a.p=y->bA C H' a (ye t ts ss)->a.ue=[]->(∀b∈a.own,b=y\/H b=none)->Fr [y] H H'->Q .non H'
theorem jK:aV ["self","total","posts","stands"] ["self","total","posts","stands"] (aG ig):=(by walk_at "c")
theorem q_ {C T:Addr} (F:Ih K "__init__" "Yard.__init__" ig f fd T) (B:Bi mg) (Z:ZY K C) (j_:Ct P w K mg base k "check_posts" ["total","posts"] U4) (j9:Ct P w K mg base k "first_stand" ["post"] Ja) (jA:Ct P w K mg base k "check_stands" ["total","posts","stands"] N5):bJ P w K mg base (Q7 P w) (k+1) f fd ["self","total","posts","stands"] (Gp C):=by
 refine F.okE jK (by rintro vs H Q E ⟨y,dx,t,p,ys,ts,sv,ss,rfl,_⟩; rfl) (fun cdv A outer s H vs Q E h00 hr h=>?_)
 obtain⟨y,dx,t,p,ys,ts,sv,ss,rfl,hy,hp,ha,T3,hps,hsv,hls,hS,hh,q⟩:=h;have ND:=jK.nd;refine⟨_,(aq (bC (pf j_ hr (ao (pv 1) (ao (pv 2) ak)))) (aq (cL (bh wH (pv 3) fZ (bf _)) (aF (qX (i:=3) ND rfl (by walk_at "o") (nt:=3) (N':=["name","post","onward"]) (js:=[]) rfl (bI (K:=K) rfl (pv 2)) oZ.of (fun fp s' H'=>(bT (K:=K) (n:=3) rfl rfl (aJ (aH (i:=0) (by show List.Nodup (["name","post","onward"]:List Str); decide) rfl (.inl (gA rfl)) (.inr (gA rfl))) (aJ (aH (i:=1) (by show List.Nodup (["name","post","onward"]:List Str); decide) rfl (.inl (gA rfl)) (.inr (gA rfl))) (aJ (aH (i:=2) (by show List.Nodup (["name","post","onward"]:List Str); decide) rfl (.inl (gA rfl)) (.inr (gA rfl))) bR))))) (fun fp s' H'=>gO) (fun fp s' H'=>(pf j9 hr (ao (pv 1) ak))))) bH) (aq (bC (pf jA hr (ao (pv 1) (ao (pv 2) (ao (pv 3) ak))))) (aq (lK (K:=K) rfl (pv 0) (pv 1)) (aq (lK (K:=K) rfl (pv 0) (jm (nt:=3) (N':=["name","post","onward"]) (js:=[]) rfl (bI (K:=K) rfl (pv 2)) oZ.of (fun fp s' H'=>(bT (K:=K) (n:=3) rfl rfl (aJ (aH (i:=0) (by show List.Nodup (["name","post","onward"]:List Str); decide) rfl (.inl (gA rfl)) (.inr (gA rfl))) (aJ (aH (i:=1) (by show List.Nodup (["name","post","onward"]:List Str); decide) rfl (.inl (gA rfl)) (.inr (gA rfl))) (aJ (aH (i:=2) (by show List.Nodup (["name","post","onward"]:List Str); decide) rfl (.inl (gA rfl)) (.inr (gA rfl))) bR))))) (fun fp s' H'=>gO) (fun fp s' H'=>(pv 0)))) (aq (lK (K:=K) rfl (pv 0) (wA (nt:=3) (N':=["name","post","onward"]) (js:=[]) rfl (bI (K:=K) rfl (pv 2)) qz.of (fun fp s' H'=>(bT (K:=K) (n:=3) rfl rfl (aJ (aH (i:=0) (by show List.Nodup (["name","post","onward"]:List Str); decide) rfl (.inl (gA rfl)) (.inr (gA rfl))) (aJ (aH (i:=1) (by show List.Nodup (["name","post","onward"]:List Str); decide) rfl (.inl (gA rfl)) (.inr (gA rfl))) (aJ (aH (i:=2) (by show List.Nodup (["name","post","onward"]:List Str); decide) rfl (.inl (gA rfl)) (.inr (gA rfl))) bR))))) (fun fp s' H'=>(pv 0)) (fun fp s' H'=>(pv 1)))) (aq (lK (K:=K) rfl (pv 0) (wA (nt:=3) (N':=["name","post","onward"]) (js:=[]) rfl (bI (K:=K) rfl (pv 2)) qz.of (fun fp s' H'=>(bT (K:=K) (n:=3) rfl rfl (aJ (aH (i:=0) (by show List.Nodup (["name","post","onward"]:List Str); decide) rfl (.inl (gA rfl)) (.inr (gA rfl))) (aJ (aH (i:=1) (by show List.Nodup (["name","post","onward"]:List Str); decide) rfl (.inl (gA rfl)) (.inr (gA rfl))) (aJ (aH (i:=2) (by show List.Nodup (["name","post","onward"]:List Str); decide) rfl (.inl (gA rfl)) (.inr (gA rfl))) bR))))) (fun fp s' H'=>(pv 0)) (fun fp s' H'=>(pv 2)))) (aq (lK (K:=K) rfl (pv 0) (GX rfl B.dict B.zip (ao (bU (K:=K) rfl (pv 0)) (ao (pv 3) ak)))) (aq (lK (K:=K) rfl (pv 0) (wA (nt:=1) (N':=["name"]) (js:=[]) rfl (bI (K:=K) rfl (bU (K:=K) rfl (pv 0))) qz.of (fun fp s' H'=>(aH (i:=0) (by show List.Nodup (["name"]:List Str); decide) rfl (.inl (gA rfl)) (.inr (gA rfl)))) (fun fp s' H'=>(pv 0)) (fun fp s' H'=>(bc (ao aC (ao aC (ao aC ak))))))) (aF (lK (K:=K) rfl (pv 0) (bM ak)))))))))))),?_⟩
 have hlen:=ha.length;rw[b7] at hlen;have T1:=T3.n1;have T5:=T3.n5;obtain⟨lg,TA⟩:=sr ha;simp only[Oi];walk_at "rd";refine⟨t,p,ys,ts,rfl,hp,ha,T3,fun H1 s1=>?_⟩;refine mW.of (R:=fun σ H'=>∃l zs,σ=[some (.ref y),some (.int t),some (.ref p),some (.ref l)]/\H' l=some (.lst zs)/\aj H' (ss.map vA) zs/\aM H H') ?_ ?_
 ·rintro σ H2 ⟨l,zs,rfl,e2,a2,s2⟩;walk_at "rd";have lz:=a2.length;rw[b7] at lz;refine⟨t,p,l,ys,zs,ss,rfl,s2 _ _ hp,e2,a2,hS,by omega,by omega,hh,fun H3 s3=>?_⟩
  have ZQ:=s2.trans s3;refine⟨y,C,dx,[],rfl,ZQ _ _ hy,Z.cl,Z.n1,by decide,?_⟩
  have py:p≠y:=fun z=>by rw[z,hy] at hp; cases hp
  have ly:l≠y:=fun z=>by rw[z,s2 _ _ hy] at e2; cases e2
  have stp:∀{G:Hp} {fs fs':List (Str×V)},G y=some (.ins C dx fs)->Fr [y] H G->Fr [y] H (upd G y (.ins C dx fs'))/\cU G (upd G y (.ins C dx fs')):=fun {G fs fs'} g fr=>⟨fr.trans (Fr.put (by simp)),cU.put fun xs z=>by rw[g] at z; cases z⟩
  have gy3:H3 y=some (.ins C dx []):=ZQ _ _ hy;have r3:Fr [y] H H3:=ZQ.fr _;obtain⟨r3',k3⟩:=stp (fs':=TQ t) gy3 r3;have TA3:=TA.mono (ZQ.kp.trans k3);have z3':=aj.kp k3 _ _ (fj _) (a2.mono s3);have hp3:upd H3 y (.ins C dx (TQ t)) p=some (.lst ys):=by rw[aL py]; exact ZQ _ _ hp
  have hl3:upd H3 y (.ins C dx (TQ t)) l=some (.lst zs):=by rw[aL ly]; exact s3 _ _ e2
  have Xw:upd H3 y (.ins C dx (TQ t)) y=some (.ins C dx (TQ t)):=aD;rw[pf1];generalize upd H3 y (.ins C dx (TQ t))=K3 at r3' k3 TA3 z3' hp3 hl3 Xw ⊢;refine oJ ((ts.map (·.1)).map .str) (rY ts lg) (jd ts lg) (fun R hR=>by walk_at "rd"; exact hR) hp3 (by simp; omega) (by omega) (mY _) ?_ ?_
  ·intro i x d H' hx hd s';refine⟨fun R hR=>wD (TA3.mono s'.kp) hx hR,fun R hR=>?_⟩;have hi:i<ts.length:=by rw[<- hlen]; exact(i_.mp hx).1
   have et:ts[i]?=some ts[i]:=eF hi;rw[cT,cT,et] at hd;cases hd;rw[iU et];walk_at "rd";exact hR _ _ (aM.refl _) (At.str _)
  intro lo us4 H4 flo s4 elo a4;have:=kj a4;subst this;have gy4:=s4 _ _ Xw;refine⟨y,C,dx,TQ t,rfl,gy4,Z.cl,Z.n2,(show 1<1000 by decide),?_⟩
  have Jz:lo≠y:=fun z=>by rw[z,Xw] at flo; cases flo
  obtain⟨r4',k4⟩:=stp (fs':=Qu t lo) gy4 (r3'.trans (s4.fr _));have TA4:=TA3.mono (s4.kp.trans k4);have z4':=aj.kp k4 _ _ (fj _) (z3'.mono s4);have hp4:upd H4 y (.ins C dx (Qu t lo)) p=some (.lst ys):=by rw[aL py]; exact s4 _ _ hp3
  have hl4:upd H4 y (.ins C dx (Qu t lo)) l=some (.lst zs):=by rw[aL ly]; exact s4 _ _ hl3
  have Xr:upd H4 y (.ins C dx (Qu t lo)) lo=some (.lst ((ts.map (·.1)).map V.str)):=by rw[aL Jz]; exact elo
  have Tw:upd H4 y (.ins C dx (Qu t lo)) y=some (.ins C dx (Qu t lo)):=aD
  have Yy:∀b,upd H4 y (.ins C dx (Qu t lo)) b=none->H b=none:=fun b z=>by
   cases q':H b with
   | none=>rfl
   | some o=>
    by_cases e:b=y
    ·rw[e,Tw] at z; cases z
    ·rw[r4' b o q' (by simpa using e)] at z; cases z
  have adh:H lo=none:=by
   cases q':H lo with
   | none=>rfl
   | some o=>rw[r3' lo o q' (by simpa using Jz)] at flo; cases flo
  rw[pf2];generalize upd H4 y (.ins C dx (Qu t lo))=K4 at r4' k4 TA4 z4' hp4 hl4 Xr Tw Yy ⊢;refine vd (ts.map (·.1)) ((ts.map (·.2.1)).map eV) (rY ts lg) (jd ts lg) (fun R hR=>by walk_at "rd"; exact hR) hp4 T3.nn (by simp; omega) (by simp; omega) (by omega) (fL _) ?_ ?_
  ·intro i x nm d H' hx hn hd s';have TC:=TA4.mono s'.kp;have hi:i<ts.length:=by rw[<- hlen]; exact(i_.mp hx).1
   have et:ts[i]?=some ts[i]:=eF hi;obtain⟨vp,ev,av⟩:=TC.ap.nth hd;rw[cT,et] at hn;cases hn;rw[iU et];refine⟨fun R hR=>wD TC hx (by rw[iU et]; exact hR),fun R hR=>by walk_at "rd"; exact hR,fun R hR=>?_⟩
   walk_at "rd";rw[jD,ev];exact hR _ _ (aM.refl _) av
  intro dp v5 H5 fdp s5 edp a5 l5;have gy5:=s5 _ _ Tw;refine⟨y,C,dx,Qu t lo,rfl,gy5,Z.cl,Z.n3,(show 2<1000 by decide),?_⟩
  have TY:dp≠y:=fun z=>by rw[z,Tw] at fdp; cases fdp
  obtain⟨r5',k5⟩:=stp (fs':=My t lo dp) gy5 (r4'.trans (s5.fr _));have TA5:=TA4.mono (s5.kp.trans k5);have z5':=aj.kp k5 _ _ (fj _) (z4'.mono s5);have a5':=aj.kp k5 _ _ (fL _) a5;have hp5:upd H5 y (.ins C dx (My t lo dp)) p=some (.lst ys):=by rw[aL py]; exact s5 _ _ hp4
  have hl5:upd H5 y (.ins C dx (My t lo dp)) l=some (.lst zs):=by rw[aL ly]; exact s5 _ _ hl4
  have Ht:upd H5 y (.ins C dx (My t lo dp)) lo=some (.lst ((ts.map (·.1)).map V.str)):=by rw[aL Jz]; exact s5 _ _ Xr
  have Qm:upd H5 y (.ins C dx (My t lo dp)) dp=some (.dK (zK (ts.map (·.1)) v5)):=by rw[aL TY]; exact edp
  have Tv:upd H5 y (.ins C dx (My t lo dp)) y=some (.ins C dx (My t lo dp)):=aD
  have fH5:∀b,upd H5 y (.ins C dx (My t lo dp)) b=none->K4 b=none:=fun b z=>by
   cases q':K4 b with
   | none=>rfl
   | some o=>
    by_cases e:b=y
    ·rw[e,Tv] at z; cases z
    ·rw[aL e,s5 _ _ q'] at z; cases z
  rw[pf3];generalize upd H5 y (.ins C dx (My t lo dp))=K5 at r5' k5 TA5 z5' a5' hp5 hl5 Ht Qm Tv fH5 ⊢;refine vd (ts.map (·.1)) ((ts.map (·.2.2)).map SN) (rY ts lg) (jd ts lg) (fun R hR=>by walk_at "rd"; exact hR) hp5 T3.nn (by simp; omega) (by simp; omega) (by omega) (SM _) ?_ ?_
  ·intro i x nm d H' hx hn hd s';have TC:=TA5.mono s'.kp;have hi:i<ts.length:=by rw[<- hlen]; exact(i_.mp hx).1
   have et:ts[i]?=some ts[i]:=eF hi;rw[cT,et] at hn;cases hn;rw[cT,cT,et] at hd;cases hd;rw[iU et];refine⟨fun R hR=>wD TC hx (by rw[iU et]; exact hR),fun R hR=>by walk_at "rd"; exact hR,fun R hR=>?_⟩
   walk_at "rd";exact hR _ _ (aM.refl _) (Vh _)
  intro dn v6 H6 fdn s6 edn a6 l6;have:=Pj a6;subst this;have gy6:=s6 _ _ Tv;refine⟨y,C,dx,My t lo dp,rfl,gy6,Z.cl,Z.n4,(show 3<1000 by decide),?_⟩
  have Yz:dn≠y:=fun z=>by rw[z,Tv] at fdn; cases fdn
  obtain⟨r6',k6⟩:=stp (fs':=Mx t lo dp dn) gy6 (r5'.trans (s6.fr _));rw[pf4];have ho6:∀b o,b≠y->K5 b=some o->upd H6 y (.ins C dx (Mx t lo dp dn)) b=some o:=fun b o e z=>by rw[aL e]; exact s6 _ _ z
  have z6':=aj.kp k6 _ _ (fj _) (z5'.mono s6);have a56:=aj.kp k6 _ _ (fL _) (a5'.mono s6);have Tt:upd H6 y (.ins C dx (Mx t lo dp dn)) dn=some (.dK (zK (ts.map (·.1)) ((ts.map (·.2.2)).map lq))):=by rw[aL Yz]; exact edn
  have Lx:upd H6 y (.ins C dx (Mx t lo dp dn)) y=some (.ins C dx (Mx t lo dp dn)):=aD
  have fH6:∀b,upd H6 y (.ins C dx (Mx t lo dp dn)) b=none->K5 b=none:=fun b z=>by
   cases q':K5 b with
   | none=>rfl
   | some o=>
    by_cases e:b=y
    ·rw[e,Lx] at z; cases z
    ·rw[ho6 _ _ e q'] at z; cases z
  generalize upd H6 y (.ins C dx (Mx t lo dp dn))=K6 at r6' k6 z6' a56 Tt Lx fH6 ho6 ⊢;refine⟨y,C,dx,Mx t lo dp dn,.ref lo,rfl,Lx,Z.cl,Z.n2,LC ..,lo,l,(ts.map (·.1)).map Sum.inr,zs,rfl,by rw[Bb]; exact ho6 _ _ Jz Ht,ho6 _ _ ly hl5,by simp; omega,by simp; omega,fun ds H7 fds s7 eds=>?_⟩
  have adq:H7 ds=some (.dK (zK (ts.map (·.1)) zs)):=eds.trans (pW (fun q=>some (HO.dK q)) (Dd (ts.map fun x:K36.T3=>x.1) zs [] [] (by simpa using T3.nn) rfl (by simp; omega)))
  refine⟨y,C,dx,Mx t lo dp dn,rfl,s7 _ _ Lx,Z.cl,Z.n5,(show 4<1000 by decide),?_⟩
  have dsy:ds≠y:=fun z=>by rw[z,Lx] at fds; cases fds
  obtain⟨r7',k7⟩:=stp (fs':=Mw t lo dp dn ds) (s7 _ _ Lx) (r6'.trans (s7.fr _));rw[pf5];have Tr:∀b o,b≠y->K6 b=some o->upd H7 y (.ins C dx (Mw t lo dp dn ds)) b=some o:=fun b o e z=>by rw[aL e]; exact s7 _ _ z
  have z7':=aj.kp k7 _ _ (fj _) (z6'.mono s7);have a57:=aj.kp k7 _ _ (fL _) (a56.mono s7);have Xv:upd H7 y (.ins C dx (Mw t lo dp dn ds)) ds=some (.dK (zK (ts.map (·.1)) zs)):=by rw[aL dsy]; exact adq
  have Qp:upd H7 y (.ins C dx (Mw t lo dp dn ds)) y=some (.ins C dx (Mw t lo dp dn ds)):=aD
  have fH7:∀b,upd H7 y (.ins C dx (Mw t lo dp dn ds)) b=none->K6 b=none:=fun b z=>by
   cases q':K6 b with
   | none=>rfl
   | some o=>
    by_cases e:b=y
    ·rw[e,Qp] at z; cases z
    ·rw[Tr _ _ e q'] at z; cases z
  generalize upd H7 y (.ins C dx (Mw t lo dp dn ds))=K7 at r7' k7 z7' a57 Xv Qp fH7 Tr ⊢;refine vd (ts.map (·.1)) ((ts.map fun _=>([0,0,0]:List Int)).map jR) (fun i=>[some (((ts.map (·.1)).map V.str).getD i .non)]) (fun _=>rfl) (a:=lo) (fun R hR=>by walk_at "rd"; exact⟨y,C,dx,Mw t lo dp dn ds,.ref lo,rfl,Qp,Z.cl,Z.n2,Lz ..,hR⟩) (Tr _ _ Jz (ho6 _ _ Jz Ht)) T3.nn (by simp) (by simp) (by simp; omega) (iT _) ?_ ?_
  ·intro i x nm d H' hx hn hd s';have ex:((ts.map (·.1)).map V.str).getD i .non=x:=by rw[jD,hx]; rfl
   rw[ex];rw[cT,hn] at hx;cases hx;have hi:i<ts.length:=by have:=(i_.mp hn).1; simpa using this
   have et:ts[i]?=some ts[i]:=eF hi;rw[cT,cT,et] at hd;cases hd;refine⟨fun R hR=>by walk_at "rd"; exact hR,fun R hR=>by walk_at "rd"; exact hR,fun R hR=>?_⟩
   walk_at "rd";exact⟨by decide,fun p H5 f5 s5 e5=>hR _ _ s5 (At.tup e5 (aj.cons (At.int _) (aj.cons (At.int _) (aj.cons (At.int _) aj.nil))))⟩
  intro dt v8 H8 XD s8 edt a8 l8;have gy8:=s8 _ _ Qp;refine⟨y,C,dx,Mw t lo dp dn ds,rfl,gy8,Z.cl,Z.n6,(show 5<1000 by decide),?_⟩
  have dty:dt≠y:=fun z=>by rw[z,Qp] at XD; cases XD
  obtain⟨r8',k8⟩:=stp (fs':=Rb t lo dp dn ds dt) gy8 (r7'.trans (s8.fr _));rw[pf6];have Yv:∀b o,b≠y->K7 b=some o->upd H8 y (.ins C dx (Rb t lo dp dn ds dt)) b=some o:=fun b o e z=>by rw[aL e]; exact s8 _ _ z
  have z8':=aj.kp k8 _ _ (fj _) (z7'.mono s8);have a58:=aj.kp k8 _ _ (fL _) (a57.mono s8);have a88:=aj.kp k8 _ _ (iT _) a8;have Xu:upd H8 y (.ins C dx (Rb t lo dp dn ds dt)) dt=some (.dK (zK (ts.map (·.1)) v8)):=by rw[aL dty]; exact edt
  have Tu:upd H8 y (.ins C dx (Rb t lo dp dn ds dt)) y=some (.ins C dx (Rb t lo dp dn ds dt)):=aD
  have fH8:∀b,upd H8 y (.ins C dx (Rb t lo dp dn ds dt)) b=none->K7 b=none:=fun b z=>by
   cases q':K7 b with
   | none=>rfl
   | some o=>
    by_cases e:b=y
    ·rw[e,Tu] at z; cases z
    ·rw[Yv _ _ e q'] at z; cases z
  generalize upd H8 y (.ins C dx (Rb t lo dp dn ds dt))=K8 at r8' k8 z8' a58 a88 Xu Tu fH8 Yv ⊢;refine⟨by decide,fun lp H9 Vo s9 elp=>?_⟩
  have gy9:=s9 _ _ Tu;refine⟨y,C,dx,Rb t lo dp dn ds dt,rfl,gy9,Z.cl,Z.n7,(show 6<1000 by decide),?_⟩
  have lpy:lp≠y:=fun z=>by rw[z,Tu] at Vo; cases Vo
  obtain⟨r9',k9⟩:=stp (fs':=fl7 t lo dp dn ds dt lp) gy9 (r8'.trans (s9.fr _));rw[pf7];have ho9:∀b o,b≠y->K8 b=some o->upd H9 y (.ins C dx (fl7 t lo dp dn ds dt lp)) b=some o:=fun b o e z=>by rw[aL e]; exact s9 _ _ z
  have ac8:upd H9 y (.ins C dx (fl7 t lo dp dn ds dt lp)) lp=some (.lst []):=by rw[aL lpy]; exact elp
  have lo8:=Yv _ _ Jz (Tr _ _ Jz (ho6 _ _ Jz Ht));have dp8:=Yv _ _ TY (Tr _ _ TY (ho6 _ _ TY Qm));have dn8:=Yv _ _ Yz (Tr _ _ Yz Tt);have ds8:=Yv _ _ dsy Xv;refine q ⟨y,lo,dp,dn,ds,dt,lp,[]⟩ _ rfl ⟨⟨dx,aD⟩,ho9 _ _ Jz lo8,⟨v5,ho9 _ _ TY dp8,aj.kp k9 _ _ (fL _) (a58.mono s9)⟩,ho9 _ _ Yz dn8,⟨zs,ho9 _ _ dsy ds8,aj.kp k9 _ _ (fj _) (z8'.mono s9)⟩,⟨v8,ho9 _ _ dty Xu,aj.kp k9 _ _ (iT _) (a88.mono s9)⟩,ac8,trivial,?_⟩ rfl ?_ r9'
  ·have ne:∀{G:Hp} {u v:Addr} {o:HO},G u=some o->G v=none->u≠v:=fun e1 e2 z=>by rw[z,e2] at e1; cases e1
   show[y,lo,dp,dn,ds,dt,lp].Nodup;have lo7:=Tr _ _ Jz (ho6 _ _ Jz Ht);have dp7:=Tr _ _ TY (ho6 _ _ TY Qm);have dn7:=Tr _ _ Yz Tt;simp only[iW,bF,dU,not_or,or_false,not_false_eq_true,List.nodup_nil,and_true];exact⟨⟨Jz.symm,TY.symm,Yz.symm,dsy.symm,dty.symm,lpy.symm⟩,⟨ne Xr fdp,ne Ht fdn,ne (ho6 _ _ Jz Ht) fds,ne lo7 XD,ne lo8 Vo⟩,⟨ne Qm fdn,ne (ho6 _ _ TY Qm) fds,ne dp7 XD,ne dp8 Vo⟩,⟨ne Tt fds,ne dn7 XD,ne dn8 Vo⟩,⟨ne Xv XD,ne ds8 Vo⟩,ne Xu Vo⟩
  ·intro b hb
   replace hb:b∈[y,lo,dp,dn,ds,dt,lp]:=hb
   simp only[bF,dU,or_false] at hb;rcases hb with rfl | rfl | rfl | rfl | rfl | rfl | rfl
   ·exact .inl rfl
   ·exact .inr adh
   ·exact .inr (Yy _ fdp)
   ·exact .inr (Yy _ (fH5 _ fdn))
   ·exact .inr (Yy _ (fH5 _ (fH6 _ fds)))
   ·exact .inr (Yy _ (fH5 _ (fH6 _ (fH7 _ XD))))
   ·exact .inr (Yy _ (fH5 _ (fH6 _ (fH7 _ (fH8 _ Vo)))))
 ·intro N hN;walk_at "rd";rcases hsv with⟨rfl,rfl⟩ | ⟨l,zs,rfl,hl,az⟩
  ·refine⟨trivial,?_⟩;rw[bx (by decide)]
   have TB:=TA.mono s1.kp;refine oJ ((ts.map fun x=>jw x.2.1).map vA) (rY ts lg) (jd ts lg) (fun R hR=>by walk_at "rd"; exact hR) (s1 _ _ hp) (by simp; omega) (by omega) (fj _) ?_ ?_
   ·intro i x d H' hx hd s';have TC:=TB.mono s'.kp;refine⟨fun R hR=>wD TC hx hR,fun R hR=>?_⟩;have hi:i<ts.length:=by rw[<- hlen]; exact(i_.mp hx).1
    have et:ts[i]?=some ts[i]:=eF hi;obtain⟨vp,ev,av⟩:=TC.ap.nth (d:=eV ts[i].2.1) (by rw[cT,cT,et]; rfl)
    rw[cT,cT,et] at hd;cases hd;rw[iU et];walk_at "rd";rw[jD,ev];exact⟨vp,_,rfl,av,fun u cQ s'' au=>hR _ _ s'' au⟩
   ·intro l zs H2 f2 s2 e2 a2;exact hN _ _ ⟨l,zs,rfl,e2,a2,s1.trans s2⟩
  ·refine⟨trivial,?_⟩;rw[aX (by simp)]
   exact hN _ _ ⟨l,zs,rfl,s1 _ _ hl,az.mono s1,s1⟩
theorem adW {x:Option V} {σ:St}:bQ [0] (x::σ)=[x]:=rfl
theorem Fo {H:Hp}:∀{bs:List Bool} {us:List V},aj H (bs.map .bool) us->us=bs.map V.bl
 | [],_,h=>aj.h_ h
 | b::bs,us,h=>by
  obtain⟨x,r,rfl,h1,h2⟩:=aj.aO h;have e:x=.bl b:=by unfold At at h1; exact h1
  rw[e,Fo h2]; rfl
def yX (C:Addr):Sp:=fun vs H Q _=>∃(a:Ya) (y:Yd) (l:Addr) (ns:List Str),vs=[.ref a.p,.ref l]/\bA C H a y/\H l=some (.lst (ns.map V.str))/\ns.Nodup/\ns.length<=1000/\(∀n∈ns,n∈y.ns)/\∀H',aM H H'->Q .non H'
theorem iD:aV ["self","names"] ["self","names"] (aG fX):=(by walk_at "c")
theorem nH {C:Addr} (F:iM K "check_names" "Yard.check_names" fX f fd) (B:Bi mg) (Z:ZY K C):bJ P w K mg base gD (k+1) f fd ["self","names"] (yX C):=by
 refine F.ok iD (by rintro vs H Q E ⟨a,y,l,ns,rfl,_⟩; rfl) (fun cdv A outer s H vs Q E hr h=>?_)
 obtain⟨a,y,l,ns,rfl,YA,hl,nn,aeU,nin,q⟩:=h;have ND:=iD.nd;refine⟨_,(aF (cL (PW.pt (qU (bh wG (pb Ae B.len dM (ao (pt (Ad rfl) B.set QR (ao (pv 1) ak)) ak)) (pb (cA (K:=K) rfl) B.len dM (ao (pv 1) ak)) (bf _)) (lH (lJ (dY (pb (k_ rfl) B.all xN (ao (dG (N':=["name","self"]) (js:=[0]) rfl (bI (K:=K) rfl (pv 1)) rT.mk1 rfl (by decide) rfl (fun fp s' H'=>(dZ (WN (K:=K) rfl) (pv 0) (bU (K:=K) rfl (pv 1)) (by with_unfolding_all rfl)))) ak))))))) (aF wz) bH)),?_⟩
 walk_at "rd";refine⟨l,ns,rfl,hl,by omega,fun pz H2 f2 s2 e2=>⟨pz,_,rfl,e2,?_,l,_,rfl,.inl (b_.of (s2 _ _ hl)),?_⟩⟩
 ·have:=(oG ns).1;omega
 have hdc:=oG ns;refine⟨_,_,rfl,rfl,?_⟩
 rw[aX (by
  intro z;have z':=nF z;rw[b7] at z'
  exact hdc.2.mp (by omega) nn)]
 refine jO ((ns.map fun _=>true).map .bool) (fun R hR=>by walk_at "rd"; exact hR) (s2 _ _ hl) (by simp) (by simp; omega) (bu.mpr fun d hd=>by obtain⟨z,_,rfl⟩:=cO.mp hd; rfl) (fun i x d H' hx hd s' R hR=>?_) fun ab ub H3 f3 s3 e3 a3=>?_
 ·rw[cT] at hx;rw[cT,cT] at hd;cases et:ns[i]? with
  | none=>rw[et] at hx; cases hx
  | some n=>
   rw[et] at hx hd;cases hx;cases hd;rw[adW];walk_at "rd";refine Fl.order (Q:=fun v H=>Z7 K false (.str n) v H R) Z (YA.mono (s2.trans s')) ?_;refine⟨a.lo,_,rfl,.inl (b_.of (YA.mono (s2.trans s')).lo),rfl,z8 _,?_⟩;rw[aX (by decide),JM,j0 (nin n (dz et))]
   exact hR _ _ (aM.refl _) (At.bool _)
 ·have eb:ub=(ns.map fun _=>true).map V.bl:=Fo a3;subst eb;refine⟨ab,_,rfl,e3,?_⟩;rw[aX (by simp)]
  exact q _ (s2.trans s3)
def V_ (C:Addr):Sp:=fun vs H Q _=>∃(a:Ya) (y:Yd),vs=[.ref a.p]/\bA C H a y/\fK y/\∀H',aM H H'->Q (.int (hands y.ss)) H'
theorem m_:aV ["self"] ["self"] (aG jY):=(by walk_at "c")
theorem wN {C:Addr} (F:iM K "hands" "Yard.hands" jY f fd) (B:Bi mg) (Z:ZY K C) (dC:Ct P w K mg base k "hands_of" ["stand"] uV):bJ P w K mg base gD (k+1) f fd ["self"] (V_ C):=by
 refine F.ok m_ (by rintro vs H Q E ⟨a,y,rfl,_⟩; rfl) (fun cdv A outer s H vs Q E hr h=>?_)
 obtain⟨a,y,rfl,YA,YO,q⟩:=h;have ND:=m_.nd;refine⟨_,(aF (a_ (pb (fM rfl) B.sum lW (ao (Sd (dG (N':=["stand"]) (js:=[]) rfl (R8 (K:=K) rfl (bU (K:=K) rfl (pv 0))) rT.Te rfl (by decide) rfl (fun fp s' H'=>(pf dC hr (ao (pv 0) ak))))) ak)))),?_⟩
 obtain⟨vs,ed,av⟩:=YA.ds;have lv:=av.length;rw[b7] at lv;have l1:=YO.ls;have l5:=YO.n5;have lz:(zK y.ns vs).length=y.ns.length:=FZ (by omega)
 walk_at "rd";refine T4 (y.ss.map hnd) (fun R hR=>by walk_at "rd"; exact Fl.stands Z YA hR) ed (by rw[b7,lz]; omega) (by omega) (fun i kk x m H' hx hm kp R hR=>?_) fun acc H' f' s' e'=>?_
 ·unfold zK at hx;rw[List.getElem?_zip_eq_some] at hx;obtain⟨d',hd',ad⟩:=av.get hx.2;rw[cT] at hd' hm;cases ex:y.ss[i]? with
  | none=>rw[ex] at hd'; cases hd'
  | some x'=>
   rw[ex] at hd' hm;cases hm;cases hd';obtain⟨a0,xs0,rfl,h1,h2⟩:=bw (At.kp kp _ _ (uU _) ad);obtain⟨x0,_,rfl,b0,h2⟩:=aj.aO h2;obtain⟨x1,_,rfl,b1,h2⟩:=aj.aO h2;obtain⟨x2,_,rfl,b2,h2⟩:=aj.aO h2;obtain⟨c0,cs0,rfl,g1,g2⟩:=bw b2;have:=cN (cs:=x'.cs) g2;subst this;have e1:x1=.int x'.r:=by unfold At at b1; exact b1
   subst e1;walk_at "rd";exact⟨_,_,_,_,_,_,_,rfl,rfl,h1,g1,hR _ (aM.refl _)⟩
 ·refine⟨acc,_,rfl,.inl e',?_⟩;exact q _ s'
def Dl (C:Addr) (g:Yd->List PyData):Sp:=fun vs H Q _=>∃(a:Ya) (y:Yd) (i:Nat) (n:Str) (d:PyData),vs=[.ref a.p,.str n]/\bA C H a y/\fK y/\y.ns[i]?=some n/\(g y)[i]?=some d/\∀v H',aM H H'->At H' d v->Q v H'
def gP (y:Yd):List PyData:=y.ps.map eV
def gT (y:Yd):List PyData:=y.ts.map jR
theorem pF:aV ["self","name"] ["self","name"] (aG lD):=(by walk_at "c")
theorem xX {C:Addr} (F:iM K "post" "Yard.post" lD f fd) (Z:ZY K C) (aR:ux P w K mg base k C "check_names" ["self","names"] (yX C)):bJ P w K mg base gD (k+1) f fd ["self","name"] (Dl C gP):=by
 refine F.ok pF (by rintro vs H Q E ⟨a,y,i,n,d,rfl,_⟩; rfl) (fun cdv A outer s H vs Q E hr h=>?_)
 obtain⟨a,y,i,n,d,rfl,YA,YO,hn,hd,q⟩:=h;have ND:=pF.nd;refine⟨_,(aq (bC (pm aR hr (pv 0) (ao (bM (ao (pv 1) ak)) ak))) (aF (a_ (bz (um hr.units) (bU (K:=K) rfl (pv 0)) (pv 1) (fun _ _=>rfl))))),?_⟩;walk_at "rd";refine Me.of (m:="check_names") (R:=fun p=>_) YA (fun _ _ _ _ _ _ _=>rfl) ?_;refine⟨by decide,fun p H1 f1 s1 e1=>?_⟩
 refine⟨a,y,p,[n],rfl,YA.mono s1,e1,by simp,by simp,by intro m hm; rw[dH.mp hm]; exact dz hn,fun H2 s2=>?_⟩
 have YB:=YA.mono (s1.trans s2);obtain⟨us,ed,av⟩:=YB.dp;obtain⟨v,ev,aw⟩:=av.nth hd;have lv:=av.length;have l1:=YO.lp;rw[b7] at lv;obtain⟨dx,ob⟩:=YB.ob;exact⟨_,_,_,_,_,rfl,ob,Z.cl,Z.n3,rG ..,_,v,rfl,mR.z ed YO.nn hn (by omega) ev,q _ _ (s1.trans s2) aw⟩
def IK (C:Addr):Sp:=fun vs H Q _=>∃(a:Ya) (y:Yd),vs=[.ref a.p]/\bA C H a y/\fK y/\∀p H',H p=none->aM H H'->H' p=some (.lst (y.ns.map V.str))->Q (.ref p) H'
theorem m9:aV ["self"] ["self"] (aG jX):=(by walk_at "c")
theorem wM {C:Addr} (F:iM K "names" "Yard.names" jX f fd) (B:Bi mg) (Z:ZY K C):bJ P w K mg base gD (k+1) f fd ["self"] (IK C):=by
 refine F.ok m9 (by rintro vs H Q E ⟨a,y,rfl,_⟩; rfl) (fun cdv A outer s H vs Q E hr h=>?_)
 obtain⟨a,y,rfl,YA,YO,q⟩:=h;have ND:=m9.nd;refine⟨_,(aF (a_ (pt (kZ) B.list gY (ao (bU (K:=K) rfl (pv 0)) ak)))),?_⟩;walk_at "rd";obtain⟨dx,ob⟩:=YA.ob;exact⟨_,_,_,_,_,rfl,ob,Z.cl,Z.n2,ju ..,_,_,rfl,YA.lo,fun l hl=>q _ _ hl (aN hl _) aD⟩
def NP (C:Addr):Sp:=fun vs H Q _=>∃(a:Ya) (y:Yd),vs=[.ref a.p]/\bA C H a y/\fK y/\Q (.int (y.pa.length:Nat)) H
theorem nj:aV ["self"] ["self"] (aG jZ):=(by walk_at "c")
theorem wO {C:Addr} (F:iM K "beats" "Yard.beats" jZ f fd) (B:Bi mg) (Z:ZY K C):bJ P w K mg base gD (k+1) f fd ["self"] (NP C):=by
 refine F.ok nj (by rintro vs H Q E ⟨a,y,rfl,_⟩; rfl) (fun cdv A outer s H vs Q E hr h=>?_)
 obtain⟨a,y,rfl,YA,YO,q⟩:=h;have ND:=nj.nd;refine⟨_,(aF (a_ (pb (cA (K:=K) rfl) B.len dM (ao (bU (K:=K) rfl (pv 0)) ak)))),?_⟩;walk_at "rd";obtain⟨dx,ob⟩:=YA.ob;refine⟨_,_,_,_,_,rfl,ob,Z.cl,Z.n7,Cg ..,?_⟩;refine⟨_,_,rfl,.inl (b_.of YA.lp),?_⟩;rw[b7,YA.pa.length];exact q
theorem bO.nth {H:Hp}:∀{ls:List Addr} {rs:List (List Rw)} {i:Nat} {l:Addr},bO H ls rs->ls[i]?=some l->∃r xs,rs[i]?=some r/\H l=some (.lst xs)/\aj H (r.map uX) xs
 | [],[],i,l,_,h=>by simp at h
 | l::ls,r::rs,0,_,h,e=>by cases e; obtain⟨⟨xs,e,a⟩,_⟩:=h; exact⟨r,xs,rfl,e,a⟩
 | l::ls,r::rs,i+1,_,h,e=>bO.nth (i:=i) h.2 e
 | [],_::_,_,_,h,_=>h.elim
 | _::_,[],_,_,h,_=>h.elim
theorem Ez {js:List Nat} {a:Addr} {ls:List Addr} {rs:List (List Rw)} {tl te:TE} {σ:St} {H:Hp} {Q:VK} (hl:∀R:VK,R (.ref a) H->tl σ H R) (ha:H a=some (.lst (ls.map V.ref))) (hz:ls.length<=1000) (hp:bO H ls rs)
  (step:∀(l:Addr) xs H',H' l=some (.lst xs)->∀R:VK,(∀p,H' p=none->R (.ref p) (upd H' p (.lst xs)))->te (some (.ref l)::bQ js σ) H' R)
  (fin:∀acc ms H',H acc=none->(∀b∈ms,H b=none)->(acc::ms).Nodup->aM H H'->H' acc=some (.lst (ms.map V.ref))->bO H' ms rs->Q (.ref acc) H'):gG js (jM K tl) te σ H Q:=by
 refine hl _ ⟨a,rfl,⟨_,b_.of ha⟩,fun acc hacc=>?_⟩;have lr:=hp.length;refine⟨fun i m ys H2=>m=ls.length-i/\i<=ls.length/\∃ms,ys=ms.map V.ref/\ms.length=i/\bO H2 ms (rs.take i)/\(∀b∈ms,H b=none)/\(acc::ms).Nodup/\aM H H2/\H2 acc=some (.lst ys),⟨_,rfl,gm _,[],rfl,rfl,trivial,fun b hb=>by simp at hb,by simp,aN hacc _,aD⟩,?_⟩
 rintro i m ys H2 ⟨rfl,hi,ms,rfl,lm,pm,fm,nm,s2,e2⟩;have ht:b_ K H2 a (ls.map V.ref):=b_.of (s2 _ _ ha);by_cases hlt:i<ls.length
 ·have el:ls[i]?=some ls[i]:=eF hlt;have elr:(ls.map V.ref)[i]?=some (.ref ls[i]):=by rw[cT,el]; rfl
  refine .inr ⟨⟨_,_,ht,elr⟩,fun x H3 y=>?_⟩;obtain⟨e1,y⟩:=y;subst e1;have ex:=(y _ ht).symm.trans elr;cases ex;obtain⟨r,xs,er,exs,ax⟩:=hp.nth el;refine step _ xs _ (s2 _ _ exs) _ fun p fp=>?_;have pa:p≠acc:=fun z=>by rw[z,e2] at fp; cases fp
  have fp0:H p=none:=by
   cases q':H p with
   | none=>rfl
   | some o=>rw[s2 _ _ q'] at fp; cases fp
  have pm':p∉ms:=fun z=>by
   obtain⟨xs',e'⟩:=pm.all p z;rw[e'] at fp; cases fp
  have sp:=aN fp (HO.lst xs);have k4:cU H3 (upd (upd H3 p (.lst xs)) acc (.lst (ms.map V.ref++[.ref p]))):=sp.kp.trans (cU.putL (sp _ _ e2));refine⟨sp _ _ e2,aP (by rw[b7]; omega),ls.length-(i+1),by omega,rfl,hlt,ms++[p],by rw[gq]; rfl,by rw[cB,lm]; rfl,?_,?_,?_,?_,aD⟩
  ·rw[cG er];refine bO.snoc (xs:=xs) (pm.keep k4 fun b hb o e=>?_) (by rw[aL pa,aD]) (aj.kp (s2.kp.trans k4) _ _ (iw r) ax)
   rw[aL (fun z=>by rw[z] at hb; exact(iW.mp nm).1 hb)]
   exact sp _ _ e
  ·intro b hb;rcases eQ.mp hb with h | h
   ·exact fm b h
   ·rw[dH.mp h]; exact fp0
  ·have:=iW.mp nm;rw[iW,pY];refine⟨fun z=>?_,this.2,by simp,fun u hu v hv e=>?_⟩
   ·rcases eQ.mp z with h | h
    ·exact this.1 h
    ·exact pa (dH.mp h).symm
   ·rw[dH.mp hv] at e; rw[e] at hu; exact pm' hu
  ·intro b o z;rw[aL (fun e=>by rw[e,hacc] at z; cases z)]
   exact sp _ _ (s2 _ _ z)
 ·have e:i=ls.length:=by omega
  subst e;rw[lr,pX] at pm;exact .inl ⟨⟨_,ht,by rw[b7]; exact bD _⟩,fin acc ms H2 hacc fm nm s2 e2 pm⟩
def NK (C:Addr):Sp:=fun vs H Q _=>∃(a:Ya) (y:Yd),vs=[.ref a.p]/\bA C H a y/\fK y/\∀p ms H',H p=none->(∀b∈ms,H b=none)->(p::ms).Nodup->aM H H'->H' p=some (.lst (ms.map V.ref))->bO H' ms y.pa->Q (.ref p) H'
theorem pC:aV ["self"] ["self"] (aG lC):=(by walk_at "c")
theorem xW {C:Addr} (F:iM K "told" "Yard.told" lC f fd) (B:Bi mg) (Z:ZY K C):bJ P w K mg base gD (k+1) f fd ["self"] (NK C):=by
 refine F.ok pC (by rintro vs H Q E ⟨a,y,rfl,_⟩; rfl) (fun cdv A outer s H vs Q E hr h=>?_)
 obtain⟨a,y,rfl,YA,YO,q⟩:=h;have ND:=pC.nd;refine⟨_,(aF (a_ (dG (N':=["rows"]) (js:=[]) rfl (bI (K:=K) rfl (bU (K:=K) rfl (pv 0))) rT.Te rfl (by decide) rfl (fun fp s' H'=>(pt (kZ) B.list gY (ao (pv 0) ak)))))),?_⟩
 walk_at "rd";have l1:=YA.pa.length;have l2:=YO.pn;obtain⟨dx,ob⟩:=YA.ob;refine Ez (fun R hR=>by walk_at "rd"; exact⟨_,_,_,_,_,rfl,ob,Z.cl,Z.n7,Cg ..,hR⟩) YA.lp (by omega) YA.pa (fun l xs H' hx R hR=>?_) fun acc ms H' f1 f2 f3 s' e' a'=>?_
 ·walk_at "rd";exact⟨_,_,rfl,hx,hR⟩
 ·exact q _ _ _ f1 f2 f3 s' e' a'
theorem w6:∀(cs:List Int) (g:Int),(bG cs g).1.sum=cs.sum-g+(bG cs g).2
 | [],g=>by simp[bG]; omega
 | c::cs,g=>by
  have:=w6 cs g;rw[bG,qP,qP,this];simp only;generalize (if(bG cs g).2<c then(bG cs g).2 else c)=z
  omega
theorem zY:∀(cs:List Int) (g:Int),(∀c∈cs,0<=c)->0<=g->(∀c∈(bG cs g).1,0<=c)/\0<=(bG cs g).2/\((bG cs g).2=0\/(bG cs g).1.sum=0)
 | [],g,_,hg=>⟨by simp[bG],by simpa[bG] using hg,.inr (by simp[bG])⟩
 | c::cs,g,h,hg=>by
  obtain⟨h1,h2,h3⟩:=zY cs g (fun y hy=>h y (gk _ hy)) hg;have hc:=h c cY;rw[bG];simp only;generalize hG:(bG cs g).2=G at *;refine⟨fun y hy=>?_,?_,?_⟩
  ·rcases bF.mp hy with z | z
   ·rw[z]; split <;> omega
   ·exact h1 y z
  ·split <;> omega
  ·rw[qP];split <;> omega
structure Wth (x:g_) (st n:iR) (ch:Int):Prop where
 w:n.w=st.w
 s:n.s=st.s
 u:n.us=st.us
 r:0<=n.r
 c:n.cs.length=5
 cn:∀y∈n.cs,0<=y
 sm:n.r+n.cs.sum=st.r+st.cs.sum+ch
 t:n.t=if ch=0 then st.t else if 0<ch then x.u else x.d
theorem Ga {x:g_} {st:iR} {ch:Int} (ha:x.a<=4) (hr:0<=st.r) (hl:st.cs.length=5) (hc:∀y∈st.cs,0<=y) (hz:0<=st.r+st.cs.sum+ch):Wth x st (gF x st ch) ch:=by
 by_cases c1:ch=0
 ·subst c1;have e:gF x st 0=st:=rfl;rw[e];exact⟨rfl,rfl,rfl,hr,hl,hc,by omega,rfl⟩
 ·by_cases c2:0<ch
  ·have e:gF x st ch={ st with cs:=st.cs.take x.a++[st.cs.getD x.a 0+ch]++st.cs.drop (x.a+1),t:=x.u }:=by unfold gF; rw[aX c1,bx c2]
   rw[e];refine⟨rfl,rfl,rfl,hr,?_,?_,?_,?_⟩
   ·simp only[cB,j5,uE,gw,uD];omega
   ·intro y hy;rcases eQ.mp hy with z | z
    ·rcases eQ.mp z with z | z
     ·exact hc y (wj z)
     ·rw[dH.mp z];have hlt:x.a<st.cs.length:=by omega
      have:0<=st.cs.getD x.a 0:=by
       rw[jD,eF hlt];exact hc _ (oO hlt)
      omega
    ·exact hc y (KD z)
   ·show st.r+(st.cs.take x.a++[st.cs.getD x.a 0+ch]++st.cs.drop (x.a+1)).sum=_;obtain⟨y0,y1,y2,y3,y4,ey⟩:=Xe hl;rw[ey];have:x.a=0\/x.a=1\/x.a=2\/x.a=3\/x.a=4:=by omega
    rcases this with e | e | e | e | e <;> rw[e] <;> simp <;> omega
   ·show x.u=_;rw[aX c1,bx c2]
  ·have e:gF x st ch={ st with r:=st.r-(bG st.cs (-ch)).2,cs:=(bG st.cs (-ch)).1,t:=x.d }:=by unfold gF; rw[aX c1,aX c2]
   rw[e];obtain⟨k1,k2,k3⟩:=zY st.cs (-ch) hc (by omega)
   have k4:=w6 st.cs (-ch);have k5:=su _ k1;refine⟨rfl,rfl,rfl,?_,?_,k1,?_,?_⟩
   ·show 0<=st.r-(bG st.cs (-ch)).2;omega
   ·show(bG st.cs (-ch)).1.length=5;rw[qi]; exact hl
   ·show st.r-(bG st.cs (-ch)).2+(bG st.cs (-ch)).1.sum=_;omega
   ·show x.d=_;rw[aX c1,aX c2]
theorem nU {st:iR} (h:st.cs.length=5):fH st+(st.cs.drop 1++[0]).sum=st.r+st.cs.sum:=by
 obtain⟨a,b,c,d,e,hc⟩:=Xe h;unfold fH;rw[hc];simp;omega
theorem Om {st:iR} (h:st.cs.length=5) (hr:0<=st.r) (hc:∀y∈st.cs,0<=y):0<=fH st:=by
 obtain⟨a,b,c,d,e,ec⟩:=Xe h;have:=hc a (by rw[ec]; exact cY)
 unfold fH; rw[ec]; show 0<=st.r+a; omega
theorem PL {st:iR} (hc:∀y∈st.cs,0<=y):∀y∈st.cs.drop 1++[0],0<=y:=fun y hy=>by
 rcases eQ.mp hy with z | z
 ·exact hc y (KD z)
 ·rw[dH.mp z]; exact zm 0
structure NxN (x:g_) (st:iR) (c fr:Int):Prop where
 s:FN (gF x (jr x st c) (xH x st c fr))
 h:hnd (gF x (jr x st c) (xH x st c fr))=hnd st+xH x st c fr
 l:xH x st c fr<=fr\/xH x st c fr<=0
theorem Pz {x:g_} {st:iR} {c fr:Int} (hx:C_ x) (hs:FN st) (hfr:0<=fr):NxN x st c fr:=by
 have hc5:=hs.c;have h0:=su _ hs.cn;have h1:=hs.r;have hlo:=hx.lo;have hhi:=hx.hi
 have hwb:0<=yL x.dR x.lo x.hi (st.r+st.cs.sum) (iy x st c):=by
  unfold yL;simp only
  repeat' split <;> try omega
 have hbd:0<=st.r+st.cs.sum+xH x st c fr/\(xH x st c fr<=fr\/xH x st c fr<=0):=by
  unfold xH;rw[nU hc5];split
  ·unfold Cm;split <;> omega
  ·omega
 have hml:(st.cs.drop 1++[0]).length=5:=by simp[hc5]
 have hW:=Ga (x:=x) (st:=jr x st c) (ch:=xH x st c fr) hx.a (Om hc5 hs.r hs.cn) hml (PL hs.cn) (by show 0<=fH st+(st.cs.drop 1++[0]).sum+xH x st c fr; rw[nU hc5]; exact hbd.1)
 have hi:=Rp (ch:=xH x st c fr) hx.is (Eo (x:=x) (come:=c) hs.is);refine⟨⟨hW.r,hi.c,hW.cn,hi.u,hi.l⟩,?_,hbd.2⟩;have:=hW.sm;have e:(jr x st c).r+(jr x st c).cs.sum=st.r+st.cs.sum:=nU hc5;rw[e] at this;exact this
def x0:g_:=⟨1,0,0,0,0,1,0,0,[]⟩
def s0:iR:=⟨0,0,[],0,0,[]⟩
def kI (y:Yd):Int:=if 12<y.tot-hands y.ss then 12 else y.tot-hands y.ss
def nG (y:Yd) (i:Nat):g_:=y.ps.getD i x0
def mK (y:Yd) (i:Nat):iR:=y.ss.getD i s0
def pbN (y:Yd) (i:Nat) (c:Int):iR:=gF (nG y i) (jr (nG y i) (mK y i) c) (xH (nG y i) (mK y i) c (kI y))
def Sv (y:Yd) (i:Nat):List Int:=y.ts.getD i []
def xP (y:Yd) (i:Nat) (c:Int):Rw:=⟨y.ns.getD i "",c,iJ (nG y i) (mK y i) c,c-dX (nG y i) (mK y i) c,xH (nG y i) (mK y i) c (kI y)⟩
def Ue (t:List Int) (c d a:Int):List Int:=[t.getD 0 0+c,t.getD 1 0+d,t.getD 2 0+a]
def Q_ (y:Yd) (i:Nat) (c:Int):Yd:={ y with ss:=y.ss.set i (pbN y i c),ts:=y.ts.set i (Ue (Sv y i) c (xP y i c).d (xP y i c).a) }
theorem Ls {ss:List iR} {i:Nat} {s n:iR} (h:ss[i]?=some s):hands (ss.set i n)=hands ss-hnd s+hnd n:=by
 induction ss generalizing i with
 | nil=>simp at h
 | cons z zs ih=>
  cases i with
  | zero=>cases h; simp only[List.set_cons_zero,hands,gZ,qP]; omega
  | succ i=>
   have:=ih (i:=i) h;simp only[List.set_cons_succ,hands,gZ,qP] at this ⊢;omega
theorem JR {y:Yd} (YO:fK y):0<=kI y:=by
 have:=YO.hs;unfold kI;split <;> omega
theorem WK {y:Yd} {i:Nat} {c:Int} (YO:fK y) (hi:i<y.ns.length):fK (Q_ y i c):=by
 have l1:=YO.lp;have l2:=YO.ls;have l3:=YO.lt;have es:y.ss[i]?=some y.ss[i]:=eF (by omega)
 have e1:mK y i=y.ss[i]:=by unfold mK; rw[jD,es]; rfl
 have e2:nG y i=y.ps[i]:=by unfold nG; rw[jD,eF (by omega:i<y.ps.length)]; rfl
 have N:=Pz (x:=nG y i) (st:=mK y i) (c:=c) (by rw[e2]; exact YO.pg _ (oO _)) (by rw[e1]; exact YO.sg _ (oO _)) (JR YO)
 refine { YO with ls:=by show(y.ss.set i _).length=_; rw[Ku]; exact l2,lt:=by show(y.ts.set i _).length=_; rw[Ku]; exact l3,sg:=?_,tg:=?_,hs:=?_ }
 ·intro s hs;rcases KJ hs with h | h
  ·exact YO.sg s h
  ·rw[h]; exact N.s
 ·intro t ht;rcases KJ ht with h | h
  ·exact YO.tg t h
  ·rw[h]; rfl
 ·show hands (y.ss.set i (pbN y i c))<=y.tot;rw[Ls es];have hN:hnd (pbN y i c)=hnd (mK y i)+xH (nG y i) (mK y i) c (kI y):=N.h;rw[hN,e1];have h1:=N.l;rw[e1] at h1;have h2:=YO.hs;have h3:kI y<=y.tot-hands y.ss:=by unfold kI; split <;> omega
  omega
theorem aj.put {H:Hp} {d:PyData} {v:V} (a:At H d v):∀{ds:List PyData} {vs:List V} {i:Nat},aj H ds vs->aj H (ds.set i d) (vs.set i v)
 | [],vs,i,h=>by cases aj.h_ h; exact aj.nil
 | e::ds,vs,i,h=>by
  obtain⟨x,r,rfl,h1,h2⟩:=aj.aO h;cases i with
  | zero=>exact aj.cons a h2
  | succ i=>exact aj.cons h1 (aj.put a h2)
def ZJ (C:Addr):Sp:=fun vs H Q _=>∃(a:Ya) (y:Yd) (i:Nat) (n:Str) (c:Int),vs=[.ref a.p,.str n,.int c]/\bA C H a y/\fK y/\y.ns[i]?=some n/\∀v H',bA C H' a (Q_ y i c)->Fr [a.ds,a.dt] H H'->At H' (uX (xP y i c)) v->Q v H'
theorem je:aV ["self","name","come","free","stand","done","away","change","all_come","all_done","all_away"] ["self","name","come"] (aG gH):=(by walk_at "c")
theorem qd {C:Addr} (F:iM K "post_beat" "Yard.post_beat" gH f fd) (B:Bi mg) (O:Co K mg) (Z:ZY K C) (dD:ux P w K mg base k C "hands" ["self"] (V_ C)) (lQ:Ri P w K mg base k "beat_beats" ["post","stand","come","free"] 12 Ob):bJ P w K mg base gD (k+1) f fd ["self","name","come"] (ZJ C):=by
 refine F.ok je (by rintro vs H Q E ⟨a,y,i,n,c,rfl,_⟩; rfl) (fun cdv A outer s H vs Q E hr h=>?_)
 obtain⟨a,y,i,n,c,rfl,YA,YO,hn,q⟩:=h;have ND:=je.nd;refine⟨_,(aq (aU (i:=3) ND rfl (by walk_at "o") (pb (fO rfl) B.min lX (ao (aQ j6 (bU (K:=K) rfl (pv 0)) (KQ dD hr (pv 0))) (ao (Bl O.Ig) ak)))) (aq (eX (pfa lQ hr (ao (bz (um hr.units) (bU (K:=K) rfl (pv 0)) (pv 1) (fun _ _=>rfl)) (ao (bz (um hr.units) (bU (K:=K) rfl (pv 0)) (pv 1) (fun _ _=>rfl)) (ao (pv 2) (ao (pv 3) ak))))) (bT (K:=K) (n:=4) rfl rfl (aJ (aH (i:=4) ND rfl (by walk_at "o")) (aJ (aH (i:=5) ND rfl (by walk_at "o")) (aJ (aH (i:=6) ND rfl (by walk_at "o")) (aJ (aH (i:=7) ND rfl (by walk_at "o")) bR)))))) (aq (eX (pv 4) (pZ (bU (K:=K) rfl (pv 0)) (pv 1) (vD hr.units))) (aq (eX (bz (um hr.units) (bU (K:=K) rfl (pv 0)) (pv 1) (fun _ _=>rfl)) (bT (K:=K) (n:=3) rfl rfl (aJ (aH (i:=8) ND rfl (by walk_at "o")) (aJ (aH (i:=9) ND rfl (by walk_at "o")) (aJ (aH (i:=10) ND rfl (by walk_at "o")) bR))))) (aq (eX (bc (ao (aQ bB (pv 8) (pv 2)) (ao (aQ bB (pv 9) (pv 5)) (ao (aQ bB (pv 10) (pv 6)) ak)))) (pZ (bU (K:=K) rfl (pv 0)) (pv 1) (vD hr.units))) (aF (a_ (bc (ao (pv 1) (ao (pv 2) (ao (pv 5) (ao (pv 6) (ao (pv 7) ak))))))))))))),?_⟩
 walk_at "rd";obtain⟨dx,ob⟩:=YA.ob;refine⟨_,_,_,_,_,rfl,ob,Z.cl,Z.n1,Ew ..,?_⟩;refine Me.of (m:="hands") (R:=fun p=>_) YA (fun _ _ _ _ _ _ _=>rfl) ?_;refine⟨a,y,rfl,YA,YO,fun H1 s1=>?_⟩;have l1:=YO.lp;have l2:=YO.ls;have l3:=YO.lt;have l5:=YO.n5;have hi:i<y.ns.length:=(i_.mp hn).1;have YB:=YA.mono s1;have e1:y.ps[i]?=some (nG y i):=by unfold nG; rw[jD,eF (by omega:i<y.ps.length)]; rfl
 have e2:y.ss[i]?=some (mK y i):=by unfold mK; rw[jD,eF (by omega:i<y.ss.length)]; rfl
 have e3:y.ts[i]?=some (Sv y i):=by unfold Sv; rw[jD,eF (by omega:i<y.ts.length)]; rfl
 obtain⟨lg,edp,ap⟩:=YB.dp;obtain⟨Yo,eds,as⟩:=YB.ds;obtain⟨vp,evp,avp⟩:=ap.nth (i:=i) (d:=eV (nG y i)) (by rw[cT,e1]; rfl)
 obtain⟨vs',evs,avs⟩:=as.nth (i:=i) (d:=vA (mK y i)) (by rw[cT,e2]; rfl)
 have lp:=ap.length;have ls:=as.length;rw[b7] at lp ls;have ob1:=s1 _ _ ob;refine⟨_,_,rfl,rfl,?_⟩;refine⟨_,_,_,_,_,rfl,ob1,Z.cl,Z.n3,rG ..,_,vp,rfl,mR.z edp YO.nn hn (by omega) evp,_,_,_,_,_,rfl,ob1,Z.cl,Z.n5,tM ..,_,vs',rfl,mR.z eds YO.nn hn (by omega) evs,?_⟩
 refine⟨vp,vs',nG y i,mK y i,c,kI y,rfl,avp,avs,(YO.pg _ (dz e1)).is,(YO.sg _ (dz e2)).is,fun p u' H2 s2 au e4=>?_⟩;refine⟨p,_,rfl,e_.of e4,rfl,?_⟩;walk_at "rd";have ob2:=s2 _ _ ob1;have s12:=s1.trans s2;have nd:=YA.nd
 have nds:a.ds≠a.p/\a.dt≠a.p/\a.dt≠a.ds:=by
  unfold Ya.own at nd;have:=(pY.mp nd).1;simp only[iW,bF,dU,not_or,or_false] at this;exact⟨Ne.symm this.1.2.2.2.1,Ne.symm this.1.2.2.2.2.1,Ne.symm this.2.2.2.2.1.1⟩
 refine⟨_,_,_,_,_,rfl,ob2,Z.cl,Z.n5,tM ..,_,_,rfl,rR.z (s2 _ _ eds) YO.nn hn (by omega) (by omega),?_⟩
 obtain⟨Yn,edt,at'⟩:=YA.dt;have ltt:=at'.length;rw[b7] at ltt;have k3:cU H2 (upd H2 a.ds (.dK (zK y.ns (Yo.set i u')))):=cU.putD (s2 _ _ eds);have f3:Fr [a.ds] H2 (upd H2 a.ds (.dK (zK y.ns (Yo.set i u')))):=Fr.put (by simp)
 have aaS:upd H2 a.ds (.dK (zK y.ns (Yo.set i u'))) a.ds=some (.dK (zK y.ns (Yo.set i u'))):=aD;generalize upd H2 a.ds (.dK (zK y.ns (Yo.set i u')))=H3 at k3 f3 aaS ⊢;have ob3:=f3 _ _ ob2 (by simpa using Ne.symm nds.1)
 have XJ:=f3 _ _ (s12 _ _ edt) (by simpa using nds.2.2)
 have at3:=aj.kp (s12.kp.trans k3) _ _ (iT _) at';obtain⟨vt,evt,avt⟩:=at3.nth (i:=i) (d:=jR (Sv y i)) (by rw[cT,e3]; rfl)
 obtain⟨t0,t1,t2,et⟩:∃t0 t1 t2,Sv y i=[t0,t1,t2]:=by
  have:=YO.tg _ (dz e3)
  match Sv y i,this with
  | [t0,t1,t2],_=>exact⟨t0,t1,t2,rfl⟩
 rw[et] at avt;obtain⟨b0,xs0,rfl,h1,h2⟩:=bw avt;have:=cN (cs:=[t0,t1,t2]) h2;subst this;refine⟨_,_,_,_,_,rfl,ob3,Z.cl,Z.n6,qj ..,_,_,rfl,mR.z XJ YO.nn hn (by omega) evt,?_⟩
 refine⟨b0,_,rfl,e_.of h1,rfl,?_⟩;walk_at "rd";refine⟨by decide,fun q4 H4 f4 s4 e5=>?_⟩
 have aaR:=s4 _ _ XJ;refine⟨_,_,_,_,_,rfl,s4 _ _ ob3,Z.cl,Z.n6,qj ..,_,_,rfl,rR.z aaR YO.nn hn (by omega) (by omega),by decide,fun p6 H6 f6 s6 e6=>?_⟩
 have k5:cU H4 (upd H4 a.dt (.dK (zK y.ns (Yn.set i (.ref q4))))):=cU.putD aaR;have f5:Fr [a.dt] H4 (upd H4 a.dt (.dK (zK y.ns (Yn.set i (.ref q4))))):=Fr.put (by simp)
 have aaQ:upd H4 a.dt (.dK (zK y.ns (Yn.set i (.ref q4)))) a.dt=some (.dK (zK y.ns (Yn.set i (.ref q4)))):=aD;generalize upd H4 a.dt (.dK (zK y.ns (Yn.set i (.ref q4))))=H5 at k5 f5 aaQ f6 s6;have fr:Fr [a.ds,a.dt] H H6:=(s12.fr _).trans ((f3.sub fun b hb=>.inl (by rw[dH.mp hb]; simp)).trans ((s4.fr _).trans ((f5.sub fun b hb=>.inl (by rw[dH.mp hb]; simp)).trans (s6.fr _))))
 have k26:cU H2 H6:=k3.trans (s4.kp.trans (k5.trans s6.kp));have kp:cU H H6:=s12.kp.trans k26;unfold Ya.own at nd;obtain⟨FJ,nd2,Vi⟩:=pY.mp nd;simp only[iW,bF,dU,not_or,or_false] at FJ;obtain⟨⟨n12,n13,n14,n15,n16,n17⟩,⟨n23,n24,n25,n26,n27⟩,⟨n34,n35,n36,n37⟩,⟨n45,n46,n47⟩,⟨n56,n57⟩,n67,_⟩:=FJ;have off:∀{b:Addr} {o:HO},H b=some o->b≠a.ds->b≠a.dt->H6 b=some o:=fun {b o} e h1 h2=>fr b o e (by simp[h1,h2])
 have eqr:xP y i c=⟨n,c,iJ (nG y i) (mK y i) c,c-dX (nG y i) (mK y i) c,xH (nG y i) (mK y i) c (kI y)⟩:=by
  unfold xP;rw[jD,hn]; rfl
 obtain⟨acb,adt,ap0⟩:=YA.dp;refine q _ H6 ⟨⟨dx,off ob n15 n16⟩,off YA.lo n25 n26,⟨acb,off adt n35 n36,aj.kp kp _ _ (fL _) ap0⟩,off YA.dn n45 n46,⟨Yo.set i u',?_,?_⟩,⟨Yn.set i (.ref q4),s6 _ _ aaQ,?_⟩,off YA.lp (Ne.symm n57) (Ne.symm n67),?_,YA.nd⟩ fr ?_
 ·exact s6 _ _ (f5 _ _ (s4 _ _ aaS) (by simpa using n56))
 ·show aj H6 ((y.ss.set i (pbN y i c)).map vA) _;rw[wy];exact aj.put (At.kp k26 _ _ (uU _) au) (aj.kp (s2.kp.trans k26) _ _ (fj _) as)
 ·show aj H6 ((y.ts.set i (Ue (Sv y i) c (xP y i c).d (xP y i c).a)).map jR) _;rw[wy,eqr,et];exact aj.put (At.tup (s6 _ _ (f5 _ _ e5 (by simpa using fun z=>by rw[z,XJ] at f4; cases f4))) (dh [t0+c,t1+iJ (nG y i) (mK y i) c,t2+(c-dX (nG y i) (mK y i) c)])) (aj.kp kp _ _ (iT _) at')
 ·exact YA.pa.keep kp fun b hb o e=>off e (fun z=>Vi a.ds (by simp) b hb z.symm) (fun z=>Vi a.dt (by simp) b hb z.symm)
 ·rw[eqr];exact At.tup e6 (aj.cons (At.str _) (aj.cons (At.int _) (aj.cons (At.int _) (aj.cons (At.int _) (aj.cons (At.int _) aj.nil)))))
def Vt (q:Str×Int):PyData:=.tuple [.str q.1,.int q.2]
def tX (z:Yd×List Int×List Rw) (i:Nat):Yd×List Int×List Rw:=
 let c:=z.2.1.getD i 0
 (Q_ z.1 i c,match z.1.os.getD i none with
  | none=>z.2.1
  | some o=>z.2.1.set (z.1.ns.idxOf o) (z.2.1.getD (z.1.ns.idxOf o) 0+(xP z.1 i c).d),z.2.2++[xP z.1 i c])
def bW (y:Yd) (cm:List Int):Nat->Yd×List Int×List Rw
 | 0=>(y,cm,[])
 | i+1=>tX (bW y cm i) i
def uw (ns:List Str) (cs:List (Str×Int)):List Int:=ns.map fun n=>(cs.lookup n).getD 0
def yG (y:Yd) (cs:List (Str×Int)):List Rw:=(bW y (uw y.ns cs) y.ns.length).2.2
def MF (y:Yd) (cs:List (Str×Int)):Yd:={ (bW y (uw y.ns cs) y.ns.length).1 with pa:=y.pa++[yG y cs] }
theorem Vs {H:Hp} {q:Str×Int} {v:V} (h:At H (Vt q) v):∃b,v=.ref b/\H b=some (.tup [.str q.1,.int q.2]):=by
 obtain⟨b,xs,rfl,h1,h2⟩:=bw h;obtain⟨x0,_,rfl,b0,h2⟩:=aj.aO h2;obtain⟨x1,_,rfl,b1,h2⟩:=aj.aO h2;cases aj.h_ h2;unfold At at b0 b1;subst b0 b1;exact⟨b,rfl,h1⟩
theorem Ck (ns:List Str) (cs:List (Str×Int)):(uw ns cs).length=ns.length:=by unfold uw; rw[b7]
theorem QG {ns:List Str} {l:List (Str×Int)} {q:Str×Int} {j:Nat} (nd:ns.Nodup) (hj:ns[j]?=some q.1) (hq:q.1∉l.map (·.1)):uw ns (l++[q])=(uw ns l).set j q.2:=by
 have hjl:j<ns.length:=(i_.mp hj).1
 have hn:l.lookup q.1=none:=List.lookup_eq_none_iff.mpr fun p hp=>by
  simp only[bne_iff_ne,ne_eq];intro z;exact hq (by rw[z]; exact List.mem_map_of_mem hp)
 refine List.ext_getElem? fun k=>?_;rw[List.getElem?_set,Ck];unfold uw;rw[cT,cT];by_cases e:j=k
 ·subst e;rw[bx rfl,bx hjl,hj];show some (((l++[q]).lookup q.1).getD 0)=_;rw[List.lookup_append,hn];obtain⟨q1,q2⟩:=q;simp[List.lookup]
 ·rw[aX e];cases ek:ns[k]? with
  | none=>rfl
  | some n=>
   have ne:n≠q.1:=fun z=>e (by
    rw[z,<- hj] at ek
    exact((List.getElem?_inj hjl nd).mp ek.symm))
   show some (((l++[q]).lookup n).getD 0)=some ((l.lookup n).getD 0);rw[List.lookup_append]
   have:[q].lookup n=none:=List.lookup_eq_none_iff.mpr fun p hp=>by
    rw[dH.mp hp];simpa using ne
   rw[this,Option.or_none]
structure RbI (y:Yd) (cm:List Int) (i:Nat):Prop where
 n:(bW y cm i).1.ns=y.ns
 p:(bW y cm i).1.ps=y.ps
 o:(bW y cm i).1.os=y.os
 t:(bW y cm i).1.tot=y.tot
 a:(bW y cm i).1.pa=y.pa
 l:(bW y cm i).2.1.length=cm.length
 r:(bW y cm i).2.2.length=i
theorem gf (y:Yd) (cm:List Int):∀i,RbI y cm i
 | 0=>⟨rfl,rfl,rfl,rfl,rfl,rfl,rfl⟩
 | i+1=>by
  obtain⟨h1,h2,h3,h4,h5,h6,h7⟩:=gf y cm i;refine⟨h1,h2,h3,h4,h5,?_,?_⟩
  ·show(tX (bW y cm i) i).2.1.length=_;unfold tX;dsimp only;split
   ·exact h6
   ·rw[Ku]; exact h6
  ·show((bW y cm i).2.2++[_]).length=_;rw[cB,h7]; rfl
theorem qN {y:Yd} {cm:List Int} (YO:fK y):∀{i:Nat},i<=y.ns.length->fK (bW y cm i).1
 | 0,_=>YO
 | i+1,h=>WK (qN YO (Jh h)) (by rw[(gf y cm i).n]; omega)
theorem FT {H:Hp} {ns:List Str} {vs:List V} (h:aj H (ns.map fun _=>PyData.int 0) vs):vs=(uw ns []).map V.int:=by
 have e:(ns.map fun _=>PyData.int 0)=(uw ns []).map .int:=by unfold uw; rw[Bb]; rfl
 rw[e] at h;exact cN h
theorem vf (cs:List (Str×Int)):bK (cs.map Vt)=true:=bu.mpr fun d hd=>by obtain⟨x,_,rfl⟩:=cO.mp hd; rfl
theorem Tz {cs:List (Str×Int)} {i:Nat} {q:Str×Int} (nn:(cs.map (·.1)).Nodup) (h:cs[i]?=some q):q.1∉(cs.take i).map (·.1):=fun z=>by
 have hi:=(i_.mp h).1;have hq:=(i_.mp h).2;rw[<- List.take_append_drop i cs,gq,pY] at nn;refine nn.2.2 _ z q.1 ?_ rfl;rw[KH hi,hq];exact cY ..
def Wa (C:Addr):Sp:=fun vs H Q _=>∃(a:Ya) (y:Yd) (l:Addr) (us:List V) (cs:List (Str×Int)),vs=[.ref a.p,.ref l]/\bA C H a y/\fK y/\H l=some (.lst us)/\aj H (cs.map Vt) us/\(cs.map (·.1)).Nodup/\(∀q∈cs,q.1∈y.ns)/\y.pa.length<500/\l∉a.own /\
 ∀p m xs H',H m=none->H p=none->p≠m->bA C H' { a with ue:=a.ue++[m] } (MF y cs)->H' p=some (.lst xs)->aj H' ((yG y cs).map uX) xs->Fr [a.ds,a.dt,a.lp] H H'->Q (.ref p) H'
theorem pH:aV ["self","comes","coming","name","come","rows","row","onward"] ["self","comes"] (aG lF):=(by walk_at "c")
theorem xZ {C:Addr} (F:iM K "beat" "Yard.beat" lF f fd) (B:Bi mg) (Z:ZY K C) (aR:ux P w K mg base k C "check_names" ["self","names"] (yX C)) (gR:ux P w K mg base k C "post_beat" ["self","name","come"] (ZJ C)):bJ P w K mg base gD (k+1) f fd ["self","comes"] (Wa C):=by
 refine F.ok pH (by rintro vs H Q E ⟨a,y,l,us,cs,rfl,_⟩; rfl) (fun cdv A outer s H vs Q E hr h=>?_)
 obtain⟨a,y,l,us,cs,rfl,YA,YO,hl,au,nn,nin,pn,lo',q⟩:=h;have ND:=pH.nd;refine⟨_,(aq (bC (pm aR hr (pv 0) (ao (jm (nt:=2) (N':=["name","come"]) (js:=[]) rfl (bI (K:=K) rfl (pv 1)) oZ.of (fun fp s' H'=>(bT (K:=K) (n:=2) rfl rfl (aJ (aH (i:=0) (by show List.Nodup (["name","come"]:List Str); decide) rfl (.inl (gA rfl)) (.inr (gA rfl))) (aJ (aH (i:=1) (by show List.Nodup (["name","come"]:List Str); decide) rfl (.inl (gA rfl)) (.inr (gA rfl))) bR)))) (fun fp s' H'=>gO) (fun fp s' H'=>(pv 0))) ak))) (aq (O5 (i:=2) ND rfl (by walk_at "o") (nt:=1) (N':=["name"]) (js:=[]) rfl (bI (K:=K) rfl (bU (K:=K) rfl (pv 0))) qz.of (fun fp s' H'=>(aH (i:=0) (by show List.Nodup (["name"]:List Str); decide) rfl (.inl (gA rfl)) (.inr (gA rfl)))) (fun fp s' H'=>(pv 0)) (fun fp s' H'=>aC)) (aq (gK PassesOwn.never rfl (bI (K:=K) rfl (pv 1)) (bT (K:=K) (n:=2) rfl rfl (aJ (aH (i:=3) ND rfl (by walk_at "o")) (aJ (aH (i:=4) ND rfl (by walk_at "o")) bR))) (aF (eX (pv 4) (pZ (pv 2) (pv 3) (vD hr.units))))) (aq (aU (i:=5) ND rfl (by walk_at "o") (bM ak)) (aq (gK PassesOwn.never rfl (bI (K:=K) rfl (bU (K:=K) rfl (pv 0))) (aH (i:=3) ND rfl (by walk_at "o")) (aq (aU (i:=6) ND rfl (by walk_at "o") (pm gR hr (pv 0) (ao (pv 3) (ao (bz (um hr.units) (pv 2) (pv 3) (fun _ _=>rfl)) ak)))) (aq (aU (i:=7) ND rfl (by walk_at "o") (bz (um hr.units) (bU (K:=K) rfl (pv 0)) (pv 3) (fun _ _=>rfl))) (aq (cL (bh uZ (pv 7) fZ (bf _)) (aF (R1 (Nat.lt_of_le_of_lt (Nat.add_le_add_left (by decide:1<=64) _) hr.units) (pv 2) (pv 7) (bz bj (pv 6) aC (fun _ _=>rfl)) Xn (by intros; rfl))) bH) (aF (bC (d7 (K:=K) rfl PySem.F.plainAttrs_list PySem.F.slot_list_append PySem.F.type_list_append cI (pv 5) (ao (pv 6) ak)))))))) (aq (bC (d7 (K:=K) rfl PySem.F.plainAttrs_list PySem.F.slot_list_append PySem.F.type_list_append cI (bU (K:=K) rfl (pv 0)) (ao (pv 5) ak))) (aF (a_ (pt (kZ) B.list gY (ao (pv 5) ak)))))))))),?_⟩
 walk_at "rd";have lu:=au.length;rw[b7] at lu;have l5:=YO.n5
 have hcs:cs.length<=5:=by
  have:(cs.map (·.1)).length<=y.ns.length:=List.Nodup.length_le_of_subset nn fun z hz=>by
   obtain⟨q',hq',rfl⟩:=cO.mp hz;exact nin q' hq'
  rw[b7] at this;omega
 refine Me.of (m:="check_names") (R:=fun p=>_) YA (fun _ _ _ _ _ _ _=>rfl) ?_;refine oJ ((cs.map (·.1)).map .str) (fun i=>[some (.str (cs.getD i ("",0)).1),some (.int (cs.getD i ("",0)).2)]) (fun _=>rfl) (fun R hR=>by walk_at "rd"; exact hR) hl (by simp; omega) (by omega) (mY _) ?_ ?_
 ·intro i x d H' hx hd s';have hi:i<cs.length:=by rw[<- lu]; exact(i_.mp hx).1
  have et:cs[i]?=some cs[i]:=eF hi;obtain⟨d',hd',ad⟩:=(au.mono s').get hx;rw[cT,et] at hd';cases hd';obtain⟨b,rfl,eb⟩:=Vs ad;rw[cT,cT,et] at hd;cases hd;rw[jD,et];refine⟨fun R hR=>⟨b,_,rfl,e_.of eb,rfl,?_⟩,fun R hR=>?_⟩
  ·exact hR
  ·walk_at "rd";exact hR _ _ (aM.refl _) (At.str _)
 intro acc us1 H1 f1 s1 e1 a1;have:=kj a1;subst this;refine⟨a,y,acc,cs.map (·.1),rfl,YA.mono s1,e1,nn,by rw[b7]; omega,fun n hn=>by obtain⟨q',hq',rfl⟩:=cO.mp hn; exact nin q' hq',fun H2 s2=>?_⟩
 have s12:=s1.trans s2;have YB:=YA.mono s12;obtain⟨dx,ob⟩:=YA.ob;have ob2:=s12 _ _ ob;refine vd y.ns (y.ns.map fun _=>PyData.int 0) (fun i=>[some ((y.ns.map V.str).getD i .non)]) (fun _=>rfl) (a:=a.lo) (fun R hR=>by walk_at "rd"; exact⟨_,_,_,_,_,rfl,ob2,Z.cl,Z.n2,ju ..,hR⟩) YB.lo YO.nn (by simp) (by simp) (by simp; omega) (bu.mpr fun d hd=>by obtain⟨z,_,rfl⟩:=cO.mp hd; rfl) ?_ ?_
 ·intro i x nm d H' hx hn hd s';have ex:(y.ns.map V.str).getD i .non=x:=by rw[jD,hx]; rfl
  rw[ex];rw[cT,hn] at hx;cases hx;rw[cT,hn] at hd;cases hd;refine⟨fun R hR=>by walk_at "rd"; exact hR,fun R hR=>by walk_at "rd"; exact hR,fun R hR=>?_⟩
  walk_at "rd";exact hR _ _ (aM.refl _) (At.int _)
 intro dc vz H3 fdc s3 edc az lz;have:=FT az;subst this;have pU:=s12.trans s3;rw[qG];walk_at "rd"
 have Yx:H dc=none:=by
  cases q':H dc with
  | none=>rfl
  | some o=>rw[s12 _ _ q'] at fdc; cases fdc
 have ldc:l≠dc:=fun z=>by rw[<- z,hl] at Yx; cases Yx
 refine LK.of (pU _ _ hl) (fun i σ H'=>∃o3 o4,σ=[some (.ref a.p),some (.ref l),some (.ref dc),o3,o4,none,none,none]/\H' dc=some (.dK (zK y.ns ((uw y.ns (cs.take i)).map V.int)))/\Fr [dc] H3 H') ⟨_,_,rfl,edc,Fr.refl _ _⟩ (fun i σ H' _ ⟨_,_,_,_,fr⟩=>fr _ _ (pU _ _ hl) (by simpa using ldc)) ?_ ?_
 ·rintro i x σ H4 hx ⟨o3,o4,rfl,e4,fr4⟩;have hi:i<cs.length:=by rw[<- lu]; exact(i_.mp hx).1
  have et:cs[i]?=some cs[i]:=eF hi;have k4:cU H3 H4:=fr4.kp fun b hb xs z=>by rw[dH.mp hb,edc] at z; cases z
  have au4:=aj.kp (pU.kp.trans k4) _ _ (vf _) au;obtain⟨d',hd',ad⟩:=au4.get hx;rw[cT,et] at hd';cases hd';obtain⟨b,rfl,eb⟩:=Vs ad;refine⟨b,_,rfl,e_.of eb,rfl,?_⟩;walk_at "rd";obtain⟨j,hj⟩:=Ox (nin _ (dz et));refine⟨dc,_,rfl,rR.z e4 YO.nn hj (by rw[b7,Ck]) (by omega),_,_,rfl,?_,fr4.trans (Fr.put (by simp))⟩
  rw[aD,cG et,QG YO.nn hj (Tz nn et),wy]
 rintro σ H4 ⟨o3,o4,rfl,e4,fr4⟩;rw[lu,pX] at e4;have lcm:(uw y.ns cs).length=y.ns.length:=Ck ..;have eR:yG y cs=(bW y (uw y.ns cs) y.ns.length).2.2:=rfl;have eY:MF y cs={ (bW y (uw y.ns cs) y.ns.length).1 with pa:=y.pa++[yG y cs] }:=rfl
 generalize uw y.ns cs=cm at e4 lcm eR eY;walk_at "rd";refine⟨by decide,fun m H5 fm s5 em=>?_⟩
 have U9:aM H H4:=fun b o z=>fr4 _ _ (pU _ _ z) (by simp; intro e; rw[e,Yx] at z; cases z)
 have s05:=U9.trans s5
 have fm0:H m=none:=by
  cases q':H m with
  | none=>rfl
  | some o=>rw[U9 _ _ q'] at fm; cases fm
 have mdc:m≠dc:=fun z=>by rw[z,e4] at fm; cases fm
 have Y5:=YA.mono s05
 have Ek:∀b∈a.own,b≠dc/\b≠m:=fun b hb=>by
  obtain⟨o,e,_⟩:=YA.al b hb;exact⟨fun z=>(by rw[z,Yx] at e; cases e),fun z=>(by rw[z,fm0] at e; cases e)⟩
 rw[qG];walk_at "rd";obtain⟨dx5,ob5⟩:=Y5.ob;refine⟨_,_,_,_,_,rfl,ob5,Z.cl,Z.n2,ju ..,?_⟩;have nsl:(y.ns.map V.str).length=y.ns.length:=b7 ..;refine LK.of Y5.lo (fun i σ H'=>∃o3 o4 o6 o7 xs,σ=[some (.ref a.p),some (.ref l),some (.ref dc),o3,o4,some (.ref m),o6,o7]/\bA C H' a (bW y cm i).1/\H' dc=some (.dK (zK y.ns ((bW y cm i).2.1.map V.int)))/\H' m=some (.lst xs)/\aj H' ((bW y cm i).2.2.map uX) xs/\Fr [a.ds,a.dt,dc,m] H5 H') ⟨_,_,_,_,[],rfl,Y5,s5 _ _ e4,em,aj.nil,Fr.refl _ _⟩ (fun i σ H' _ ⟨_,_,_,_,_,_,Y',_⟩=>by have:=Y'.lo; rw[(gf y cm i).n] at this; exact this) ?_ ?_
 ·rintro i x σ H6 hx ⟨o3,o4,o6,o7,xs,rfl,Y6,e6,em6,ax,fr6⟩;rw[cT] at hx;cases hn:y.ns[i]? with
  | none=>rw[hn] at hx; cases hx
  | some n=>
  rw[hn] at hx;cases hx;have hi:i<y.ns.length:=(i_.mp hn).1;obtain⟨r1,r2,r3,r4,r5,r6,r7⟩:=gf y cm i;have YO6:fK (bW y cm i).1:=qN YO (mF hi);have aaN:bW y cm (i+1)=tX (bW y cm i) i:=rfl;rw[aaN];generalize bW y cm i=z at Y6 e6 ax YO6 r1 r2 r3 r4 r5 r6 r7 ⊢;obtain⟨zy,zc,zr⟩:=z;dsimp only at r1 r2 r3 r4 r5 r6 r7 Y6 e6 ax YO6;have ec:zc[i]?=some (zc.getD i 0):=by rw[jD,eF (by omega:i<zc.length)]; rfl
  walk_at "rd";refine Me.of (m:="post_beat") (R:=fun p=>_) Y6 (fun _ _ _ _ _ _ _=>rfl) ?_;refine⟨dc,.int (zc.getD i 0),rfl,mR.z e6 YO.nn hn (by rw[b7]; omega) (by rw[cT,ec]; rfl),?_⟩
  refine⟨a,zy,i,n,zc.getD i 0,rfl,Y6,YO6,by rw[r1]; exact hn,fun v H7 Y7 Vm av=>?_⟩
  have Ra:a.ds∈a.own/\a.dt∈a.own:=by unfold Ya.own; simp
  have dcO:dc∉[a.ds,a.dt]:=by simp; exact⟨Ne.symm (Ek _ Ra.1).1,Ne.symm (Ek _ Ra.2).1⟩
  have mO:m∉[a.ds,a.dt]:=by simp; exact⟨Ne.symm (Ek _ Ra.1).2,Ne.symm (Ek _ Ra.2).2⟩
  have e7:=Vm _ _ e6 dcO;have em7:=Vm _ _ em6 mO;have k67:cU H6 H7:=Y6.kp (Vm.sub fun b hb=>.inl (by simp at hb; rcases hb with rfl | rfl; exact Ra.1; exact Ra.2))
  have ax7:=aj.kp k67 _ _ (iw _) ax;have lxs:=ax.length;rw[b7,r7] at lxs;have l2:=YO.lo;have eo:y.os[i]?=some y.os[i]:=eF (by omega)
  have eo':zy.os.getD i none=y.os[i]:=by rw[r3,jD,eo]; rfl
  have dn7:H7 a.dn=some (.dK (zK y.ns (y.os.map lq))):=by
   have:=Y7.dn;rw[show(Q_ zy i (zc.getD i 0)).ns=zy.ns from rfl,show(Q_ zy i (zc.getD i 0)).os=zy.os from rfl,r1,r3] at this;exact this
  have helper:∀(H8:Hp) (cn:List Int),H8 dc=some (.dK (zK y.ns (cn.map V.int)))->Fr [dc] H7 H8->H8 m=some (.lst xs)/\(bA C (upd H8 m (.lst (xs++[v]))) a (Q_ zy i (zc.getD i 0))/\upd H8 m (.lst (xs++[v])) dc=some (.dK (zK y.ns (cn.map V.int)))/\upd H8 m (.lst (xs++[v])) m=some (.lst (xs++[v]))/\aj (upd H8 m (.lst (xs++[v]))) ((zr++[xP zy i (zc.getD i 0)]).map uX) (xs++[v])/\Fr [a.ds,a.dt,dc,m] H5 (upd H8 m (.lst (xs++[v])))):=fun H8 cn e8 Yw=>by
   have Vp:=Yw _ _ em7 (by simpa using mdc)
   have k8:cU H7 H8:=Yw.kp fun b hb xs z=>by rw[dH.mp hb,e7] at z; cases z
   have k9:cU H8 (upd H8 m (.lst (xs++[v]))):=cU.putL Vp;have k79:=k8.trans k9;refine⟨Vp,Y7.keep k79 (fun b hb o e=>by rw[aL (Ek b hb).2]; exact Yw _ _ e (by simpa using(Ek b hb).1)),by rw[aL mdc.symm]; exact e8,aD,?_,?_⟩
   ·rw[gq];exact(aj.kp k79 _ _ (iw _) ax7).snoc (At.kp k79 _ _ (rw_noL _) av)
   ·exact fr6.trans ((Vm.sub fun b hb=>.inl (by simp at hb ⊢; rcases hb with h | h <;> simp[h])).trans ((Yw.sub fun b hb=>.inl (by rw[dH.mp hb]; simp)).trans (Fr.put (by simp))))
  have stp:tX (zy,zc,zr) i=(Q_ zy i (zc.getD i 0),match y.os[i] with
   | none=>zc
   | some o=>zc.set (y.ns.idxOf o) (zc.getD (y.ns.idxOf o) 0+(xP zy i (zc.getD i 0)).d),zr++[xP zy i (zc.getD i 0)]):=by
   unfold tX;dsimp only;rw[eo',r1]
  rw[stp];obtain⟨dx7,ob7⟩:=Y7.ob;have dgo:=mR.z dn7 YO.nn hn (by rw[b7]; omega) (v:=lq y.os[i]) (by rw[cT,eo]; rfl)
  refine⟨_,_,_,_,_,rfl,ob7,Z.cl,Z.n4,xn ..,_,_,rfl,dgo,trivial,?_⟩;cases how:y.os[i] with
  | none=>
   rw[aX (by simp[lq])]
   obtain⟨Vp,h8⟩:=helper H7 zc e7 (Fr.refl _ _);exact⟨.inl ⟨rfl,_,b_.of Vp⟩,m,xs,v,rfl,rfl,Vp,aP (by omega),_,_,_,_,_,rfl,h8⟩
  | some o=>
   rw[bx (by simp[lq])]
   have oin:o∈y.ns:=KD (YO.og i o (by rw[eo,how]))
   have hj:y.ns.idxOf o<y.ns.length:=List.idxOf_lt_length_of_mem oin;have ej:y.ns[y.ns.idxOf o]?=some o:=by rw[eF hj,List.getElem_idxOf hj]
   have ecj:zc[y.ns.idxOf o]?=some (zc.getD (y.ns.idxOf o) 0):=by rw[jD,eF (by omega:y.ns.idxOf o<zc.length)]; rfl
   obtain⟨b,ys,rfl,hb1,hb2⟩:=bw av;obtain⟨x0,_,rfl,b0,hb2⟩:=aj.aO hb2;obtain⟨x1,_,rfl,b1,hb2⟩:=aj.aO hb2;obtain⟨x2,_,rfl,b2,hb2⟩:=aj.aO hb2;have ex2:x2=.int (xP zy i (zc.getD i 0)).d:=by unfold At at b2; exact b2
   subst ex2;refine⟨dc,.int (zc.getD (y.ns.idxOf o) 0),rfl,mR.z e7 YO.nn ej (by rw[b7]; omega) (by rw[cT,ecj]; rfl),Ix.tup hb1 (aY (j:=2) rfl) ⟨_,_,rfl,rfl,_,rR.z e7 YO.nn ej (by rw[b7]; omega) (by omega),?_⟩⟩
   obtain⟨Vp,h8⟩:=helper (upd H7 dc (.dK (zK y.ns ((zc.map V.int).set (y.ns.idxOf o) (.int (zc.getD (y.ns.idxOf o) 0+(xP zy i (zc.getD i 0)).d)))))) (zc.set (y.ns.idxOf o) (zc.getD (y.ns.idxOf o) 0+(xP zy i (zc.getD i 0)).d)) (by rw[aD,wy]) (Fr.put (by simp))
   exact⟨.inl ⟨rfl,_,b_.of Vp⟩,m,xs,_,rfl,rfl,Vp,aP (by omega),_,_,_,_,_,rfl,h8⟩
 ·rintro σ H6 ⟨o3,o4,o6,o7,xs,rfl,Y6,e6,em6,ax,fr6⟩;rw[nsl] at Y6 e6 ax;rw[<- eR] at ax;walk_at "rd";have RI:=gf y cm y.ns.length;have pl:=Y6.pa.length;rw[RI.a] at pl;obtain⟨dx6,ob6⟩:=Y6.ob;have lpO:a.lp∈a.own:=by unfold Ya.own; simp
  refine⟨_,_,_,_,_,rfl,ob6,Z.cl,Z.n7,Cg ..,.inl ⟨rfl,_,b_.of Y6.lp⟩,a.lp,_,_,rfl,rfl,Y6.lp,aP (by rw[b7]; omega),?_⟩
  have lm:m≠a.lp:=Ne.symm (Ek _ lpO).2;have k7:cU H6 (upd H6 a.lp (.lst (a.ue.map V.ref++[.ref m]))):=cU.putL Y6.lp;have f7:Fr [a.lp] H6 (upd H6 a.lp (.lst (a.ue.map V.ref++[.ref m]))):=Fr.put (by simp)
  have e7:upd H6 a.lp (.lst (a.ue.map V.ref++[.ref m])) a.lp=some (.lst (a.ue.map V.ref++[.ref m])):=aD;generalize upd H6 a.lp (.lst (a.ue.map V.ref++[.ref m]))=H7 at k7 f7 e7 ⊢;have em7:=f7 _ _ em6 (by simpa using lm)
  refine⟨m,xs,rfl,em7,fun p fp=>?_⟩;have s8:=aN fp (HO.lst xs);have e8:upd H7 p (.lst xs) p=some (.lst xs):=aD;generalize upd H7 p (.lst xs)=H8 at s8 e8 ⊢;have k68:cU H6 H8:=k7.trans s8.kp
  have Yw:Fr [a.ds,a.dt,a.lp] H H8:=fun b o z nb=>by
   simp only[bF,dU,or_false,not_or] at nb;have h5:=s05 _ _ z
   have h6:=fr6 _ _ h5 (by
    simp only[bF,dU,or_false,not_or]
    exact⟨nb.1,nb.2.1,fun e=>(by rw[e,Yx] at z; cases z),fun e=>(by rw[e,fm0] at z; cases z)⟩)
   exact s8 _ _ (f7 _ _ h6 (by simpa using nb.2.2))
  have fp0:H p=none:=by
   cases q':H p with
   | none=>rfl
   | some o=>
    have hb:H5 p=some o:=s05 _ _ q';by_cases c1:p∈[a.ds,a.dt,a.lp]
    ·exfalso;simp only[bF,dU,or_false] at c1;rcases c1 with h | h | h
     ·obtain⟨o',e',_⟩:=Y6.al a.ds (by unfold Ya.own; simp)
      rw[h,f7 _ _ e' (by simp; intro z; have:=YA.nd; unfold Ya.own at this; have:=(pY.mp this).1; simp[z] at this)] at fp
      cases fp
     ·obtain⟨o',e',_⟩:=Y6.al a.dt (by unfold Ya.own; simp)
      rw[h,f7 _ _ e' (by simp; intro z; have:=YA.nd; unfold Ya.own at this; have:=(pY.mp this).1; simp[z] at this)] at fp
      cases fp
     ·rw[h,e7] at fp; cases fp
    ·exfalso;simp only[bF,dU,or_false,not_or] at c1
     have h6:=fr6 _ _ hb (by
      simp only[bF,dU,or_false,not_or]
      exact⟨c1.1,c1.2.1,fun e=>(by rw[e,Yx] at q'; cases q'),fun e=>(by rw[e,fm0] at q'; cases q')⟩)
     rw[f7 _ _ h6 (by simpa using c1.2.2)] at fp
     cases fp
  have pm:p≠m:=fun z=>by rw[z,em7] at fp; cases fp
  have ax8:=aj.kp k68 _ _ (iw _) ax;have nd:=YA.nd;unfold Ya.own at nd;obtain⟨FJ,nd2,Vi⟩:=pY.mp nd;have ae0:∀b∈a.own,b≠a.lp->∀o,H6 b=some o->H8 b=some o:=fun b hb n o e=>s8 _ _ (f7 _ _ e (by simpa using n))
  have Yr:a.p≠a.lp/\a.lo≠a.lp/\a.dp≠a.lp/\a.dn≠a.lp/\a.ds≠a.lp/\a.dt≠a.lp:=by
   simp only[iW,bF,dU,not_or,or_false] at FJ;exact⟨FJ.1.2.2.2.2.2,FJ.2.1.2.2.2.2,FJ.2.2.1.2.2.2,FJ.2.2.2.1.2.2,FJ.2.2.2.2.1.2,FJ.2.2.2.2.2.1⟩
  have kO:∀{b:Addr} {o:HO},H6 b=some o->b≠a.lp->H8 b=some o:=fun {b o} e n=>s8 _ _ (f7 _ _ e (by simpa using n))
  obtain⟨v3,c3,g3⟩:=Y6.dp;obtain⟨v5,c5,g5⟩:=Y6.ds;obtain⟨v6,c6,g6⟩:=Y6.dt;refine q p m xs H8 fm0 fp0 pm ?_ e8 ax8 Yw;rw[eY];refine⟨⟨dx6,kO ob6 Yr.1⟩,kO Y6.lo Yr.2.1,⟨v3,kO c3 Yr.2.2.1,aj.kp k68 _ _ (fL _) g3⟩,kO Y6.dn Yr.2.2.2.1,⟨v5,kO c5 Yr.2.2.2.2.1,aj.kp k68 _ _ (fj _) g5⟩,⟨v6,kO c6 Yr.2.2.2.2.2,aj.kp k68 _ _ (iT _) g6⟩,?_,?_,?_⟩
  ·show H8 a.lp=some (.lst ((a.ue++[m]).map V.ref));rw[gq];exact s8 _ _ e7
  ·show bO H8 (a.ue++[m]) (y.pa++[yG y cs]);have P6:=Y6.pa;rw[RI.a] at P6;exact bO.snoc (P6.keep k68 fun b hb o e=>kO e (fun z=>Vi a.lp (by simp) b hb z.symm)) (s8 _ _ em7) ax8
  ·show([a.p,a.lo,a.dp,a.dn,a.ds,a.dt,a.lp]++(a.ue++[m])).Nodup;rw[<- Dw,pY];exact⟨nd,by simp,fun u hu v hv e=>by rw[dH.mp hv] at e; exact(Ek u hu).2 e⟩
theorem l_:aV ["self","name"] ["self","name"] (aG ji):=(by walk_at "c")
theorem uK {C:Addr} (F:iM K "counts" "Yard.counts" ji f fd) (Z:ZY K C) (aR:ux P w K mg base k C "check_names" ["self","names"] (yX C)):bJ P w K mg base gD (k+1) f fd ["self","name"] (Dl C gT):=by
 refine F.ok l_ (by rintro vs H Q E ⟨a,y,i,n,d,rfl,_⟩; rfl) (fun cdv A outer s H vs Q E hr h=>?_)
 obtain⟨a,y,i,n,d,rfl,YA,YO,hn,hd,q⟩:=h;have ND:=l_.nd;refine⟨_,(aq (bC (pm aR hr (pv 0) (ao (bM (ao (pv 1) ak)) ak))) (aF (a_ (bz (um hr.units) (bU (K:=K) rfl (pv 0)) (pv 1) (fun _ _=>rfl))))),?_⟩;walk_at "rd";refine Me.of (m:="check_names") (R:=fun p=>_) YA (fun _ _ _ _ _ _ _=>rfl) ?_;refine⟨by decide,fun p H1 f1 s1 e1=>?_⟩
 refine⟨a,y,p,[n],rfl,YA.mono s1,e1,by simp,by simp,by intro m hm; rw[dH.mp hm]; exact dz hn,fun H2 s2=>?_⟩
 have YB:=YA.mono (s1.trans s2);obtain⟨us,ed,av⟩:=YB.dt;obtain⟨v,ev,aw⟩:=av.nth hd;have lv:=av.length;have l1:=YO.lt;rw[b7] at lv;obtain⟨dx,ob⟩:=YB.ob;exact⟨_,_,_,_,_,rfl,ob,Z.cl,Z.n6,qj ..,_,v,rfl,mR.z ed YO.nn hn (by omega) ev,q _ _ (s1.trans s2) aw⟩
def U0 (C:Addr):Sp:=fun vs H Q _=>∃(a:Ya) (y:Yd) (i:Nat) (n:Str) (v:V) (x:g_),vs=[.ref a.p,.str n,v]/\bA C H a y/\fK y/\y.ns[i]?=some n/\At H (eV x) v/\((y.ps.set i x).map g_.lo).sum<=y.tot/\∀H',bA C H' a { y with ps:=y.ps.set i x }->Fr [a.dp] H H'->Q .non H'
theorem zN:∀{ns:List Str} {ps:List g_} {i:Nat} {n:Str},ns.Nodup->ps.length=ns.length->ns[i]?=some n->((ns.zip ps).map fun z=>if z.1=n then none else some (eV z.2)).filterMap id=(ps.eraseIdx i).map eV
 | [],_,i,n,_,_,h=>by simp at h
 | m::ns,[],i,n,_,l,_=>by simp at l
 | m::ns,x::ps,i,n,nd,l,h=>by
  have Ys:=iW.mp nd
  have adZ:∀(ns:List Str) (ps:List g_),ps.length=ns.length->n∉ns->((ns.zip ps).map fun z=>if z.1=n then none else some (eV z.2)).filterMap id=ps.map eV:=by
   intro ns
   induction ns with
   | nil=>intro ps l _; cases ps with
    | nil=>rfl
    | cons x ps=>simp at l
   | cons m ns ih=>
    intro ps l hm;cases ps with
    | nil=>simp at l
    | cons x ps=>
     simp only[bF,not_or] at hm;rw[List.zip_cons_cons,gZ,aX (Ne.symm hm.1),Ow];show eV x::_=_;rw[ih ps (by simpa using l) hm.2]
     rfl
  cases i with
  | zero=>
   cases h;rw[List.zip_cons_cons,gZ,bx rfl,List.filterMap_cons_none rfl,adZ ns ps (by simpa using l) Ys.1]
   rfl
  | succ i=>
   have hin:n∈ns:=dz (show ns[i]?=some n from h);rw[List.zip_cons_cons,gZ,aX (fun z=>Ys.1 (by rw[show m=n from z]; exact hin)),Ow]
   show eV x::_=_;rw[zN Ys.2 (by simpa using l) (show ns[i]?=some n from h)]
   rfl
theorem zP {α β:Type} (g:α->β):∀(l:List α) (i:Nat),(l.map g).eraseIdx i=(l.eraseIdx i).map g
 | [],_=>rfl
 | a::l,0=>rfl
 | a::l,i+1=>by simp only[gZ,List.eraseIdx_cons_succ,zP g l i]
theorem yV:∀{l:List Int} {i:Nat} {x:Int},i<l.length->(l.eraseIdx i).sum+x=(l.set i x).sum
 | [],i,x,h=>by simp at h
 | a::l,0,x,h=>by simp; omega
 | a::l,i+1,x,h=>by
  have:=yV (l:=l) (i:=i) (x:=x) (by simpa using h)
  simp only[List.eraseIdx_cons_succ,List.set_cons_succ,qP];omega
theorem Ya.nds {a:Ya} (nd:a.own.Nodup):(a.dp≠a.p/\a.dn≠a.p)/\(∀b∈a.own,b≠a.dp->b∉[a.dp]):=⟨by
  unfold Ya.own at nd;have:=(pY.mp nd).1;simp only[iW,bF,dU,not_or,or_false] at this
  exact⟨Ne.symm this.1.2.1,Ne.symm this.1.2.2.1⟩,fun b _ h=>by simpa using h⟩
theorem bA.acG {C:Addr} {H H':Hp} {a:Ya} {y:Yd} {xs:List g_} {vs:List V} (A:bA C H a y) (e:H' a.dp=some (.dK (zK y.ns vs))) (av:aj H' (xs.map eV) vs) (f:Fr [a.dp] H H') (m:cU H H'):bA C H' a { y with ps:=xs }:=by
 obtain⟨⟨dx,h1⟩,h2,⟨v3,h3,g3⟩,h4,⟨v5,h5,g5⟩,⟨v6,h6,g6⟩,h7,h8,h9⟩:=A;have nd:=h9;unfold Ya.own at nd;obtain⟨FJ,nd2,Vi⟩:=pY.mp nd;simp only[iW,bF,dU,not_or,or_false] at FJ;obtain⟨⟨n12,n13,n14,n15,n16,n17⟩,⟨n23,n24,n25,n26,n27⟩,⟨n34,n35,n36,n37⟩,⟨n45,n46,n47⟩,⟨n56,n57⟩,n67,_⟩:=FJ;have kk:∀{b:Addr} {o:HO},H b=some o->b≠a.dp->H' b=some o:=fun {b o} z n=>f b o z (by simpa using n)
 exact⟨⟨dx,kk h1 n13⟩,kk h2 n23,⟨vs,e,av⟩,kk h4 (Ne.symm n34),⟨v5,kk h5 (Ne.symm n35),aj.kp m _ _ (fj _) g5⟩,⟨v6,kk h6 (Ne.symm n36),aj.kp m _ _ (iT _) g6⟩,kk h7 (Ne.symm n37),h8.keep m fun b hb o z=>kk z (Ne.symm (Vi a.dp (by simp) b hb)),h9⟩
theorem bA.acH {C:Addr} {H H':Hp} {a:Ya} {y:Yd} {os:List (Option Str)} (A:bA C H a y) (e:H' a.dn=some (.dK (zK y.ns (os.map lq)))) (f:Fr [a.dn] H H') (m:cU H H'):bA C H' a { y with os:=os }:=by
 obtain⟨⟨dx,h1⟩,h2,⟨v3,h3,g3⟩,h4,⟨v5,h5,g5⟩,⟨v6,h6,g6⟩,h7,h8,h9⟩:=A;have nd:=h9;unfold Ya.own at nd;obtain⟨FJ,nd2,Vi⟩:=pY.mp nd;simp only[iW,bF,dU,not_or,or_false] at FJ;obtain⟨⟨n12,n13,n14,n15,n16,n17⟩,⟨n23,n24,n25,n26,n27⟩,⟨n34,n35,n36,n37⟩,⟨n45,n46,n47⟩,⟨n56,n57⟩,n67,_⟩:=FJ;have kk:∀{b:Addr} {o:HO},H b=some o->b≠a.dn->H' b=some o:=fun {b o} z n=>f b o z (by simpa using n)
 exact⟨⟨dx,kk h1 n14⟩,kk h2 n24,⟨v3,kk h3 n34,aj.kp m _ _ (fL _) g3⟩,e,⟨v5,kk h5 (Ne.symm n45),aj.kp m _ _ (fj _) g5⟩,⟨v6,kk h6 (Ne.symm n46),aj.kp m _ _ (iT _) g6⟩,kk h7 (Ne.symm n47),h8.keep m fun b hb o z=>kk z (Ne.symm (Vi a.dn (by simp) b hb)),h9⟩
theorem Kq.of {H:Hp} {l b:Addr} {xs zs:List V} {Q:VK} (h1:H l=some (.lst xs)) (h2:H b=some (.lst zs)) (hn:xs.length+zs.length<=1000) (q:∀p H',H p=none->aM H H'->H' p=some (.lst (xs++zs))->Q (.ref p) H'):Kq (.ref l) (.ref b) H Q:=
 ⟨l,b,xs,zs,rfl,rfl,h1,h2,mF (aP hn),fun p fp=>q p _ fp (aN fp _) aD⟩
theorem mj:aV ["self","name","post","others"] ["self","name","post"] (aG jj):=(by walk_at "c")
theorem uL {C:Addr} (F:iM K "change" "Yard.change" jj f fd) (B:Bi mg) (Z:ZY K C) (aR:ux P w K mg base k C "check_names" ["self","names"] (yX C)) (eO:Ct P w K mg base k "check_least" ["total","posts"] Ax):bJ P w K mg base gD (k+1) f fd ["self","name","post"] (U0 C):=by
 refine F.ok mj (by rintro vs H Q E ⟨a,y,i,n,v,x,rfl,_⟩; rfl) (fun cdv A outer s H vs Q E hr h=>?_)
 obtain⟨a,y,i,n,v,x,rfl,YA,YO,hn,hv,hs,q⟩:=h;have ND:=mj.nd;refine⟨_,(aq (bC (pm aR hr (pv 0) (ao (bM (ao (pv 1) ak)) ak))) (aq (qX (i:=3) ND rfl (by walk_at "o") (nt:=1) (N':=["other","name","self"]) (js:=[1,0]) rfl (bI (K:=K) rfl (bU (K:=K) rfl (pv 0))) oZ.of (fun fp s' H'=>(aH (i:=0) (by show List.Nodup (["other","name","self"]:List Str); decide) rfl (.inl (gA rfl)) (.inr (gA rfl)))) (fun fp s' H'=>Tq (bh wF (pv 0) (pv 1) (bf _))) (fun fp s' H'=>(bz (um hr.units) (bU (K:=K) rfl (pv 2)) (pv 0) (fun _ _=>rfl)))) (aq (bC (pf eO hr (ao (bU (K:=K) rfl (pv 0)) (ao (aQ GZ (pv 3) (bM (ao (pv 2) ak))) ak)))) (aF (eX (pv 2) (pZ (bU (K:=K) rfl (pv 0)) (pv 1) (vD hr.units))))))),?_⟩
 walk_at "rd";refine Me.of (m:="check_names") (R:=fun p=>_) YA (fun _ _ _ _ _ _ _=>rfl) ?_;refine⟨by decide,fun p H1 f1 s1 e1=>?_⟩
 refine⟨a,y,p,[n],rfl,YA.mono s1,e1,by simp,by simp,by intro m hm; rw[dH.mp hm]; exact dz hn,fun H2 s2=>?_⟩
 have s12:=s1.trans s2;have YB:=YA.mono s12;have l1:=YO.lp;have l5:=YO.n5;have hi:i<y.ns.length:=(i_.mp hn).1;obtain⟨dx,ob⟩:=YB.ob;obtain⟨us,ed,av⟩:=YB.dp;have lv:=av.length;rw[b7] at lv
 refine T8 ((y.ns.zip y.ps).map fun z=>if z.1=n then none else some (eV z.2)) (fun R hR=>by walk_at "rd"; exact⟨_,_,_,_,_,rfl,ob,Z.cl,Z.n2,ju ..,hR⟩) YB.lo (by rw[b7,b7,List.length_zip]; omega) (by rw[b7]; omega) (fun d hd=>by
  obtain⟨z,_,ez⟩:=cO.mp hd;split at ez
  ·cases ez
  ·cases ez; exact qW _) ?_ ?_
 ·intro j x' o H' hx ho s';rw[cT] at hx;cases et:y.ns[j]? with
  | none=>rw[et] at hx; cases hx
  | some m=>
  rw[et] at hx;cases hx;have hj:j<y.ns.length:=(i_.mp et).1;have ep:y.ps[j]?=some y.ps[j]:=eF (by omega)
  have ez:(y.ns.zip y.ps)[j]?=some (m,y.ps[j]):=by rw[List.getElem?_zip_eq_some]; exact⟨et,ep⟩
  rw[cT,ez] at ho
  replace ho:=Option.some.inj ho
  dsimp only at ho;have ec:bQ [1,0] [some (V.ref a.p),some (V.str n),some v,none]=[some (.str n),some (.ref a.p)]:=rfl;rw[ec];refine⟨fun R hR=>by walk_at "rd"; exact hR,fun R hR=>?_,fun d H4 e4 s4 R hR=>?_⟩
  ·walk_at "rd";have:=hR H' (aM.refl _);rw[<- ho] at this;by_cases c:m=n
   ·rw[bx c] at this;simpa[c] using this
   ·rw[aX c] at this;simpa[c] using this
  ·rw[e4] at ho;split at ho
   ·cases ho
   cases ho;walk_at "rd";obtain⟨v',ev',av'⟩:=av.nth (i:=j) (d:=eV y.ps[j]) (by rw[cT,ep]; rfl)
   have U8:=s'.trans s4;exact⟨_,_,_,_,_,rfl,U8 _ _ ob,Z.cl,Z.n3,rG ..,_,v',rfl,mR.z (U8 _ _ ed) YO.nn et (by omega) ev',hR _ _ (aM.refl _) (av'.mono U8)⟩
 ·intro acc us3 H3 f3 s3 e3 a3;rw[zN YO.nn l1 hn] at a3;have pU:=s12.trans s3;refine⟨_,_,_,_,_,rfl,s3 _ _ ob,Z.cl,Z.n1,Ew ..,by decide,fun p4 H4 f4 s4 e4=>?_⟩
  have la:=a3.length;rw[b7,List.length_eraseIdx] at la;refine Kq.of (s4 _ _ e3) e4 (by simp; split at la <;> omega) fun p5 H5 f5 s5 e5=>?_
  have Q8:=pU.trans (s4.trans s5);refine⟨y.tot,p5,_,y.ps.eraseIdx i++[x],rfl,e5,?_,?_,?_,fun H6 s6=>?_⟩
  ·rw[gq];exact(a3.mono (s4.trans s5)).snoc (hv.mono Q8)
  ·rw[cB,List.length_eraseIdx]; simp; split <;> omega
  ·rw[gq,List.sum_append];have:=yV (l:=y.ps.map g_.lo) (i:=i) (x:=x.lo) (by rw[b7]; omega)
   rw[<- wy,zP] at this;rw[<- this] at hs;simpa using hs
  ·have Wh:=Q8.trans s6;have s36:aM H2 H6:=s3.trans (s4.trans (s5.trans s6));refine⟨_,_,_,_,_,rfl,s36 _ _ ob,Z.cl,Z.n3,rG ..,_,_,rfl,rR.z (s36 _ _ ed) YO.nn hn (by omega) (by omega),?_⟩
   have k7:cU H6 (upd H6 a.dp (.dK (zK y.ns (us.set i v)))):=cU.putD (s36 _ _ ed);have f7:Fr [a.dp] H6 (upd H6 a.dp (.dK (zK y.ns (us.set i v)))):=Fr.put (by simp)
   refine q _ (YA.acG (xs:=y.ps.set i x) (vs:=us.set i v) aD ?_ ((Wh.fr _).trans f7) (Wh.kp.trans k7)) ((Wh.fr _).trans f7);rw[wy];exact aj.put (At.kp (Wh.kp.trans k7) _ _ (qW _) hv) (aj.kp (s36.kp.trans k7) _ _ (fL _) av)
def UW (C:Addr):Sp:=fun vs H Q _=>∃(a:Ya) (y:Yd) (i:Nat) (n:Str) (o:Option Str),vs=[.ref a.p,.str n,lq o]/\bA C H a y/\fK y/\y.ns[i]?=some n/\(∀z,o=some z->z∈y.ns.drop (i+1))/\∀H',bA C H' a { y with os:=y.os.set i o }->Fr [a.dn] H H'->Q .non H'
theorem pG:aV ["self","name","onward"] ["self","name","onward"] (aG lE):=(by walk_at "c")
theorem xY {C:Addr} (F:iM K "lead" "Yard.lead" lE f fd) (B:Bi mg) (Z:ZY K C) (aR:ux P w K mg base k C "check_names" ["self","names"] (yX C)) (dJ:Ct P w K mg base k "check_onward" ["onward","behind"] N_):bJ P w K mg base gD (k+1) f fd ["self","name","onward"] (UW C):=by
 refine F.ok pG (by rintro vs H Q E ⟨a,y,i,n,o,rfl,_⟩; rfl) (fun cdv A outer s H vs Q E hr h=>?_)
 obtain⟨a,y,i,n,o,rfl,YA,YO,hn,ho,q⟩:=h;have ND:=pG.nd;refine⟨_,(aq (bC (pm aR hr (pv 0) (ao (bM (ao (pv 1) ak)) ak))) (aq (bC (pf dJ hr (ao (pv 2) (ao (cZ uW (bU (K:=K) rfl (pv 0)) (fu (aQ bB (d7 (K:=K) rfl PySem.F.plainAttrs_list PySem.F.slot_list_index PySem.F.type_list_index Hh (bU (K:=K) rfl (pv 0)) (ao (pv 1) ak)) aC)) fB) ak)))) (aF (eX (pv 2) (pZ (bU (K:=K) rfl (pv 0)) (pv 1) (vD hr.units)))))),?_⟩;walk_at "rd";refine Me.of (m:="check_names") (R:=fun p=>_) YA (fun _ _ _ _ _ _ _=>rfl) ?_;refine⟨by decide,fun p H1 f1 s1 e1=>?_⟩
 refine⟨a,y,p,[n],rfl,YA.mono s1,e1,by simp,by simp,by intro m hm; rw[dH.mp hm]; exact dz hn,fun H2 s2=>?_⟩
 have s12:=s1.trans s2;have YB:=YA.mono s12;have l1:=YO.lo;have l5:=YO.n5;have hi:i<y.ns.length:=(i_.mp hn).1;obtain⟨dx,ob⟩:=YB.ob;refine⟨_,_,_,_,_,rfl,ob,Z.cl,Z.n2,ju ..,_,_,_,_,_,rfl,ob,Z.cl,Z.n2,ju ..,.inl ⟨rfl,_,b_.of YB.lo⟩,?_⟩;refine⟨_,y.ns,n,i,rfl,YB.lo,rfl,by omega,YO.nn,hn,?_⟩
 refine⟨_,_,rfl,rfl,_,_,rfl,b_.of YB.lo,fun p3 f3=>?_⟩;rw[kW (by omega),show((i:Int)+1).toNat=i+1 by omega,<- zE]
 have s3:=aN f3 (HO.lst ((y.ns.drop (i+1)).map V.str));refine⟨o,p3,y.ns.drop (i+1),rfl,aD,ho,fun H4 s4=>?_⟩;have U8:=s3.trans s4;have RK:=s12.trans U8;refine⟨_,_,_,_,_,rfl,U8 _ _ ob,Z.cl,Z.n4,xn ..,_,_,rfl,rR.z (U8 _ _ YB.dn) YO.nn hn (by rw[b7]; omega) (by omega),?_⟩
 have k7:cU H4 (upd H4 a.dn (.dK (zK y.ns ((y.os.map lq).set i (lq o))))):=cU.putD (U8 _ _ YB.dn);have f7:Fr [a.dn] H4 (upd H4 a.dn (.dK (zK y.ns ((y.os.map lq).set i (lq o))))):=Fr.put (by simp)
 exact q _ (YA.acH (os:=y.os.set i o) (by rw[aD,wy]) ((RK.fr _).trans f7) (RK.kp.trans k7)) ((RK.fr _).trans f7)
theorem Ao {H H':Hp} {a:Addr} {n:Nat} (t:Tp H a n) (s:SX a H H'):cU H H':=fun c xs z=>s.get (t.neT z) z
theorem Zz {a p:Addr} {H H':Hp} (s:SX a H H') (pa:p≠a) (h:H' p=none):H p=none:=by
 cases q:H p with
 | none=>rfl
 | some o=>rw[s.get pa q] at h; cases h
theorem Np {zs:List (List Nat)} (h:zs.Nodup):(zs.map tx).Nodup:=by
 unfold List.Nodup;rw[List.pairwise_map];exact h.imp fun h e=>h (V0 e)
def ZF:Sp:=fun vs H Q _=>∃(a:Addr) (n:Nat),vs=[.ref a]/\Tp H a n/\n<=10000000/\∀p q tot (ts:List T3) us H',H' p=some (.tup [.int tot,.ref q])->H q=none->q≠a->H' q=some (.lst us)->aj H' (ts.map Dk) us->Mt tot ts->(∀x∈ts,C_ x.2.1)->tot<=60->Tp H' a (n+3000)->SX a H H'->Q (.ref p) H'
theorem y_:aV ["_law_tape_here","_law_many","_law_names_here","_law_rows","_law_k","_law_post_here","_law_behind","_law_least","_law_more"] ["_law_tape_here"] (aG vP):=(by walk_at "c")
theorem K_ (F:iM K "_law_yard" "_law_yard" vP f fd) (B:Bi mg) (aK:Ct P w K mg base k "_law_draw" ["_law_tape_here","_law_many"] fW) (QL:Ct P w K mg base k "_law_post" ["_law_tape_here"] vB) (xM:Ct P w K mg base k "_law_small_post" ["_law_tape_here"] vB) (Ml:Ct P w K mg base k "_law_names" ["_law_tape_here","_law_many"] Wc):bJ P w K mg base gD (k+1) f fd ["_law_tape_here"] ZF:=by
 refine F.ok y_ (by rintro vs H Q E ⟨a,n,rfl,_⟩; rfl) (fun cdv A outer s H vs Q E hr h=>?_)
 obtain⟨a,n,rfl,tp,hn,q⟩:=h;have ND:=y_.nd;refine⟨_,(aq (aU (i:=1) ND rfl (by walk_at "o") (bz bj (bM (ao aC (ao aC (ao aC (ao aC (ao aC (ao aC ak))))))) (pf aK hr (ao (pv 0) (ao aC ak))) (fun _ _=>rfl))) (aq (aU (i:=2) ND rfl (by walk_at "o") (pf Ml hr (ao (pv 0) (ao (pv 1) ak)))) (aq (aU (i:=3) ND rfl (by walk_at "o") (bM ak)) (aq (gK PassesOwn.never rfl (eG (by rfl) B.range (ao (pv 1) ak)) (aH (i:=4) ND rfl (by walk_at "o")) (aq (aU (i:=5) ND rfl (by walk_at "o") (dI (bh gC (pf aK hr (ao (pv 0) (ao aC ak))) aC (bf _)) (pf QL hr (ao (pv 0) ak)) (pf xM hr (ao (pv 0) ak)))) (aq (aU (i:=6) ND rfl (by walk_at "o") (aQ GZ (bM (ao fZ ak)) (aQ WL (cZ uW (pv 2) (fu (aQ bB (pv 4) aC)) fB) aC))) (aF (bC (d7 (K:=K) rfl PySem.F.plainAttrs_list PySem.F.slot_list_append PySem.F.type_list_append cI (pv 3) (ao (bc (ao (bz bj (pv 2) (pv 4) (fun _ _=>rfl)) (ao (pv 5) (ao (bz bj (pv 6) (pf aK hr (ao (pv 0) (ao (pb (cA (K:=K) rfl) B.len dM (ao (pv 6) ak)) ak))) (fun _ _=>rfl)) ak)))) ak))))))) (aq (aU (i:=7) ND rfl (by walk_at "o") (pb (fM rfl) B.sum lW (ao (jm (nt:=3) (N':=["_law_name","_law_post_here","_law_onward"]) (js:=[]) rfl (bI (K:=K) rfl (pv 3)) oZ.of (fun fp s' H'=>(bT (K:=K) (n:=3) rfl rfl (aJ (aH (i:=0) (by show List.Nodup (["_law_name","_law_post_here","_law_onward"]:List Str); decide) rfl (.inl (gA rfl)) (.inr (gA rfl))) (aJ (aH (i:=1) (by show List.Nodup (["_law_name","_law_post_here","_law_onward"]:List Str); decide) rfl (.inl (gA rfl)) (.inr (gA rfl))) (aJ (aH (i:=2) (by show List.Nodup (["_law_name","_law_post_here","_law_onward"]:List Str); decide) rfl (.inl (gA rfl)) (.inr (gA rfl))) bR))))) (fun fp s' H'=>gO) (fun fp s' H'=>(bz bj (bz bj (pv 1) aC (fun _ _=>rfl)) aC (fun _ _=>rfl)))) ak))) (aq (aU (i:=8) ND rfl (by walk_at "o") (bz bj (bM (ao aC (ao aC (ao (pf aK hr (ao (pv 0) (ao aC ak))) (ao (aQ bB aC (pf aK hr (ao (pv 0) (ao aC ak)))) ak))))) (pf aK hr (ao (pv 0) (ao aC ak))) (fun _ _=>rfl))) (aF (a_ (bc (ao (pb (fO rfl) B.min lX (ao aC (ao (aQ bB (pv 7) (pv 8)) ak))) (ao (pv 3) ak))))))))))),?_⟩
 simp only[yZ 5];walk_at "rd";refine⟨by decide,fun p1 H1 f1 s1 e1=>?_⟩
 refine bZ.of (tp.same s1) (by omega) (by decide) (by decide) fun d H2 d0 d1 t2 x2=>?_
 have p1a:=tp.ne f1
 obtain⟨m,em,m1,m5⟩:∃m:Nat,yH [V.int 1,V.int 2,V.int 3,V.int 2,V.int 4,V.int 5] d=some (.int (m:Nat))/\1<=m/\m<=5:=by
  have:d=0\/d=1\/d=2\/d=3\/d=4\/d=5:=by omega
  rcases this with rfl | rfl | rfl | rfl | rfl | rfl
  ·exact⟨1,rfl,by decide,by decide⟩
  ·exact⟨2,rfl,by decide,by decide⟩
  ·exact⟨3,rfl,by decide,by decide⟩
  ·exact⟨2,rfl,by decide,by decide⟩
  ·exact⟨4,rfl,by decide,by decide⟩
  ·exact⟨5,rfl,by decide,by decide⟩
 refine Ix.lst (x2.get p1a e1) em ?_;refine Nm.of (m:=m) rfl (by omega) t2 (by omega) fun pn zs H3 fn na lz gz ndz en t3 x3=>⟨by decide,fun pr H4 f4 s4 e4=>?_⟩
 have x12:SX a H H2:=(SX.of s1).trans x2;have x14:SX a H H4:=x12.trans (x3.trans (SX.of s4));have Wq:=t3.ne f4;have f4':H pr=none:=Zz (x12.trans x3) Wq f4;have fn':H pn=none:=Zz x12 na fn;have prn:pr≠pn:=fun z=>by rw[z,en] at f4; cases f4
 rw[qF];walk_at "rd";refine FK.of (n:=m) rfl (by omega) (fun i σ H'=>∃(ts:List T3) (us:List V) (o4 o5 o6:Option V),σ=[some (V.ref a),some (V.int (m:Nat)),some (V.ref pn),some (V.ref pr),o4,o5,o6,none,none]/\ts.length=i/\us.length=i/\ts.map (·.1)=(zs.take i).map tx/\(∀x∈ts,C_ x.2.1)/\(∀(j:Nat) (x:T3) z,ts[j]?=some x->x.2.2=some z->z∈(zs.map tx).drop (j+1))/\H' pn=some (.lst (zs.map fun z=>V.str (tx z)))/\H' pr=some (.lst us)/\aj H' (ts.map Dk) us/\Tp H' a (n+301+402*i)/\SX a H H')
  ⟨[],[],_,_,_,rfl,rfl,rfl,rfl,by simp,by simp,s4 _ _ en,e4,aj.nil,(t3.same s4).mono (by omega),x14⟩ ?_ ?_
 ·rintro i σ H5 hi ⟨ts,us,o4,o5,o6,rfl,lt,lu,Mz,hps,hog,en5,e5,a5,t5,x5⟩;walk_at "rd";refine mW.of (R:=fun σ H'=>∃pv x,σ=[some (V.ref a),some (V.int (m:Nat)),some (V.ref pn),some (V.ref pr),some (.int (0+(i:Nat))),some pv,o6,none,none]/\C_ x/\At H' (eV x) pv/\Tp H' a (n+301+402*i+401)/\SX a H5 H') ?_ ?_
  ·rintro σ H6 ⟨pv,x,rfl,hx,ax,t6,x6⟩;have en6:=x6.get na en5;have e6:=x6.get Wq e5;have a6:=aj.kp (Ao t5 x6) _ _ (qI _) a5;have adm:H6 pn=some (.lst ((zs.map tx).map V.str)):=by rw[Bb]; exact en6
   walk_at "rd";refine⟨by decide,fun p7 H7 f7 s7 e7=>?_⟩
   refine⟨pn,_,rfl,b_.of (s7 _ _ adm),fun p8 f8=>?_⟩;rw[kW (by omega),show(0+(i:Int)+1).toNat=i+1 by omega,<- zE]
   have s8:=aN f8 (HO.lst (((zs.map tx).drop (i+1)).map V.str));have ldr:((zs.map tx).drop (i+1)).length<=5:=by rw[uE,b7]; omega
   refine⟨p8,2,_,rfl,rfl,aD,by decide,by decide,?_,fun p9 f9=>?_⟩
   ·rw[b7];exact mF (aP (by show _*2<=1000; omega))
   have efl:(List.replicate (2:Int).toNat (((zs.map tx).drop (i+1)).map V.str)).flatten=(((zs.map tx).drop (i+1)++(zs.map tx).drop (i+1)).map some).map lq:=by
    rw[Bb,gq];show((zs.map tx).drop (i+1)).map V.str++(((zs.map tx).drop (i+1)).map V.str++[])=_;rw[uA]; rfl
   rw[efl];have s9:=aN f9 (HO.lst ((((zs.map tx).drop (i+1)++(zs.map tx).drop (i+1)).map some).map lq));have e9:upd (upd H7 p8 (.lst (((zs.map tx).drop (i+1)).map V.str))) p9 (.lst ((((zs.map tx).drop (i+1)++(zs.map tx).drop (i+1)).map some).map lq)) p9=some (.lst ((((zs.map tx).drop (i+1)++(zs.map tx).drop (i+1)).map some).map lq)):=aD;have s79:=s8.trans s9;generalize upd (upd H7 p8 (.lst (((zs.map tx).drop (i+1)).map V.str))) p9 (.lst ((((zs.map tx).drop (i+1)++(zs.map tx).drop (i+1)).map some).map lq))=H9 at s79 e9 ⊢
   obtain⟨os,eos,hos,los,l0⟩:∃os:List (Option Str),V.non::(((zs.map tx).drop (i+1)++(zs.map tx).drop (i+1)).map some).map lq=os.map lq/\(∀o∈os,∀z,o=some z->z∈(zs.map tx).drop (i+1))/\os.length<=20/\1<=os.length:=by
    refine⟨none::((zs.map tx).drop (i+1)++(zs.map tx).drop (i+1)).map some,rfl,?_,?_,by simp⟩
    ·intro o ho z hz;rcases bF.mp ho with h | h
     ·rw[h] at hz; cases hz
     ·obtain⟨z',hz',ez⟩:=cO.mp h;rw[<- ez] at hz;cases hz;rcases eQ.mp hz' with h | h <;> exact h
    ·simp only[gw,b7,cB]; omega
   refine Kq.of (s79 _ _ e7) e9 (by simp only[gw,uD,b7,cB]; omega) fun pb HA fb sA eA=>?_
   rw[show[V.non]++(((zs.map tx).drop (i+1)++(zs.map tx).drop (i+1)).map some).map lq=os.map lq from eos] at eA;have ZK:=s7.trans (s79.trans sA);have enA:=ZK _ _ en6;have eA':=ZK _ _ e6;refine⟨.inl ⟨rfl,_,b_.of eA'⟩,?_⟩;have hiz:i<zs.length:=by omega
   refine Ix.lst (v:=V.str (tx zs[i])) enA (by rw[Int.zero_add]; exact aY (j:=i) (by rw[cT,eF hiz]; rfl)) ?_
   refine⟨pb,_,rfl,.inl (b_.of eA),?_⟩;have tA:=t6.same ZK;refine bZ.of tA (by omega) (by rw[b7]; omega) (by rw[b7]; omega) fun d8 HB d80 d81 tB xB=>?_
   rw[b7] at d81;have pba:pb≠a:=(t6.same (s7.trans s79)).ne fb;have hd8:d8.toNat<os.length:=by omega
   refine Ix.lst (v:=lq os[d8.toNat]) (xB.get pba eA) (by
    have:=aY (xs:=os.map lq) (j:=d8.toNat) (v:=lq os[d8.toNat]) (by rw[cT,eF hd8]; rfl)
    rwa [Int.toNat_of_nonneg d80] at this) ⟨by decide,fun pc HC fc sC eC=>?_⟩
   have eB':=xB.get Wq eA';have eC':=sC _ _ eB';have pca:pc≠a:=tB.ne fc;have kD:cU HC (upd HC pr (.lst (us++[.ref pc]))):=cU.putL eC';have k6D:=ZK.kp.trans ((Ao tA xB).trans (sC.kp.trans kD))
   have eD:upd HC pr (.lst (us++[.ref pc])) pc=some (.tup [V.str (tx zs[i]),pv,lq os[d8.toNat]]):=by
    rw[aL (fun z=>by rw[z,eC'] at eC; cases eC)]; exact eC
   have x6C:SX a H6 HC:=(SX.of ZK).trans (xB.trans (SX.of sC));have a7:=aj.snoc (aj.kp k6D _ _ (qI _) a6) (show At _ (Dk (tx zs[i],x,os[d8.toNat])) (.ref pc) from At.tup eD (aj.cons (At.str _) (aj.cons (At.kp k6D _ _ (qW _) ax) (aj.cons (Vh _) aj.nil))));refine⟨pr,us,_,rfl,rfl,eC',by rw[lu]; exact aP (by omega),ts++[(tx zs[i],x,os[d8.toNat])],us++[.ref pc],_,_,_,rfl,by rw[cB,lt]; rfl,by rw[cB,lu]; rfl,?_,?_,?_,?_,aD,?_,?_,?_⟩
   ·rw[gq,Mz,cG (eF hiz),gq]; rfl
   ·intro x' hx';rcases eQ.mp hx' with h | h
    ·exact hps x' h
    ·rw[dH.mp h]; exact hx
   ·intro j x' z h1 h2;by_cases hj:j<ts.length
    ·rw[DK hj] at h1;exact hog j x' z h1 h2
    ·rw[xV (by omega)] at h1
     have hj':j-ts.length=0:=by
      cases c:j-ts.length with
      | zero=>rfl
      | succ c'=>rw[c] at h1; simp at h1
     rw[hj'] at h1;cases h1;have:j=i:=by omega
     subst this;exact hos _ (oO hd8) z h2
   ·rw[aL prn.symm];exact sC _ _ (xB.get na enA)
   ·rw[gq]; exact a7
   ·exact((tB.same sC).du Wq).mono (by omega)
   ·exact(x5.trans (x6.trans x6C)).du f4' Wq
  ·intro N hN;walk_at "rd";refine bZ.of t5 (by omega) (by decide) (by decide) fun d6 H6 d60 d61 t6 x6=>?_
   walk_at "rd";have pp:vB [V.ref a] H6 (fun x H1=>N [some (V.ref a),some (V.int (m:Nat)),some (V.ref pn),some (V.ref pr),some (V.int (0+(i:Nat))),some x,o6,none,none] H1) E0:=⟨a,_,rfl,t6,by omega,fun p x H7 hx ax t7 x7=>hN _ _ ⟨_,x,rfl,hx,ax.mono rB,t7,x6.trans x7⟩⟩
   exact cR (fun _=>pp) (fun _=>pp)
 ·rintro σ H5 ⟨ts,us,o4,o5,o6,rfl,lt,lu,Mz,hps,hog,en5,e5,a5,t5,x5⟩;walk_at "rd";have hlen:=a5.length;rw[b7] at hlen;obtain⟨lg,TA⟩:=sr a5;refine oJ (((ts.map (·.2.1)).map g_.lo).map .int) (rY ts lg) (jd ts lg) (fun R hR=>by walk_at "rd"; exact hR) e5 (by simp; omega) (by omega) (gM _) ?_ ?_
  ·intro j x d' H' hx hd s';have TB:=TA.mono s'.kp;refine⟨fun R hR=>wD TB hx hR,fun R hR=>?_⟩;have hj:j<ts.length:=by rw[<- hlen]; exact(i_.mp hx).1
   have et:ts[j]?=some ts[j]:=eF hj;obtain⟨vp,ev,av⟩:=TB.ap.nth (i:=j) (d:=eV ts[j].2.1) (by rw[cT,cT,et]; rfl)
   rw[cT,cT,cT,et] at hd;cases hd;rw[iU et];walk_at "rd";rw[jD,ev];obtain⟨a0,xs0,ea0,h1,h2⟩:=bw av;obtain⟨x0,_,rfl,b0,h2⟩:=aj.aO h2;obtain⟨x1,_,rfl,b1,h2⟩:=aj.aO h2;obtain⟨x2,_,rfl,b2,h2⟩:=aj.aO h2;obtain⟨c0,cs0,rfl,g1,g2⟩:=bw b2;have:=cN (cs:=[ts[j].2.1.lo,ts[j].2.1.hi]) g2;subst this;subst ea0;refine Ix.tup h1 (aY (j:=2) rfl) (Ix.tup g1 (aY (j:=0) rfl) ?_);exact hR _ _ (aM.refl _) (At.int _)
  ·intro acc ns H6 f6 s6 e6 a6;have:=cN a6;subst this;refine⟨acc,_,rfl,.inl e6,?_⟩;refine bZ.of (t5.same s6) (by omega) (by decide) (by decide) fun r1 H7 r10 r11 t7 x7=>?_
   refine bZ.of t7 (by omega) (by decide) (by decide) fun r2 H8 r20 r21 t8 x8=>?_
   refine⟨_,_,rfl,rfl,by decide,fun p9 H9 f9 s9 e9=>?_⟩
   refine bZ.of (t8.same s9) (by omega) (by decide) (by decide) fun r3 HA r30 r31 tA xA=>?_
   have p9a:=t8.ne f9
   obtain⟨mo,emo,mo0⟩:∃mo:Int,yH [V.int 60,V.int 0,V.int r1,V.int (1+r2)] r3=some (.int mo)/\0<=mo:=by
    have:r3=0\/r3=1\/r3=2\/r3=3:=by omega
    rcases this with rfl | rfl | rfl | rfl
    ·exact⟨60,rfl,by decide⟩
    ·exact⟨0,rfl,by decide⟩
    ·exact⟨r1,rfl,r10⟩
    ·exact⟨1+r2,rfl,by omega⟩
   refine Ix.lst (xA.get p9a e9) emo ⟨_,_,rfl,rfl,by decide,fun pz HB fz sB eB=>?_⟩
   have x5A:SX a H5 HA:=(SX.of s6).trans (x7.trans (x8.trans ((SX.of s9).trans xA)));have x5B:=x5A.trans (SX.of sB)
   have Xc:∀(l:List T3),(∀x∈l,C_ x.2.1)->0<=((l.map (·.2.1)).map g_.lo).sum/\((l.map (·.2.1)).map g_.lo).sum<=12*l.length:=by
    intro l
    induction l with
    | nil=>intro _; simp
    | cons x l ih=>
     intro hl;obtain⟨i1,i2⟩:=ih fun z hz=>hl z (gk _ hz);have hx:=hl x (cY ..);have:=hx.lo;have:=hx.hi;simp only[gZ,qP,gw];omega
   obtain⟨b1,b2⟩:=Xc ts hps;rw[<- lz,pX] at Mz;refine q pz pr _ ts us HB eB f4' Wq (sB _ _ (x5A.get Wq e5)) (aj.kp (Ao t5 x5B) _ _ (qI _) a5) ⟨by omega,by omega,?_,?_,?_,?_⟩ hps (by split <;> omega) ((tA.same sB).mono (by omega)) (x5.trans x5B)
   ·rw[Mz];exact Np ndz
   ·intro x hx;have:x.1∈ts.map (·.1):=cO.mpr ⟨x,hx,rfl⟩;rw[Mz] at this;obtain⟨z,hz,e⟩:=cO.mp this;exact⟨z,e.symm,gz z hz⟩
   ·intro j x z h1 h2;rw[Mz];exact hog j x z h1 h2
   ·split <;> omega
def U3:Sp:=fun vs H Q _=>∃(a:Addr) (n:Nat) (tot:Int) (q:Addr) (us:List V),vs=[.ref a,.int tot,.ref q]/\Tp H a n/\n<=10000000/\q≠a/\H q=some (.lst us)/\us.length<=5/\∀v H',(v=.non\/∃l zs ss,v=.ref l/\H l=none/\l≠a/\H' l=some (.lst zs)/\aj H' (List.map vA ss) zs/\ss.length=us.length/\(∀z∈ss,FN z/\0<=z.w)/\hands ss<=tot)->Tp H' a (n+400)->SX a H H'->Q v H'
theorem t_:aV ["_law_tape_here","_law_total","_law_rows","_law_stands_here","_law_there"] ["_law_tape_here","_law_total","_law_rows"] (aG pQ):=(by walk_at "c")
theorem Ei (F:iM K "_law_stands" "_law_stands" pQ f fd) (B:Bi mg) (aK:Ct P w K mg base k "_law_draw" ["_law_tape_here","_law_many"] fW) (Mj:Ct P w K mg base k "_law_stand" ["_law_tape_here"] IV):bJ P w K mg base gD (k+1) f fd ["_law_tape_here","_law_total","_law_rows"] U3:=by
 refine F.ok t_ (by rintro vs H Q E ⟨a,n,tot,q,us,rfl,_⟩; rfl) (fun cdv A outer s H vs Q E hr h=>?_)
 obtain⟨a,n,tot,qa,us,rfl,tp,hn,Vc,eq',lu,q⟩:=h;have ND:=t_.nd;refine⟨_,(aq (cL (bh gC (pf aK hr (ao (pv 0) (ao aC ak))) aC (bf _)) (aF (a_ fZ)) bH) (aq (Bg (i:=3) ND rfl (by walk_at "o") (N':=["_law_row_here","_law_tape_here"]) (js:=[0]) rfl (bI (K:=K) rfl (pv 2)) rT.mk1 rfl (by decide) rfl (fun fp s' H'=>(pf Mj hr (ao (pv 1) ak)))) (aq (aU (i:=4) ND rfl (by walk_at "o") (pb (fM rfl) B.sum lW (ao (dG (N':=["_law_stand_here"]) (js:=[]) rfl (bI (K:=K) rfl (pv 3)) rT.Te rfl (by decide) rfl (fun fp s' H'=>(aQ bB (bz bj (pv 0) aC (fun _ _=>rfl)) (pb (fM rfl) B.sum lW (ao (bz bj (pv 0) aC (fun _ _=>rfl)) ak))))) ak))) (aF (a_ (dI (bh Ed (pv 4) (pv 1) (bf _)) (pv 3) fZ)))))),?_⟩
 walk_at "rd";refine bZ.of tp (by omega) (by decide) (by decide) fun d H1 d0 d1 t1 x1=>?_
 walk_at "rd";refine cR (fun _=>q _ _ (.inl rfl) (t1.mono (by omega)) x1) (fun _=>?_)
 rw[Kd];walk_at "rd";have eq1:=x1.get Vc eq';refine LCK.inv eq1 (mF (aP (by omega))) fun acc hacc=>?_
 have Vu:=t1.ne hacc;have acq:acc≠qa:=fun z=>by rw[z,eq1] at hacc; cases hacc
 refine⟨fun i ys H'=>∃ss:List iR,ss.length=i/\ys.length=i/\(∀z∈ss,StL z)/\H' acc=some (.lst ys)/\aj H' (ss.map vA) ys/\Tp H' a (n+1+60*i)/\SX a H1 H',?_,?_,?_,?_⟩
 ·exact⟨[],rfl,rfl,by simp,aD,aj.nil,(t1.du Vu).mono (by omega),(SX.refl a H1).du hacc Vu⟩
 ·rintro i ys H' _ ⟨ss,_,ly,_,e,_,_,x⟩;exact⟨ly,x.get Vc eq1,e⟩
 ·rintro i x ys H2 hx ⟨ss,ls,ly,hss,e2,a2,t2,x2⟩ R hR;have hi:=(i_.mp hx).1;show mX _ _ _ _ [some x,some (.ref a)] H2 _;walk_at "rd";refine⟨a,_,rfl,t2,by omega,fun p st H3 hst ast t3 x3=>hR _ _ (x3.get Vu e2) ?_⟩
  have e3:=x3.get Vu e2;have k3:cU H3 (upd H3 acc (.lst (ys++[.ref p]))):=cU.putL e3;refine⟨ss++[st],by rw[cB,ls]; rfl,by rw[cB,ly]; rfl,?_,aD,?_,(t3.du Vu).mono (by omega),(x2.trans x3).du hacc Vu⟩
  ·intro z hz;rcases eQ.mp hz with h | h
   ·exact hss z h
   ·rw[dH.mp h]; exact hst
  ·rw[gq];exact(aj.kp ((Ao t2 x3).trans k3) _ _ (fj _) a2).snoc (At.kp k3 _ _ (uU _) (ast.mono rB))
 ·rintro ys H2 ⟨ss,ls,ly,hss,e2,a2,t2,x2⟩;refine jO ((ss.map hnd).map .int) (fun R hR=>by walk_at "rd"; exact hR) e2 (by simp; omega) (by omega) (gM _) (fun i x d H' hx hd s' R hR=>?_) fun Ft vs H' f' s' e' a'=>?_
  ·rw[cT,cT] at hd;obtain⟨d',hd',ad⟩:=a2.get hx;rw[cT] at hd';cases ex:ss[i]? with
   | none=>rw[ex] at hd; cases hd
   | some x'=>
    rw[ex] at hd hd';cases hd;cases hd';obtain⟨a0,xs0,rfl,h1,h2⟩:=bw (ad.mono s');obtain⟨x0,_,rfl,b0,h2⟩:=aj.aO h2;obtain⟨x1',_,rfl,b1,h2⟩:=aj.aO h2;obtain⟨x2',_,rfl,b2,h2⟩:=aj.aO h2;obtain⟨c0,cs0,rfl,g1,g2⟩:=bw b2;have:=cN (cs:=x'.cs) g2;subst this;have e1:x1'=.int x'.r:=by unfold At at b1; exact b1
    subst e1;walk_at "rd";exact Ix.tup h1 (aY (j:=1) rfl) (Ix.tup h1 (aY (j:=2) rfl) ⟨c0,x'.cs,rfl,.inr g1,_,_,rfl,rfl,hR _ _ (aM.refl _) (At.int _)⟩)
  ·have:=cN a';subst this;refine⟨Ft,_,rfl,.inl e',?_⟩;have t3:=(t2.same s').mono (m:=n+400) (by omega)
   have x3:=x1.trans (x2.trans (SX.of s'));refine cR (fun c=>q _ _ (.inr ⟨acc,ys,ss,rfl,Zz x1 Vu hacc,Vu,s' _ _ e2,a2.mono s',ls,fun z hz=>⟨(hss z hz).n,(hss z hz).w.1⟩,nF c⟩) t3 x3) (fun _=>q _ _ (.inl rfl) t3 x3)
structure CmG (ns:List Str) (cs:List (Str×Int)):Prop where
 nd:(cs.map (·.1)).Nodup
 ni:∀c∈cs,c.1∈ns
 l:cs.length<=5
 b:∀c∈cs,0<=c.2/\c.2<=1000000000000
def Wd:Sp:=fun vs H Q _=>∃(a:Addr) (n:Nat) (q:Addr) (ns:List Str),vs=[.ref a,.ref q]/\Tp H a n/\n<=10000000/\q≠a/\H q=some (.lst (ns.map V.str))/\ns.Nodup/\ns.length<=5/\∀p us cs H',H p=none->p≠a->H' p=some (.lst us)->aj H' (List.map Vt cs) us->CmG ns cs->Tp H' a (n+40)->SX a H H'->Q (.ref p) H'
theorem vL:aV ["_law_tape_here","_law_names_here","_law_great","_law_comes_here","_law_name","_law_come"] ["_law_tape_here","_law_names_here"] (aG sV):=(by walk_at "c")
theorem aj.ins {H:Hp} {d:PyData} {v:V} (h:At H d v):∀(i:Nat) {ds:List PyData} {vs:List V},aj H ds vs->aj H (ds.take i++d::ds.drop i) (vs.take i++v::vs.drop i)
 | 0,ds,vs,a=>by simpa using aj.cons h a
 | i+1,[],vs,a=>by cases aj.h_ a; exact aj.cons h aj.nil
 | i+1,e::ds,vs,a=>by
  obtain⟨x,r,rfl,h1,h2⟩:=aj.aO a;exact aj.cons h1 (aj.ins h i h2)
theorem Hb (F:iM K "_law_comes" "_law_comes" sV f fd) (B:Bi mg) (aK:Ct P w K mg base k "_law_draw" ["_law_tape_here","_law_many"] fW) (eN:Ct P w K mg base k "_law_units" ["_law_tape_here"] ou):bJ P w K mg base gD (k+1) f fd ["_law_tape_here","_law_names_here"] Wd:=by
 refine F.ok vL (by rintro vs H Q E ⟨a,n,q,ns,rfl,_⟩; rfl) (fun cdv A outer s H vs Q E hr h=>?_)
 obtain⟨a,n,qa,ns,rfl,tp,hn,Vc,eq',hnd,hl5,q⟩:=h;have ND:=vL.nd;refine⟨_,(aq (tG (i:=2) (j:=3) rfl ND rfl rfl (by decide) rfl rfl (ao (dZ gC (pf aK hr (ao (pv 0) (ao aC ak))) aC (bf _)) (ao (bM ak) ak)) (by rfl)) (aq (gK PassesOwn.never rfl (bI (K:=K) rfl (pv 1)) (aH (i:=4) ND rfl (by walk_at "o")) (aF (cL (bh zO (pf aK hr (ao (pv 0) (ao aC ak))) aC (bf _)) (aq (aU (i:=5) ND rfl (by walk_at "o") (dI (dY (pv 2)) (pf eN hr (ao (pv 0) ak)) (pf aK hr (ao (pv 0) (ao aC ak))))) (aF (bC (d7 (K:=K) rfl PySem.F.plainAttrs_list PySem.F.slot_list_insert PySem.F.type_list_insert Hi (pv 3) (ao (pf aK hr (ao (pv 0) (ao (aQ bB (pb (cA (K:=K) rfl) B.len dM (ao (pv 3) ak)) aC) ak))) (ao (bc (ao (pv 4) (ao (pv 5) ak))) ak)))))) bH))) (aF (a_ (pv 3))))),?_⟩
 simp only[yZ 5];walk_at "rd";refine bZ.of tp (by omega) (by decide) (by decide) fun d H1 d0 d1 t1 x1=>?_
 walk_at "rd";refine⟨by decide,fun p H2 f2 s2 e2=>?_⟩
 have pa:=t1.ne f2;have f0:H p=none:=Zz x1 pa f2;generalize decide (d=0)=gr;refine⟨_,_,rfl,?_⟩;rw[qG];walk_at "rd";have eq2:=s2 _ _ (x1.get Vc eq');have pq:p≠qa:=fun z=>by rw[z,x1.get Vc eq'] at f2; cases f2
 refine LK.of eq2 (fun i σ H'=>∃(us:List V) (cs:List (Str×Int)) (o4 o5:Option V),σ=[some (V.ref a),some (V.ref qa),some (V.bl gr),some (V.ref p),o4,o5]/\cs.length<=i/\us.length=cs.length/\(cs.map (·.1)).Nodup/\(∀c∈cs,c.1∈ns.take i/\0<=c.2/\c.2<=1000000000000)/\H' p=some (.lst us)/\aj H' (cs.map Vt) us/\Tp H' a (n+1+6*i)/\SX a H H'/\H' qa=some (.lst (ns.map V.str)))
  ⟨[],[],_,_,rfl,bD _,rfl,by simp,by simp,e2,aj.nil,(t1.same s2).mono (by omega),x1.trans (SX.of s2),eq2⟩ (fun i σ H' _ ⟨_,_,_,_,_,_,_,_,_,_,_,_,_,z⟩=>z) ?_ ?_
 ·rintro i x σ H3 hx ⟨us,cs,o4,o5,rfl,li,lu,nd,ni,e3,a3,t3,x3,eq3⟩;rw[cT] at hx;cases en:ns[i]? with
  | none=>rw[en] at hx; cases hx
  | some nm=>
  rw[en] at hx;cases hx;have hi:i<ns.length:=(i_.mp en).1
  have nin:∀c∈cs,c.1≠nm:=fun c hc e=>by
   have h1:=(ni c hc).1;rw[e] at h1;obtain⟨j,hj⟩:=Ox h1;rw[List.getElem?_take] at hj;split at hj
   ·have:=En hnd hj en;omega
   ·cases hj
  have tk:∀c∈cs,c.1∈ns.take (i+1)/\0<=c.2/\c.2<=1000000000000:=fun c hc=>⟨by rw[cG en]; exact GJ _ (ni c hc).1,(ni c hc).2⟩
  walk_at "rd";refine bZ.of t3 (by omega) (by decide) (by decide) fun d4 H4 d40 d41 t4 x4=>?_
  have eq4:=x4.get Vc eq3;have e4:=x4.get pa e3;have a4:=aj.kp (Ao t3 x4) _ _ (vf _) a3;walk_at "rd";refine cR (fun _=>?_) (fun _=>⟨us,cs,_,_,rfl,by omega,lu,nd,tk,e4,a4,t4.mono (by omega),x3.trans x4,eq4⟩)
  refine mW.of (R:=fun σ H'=>∃c:Int,σ=[some (V.ref a),some (V.ref qa),some (V.bl gr),some (V.ref p),some (V.str nm),some (.int c)]/\(0<=c/\c<=1000000000000)/\Tp H' a (n+1+6*i+5)/\SX a H4 H') ?_ ?_
  ·rintro σ H5 ⟨c,rfl,hcb,t5,x5⟩;have e5:=x5.get pa e4;have eq5:=x5.get Vc eq4;have a5:=aj.kp (Ao t4 x5) _ _ (vf _) a4;walk_at "rd";refine⟨.inl ⟨rfl,_,b_.of e5⟩,⟨p,us,rfl,.inl (b_.of e5),?_⟩⟩;refine⟨_,_,rfl,rfl,?_⟩;refine bZ.of t5 (by omega) (by omega) (by omega) fun d6 H6 d60 d61 t6 x6=>⟨by decide,fun p7 H7 f7 s7 e7=>?_⟩
   have e6:=x6.get pa e5;have e7':=s7 _ _ e6;refine⟨p,us,d6,d6.toNat,.ref p7,rfl,rfl,by omega,e7',by omega,by omega,?_⟩
   have k8:cU H7 (upd H7 p (.lst (us.take d6.toNat++V.ref p7::us.drop d6.toNat))):=cU.putL e7';have k58:=(Ao t5 x6).trans (s7.kp.trans k8);have ap7:At (upd H7 p (.lst (us.take d6.toNat++V.ref p7::us.drop d6.toNat))) (Vt (nm,c)) (.ref p7):=At.tup (k8 _ _ e7) (aj.cons (At.str _) (aj.cons (At.int _) aj.nil));refine⟨_,cs.take d6.toNat++(nm,c)::cs.drop d6.toNat,_,_,rfl,?_,?_,?_,?_,aD,?_,?_,?_,?_⟩
   ·simp only[cB,j5,gw,uE]; omega
   ·simp only[cB,j5,gw,uE]; omega
   ·rw[gq,gZ,List.map_take,zE,pY];have tn:=List.take_append_drop d6.toNat (cs.map (·.1));rw[<- tn,pY] at nd;obtain⟨n1,n2,n3⟩:=nd;have nm1:nm∉cs.map (·.1):=fun z=>by obtain⟨c',hc',e⟩:=cO.mp z; exact nin c' hc' e
    refine⟨n1,iW.mpr ⟨fun z=>nm1 (KD z),n2⟩,fun u hu v hv=>?_⟩;rcases bF.mp hv with h | h
    ·exact fun e=>nm1 (by have:=wj hu; rw[e,h] at this; exact this)
    ·exact n3 u hu v h
   ·intro c' hc';rcases eQ.mp hc' with h | h
    ·exact tk c' (wj h)
    ·rcases bF.mp h with h | h
     ·rw[h,cG en]; exact⟨gJ _ (by simp),hcb⟩
     ·exact tk c' (KD h)
   ·rw[gq,gZ,List.map_take,zE];exact aj.ins ap7 _ (aj.kp k58 _ _ (vf _) a5)
   ·exact((t6.same s7).du pa).mono (by omega)
   ·exact(x3.trans (x4.trans (x5.trans (x6.trans (SX.of s7))))).du f0 pa
   ·rw[aL (Ne.symm pq)];exact s7 _ _ (x6.get Vc eq5)
  ·intro N hN;walk_at "rd";refine cR (fun _=>⟨a,_,rfl,t4,by omega,fun v H5 v0 v1 t5 x5=>hN _ _ ⟨v,rfl,by omega,t5.mono (by omega),x5⟩⟩) (fun _=>bZ.of t4 (by omega) (by decide) (by decide) fun v H5 v0 v1 t5 x5=>hN _ _ ⟨v,rfl,by omega,t5.mono (by omega),x5⟩)
 ·rintro σ H3 ⟨us,cs,o4,o5,rfl,li,lu,nd,ni,e3,a3,t3,x3,eq3⟩;walk_at "rd";rw[b7] at li ni t3;exact q p us cs H3 f0 pa e3 a3 ⟨nd,fun c hc=>wj (ni c hc).1,by omega,fun c hc=>(ni c hc).2⟩ (t3.mono (by omega)) x3
theorem XX {y:Yd} {cs:List (Str×Int)} (YO:fK y) (h:y.pa.length<500):fK (MF y cs):=by
 have R:=qN (cm:=uw y.ns cs) YO (bD _);have F:=gf y (uw y.ns cs) y.ns.length;have e:MF y cs={ (bW y (uw y.ns cs) y.ns.length).1 with pa:=y.pa++[yG y cs] }:=rfl
 rw[e];have l:=F.r;refine { R with pn:=by show(y.pa++[yG y cs]).length<=500; rw[cB]; simp; omega,pl:=fun r hr=>?_ }
 rcases eQ.mp hr with z | z
 ·exact YO.pl r z
 ·rw[dH.mp z];have:=YO.n5;show(bW y (uw y.ns cs) y.ns.length).2.2.length<=5;omega
theorem Jy {H:Hp} {ds:List PyData} {v:V} (h:At H (.list ds) v):∃a xs,v=.ref a/\H a=some (.lst xs)/\aj H ds xs:=by unfold At at h; exact h
def SD:Nat->PyData->Prop
 | 0,_=>False
 | n+1,d=>(∃i,d=.int i)\/d=.none\/(∃t,d=.str t/\PyData.canLay0 (.str t)=true)\/(∃ds,d=.tuple ds/\ds.length<=1000/\∀e∈ds,SD n e)\/∃ds,d=.list ds/\ds.length<=1000/\∀e∈ds,SD n e
theorem SD.int {n:Nat} (i:Int):SD (n+1) (.int i):=.inl ⟨i,rfl⟩
theorem SD.str {n:Nat} {t:Str} (h:PyData.canLay0 (.str t)=true):SD (n+1) (.str t):=.inr (.inr (.inl ⟨t,rfl,h⟩))
theorem SD.tup {n:Nat} {ds:List PyData} (h:ds.length<=1000) (ha:∀e∈ds,SD n e):SD (n+1) (.tuple ds):=.inr (.inr (.inr (.inl ⟨ds,rfl,h,ha⟩)))
theorem SD.lst {n:Nat} {ds:List PyData} (h:ds.length<=1000) (ha:∀e∈ds,SD n e):SD (n+1) (.list ds):=.inr (.inr (.inr (.inr ⟨ds,rfl,h,ha⟩)))
theorem SD.ints {n:Nat} {l:List Int} (h:l.length<=1000):SD (n+2) (.tuple (l.map .int)):=SD.tup (by rw[b7]; exact h) fun e he=>by obtain⟨i,_,rfl⟩:=cO.mp he; exact SD.int i
theorem SD.data:∀(n:Nat) (d:PyData),SD n d->PyData.hasDict d=false/\PyData.canLay0 d=true/\PyData.depth d<=n
 | 0,_,h=>h.elim
 | n+1,d,h=>by
  have all:∀ds:List PyData,(∀e∈ds,SD n e)->PyData.hasDictAll ds=false/\PyData.canLayAll0 ds=true/\PyData.depthAll ds<=n:=fun ds=>by
   induction ds with
   | nil=>exact fun _=>⟨rfl,rfl,gm _⟩
   | cons e r ih=>
    intro ha;obtain⟨h1,h2,h3⟩:=ih fun e he=>ha e (gk _ he);obtain⟨k1,k2,k3⟩:=SD.data n e (ha e cY);refine⟨?_,?_,?_⟩
    ·unfold PyData.hasDictAll; rw[k1,h1]; rfl
    ·unfold PyData.canLayAll0; rw[k2,h2]; rfl
    ·unfold PyData.depthAll; exact Nat.max_le.mpr ⟨k3,h3⟩
  rcases h with⟨i,rfl⟩ | rfl | ⟨t,rfl,hc⟩ | ⟨ds,rfl,hn,hds⟩ | ⟨ds,rfl,hn,hds⟩
  ·exact⟨rfl,rfl,gm _⟩
  ·exact⟨rfl,rfl,gm _⟩
  ·exact⟨rfl,hc,gm _⟩
  ·obtain⟨h1,h2,h3⟩:=all ds hds;exact⟨by unfold PyData.hasDict; exact h1,by unfold PyData.canLay0; exact h2,by unfold PyData.depth; omega⟩
  ·obtain⟨h1,h2,h3⟩:=all ds hds;exact⟨by unfold PyData.hasDict; exact h1,by unfold PyData.canLay0; exact h2,by unfold PyData.depth; omega⟩
def Kh (n:Nat):Sp:=fun vs H Q _=>∃(v u:V) (d:PyData),vs=[v,u]/\At H d v/\At H d u/\SD n d/\n<=60/\∀H',aM H H'->Q (.bl true) H'
theorem sy:aV ["_law_found","_law_due"] ["_law_found","_law_due"] (aG qM):=(by walk_at "c")
theorem G9 (F:iM K "_law_same" "_law_same" qM f fd):bJ P w K mg base gD (k+1) f fd ["_law_found","_law_due"] (Kh 0):=by
 refine F.ok sy (by rintro vs H Q E ⟨v,u,d,rfl,_⟩; rfl) (fun cdv A outer s H vs Q E hr h=>?_)
 obtain⟨v,u,d,rfl,_,_,h,_⟩:=h;exact h.elim
theorem qt {G:Hp}:∀{bs:List Bool} {xs:List V},aj G (bs.map PyData.bool) xs->xs=bs.map V.bl
 | [],xs,h=>by unfold aj at h; exact h
 | b::bs,xs,h=>by
  obtain⟨x,r,rfl,h1,h2⟩:=aj.aO (d:=PyData.bool b) (ds:=bs.map PyData.bool) h;unfold At at h1;rw[h1,qt h2]; rfl
theorem jb (n:Nat) (F:iM K "_law_same" "_law_same" qM f fd) (B:Bi mg) (jz:Ct P w K mg base k "_law_same" ["_law_found","_law_due"] (Kh n)):bJ P w K mg base gD (k+1) f fd ["_law_found","_law_due"] (Kh (n+1)):=by
 refine F.ok sy (by rintro vs H Q E ⟨v,u,d,rfl,_⟩; rfl) (fun cdv A outer s H vs Q E hr h=>?_)
 obtain⟨v,u,d,rfl,hv,hu,hd,ahf,q⟩:=h;have ND:=sy.nd;refine⟨_,(aq (cL (dY (pb Xm B.isinstance bL (ao (pv 1) (ao (bc (ao (pty (by rfl) B.list gY) (ao (pty (by rfl) B.tuple gW) ak))) ak)))) (aq (cL (PW.pt (qU (bh wF (pb JK B.isinstance bL (ao (pv 0) (ao (pty (by rfl) B.list gY) ak))) (pb JK B.isinstance bL (ao (pv 1) (ao (pty (by rfl) B.list gY) ak))) (bf _)) (lH (bh wF (pb JH B.isinstance bL (ao (pv 0) (ao (pty (by rfl) B.tuple gW) ak))) (pb JH B.isinstance bL (ao (pv 1) (ao (pty (by rfl) B.tuple gW) ak))) (bf _))))) (aF (a_ pI)) bH) (aF (a_ (wC (dZ gC (pb (cA (K:=K) rfl) B.len dM (ao (pv 0) ak)) (pb (cA (K:=K) rfl) B.len dM (ao (pv 1) ak)) (bf _)) (GR (pb (k_ rfl) B.all xN (ao (jm (nt:=2) (N':=["_law_one","_law_other"]) (js:=[]) rfl (R7 (K:=K) rfl B.zip (ao (pv 0) (ao (pv 1) ak))) oZ.of (fun fp s' H'=>(bT (K:=K) (n:=2) rfl rfl (aJ (aH (i:=0) (by show List.Nodup (["_law_one","_law_other"]:List Str); decide) rfl (.inl (gA rfl)) (.inr (gA rfl))) (aJ (aH (i:=1) (by show List.Nodup (["_law_one","_law_other"]:List Str); decide) rfl (.inl (gA rfl)) (.inr (gA rfl))) bR)))) (fun fp s' H'=>gO) (fun fp s' H'=>(pf jz hr (ao (pv 0) (ao (pv 1) ak))))) ak))))))) bH) (aq (cL (PW.pt (qU (bh wH (pv 1) fZ (bf _)) (lH (dY (pb u_ B.isinstance bL (ao (pv 1) (ao (pty (by rfl) B.str jC) ak))))))) (aF (a_ (wC (dZ gC (dZ wH (pv 0) fZ (bf _)) (dZ wH (pv 1) fZ (bf _)) (bf _)) (wC (dZ gC (pb u_ B.isinstance bL (ao (pv 0) (ao (pty (by rfl) B.str jC) ak))) (pb u_ B.isinstance bL (ao (pv 1) (ao (pty (by rfl) B.str jC) ak))) (bf _)) (GR (dZ (Pg hr.units) (pv 0) (pv 1) (bf _))))))) bH) (aF (a_ (wC (pb Tn B.isinstance bL (ao (pv 0) (ao (pty (by rfl) B.int HY) ak))) (wC (Wy (pb Qg B.isinstance bL (ao (pv 0) (ao (pty (by rfl) B.bool Ub) ak)))) (GR (dZ (Pg hr.units) (pv 0) (pv 1) (bf _))))))))),?_⟩
 walk_at "rd";refine⟨(by decide),fun pt H1 f1 s1 e1=>?_⟩
 refine⟨_,d,pt,rfl,hu.mono s1,e1,?_⟩;have hv1:=hv.mono s1;have hu1:=hu.mono s1;obtain⟨D1,D2,D3⟩:=SD.data _ _ hd;rcases hd with⟨i,rfl⟩ | rfl | ⟨t,rfl,hc⟩ | ⟨ds,rfl,hn,hds⟩ | ⟨ds,rfl,hn,hds⟩
 ·have eu:u=.int i:=by unfold At at hu; exact hu
  subst eu;rw[aX (by exact fun z=>by cases z)]
  refine⟨trivial,?_⟩;rw[aX (by rw[decide_eq_true_eq]; exact fun z=>by cases z)]
  refine FP.of hu1 ⟨_,rfl,?_⟩;rw[aX (by exact fun z=>by cases z)]
  refine FP.of hv1 ⟨_,rfl,?_⟩;rw[bx (by rfl)]
  refine FP.of hv1 ⟨_,rfl,?_⟩;rw[bx (by rfl)]
  refine⟨_,_,hv1,hu1,rfl,rfl,rfl,rfl,by show 0<=60; decide,?_⟩
  rw[SeqAt.eqv_refl _ D2];exact q H1 s1
 ·have eu:u=.non:=by unfold At at hu; exact hu
  have ev:v=.non:=by unfold At at hv; exact hv
  subst eu ev;rw[aX (by exact fun z=>by cases z)]
  refine⟨trivial,?_⟩;rw[bx (by rw[decide_eq_true_eq])]
  refine⟨trivial,trivial,rfl,_,rfl,?_⟩;rw[bx (by rw[decide_eq_true_eq])]
  refine FP.of hv1 (FP.of hu1 ⟨rfl,_,rfl,?_⟩);rw[bx (by rw[decide_eq_true_eq])]
  refine⟨_,_,hv1,hu1,D1,D1,D2,D2,by omega,?_⟩
  rw[SeqAt.eqv_refl _ D2];exact q H1 s1
 ·have eu:u=.str t:=by unfold At at hu; exact hu
  have ev:v=.str t:=by unfold At at hv; exact hv
  subst eu ev;rw[aX (by exact fun z=>by cases z)]
  refine⟨trivial,?_⟩;rw[aX (by rw[decide_eq_true_eq]; exact fun z=>by cases z)]
  refine FP.of hu1 ⟨_,rfl,?_⟩;rw[bx (by rfl)]
  refine⟨trivial,trivial,rfl,_,rfl,?_⟩;rw[bx (by rw[decide_eq_true_eq])]
  refine FP.of hv1 (FP.of hu1 ⟨rfl,_,rfl,?_⟩);rw[bx (by rw[decide_eq_true_eq])]
  refine⟨_,_,hv1,hu1,D1,D1,D2,D2,by omega,?_⟩
  rw[SeqAt.eqv_refl _ D2];exact q H1 s1
 ·rw[bx (by rfl)]
  refine FP.of hv1 (FP.of hu1 ⟨rfl,_,rfl,?_⟩);rw[aX (by show ¬((!decide (V.bl false=V.bl false))=true); decide)]
  refine FP.of hv1 (FP.of hu1 ⟨rfl,_,rfl,?_⟩);rw[aX (by show ¬((!decide (V.bl true=V.bl true))=true); decide)]
  obtain⟨a,xs,rfl,ha,hxs⟩:=bw hv1;obtain⟨b,ys,rfl,hb,hys⟩:=bw hu1;have lx:xs.length=ds.length:=hxs.length;have ly:ys.length=ds.length:=hys.length;refine⟨a,xs,rfl,.inr (e_.of ha),b,ys,rfl,.inr (e_.of hb),?_⟩;rw[lx,ly];refine⟨rfl,_,rfl,?_⟩;rw[bx (by rw[decide_eq_true_eq])]
  rw[yU];refine .inl ?_;refine L_ (es:=(ds.map fun _=>true).map PyData.bool) (fun R hR=>?_) ha hb (by simp; omega) (by simp; omega) (by simp only[b7]; exact mF (aP (by omega))) (bu.mpr fun d hd=>by obtain⟨z,_,rfl⟩:=cO.mp hd; rfl) (fun j x y e H' hx hy he s' R hR=>?_) (fun acc zs H' s' hacc hl hA=>?_)
  ·walk_at "rd"; exact hR
  ·obtain⟨d1,e1,a1⟩:=hxs.get hx;obtain⟨d2,e2,a2⟩:=hys.get hy;rw[e1] at e2;cases e2;rw[cT,cT,e1] at he;cases he;walk_at "rd";exact⟨x,y,d1,rfl,a1.mono s',a2.mono s',hds _ (dz e1),by omega,fun cQ s''=>hR _ _ s'' (At.bool _)⟩
  ·cases qt hA;refine⟨acc,_,rfl,hl,?_⟩;rw[show(ds.map fun _=>true).all id=true by simp]
   exact q H' (s1.trans s')
 ·rw[bx (by rfl)]
  refine FP.of hv1 (FP.of hu1 ⟨rfl,_,rfl,?_⟩);rw[aX (by show ¬((!decide (V.bl true=V.bl true))=true); decide)]
  refine FP.of hv1 (FP.of hu1 ⟨rfl,_,rfl,?_⟩);rw[aX (by show ¬((!decide (V.bl false=V.bl false))=true); decide)]
  obtain⟨a,xs,rfl,ha,hxs⟩:=Jy hv1;obtain⟨b,ys,rfl,hb,hys⟩:=Jy hu1;have lx:xs.length=ds.length:=hxs.length;have ly:ys.length=ds.length:=hys.length;refine⟨a,xs,rfl,.inl (b_.of ha),b,ys,rfl,.inl (b_.of hb),?_⟩;rw[lx,ly];refine⟨rfl,_,rfl,?_⟩;rw[bx (by rw[decide_eq_true_eq])]
  rw[yU];refine .inr ?_;refine Ma (es:=(ds.map fun _=>true).map PyData.bool) (fun R hR=>?_) ha hb (by simp; omega) (by simp; omega) (by simp only[b7]; exact mF (aP (by omega))) (bu.mpr fun d hd=>by obtain⟨z,_,rfl⟩:=cO.mp hd; rfl) (fun j x y e H' hx hy he s' R hR=>?_) (fun acc zs H' s' hacc hl hA=>?_)
  ·walk_at "rd"; exact hR
  ·obtain⟨d1,e1,a1⟩:=hxs.get hx;obtain⟨d2,e2,a2⟩:=hys.get hy;rw[e1] at e2;cases e2;rw[cT,cT,e1] at he;cases he;walk_at "rd";exact⟨x,y,d1,rfl,a1.mono s',a2.mono s',hds _ (dz e1),by omega,fun cQ s''=>hR _ _ s'' (At.bool _)⟩
  ·cases qt hA;refine⟨acc,_,rfl,hl,?_⟩;rw[show(ds.map fun _=>true).all id=true by simp]
   exact q H' (s1.trans s')
theorem NB {l:List Nat} (h:∀c∈l,c<128):PyData.strOk (tx l)=true:=by
 show l.toArray.all (· < 0x110000)=true;simp only[List.all_toArray,j4,decide_eq_true_eq];intro c hc;have:=h c hc;omega
theorem SD.mono:∀{n m:Nat} {d:PyData},SD n d->n<=m->SD m d
 | 0,_,_,h,_=>h.elim
 | n+1,0,_,_,l=>by omega
 | n+1,m+1,d,h,l=>by
  rcases h with h | h | h | ⟨ds,rfl,l1,h⟩ | ⟨ds,rfl,l1,h⟩
  ·exact .inl h
  ·exact .inr (.inl h)
  ·exact .inr (.inr (.inl h))
  ·exact SD.tup l1 fun e he=>SD.mono (h e he) (by omega)
  ·exact SD.lst l1 fun e he=>SD.mono (h e he) (by omega)
theorem fK.str {y:Yd} (h:fK y) {n:Str} (hn:n∈y.ns):PyData.strOk n=true:=by
 obtain⟨cs,rfl,hc⟩:=h.ng n hn;exact NB fun c hc'=>by have:=(hc.g c hc').2; omega
theorem O4 {H:Hp} {x:g_} {v:V} (h:At H (eV x) v):∃a b c d,v=.ref a/\H a=some (.tup [.int x.p,.int x.m,.ref b,.int x.a,.int x.e,.ref c,.ref d])/\H b=some (.tup [.int x.lo,.int x.hi])/\At H (.tuple [.int x.u,.int x.d]) (.ref c)/\At H (vW x.dR) (.ref d):=by
 obtain⟨a,xs,rfl,h1,h2⟩:=bw h;obtain⟨x0,_,rfl,b0,h2⟩:=aj.aO h2;obtain⟨x1,_,rfl,b1,h2⟩:=aj.aO h2;obtain⟨x2,_,rfl,b2,h2⟩:=aj.aO h2;obtain⟨x3,_,rfl,b3,h2⟩:=aj.aO h2;obtain⟨x4,_,rfl,b4,h2⟩:=aj.aO h2;obtain⟨x5,_,rfl,b5,h2⟩:=aj.aO h2;obtain⟨x6,_,rfl,b6,h2⟩:=aj.aO h2;cases aj.h_ h2;unfold At at b0 b1 b3 b4;subst b0 b1 b3 b4;obtain⟨b,ys,rfl,g1,g2⟩:=bw b2;obtain⟨c,zs,rfl,_,_⟩:=bw b5;obtain⟨d,ws,rfl,_,_⟩:=bw b6;obtain⟨y0,_,rfl,k0,g2⟩:=aj.aO g2;obtain⟨y1,_,rfl,k1,g2⟩:=aj.aO g2;cases aj.h_ g2;unfold At at k0 k1;subst k0 k1;exact⟨a,b,c,d,rfl,h1,g1,b5,b6⟩
def Uj (ns:List Str) (op:Yd->Yd):Prop:=op=(fun y=>y)\/(∃(i:Nat) (x:g_),i<ns.length/\C_ x/\x.lo=0/\op=fun y=>{ y with ps:=y.ps.set i x })\/∃(i:Nat) (o:Option Str),i<ns.length/\(∀z,o=some z->z∈ns.drop (i+1))/\op=fun y=>{ y with os:=y.os.set i o }
structure aaZ (C:Addr) (H:Hp) (zs:List (Ya×Yd)):Prop where
 at_:∀z∈zs,bA C H z.1 z.2
 dj:∀(i j:Nat) (z z':Ya×Yd),zs[i]?=some z->zs[j]?=some z'->i≠j->∀c∈z.1.own,c∉z'.1.own
def aac (zs:List (Ya×Yd)):List Addr:=zs.flatMap fun z=>[z.1.dp,z.1.dn]
theorem Oh {ps:List g_} {i:Nat} {x:g_} (h0:x.lo=0) (hp:∀z∈ps,C_ z):((ps.set i x).map g_.lo).sum<=(ps.map g_.lo).sum:=by
 induction ps generalizing i with
 | nil=>simp
 | cons p ps ih=>
  have hp':=hp p (cY ..);have:=hp'.lo;cases i with
  | zero=>simp only[List.set_cons_zero,gZ,qP]; omega
  | succ i=>
   have:=ih (i:=i) fun z hz=>hp z (gk _ hz);simp only[List.set_cons_succ,gZ,qP];omega
theorem Uj.ok {ns:List Str} {op:Yd->Yd} (h:Uj ns op) {y:Yd} (YO:fK y) (e:y.ns=ns):fK (op y)/\(op y).ns=ns/\(op y).ss=y.ss/\(op y).ts=y.ts/\(op y).pa=y.pa/\(op y).tot=y.tot:=by
 subst e;rcases h with rfl | ⟨i,x,hi,hx,h0,rfl⟩ | ⟨i,o,hi,ho,rfl⟩
 ·exact⟨YO,rfl,rfl,rfl,rfl,rfl⟩
 ·refine⟨{ YO with lp:=by show(y.ps.set i x).length=_; rw[Ku]; exact YO.lp,pg:=fun z hz=>?_,lm:=?_ },rfl,rfl,rfl,rfl,rfl⟩
  ·rcases KJ hz with h | h
   ·exact YO.pg z h
   ·rw[h]; exact hx
  ·have:=Oh (i:=i) h0 YO.pg;have:=YO.lm;show((y.ps.set i x).map g_.lo).sum<=y.tot;omega
 ·refine⟨{ YO with lo:=by show(y.os.set i o).length=_; rw[Ku]; exact YO.lo,og:=fun j z hz=>?_ },rfl,rfl,rfl,rfl,rfl⟩
  replace hz:(y.os.set i o)[j]?=some (some z):=hz
  rw[List.getElem?_set] at hz;split at hz
  ·rename_i e;subst e;split at hz
   ·exact ho z (Option.some.inj hz)
   ·cases hz
  ·exact YO.og j z hz
structure T0 (ts0:List (List Int)) (m:Nat):Prop where
 l:ts0.length=m
 g:∀t∈ts0,t.length=3
theorem aaY {y:Yd} {cs:List (Str×Int)}:(MF y cs).ns=y.ns:=(gf y (uw y.ns cs) y.ns.length).n
theorem aaX {y:Yd} {cs:List (Str×Int)}:(MF y cs).pa=y.pa++[yG y cs]:=rfl
theorem U_ {y:Yd} {cm:List Int}:∀i,i<=y.ns.length->∀r∈(bW y cm i).2.2,r.n∈y.ns
 | 0,_,r,hr=>by simp[bW] at hr
 | i+1,h,r,hr=>by
  have e':bW y cm (i+1)=tX (bW y cm i) i:=rfl;rw[e'] at hr;unfold tX at hr;dsimp only at hr;rcases eQ.mp hr with z | z
  ·exact U_ i (Jh h) r z
  ·rw[dH.mp z];unfold xP;dsimp only;rw[(gf y cm i).n,jD,eF (show i<y.ns.length by omega)]
   exact oO _
theorem adY {y:Yd} {cs:List (Str×Int)}:∀r∈yG y cs,r.n∈y.ns:=U_ _ (bD _)
def qe (rs:List Rw):PyData:=.list (rs.map uX)
theorem bO.QW {H:Hp}:∀{ls:List Addr} {rs:List (List Rw)},bO H ls rs->aj H (rs.map qe) (ls.map V.ref)
 | [],[],_=>aj.nil
 | l::ls,r::rs,h=>by
  obtain⟨⟨xs,e,a⟩,h2⟩:=h;exact aj.cons (by unfold qe At; exact⟨l,xs,rfl,e,a⟩) (bO.QW h2)
 | [],_::_,h=>h.elim
 | _::_,[],h=>h.elim
theorem uz {a b:TS} {D:Ends} {σ:St} {H:Hp} (R:St->Hp->Prop) (hR:∀σ' H',R σ' H'->b D σ' H') (h:∀N:St->Hp->Prop,(∀σ' H',R σ' H'->N σ' H')->a { D with nx:=N } σ H):uy a b D σ H:=h _ hR
structure WD (C a:Addr) (H0:Hp) (m:Nat) (zs:List (Ya×Yd)) (ls:List (Addr×List V)) (H':Hp):Prop where
 ys:aaZ C H' zs
 yo:∀z∈zs,fK z.2
 fo:∀z∈zs,∀c∈z.1.own,H0 c=none/\c≠a/\∀l∈ls,c≠l.1
 lo:∀l∈ls,H0 l.1=none/\l.1≠a/\H' l.1=some (.lst l.2)
 tp:Tp H' a m
 sx:SX a H0 H'
section
variable {C a:Addr} {H0 H' cQ:Hp} {m m':Nat} {zs:List (Ya×Yd)} {ls:List (Addr×List V)}
theorem WD.oK (W:WD C a H0 m zs ls H') (x:SX a H' cQ) (t:Tp cQ a m'):WD C a H0 m' zs ls cQ:=
 ⟨⟨fun z hz=>(W.ys.at_ z hz).keep (Ao W.tp x) fun b hb o e=>x.get (W.fo z hz b hb).2.1 e,W.ys.dj⟩,W.yo,W.fo,fun l hl=>⟨(W.lo l hl).1,(W.lo l hl).2.1,x.get (W.lo l hl).2.1 (W.lo l hl).2.2⟩,t,W.sx.trans x⟩
theorem WD.grow (W:WD C a H0 m zs ls H') (s:aM H' cQ):WD C a H0 m zs ls cQ:=W.oK (SX.of s) (W.tp.same s)
theorem WD.free (W:WD C a H0 m zs ls H') {b:Addr} (e:H' b=none):H0 b=none/\b≠a/\(∀l∈ls,b≠l.1)/\∀z∈zs,b∉z.1.own:=by
 have ba:=W.tp.ne e;refine⟨Zz W.sx ba e,ba,fun l hl z=>?_,fun z hz hb=>?_⟩
 ·rw[z,(W.lo l hl).2.2] at e; cases e
 ·obtain⟨o,eo,_⟩:=(W.ys.at_ z hz).al b hb;rw[eo] at e; cases e
theorem WD.mem (W:WD C a H0 m zs ls H') {b:Addr} {vs:List V} (f:H0 b=none) (ba:b≠a) (o:∀z∈zs,b∉z.1.own) (e:H' b=some (.lst vs)):WD C a H0 m zs ((b,vs)::ls) H':=
 ⟨W.ys,W.yo,fun z hz c hc=>⟨(W.fo z hz c hc).1,(W.fo z hz c hc).2.1,fun l hl=>by
  rcases bF.mp hl with h | h
  ·rw[h]; intro e'; exact o z hz (show b∈z.1.own from(show c=b from e')▸hc)
  ·exact(W.fo z hz c hc).2.2 l h⟩,fun l hl=>by
  rcases bF.mp hl with h | h
  ·rw[h]; exact⟨f,ba,e⟩
  ·exact W.lo l h,W.tp,W.sx⟩
theorem WD.new (W:WD C a H0 m zs ls H') {b:Addr} {vs:List V} (e0:H' b=none) (s:aM H' cQ) (e:cQ b=some (.lst vs)):WD C a H0 m zs ((b,vs)::ls) cQ:=by
 obtain⟨f1,f2,_,f4⟩:=W.free e0;exact(W.grow s).mem f1 f2 f4 e
theorem WD.aao (W:WD C a H0 m zs ls H') {b:Addr} {vs:List V} (e0:H' b=none) (x:SX a H' cQ) (t:Tp cQ a m') (e:cQ b=some (.lst vs)):WD C a H0 m' zs ((b,vs)::ls) cQ:=by
 obtain⟨f1,f2,_,f4⟩:=W.free e0;exact(W.oK x t).mem f1 f2 f4 e
theorem WD.less (W:WD C a H0 m zs ls H') {ls':List (Addr×List V)} (h:∀l∈ls',l∈ls):WD C a H0 m zs ls' H':=⟨W.ys,W.yo,fun z hz c hc=>⟨(W.fo z hz c hc).1,(W.fo z hz c hc).2.1,fun l hl=>(W.fo z hz c hc).2.2 l (h l hl)⟩,fun l hl=>W.lo l (h l hl),W.tp,W.sx⟩
theorem WD.kp (W:WD C a H0 m zs ls H') {S:List Addr} (f:Fr S H' cQ) (hS:∀b∈S,b=a\/∃z∈zs,b∈z.1.own):cU H' cQ:=f.kp fun b hb xs e=>by
 rcases hS b hb with h | ⟨z,hz,h⟩
 ·rw[h] at e; exact W.tp.neT e rfl
 ·obtain⟨o,eo,no⟩:=(W.ys.at_ z hz).al b h;rw[eo] at e; cases e; exact no _ rfl
theorem WD.VN (W:WD C a H0 m zs ls H') {i:Nat} {A A':Ya} {y y':Yd} {S:List Addr} (hi:zs[i]?=some (A,y)) (new:bA C cQ A' y') (YO:fK y') (f:Fr S H' cQ) (hS:∀b∈S,b∈A.own) (hA:∀c∈A'.own,c∈A.own\/H' c=none):WD C a H0 m (zs.set i (A',y')) ls cQ:=by
 have hz:=dz hi;have hl:i<zs.length:=(i_.mp hi).1;have kp:cU H' cQ:=W.kp f fun b hb=>.inr ⟨_,hz,hS b hb⟩
 have get:∀(j:Nat) z,(zs.set i (A',y'))[j]?=some z->(j=i/\z=(A',y'))\/(j≠i/\zs[j]?=some z):=fun j z h=>by
  rw[List.getElem?_set] at h;split at h
  ·rename_i e;cases h;exact .inl ⟨e.symm,rfl⟩
  ·rename_i e;exact .inr ⟨Ne.symm e,h⟩
 have nw:∀c∈A'.own,H0 c=none/\c≠a/\(∀l∈ls,c≠l.1)/\∀j z,j≠i->zs[j]?=some z->c∉z.1.own:=fun c hc=>by
  rcases hA c hc with h | h
  ·obtain⟨f1,f2,f3⟩:=W.fo _ hz c h;exact⟨f1,f2,f3,fun j z hj ej=>W.ys.dj i j _ z hi ej (Ne.symm hj) c h⟩
  ·obtain⟨f1,f2,f3,f4⟩:=W.free h;exact⟨f1,f2,f3,fun j z _ ej=>f4 z (dz ej)⟩
 refine⟨⟨fun z hz'=>?_,fun j k z z' h1 h2 ne c hc=>?_⟩,fun z hz'=>?_,fun z hz' c hc=>?_,fun l hl'=>⟨(W.lo l hl').1,(W.lo l hl').2.1,f _ _ (W.lo l hl').2.2 fun h=>(W.fo _ hz _ (hS _ h)).2.2 l hl' rfl⟩,?_,?_⟩
 ·obtain⟨j,hj⟩:=Ox hz';rcases get j z hj with⟨_,rfl⟩ | ⟨ne,e⟩
  ·exact new
  ·exact(W.ys.at_ z (dz e)).off f kp fun b hb hbS=>W.ys.dj j i z _ e hi ne b hb (hS b hbS)
 ·rcases get j z h1 with⟨e1,rfl⟩ | ⟨n1,e1⟩
  ·rcases get k z' h2 with⟨e2,rfl⟩ | ⟨n2,e2⟩
   ·omega
   ·exact(nw c hc).2.2.2 k z' n2 e2
  ·rcases get k z' h2 with⟨e2,rfl⟩ | ⟨n2,e2⟩
   ·exact fun h=>(nw c h).2.2.2 j z n1 e1 hc
   ·exact W.ys.dj j k z z' e1 e2 ne c hc
 ·obtain⟨j,hj⟩:=Ox hz';rcases get j z hj with⟨_,rfl⟩ | ⟨ne,e⟩
  ·exact YO
  ·exact W.yo z (dz e)
 ·obtain⟨j,hj⟩:=Ox hz';rcases get j z hj with⟨_,rfl⟩ | ⟨ne,e⟩
  ·exact⟨(nw c hc).1,(nw c hc).2.1,(nw c hc).2.2.1⟩
  ·exact W.fo z (dz e) c hc
 ·obtain⟨u1,u2,u3,eu,r⟩:=W.tp;exact⟨u1,u2,u3,f _ _ eu fun h=>(W.fo _ hz _ (hS _ h)).2.1 rfl,r⟩
 ·intro b o e;obtain⟨b1,b2⟩:=iI e;rw[cJ b1]
  exact f _ _ (W.sx.get b1 b2) fun h=>by
   have:=(W.fo _ hz _ (hS _ h)).1;rw[b2] at this; cases this
theorem WD.made (W:WD C a H0 m zs ls H') {A:Ya} {y:Yd} (new:bA C cQ A y) (YO:fK y) (s:aM H' cQ) (hA:∀c∈A.own,H' c=none):WD C a H0 m (zs++[(A,y)]) ls cQ:=by
 have W2:=W.grow s;have nw:∀c∈A.own,H0 c=none/\c≠a/\(∀l∈ls,c≠l.1)/\∀z∈zs,c∉z.1.own:=fun c hc=>W.free (hA c hc);refine⟨⟨fun z hz=>?_,fun j k z z' h1 h2 ne c hc=>?_⟩,fun z hz=>?_,fun z hz c hc=>?_,W2.lo,W2.tp,W2.sx⟩
 ·rcases eQ.mp hz with h | h
  ·exact W2.ys.at_ z h
  ·rw[dH.mp h]; exact new
 ·have get:∀(j:Nat) z,(zs++[(A,y)])[j]?=some z->(j<zs.length/\zs[j]?=some z)\/(j=zs.length/\z=(A,y)):=fun j z h=>by
   by_cases hj:j<zs.length
   ·rw[DK hj] at h; exact .inl ⟨hj,h⟩
   ·rw[xV (by omega)] at h
    have:j-zs.length=0:=by
     cases e:j-zs.length with
     | zero=>rfl
     | succ e'=>rw[e] at h; simp at h
    rw[this] at h;cases h;exact .inr ⟨by omega,rfl⟩
  rcases get j z h1 with⟨l1,e1⟩ | ⟨l1,rfl⟩
  ·rcases get k z' h2 with⟨l2,e2⟩ | ⟨l2,rfl⟩
   ·exact W2.ys.dj j k z z' e1 e2 ne c hc
   ·exact fun h=>(nw c h).2.2.2 z (dz e1) hc
  ·rcases get k z' h2 with⟨l2,e2⟩ | ⟨l2,rfl⟩
   ·exact(nw c hc).2.2.2 z' (dz e2)
   ·omega
 ·rcases eQ.mp hz with h | h
  ·exact W.yo z h
  ·rw[dH.mp h]; exact YO
 ·rcases eQ.mp hz with h | h
  ·exact W.fo z h c hc
  ·rw[dH.mp h] at hc;exact⟨(nw c hc).1,(nw c hc).2.1,(nw c hc).2.2.1⟩
theorem WD.put (W:WD C a H0 m zs ls H') {b:Addr} {vs vs':List V} (h:(b,vs)∈ls):WD C a H0 m zs ((b,vs')::ls.filter fun l=>l.1≠b) (upd H' b (.lst vs'))/\cU H' (upd H' b (.lst vs')):=by
 obtain⟨h1,h2,h3⟩:=W.lo _ h;have kp:cU H' (upd H' b (.lst vs')):=cU.putL h3;have ob:∀z∈zs,∀c∈z.1.own,c≠b:=fun z hz c hc=>(W.fo z hz c hc).2.2 _ h;refine⟨⟨⟨fun z hz=>(W.ys.at_ z hz).keep kp fun c hc o e=>by rw[aL (ob z hz c hc)]; exact e,W.ys.dj⟩,W.yo,fun z hz c hc=>⟨(W.fo z hz c hc).1,(W.fo z hz c hc).2.1,fun l hl=>?_⟩,fun l hl=>?_,W.tp.du h2,W.sx.du h1 h2⟩,kp⟩
 ·rcases bF.mp hl with e | e
  ·rw[e]; exact ob z hz c hc
  ·exact(W.fo z hz c hc).2.2 l (mG.mp e).1
 ·rcases bF.mp hl with e | e
  ·rw[e]; exact⟨h1,h2,aD⟩
  ·obtain⟨e1,e2⟩:=mG.mp e;have e2':l.1≠b:=by simpa using e2
   obtain⟨g1,g2,g3⟩:=W.lo l e1;exact⟨g1,g2,by rw[aL e2']; exact g3⟩
theorem WD.opd (W:WD C a H0 m zs ls H') {op:Yd->Yd} (Y:aaZ C cQ (zs.map fun z=>(z.1,op z.2))) (YO:∀z∈zs,fK (op z.2)) (t:Tp cQ a m') (f:Fr (a::aac zs) H' cQ):WD C a H0 m' (zs.map fun z=>(z.1,op z.2)) ls cQ/\cU H' cQ:=by
 have Ra:∀b∈aac zs,∃z∈zs,b∈z.1.own:=fun b hb=>by
  obtain⟨w,hw,hb'⟩:=List.mem_flatMap.mp hb;refine⟨w,hw,?_⟩;unfold Ya.own;simp only[bF,dU,or_false] at hb';rcases hb' with rfl | rfl <;> simp
 refine⟨⟨Y,fun z hz=>?_,fun z hz c hc=>?_,fun l hl=>⟨(W.lo l hl).1,(W.lo l hl).2.1,f _ _ (W.lo l hl).2.2 fun h=>?_⟩,t,fun b o e=>?_⟩,W.kp f fun b hb=>?_⟩
 ·obtain⟨z0,h0,rfl⟩:=cO.mp hz;exact YO z0 h0
 ·obtain⟨z0,h0,rfl⟩:=cO.mp hz;exact W.fo z0 h0 c hc
 ·rcases bF.mp h with h | h
  ·exact(W.lo l hl).2.1 h
  ·obtain⟨z,hz,hb⟩:=Ra _ h;exact(W.fo z hz _ hb).2.2 l hl rfl
 ·obtain⟨b1,b2⟩:=iI e;rw[cJ b1];refine f _ _ (W.sx.get b1 b2) fun h=>?_;rcases bF.mp h with h | h
  ·exact b1 h
  ·obtain⟨z,hz,hb⟩:=Ra _ h;have:=(W.fo z hz _ hb).1;rw[b2] at this; cases this
 ·rcases bF.mp hb with h | h
  ·exact .inl h
  ·exact .inr (Ra b h)
theorem aas {t:Int} {ts:List T3} {ss:List iR} (T:Mt t ts) (hp:∀x∈ts,C_ x.2.1) (hl:ss.length=ts.length) (hS:∀z∈ss,FN z) (hh:hands ss<=t):fK (ye t ts ss):=by
 refine⟨T.nn,by show 1<=(ts.map _).length; rw[b7]; exact T.n1,by show(ts.map _).length<=5; rw[b7]; exact T.n5,by show(ts.map _).length=(ts.map _).length; rw[b7,b7],by show(ts.map _).length=(ts.map _).length; rw[b7,b7],by show ss.length=(ts.map _).length; rw[b7]; exact hl,by show(ts.map _).length=(ts.map _).length; rw[b7,b7],?_,?_,?_,hS,?_,hh,T.lm,by show 0<=500; decide,fun r hr=>by simp[ye] at hr⟩
 ·intro n hn;obtain⟨x,hx,rfl⟩:=cO.mp hn;exact T.ng x hx
 ·intro x hx;obtain⟨z,hz,rfl⟩:=cO.mp hx;exact hp z hz
 ·intro i z hz
  replace hz:(ts.map (·.2.2))[i]?=some (some z):=hz
  rw[cT] at hz;cases e:ts[i]? with
  | none=>rw[e] at hz; cases hz
  | some x=>
   rw[e] at hz;exact T.og i x z e (Option.some.inj hz)
 ·intro u hu;obtain⟨_,_,rfl⟩:=cO.mp hu;rfl
theorem Td (W:WD C a H0 m zs ls H') {t:Int} {p:Addr} {ys:List V} {ts:List T3} {sv:V} {ss:List iR} {P:Addr->Hp->Prop} {E:XK} (hp:H' p=some (.lst ys)) (ha:aj H' (ts.map Dk) ys) (T:Mt t ts) (hps:∀x∈ts,C_ x.2.1) (hsv:(sv=.non/\ss=ts.map fun x=>jw x.2.1)\/∃l jG,sv=.ref l/\H' l=some (.lst jG)/\aj H' (ss.map vA) jG) (hl:ss.length=ts.length) (hS:∀z∈ss,FN z) (hh:hands ss<=t)
  (q:∀A H2,aM H' H2->WD C a H0 m (zs++[(A,ye t ts ss)]) ls H2->P A.p H2):∀y2 Vr,H' y2=none->H' Vr=none->Vr≠y2->Gp C [.ref y2,.int t,.ref p,sv] (upd (upd H' Vr (.own y2)) y2 (.ins C Vr [])) (fun v H2=>v=.non/\P y2 H2) E:=by
 intro y2 Vr fy fdx ne;have s3:aM H' (upd (upd H' Vr (.own y2)) y2 (.ins C Vr [])):=(aN fdx _).trans (aN (by rw[aL ne.symm]; exact fy) _)
 refine⟨y2,Vr,t,p,ys,ts,sv,ss,rfl,aD,s3 _ _ hp,ha.mono s3,T,hps,?_,hl,hS,hh,fun A HC eA YC _ ab4 frC=>⟨rfl,?_⟩⟩
 ·rcases hsv with h | ⟨l,jG,h1,h2,h3⟩
  ·exact .inl h
  ·exact .inr ⟨l,jG,h1,s3 _ _ h2,h3.mono s3⟩
 ·subst eA;have sC:aM H' HC:=fun c o e=>frC _ _ (s3 _ _ e) (by simp; intro z'; rw[z',fy] at e; cases e)
  refine q A HC sC (W.made YC (aas T hps hl hS hh) sC fun c hc=>?_);rcases ab4 c hc with e | e
  ·rw[e]; exact fy
  ·cases q':H' c with
   | none=>rfl
   | some o=>rw[s3 _ _ q'] at e; cases e
theorem WD.X4 (W:WD C a H0 m zs ls H') {i:Nat} {A:Ya} {y:Yd} {lc:Addr} {us:List V} {cs:List (Str×Int)} {Q:VK} {E:XK} (hi:zs[i]?=some (A,y)) (hl:(lc,us)∈ls) (ac:aj H' (cs.map Vt) us) (G:CmG y.ns cs) (hp:y.pa.length<500)
  (q:∀p mm xs H2,WD C a H0 m (zs.set i ({ A with ue:=A.ue++[mm] },MF y cs)) ((p,xs)::ls) H2->aj H2 ((yG y cs).map uX) xs->cU H' H2->H' p=none->Q (.ref p) H2):Wa C [.ref A.p,.ref lc] H' Q E:=by
 have hz:=dz hi;have YO:=W.yo _ hz;refine⟨A,y,lc,us,cs,rfl,W.ys.at_ _ hz,YO,(W.lo _ hl).2.2,ac,G.nd,G.ni,hp,fun h=>(W.fo _ hz _ h).2.2 _ hl rfl,fun p mm xs H2 fm fp pm Y2 e2 a2 f2=>?_⟩
 have inS:∀b∈[A.ds,A.dt,A.lp],b∈A.own:=fun b hb=>by
  unfold Ya.own;simp only[bF,dU,or_false] at hb;rcases hb with rfl | rfl | rfl <;> simp
 have W2:=W.VN hi Y2 (XX YO hp) f2 inS fun c hc=>by
  unfold Ya.own at hc ⊢;simp only[eQ,dH] at hc ⊢;rcases hc with h | h | h
  ·exact .inl (.inl h)
  ·exact .inl (.inr h)
  ·rw[h]; exact .inr fm
 obtain⟨g1,g2,g3,g4⟩:=W.free fp
 have po:∀z∈zs.set i ({ A with ue:=A.ue++[mm] },MF y cs),p∉z.1.own:=fun z hz' hc=>by
  rcases KJ hz' with h | h
  ·exact g4 z h hc
  ·rw[h] at hc;unfold Ya.own at hc;simp only[eQ,dH] at hc;rcases hc with h | h | h
   ·exact g4 _ hz (by unfold Ya.own; exact GJ _ h)
   ·exact g4 _ hz (by unfold Ya.own; exact gJ _ h)
   ·exact pm h
 exact q p mm xs H2 (W2.mem g1 g2 po e2) a2 (W.kp f2 fun b hb=>.inr ⟨_,hz,inS b hb⟩) fp
theorem WD.comes (W:WD C a H0 m zs ls H') {qa:Addr} {ns:List Str} {Q:VK} {E:XK} (hq:(qa,ns.map V.str)∈ls) (nn:ns.Nodup) (n5:ns.length<=5) (hm:m<=10000000)
  (q:∀p us cs H2,WD C a H0 (m+40) zs ((p,us)::ls) H2->aj H2 (List.map Vt cs) us->CmG ns cs->cU H' H2->H' p=none->Q (.ref p) H2):Wd [.ref a,.ref qa] H' Q E:=
 ⟨a,m,qa,ns,rfl,W.tp,hm,(W.lo _ hq).2.1,(W.lo _ hq).2.2,nn,n5,fun p us cs H2 fp _ e2 a2 G t2 x2=>q p us cs H2 (W.aao fp x2 t2 e2) a2 G (Ao W.tp x2) fp⟩
theorem JS {x:g_} (h:C_ x):FN (jw x)/\hnd (jw x)=x.lo:=by
 have:=h.lo;refine⟨⟨this.1,rfl,?_,rfl,?_⟩,?_⟩
 ·intro y hy;unfold jw at hy;simp at hy;omega
 ·intro y hy;unfold jw at hy;simp at hy;rw[hy]; rfl
 ·unfold hnd jw;simp
theorem ur:∀{ts:List T3},(∀x∈ts,C_ x.2.1)->hands (ts.map fun x=>jw x.2.1)=((ts.map (·.2.1)).map g_.lo).sum
 | [],_=>rfl
 | x::ts,h=>by
  have ih:=ur (ts:=ts) fun z hz=>h z (gk _ hz);have:=(JS (h x (cY ..))).2;unfold hands at ih ⊢;simp only[gZ,qP] at ih ⊢;rw[ih,this]
end
def N6:Sp:=fun vs H Q _=>∃(p:Addr) (xs:List V) (S:List Addr),vs=[.ref p]/\H p=some (.lst xs)/\xs.length<=500/\p∉S/\(∀b∈S,∃ys,H b=some (.lst ys)/\ys.length<=500)/\(∀x∈xs,(∃b,x=.ref b/\b∈S)\/(∃b ys,x=.ref b/\H b=some (.tup ys))\/∃t,x=.str t) /\
 ∀H',Fr (p::S) H H'->cU H H'->Q .non H'
theorem vI:aV ["_law_things","_law_thing"] ["_law_things"] (aG sO):=(by walk_at "c")
theorem G8 (F:iM K "_law_spoil" "_law_spoil" sO f fd) (B:Bi mg):bJ P w K mg base gD (k+1) f fd ["_law_things"] N6:=by
 refine F.ok vI (by rintro vs H Q E ⟨p,xs,S,rfl,_⟩; rfl) (fun cdv A outer s H vs Q E hr h=>?_)
 obtain⟨p,xs,S,rfl,ep,lx,pS,hS,hx,q⟩:=h;have ND:=vI.nd;refine⟨_,(aq (gK PassesOwn.never rfl (bI (K:=K) rfl (pv 0)) (aH (i:=1) ND rfl (by walk_at "o")) (aF (cL (dY (pb Et B.isinstance bL (ao (pv 1) (ao (pty (by rfl) B.list gY) ak)))) (aq (bC (d7 (K:=K) rfl PySem.F.plainAttrs_list PySem.F.slot_list_append PySem.F.type_list_append cI (pv 1) (ao fY ak))) (aF (bC (wB PySem.F.plainAttrs_list PySem.F.slot_list_reverse PySem.F.type_list_reverse jq (pv 1))))) bH))) (aq (bC (d7 (K:=K) rfl PySem.F.plainAttrs_list PySem.F.slot_list_append PySem.F.type_list_append cI (pv 0) (ao fY ak))) (aF (bC (wB PySem.F.plainAttrs_list PySem.F.slot_list_reverse PySem.F.type_list_reverse jq (pv 0)))))),?_⟩
 walk_at "rd";rw[qG];walk_at "rd";refine LK.of ep (fun i σ H'=>∃o1,σ=[some (.ref p),o1]/\H' p=some (.lst xs)/\Fr S H H'/\cU H H'/\∀b∈S,∃ys,H' b=some (.lst ys)/\ys.length<=500+i) ⟨_,rfl,ep,Fr.refl _ _,fun _ _ h=>h,fun b hb=>hS b hb⟩ (fun i σ H' _ ⟨_,_,h,_⟩=>h) ?_ ?_
 ·rintro i x σ H' hxi ⟨o1,rfl,ep',fr,kp,hl⟩;walk_at "rd";rcases hx x (dz hxi) with⟨b,rfl,hb⟩ | ⟨b,ys,rfl,eb⟩ | ⟨t,rfl⟩
  ·obtain⟨ys,eb,ly⟩:=hl b hb;have hi:=(i_.mp hxi).1;refine⟨_,.list [],rfl,fun _=>.lst eb,true,rfl,?_⟩;rw[bx rfl];refine⟨.inl ⟨rfl,_,b_.of eb⟩,b,ys,_,rfl,rfl,eb,mJ (show ys.length<100000 by omega) (by decide),?_⟩
   have e1:∀o,upd H' b o b=some o:=fun o=>aD;refine⟨.inl ⟨rfl,_,b_.of (e1 _)⟩,b,_,rfl,rfl,e1 _,_,rfl,?_,?_,?_,fun c hc=>?_⟩
   ·have pb:p≠b:=fun z=>pS (z▸hb);rw[aL pb,aL pb]; exact ep'
   ·exact fr.trans ((Fr.put hb).trans (Fr.put hb))
   ·exact kp.trans ((cU.putL eb).trans (cU.putL (e1 _)))
   ·by_cases cb:c=b
    ·subst cb;exact⟨_,aD,by rw[List.length_reverse,cB]; simp; omega⟩
    ·obtain⟨zs,ec,lz⟩:=hl c hc;exact⟨zs,by rw[aL cb,aL cb]; exact ec,by omega⟩
  ·refine⟨_,.tuple [],rfl,fun _=>.tup (kp _ _ eb),false,rfl,?_⟩;rw[aX (by decide)]
   exact⟨_,rfl,ep',fr,kp,fun c hc=>by obtain⟨zs,ec,lz⟩:=hl c hc; exact⟨zs,ec,by omega⟩⟩
  ·refine⟨_,.str t,rfl,fun _=>.str t,false,rfl,?_⟩;rw[aX (by decide)]
   exact⟨_,rfl,ep',fr,kp,fun c hc=>by obtain⟨zs,ec,lz⟩:=hl c hc; exact⟨zs,ec,by omega⟩⟩
 ·rintro σ H' ⟨o1,rfl,ep',fr,kp,hl⟩;walk_at "rd";refine⟨.inl ⟨rfl,_,b_.of ep'⟩,p,xs,_,rfl,rfl,ep',aP (by omega),?_⟩
  have e1:∀o,upd H' p o p=some o:=fun o=>aD;refine⟨.inl ⟨rfl,_,b_.of (e1 _)⟩,p,_,rfl,rfl,e1 _,q _ ?_ (kp.trans ((cU.putL ep').trans (cU.putL (e1 _))))⟩;exact(fr.sub fun b hb=>.inl (gk _ hb)).trans ((Fr.put (by simp)).trans (Fr.put (by simp)))
inductive Kk where
 | line (rs:List Rw)
 | told (dR:List (List Rw))
 | nms (ns:List Str)
def Kk.ds:Kk->List PyData
 | .line rs=>rs.map uX
 | .told dR=>dR.map qe
 | .nms ns=>ns.map .str
def Kk.at_ (H:Hp) (th:Addr) (ms:List Addr):Kk->Prop
 | .line rs=>ms=[]/\∃xs,H th=some (.lst xs)/\aj H (rs.map uX) xs
 | .told dR=>H th=some (.lst (ms.map V.ref))/\bO H ms dR
 | .nms ns=>ms=[]/\H th=some (.lst (ns.map V.str))
theorem nZ {H:Hp}:∀ns:List Str,aj H (ns.map PyData.str) (ns.map V.str)
 | []=>aj.nil
 | n::ns=>aj.cons (At.str n) (nZ ns)
theorem Kk.data {H:Hp} {th:Addr} {ms:List Addr}:∀{k:Kk},k.at_ H th ms->At H (.list k.ds) (.ref th)
 | .line rs,⟨_,xs,e,a⟩=>At.lst e a
 | .told dR,⟨e,a⟩=>At.lst e a.QW
 | .nms ns,⟨_,e⟩=>At.lst e (nZ ns)
theorem Kk.keep {H H':Hp} {th:Addr} {ms:List Addr} (k:cU H H') (g:∀b∈th::ms,∀vs,H b=some (.lst vs)->H' b=some (.lst vs)):∀{q:Kk},q.at_ H th ms->q.at_ H' th ms
 | .line rs,⟨h0,xs,e,a⟩=>⟨h0,xs,g th (by simp) _ e,aj.kp k _ _ (iw _) a⟩
 | .told dR,⟨e,a⟩=>⟨g th (by simp) _ e,by
  have:∀{ms:List Addr} {dR:List (List Rw)},bO H ms dR->(∀b∈ms,∀vs,H b=some (.lst vs)->H' b=some (.lst vs))->bO H' ms dR:=fun {ms}=>by
   induction ms with
   | nil=>intro dR h _; cases dR with
    | nil=>trivial
    | cons r rs=>exact h.elim
   | cons m ms ih=>intro dR h g; cases dR with
    | nil=>exact h.elim
    | cons r rs=>
     obtain⟨⟨xs,e,a⟩,h2⟩:=h;exact⟨⟨xs,g m (by simp) _ e,aj.kp k _ _ (iw _) a⟩,ih h2 fun b hb=>g b (by simp[hb])⟩
  exact this a fun b hb=>g b (by simp[hb])⟩
 | .nms ns,⟨h0,e⟩=>⟨h0,g th (by simp) _ e⟩
structure Kk.W (k:Kk):Prop where
 w:Wt 60 sizeLine (.list k.ds)
 d:PyData.hasDict (.list k.ds)=false
structure Ke where
 t:Addr
 th:Addr
 ms:List Addr
 k:Kk
structure uT (H:Hp) (e:Ke):Prop where
 et:H e.t=some (.tup [.ref e.th,.str (PyData.shown (.list e.k.ds))])
 ad:e.k.at_ H e.th e.ms
 w:e.k.W
theorem uT.keep {H H':Hp} {e:Ke} (h:uT H e) (k:cU H H') (g:∀b∈e.th::e.ms,∀vs,H b=some (.lst vs)->H' b=some (.lst vs)):uT H' e:=⟨k _ _ h.et,Kk.keep k g h.ad,h.w⟩
structure It where
 k:Kk
 t1:Addr
 m1:List Addr
 t2:Addr
 m2:List Addr
 p:Addr
def It.a1 (i:It):List Addr:=i.t1::i.m1
def It.a2 (i:It):List Addr:=i.t2::i.m2
structure aec (H:Hp) (i:It):Prop where
 h1:i.k.at_ H i.t1 i.m1
 h2:i.k.at_ H i.t2 i.m2
def Kk.le:Kk->Prop
 | .line rs=>rs.length<=500
 | .told dR=>dR.length<=500/\∀r∈dR,r.length<=500
 | .nms ns=>ns.length<=500
theorem Kk.UT {H:Hp} {th:Addr} {ms:List Addr}:∀{q:Kk},q.at_ H th ms->q.le->∃xs,H th=some (.lst xs)/\xs.length<=500/\(∀b∈ms,∃ys,H b=some (.lst ys)/\ys.length<=500)/\∀x∈xs,(∃b,x=.ref b/\b∈ms)\/(∃b ys,x=.ref b/\H b=some (.tup ys))\/∃t,x=.str t
 | .line rs,⟨h0,xs,e,a⟩,l=>⟨xs,e,by
   have:=a.length; rw[b7] at this; have:rs.length<=500:=l; omega,by subst h0; simp,fun x hx=>by
   obtain⟨i,hi⟩:=List.mem_iff_getElem?.mp hx;obtain⟨d,hd,hv⟩:=a.get hi;obtain⟨r,hr,rfl⟩:=cO.mp (dz hd);unfold uX At at hv;obtain⟨b,ys,rfl,eb,_⟩:=hv
   exact .inr (.inl ⟨b,ys,rfl,eb⟩)⟩
 | .told dR,⟨e,a⟩,⟨l1,l2⟩=>by
  have key:∀{ms:List Addr} {dR:List (List Rw)},bO H ms dR->(∀r∈dR,r.length<=500)->ms.length=dR.length/\∀b∈ms,∃ys,H b=some (.lst ys)/\ys.length<=500:=fun {ms}=>by
   induction ms with
   | nil=>intro dR h _; cases dR with
    | nil=>exact⟨rfl,by simp⟩
    | cons r rs=>exact h.elim
   | cons m ms ih=>intro dR h g; cases dR with
    | nil=>exact h.elim
    | cons r rs=>
     obtain⟨⟨xs,e,a⟩,h2⟩:=h;obtain⟨i1,i2⟩:=ih h2 fun r hr=>g r (by simp[hr])
     refine⟨by rw[gw,gw,i1],fun b hb=>?_⟩
     rcases bF.mp hb with rfl | h'
     ·have:=a.length; rw[b7] at this; have:=g r (by simp); exact⟨xs,e,by omega⟩
     ·exact i2 b h'
  obtain⟨k1,k2⟩:=key a l2
  exact⟨_,e,by rw[b7,k1]; exact l1,k2,fun x hx=>by
   obtain⟨b,hb,rfl⟩:=cO.mp hx
   exact .inl ⟨b,rfl,hb⟩⟩
 | .nms ns,⟨h0,e⟩,l=>⟨_,e,by rw[b7]; exact l,by subst h0; simp,fun x hx=>by
   obtain⟨n,_,rfl⟩:=cO.mp hx
   exact .inr (.inr ⟨n,rfl⟩)⟩
structure PvA (L:List It) (G0 G:Hp) (kl:Addr) (kv:List V) (i:Nat) (H':Hp):Prop where
 all:∀(j:Nat) (it:It),L[j]?=some it->i<=j->aec H' it
 ts:∃ts:List Addr,ts.length=i/\H' kl=some (.lst (kv++ts.map V.ref))/\∀(j:Nat) (it:It) (t:Addr),L[j]?=some it->ts[j]?=some t->uT H' ⟨t,it.t2,it.m2,it.k⟩
 kp:cU G H'
 fr:Fr [kl] G0 H'
structure LOk (L:List It) (G0 G:Hp) (kl:Addr):Prop where
 dj:∀(j j':Nat) (it it':It),L[j]?=some it->L[j']?=some it'->∀b∈it.a1,b∉it'.a2/\(j≠j'->b∉it'.a1)
 kl:∀it∈L,kl∉it.a1/\kl∉it.a2
 nw:∀it∈L,∀b∈it.a1,G0 b=none
 tp:∀it∈L,G it.p=some (.tup [.ref it.t1,.ref it.t2])
 w:∀it∈L,it.k.W/\it.k.le/\it.t1∉it.m1
def U5 (C:Addr):Sp:=fun vs H Q _=>∃(a:Ya) (y:Yd) (kl:Addr) (kv:List V),vs=[.ref a.p,.ref kl]/\bA C H a y/\fK y/\H kl=some (.lst kv)/\kl∉a.own/\kv.length<=500/\(Kk.told y.pa).W/\(Kk.nms y.ns).W/\(Kk.told y.pa).le/\(Kk.nms y.ns).le /\
 ∀H' e1 e2,uT H' e1->uT H' e2->(∀b∈e1.th::e1.ms,H b=none)->(∀b∈e2.th::e2.ms,H b=none)->(∀b∈e1.th::e1.ms,b∉e2.th::e2.ms)->H' kl=some (.lst (kv++[.ref e1.t,.ref e2.t]))->Fr [kl] H H'->Q (.bl true) H'
theorem vM:aV ["_law_yard_here","_law_kept","_law_told","_law_again","_law_written"] ["_law_yard_here","_law_kept"] (aG sW):=(by walk_at "c")
theorem Hc {C:Addr} (F:iM K "_law_asked" "_law_asked" sW f fd) (B:Bi mg) (Z:ZY K C) (tQ:Ct P w K mg base k "_law_spoil" ["_law_things"] N6) (jz:Ct P w K mg base k "_law_same" ["_law_found","_law_due"] (Kh 6)) (d_:ux P w K mg base k C "told" ["self"] (NK C)) (cu:ux P w K mg base k C "names" ["self"] (IK C)) (dF:ux P w K mg base k C "beats" ["self"] (NP C)) (dD:ux P w K mg base k C "hands" ["self"] (V_ C)):bJ P w K mg base gD (k+1) f fd ["_law_yard_here","_law_kept"] (U5 C):=by
 refine F.ok vM (by rintro vs H Q E ⟨a,y,kl,kv,rfl,_⟩; rfl) (fun cdv A outer s H vs Q E hr h=>?_)
 obtain⟨a,y,kl,kv,rfl,YA,YO,ek,nk,lk,w1,w2,l1,l2,q⟩:=h;have ND:=vM.nd;refine⟨_,(aq (gK PassesOwn.never rfl (qY (K:=K) rfl (bc (ao (bc (ao (KQ d_ hr (pv 0)) (ao (KQ d_ hr (pv 0)) ak))) (ao (bc (ao (KQ cu hr (pv 0)) (ao (KQ cu hr (pv 0)) ak))) ak)))) (bT (K:=K) (n:=2) rfl rfl (aJ (aH (i:=2) ND rfl (by walk_at "o")) (aJ (aH (i:=3) ND rfl (by walk_at "o")) bR))) (aq (cL (PW.pt (qU (bh wF (pt (iu hr) B.str jC (ao (pv 2) ak)) (pt (iu hr) B.str jC (ao (pv 3) ak)) (bf _)) (lH (lJ (dY (pb Et B.isinstance bL (ao (pv 2) (ao (pty (by rfl) B.list gY) ak)))))))) (aF (a_ pI)) bH) (aq (aU (i:=4) ND rfl (by walk_at "o") (pt (iu hr) B.str jC (ao (pv 3) ak))) (aq (bC (pf tQ hr (ao (pv 2) ak))) (aq (cL (bh wF (pt (iu hr) B.str jC (ao (pv 3) ak)) (pv 4) (bf _)) (aF (a_ pI)) bH) (aF (bC (d7 (K:=K) rfl PySem.F.plainAttrs_list PySem.F.slot_list_append PySem.F.type_list_append cI (pv 1) (ao (bc (ao (pv 3) (ao (pv 4) ak))) ak))))))))) (aq (aU (i:=3) ND rfl (by walk_at "o") (bM (ao (KQ dF hr (pv 0)) (ao (KQ dD hr (pv 0)) ak)))) (aF (a_ (pf jz hr (ao (bM (ao (KQ dF hr (pv 0)) (ao (KQ dD hr (pv 0)) ak))) (ao (pv 3) ak))))))),?_⟩
 walk_at "rd";rw[Di];walk_at "rd";refine Me.of (m:="told") (R:=fun p=>_) YA (fun _ _ _ _ _ _ _=>rfl) ?_;refine⟨a,y,rfl,YA,YO,fun p1 m1 H1 n1 f1 d1 s1 e1 r1=>?_⟩;refine Me.of (m:="told") (R:=fun p=>_) (YA.mono s1) (fun _ _ _ _ _ _ _=>rfl) ?_;refine⟨a,y,rfl,YA.mono s1,YO,fun p2 m2 H2 n2 f2 d2 s2 e2 r2=>⟨by decide,fun u H3 nu s3 eu=>?_⟩⟩
 refine Me.of (m:="names") (R:=fun p=>_) ((YA.mono s1).mono (s2.trans s3)) (fun _ _ _ _ _ _ _=>rfl) ?_;refine⟨a,y,rfl,(YA.mono s1).mono (s2.trans s3),YO,fun p4 H4 n4 s4 e4=>?_⟩;refine Me.of (m:="names") (R:=fun p=>_) (((YA.mono s1).mono (s2.trans s3)).mono s4) (fun _ _ _ _ _ _ _=>rfl) ?_;refine⟨a,y,rfl,((YA.mono s1).mono (s2.trans s3)).mono s4,YO,fun p5 H5 n5 s5 e5=>⟨by decide,fun u' H6 nu' s6 eu'=>⟨by decide,fun u2 H7 nu2 s7 eu2=>?_⟩⟩⟩
 obtain⟨L,eL⟩:∃L:List It,L=[⟨.told y.pa,p1,m1,p2,m2,u⟩,⟨.nms y.ns,p4,[],p5,[],u'⟩]:=⟨_,rfl⟩
 have al1:∀b∈p1::m1,∃o,H1 b=some o:=fun b hb=>by
  rcases bF.mp hb with rfl | h
  ·exact⟨_,e1⟩
  ·obtain⟨xs,e⟩:=r1.all b h; exact⟨_,e⟩
 have al2:∀b∈p2::m2,∃o,H2 b=some o:=fun b hb=>by
  rcases bF.mp hb with rfl | h
  ·exact⟨_,e2⟩
  ·obtain⟨xs,e⟩:=r2.all b h; exact⟨_,e⟩
 have no1:∀b∈p1::m1,H b=none:=fun b hb=>(bF.mp hb).elim (fun e=>e▸n1) (f1 b);have no2:∀b∈p2::m2,H1 b=none:=fun b hb=>(bF.mp hb).elim (fun e=>e▸n2) (f2 b);have pU:=s2.trans s3;have Mv:=s4.trans (s5.trans (s6.trans s7));have d11:∀b∈p1::m1,b∉p2::m2:=fun b h g=>by obtain⟨o,e⟩:=al1 b h; rw[no2 b g] at e; cases e
 have d1x:∀b∈p1::m1,∀G,aM H1 G->∀c,G c=none->b≠c:=fun b h G s c n z=>by obtain⟨o,e⟩:=al1 b h; subst z; rw[s _ _ e] at n; cases n
 have d2x:∀b∈p2::m2,∀G,aM H2 G->∀c,G c=none->b≠c:=fun b h G s c n z=>by obtain⟨o,e⟩:=al2 b h; subst z; rw[s _ _ e] at n; cases n
 have d45:p4≠p5:=fun z=>by rw[z] at e4; rw[n5] at e4; cases e4
 have bk:∀{G G':Hp},aM G G'->∀b,G' b=none->G b=none:=fun {G G'} s b h=>by
  cases e:G b with
  | none=>rfl
  | some o=>rw[s b o e] at h; cases h
 have nk1:∀b,H b=none->kl≠b:=fun b h z=>by rw[<- z,ek] at h; cases h
 have h4:=bk s1 _ (bk pU _ n4);have h5:=bk s1 _ (bk pU _ (bk s4 _ n5))
 have LK:LOk L H H7 kl:=by
  rw[eL];refine⟨fun j j' it it' ej ej' b hb=>?_,fun it hm=>?_,fun it hm b hb=>?_,fun it hm=>?_,fun it hm=>?_⟩
  ·rcases j with _ | _ | j <;> rcases j' with _ | _ | j' <;> simp only[Jo,O1,List.getElem?_nil,Option.some.injEq,reduceCtorEq] at ej ej'
   ·subst ej ej'; exact⟨d11 b hb,fun h=>absurd rfl h⟩
   ·subst ej ej';exact⟨fun h=>d1x b hb _ (pU.trans s4) _ n5 (dH.mp h),fun _ h=>d1x b hb _ pU _ n4 (dH.mp h)⟩
   ·subst ej ej';have:b=p4:=dH.mp hb;subst this;exact⟨fun h=>d2x _ h _ s3 _ n4 rfl,fun _ h=>d1x _ h _ pU _ n4 rfl⟩
   ·subst ej ej';have:b=p4:=dH.mp hb;subst this;exact⟨fun h=>d45 (dH.mp h),fun h=>absurd rfl h⟩
  ·simp only[bF,dU,or_false] at hm;rcases hm with rfl | rfl
   ·exact⟨fun h=>nk1 _ (no1 _ h) rfl,fun h=>nk1 _ (bk s1 _ (no2 _ h)) rfl⟩
   ·exact⟨fun h=>nk1 _ h4 (dH.mp h),fun h=>nk1 _ h5 (dH.mp h)⟩
  ·simp only[bF,dU,or_false] at hm;rcases hm with rfl | rfl
   ·exact no1 b hb
   ·have:b=p4:=dH.mp hb;rw[this]; exact h4
  ·simp only[bF,dU,or_false] at hm;rcases hm with rfl | rfl
   ·exact Mv _ _ eu
   ·exact s7 _ _ eu'
  ·simp only[bF,dU,or_false] at hm;rcases hm with rfl | rfl
   ·exact⟨w1,l1,(iW.mp d1).1⟩
   ·exact⟨w2,l2,by simp⟩
 have P0:PvA L H H7 kl kv 0 H7:=by
  refine⟨fun j it ej _=>?_,⟨[],rfl,by rw[zq,uA]; exact(s1.trans (pU.trans Mv)) _ _ ek,fun j it t _ h=>by simp at h⟩,cU.refl _,(s1.trans (pU.trans Mv)).fr _⟩
  rw[eL] at ej;rcases j with _ | _ | j <;> simp only[Jo,O1,List.getElem?_nil,Option.some.injEq,reduceCtorEq] at ej
  ·subst ej;exact⟨⟨(pU.trans Mv) _ _ e1,r1.keep (pU.trans Mv).kp fun b _ o e=>(pU.trans Mv) b o e⟩,⟨(s3.trans Mv) _ _ e2,r2.keep (s3.trans Mv).kp fun b _ o e=>(s3.trans Mv) b o e⟩⟩
  ·subst ej;exact⟨⟨rfl,(s5.trans (s6.trans s7)) _ _ e4⟩,⟨rfl,(s6.trans s7) _ _ e5⟩⟩
 have ll:L.length=2:=by rw[eL]; rfl
 refine TK.of (xs:=L.map fun i=>V.ref i.p) (by rw[eL]; exact eu2) (fun i σ H'=>(∃o2 o3 o4,σ=[some (.ref a.p),some (.ref kl),o2,o3,o4])/\PvA L H H7 kl kv i H') ⟨⟨_,_,_,rfl⟩,P0⟩ (fun i σ H' _ ⟨_,h⟩=>h.kp _ _ (by rw[eL]; exact eu2)) ?_ ?_
 ·rintro i x σ H' hx ⟨⟨o2,o3,o4,rfl⟩,PV⟩;rw[cT] at hx;cases ei:L[i]? with
  | none=>rw[ei] at hx; cases hx
  | some it=>
  rw[ei] at hx;cases hx;have hm:=dz ei;have hi:i<2:=by rw[<- ll]; exact(i_.mp ei).1
  obtain⟨wW,wl,wn⟩:=LK.w _ hm;have A:=PV.all _ _ ei (bD _);refine⟨_,_,rfl,e_.of (PV.kp _ _ (LK.tp _ hm)),rfl,?_⟩;walk_at "rd";obtain⟨A1,A2⟩:=A;obtain⟨wt,wd⟩:=wW;obtain⟨xs,ex,lx,hS,hX⟩:=Kk.UT A1 wl;refine⟨_,it.k.ds,rfl,Kk.data A1,wt,wd,_,it.k.ds,rfl,Kk.data A2,wt,wd,?_⟩;rw[aX (by simp)]
  refine⟨_,.list it.k.ds,rfl,fun _=>.lst ex,true,rfl,?_⟩;rw[aX (by decide)]
  refine⟨_,it.k.ds,rfl,Kk.data A2,wt,wd,_,xs,it.m1,rfl,ex,lx,wn,hS,hX,fun H8 f8 k8=>?_⟩;have B2:it.k.at_ H8 it.t2 it.m2:=Kk.keep k8 (fun b hb vs e=>f8 b _ e fun h=>(LK.dj i i it it ei ei b h).1 hb) A2;refine⟨_,it.k.ds,rfl,Kk.data B2,wt,wd,?_⟩;rw[aX (by simp)]
  obtain⟨ts,lt,ek',hk⟩:=PV.ts;have ek8:H8 kl=some (.lst (kv++ts.map V.ref)):=f8 _ _ ek' (LK.kl it hm).1;refine⟨.inl ⟨rfl,_,b_.of ek8⟩,by decide,fun p H9 np s9 e9=>?_⟩
  have ek9:=s9 _ _ ek8;refine⟨kl,_,_,rfl,rfl,ek9,aP (by rw[cB,b7,lt]; omega),?_⟩
  have pk:p≠kl:=fun z=>by rw[z,ek8] at np; cases np
  have Qa:cU H8 (upd H9 kl (.lst (kv++ts.map V.ref++[.ref p]))):=s9.kp.trans (cU.putL ek9);have up:∀b,b≠kl->∀o,H8 b=some o->upd H9 kl (.lst (kv++ts.map V.ref++[.ref p])) b=some o:=fun b nb o e=>by rw[aL nb]; exact s9 _ _ e
  refine⟨⟨_,_,_,rfl⟩,⟨fun j it' ej ij=>?_,⟨ts++[p],by rw[cB,lt]; rfl,?_,fun j it' t ej et=>?_⟩,PV.kp.trans (k8.trans Qa),fun b o e nb=>?_⟩⟩
  ·obtain⟨C1,C2⟩:=PV.all j it' ej (by omega)
   have hm':=dz ej;refine⟨Kk.keep (k8.trans Qa) (fun b hb vs e=>up b (fun z=>(LK.kl _ hm').1 (z▸hb)) _ (f8 b _ e fun h=>(LK.dj i j it it' ei ej b h).2 (by omega) hb)) C1,Kk.keep (k8.trans Qa) (fun b hb vs e=>up b (fun z=>(LK.kl _ hm').2 (z▸hb)) _ (f8 b _ e fun h=>(LK.dj i j it it' ei ej b h).1 hb)) C2⟩
  ·rw[aD,gq,Dw]; rfl
  ·have hm':=dz ej;by_cases hj:j<ts.length
   ·rw[DK hj] at et;exact(hk j it' t ej et).keep (k8.trans Qa) fun b hb vs e=>up b (fun z=>(LK.kl _ hm').2 (z▸hb)) _ (f8 b _ e fun h=>(LK.dj i j it it' ei ej b h).1 hb)
   ·rw[xV (by omega)] at et
    have e0:j-ts.length=0:=by
     rcases Nat.eq_zero_or_pos (j-ts.length) with z | z
     ·exact z
     ·rw[Jk (by simp; omega)] at et; cases et
    rw[e0] at et;cases et;have:j=i:=by omega
    subst this;rw[ei] at ej;cases ej;exact⟨by show upd _ _ _ p=_; rw[aL pk]; exact e9,Kk.keep Qa (fun b hb vs e=>up b (fun z=>(LK.kl _ hm').2 (z▸hb)) _ e) B2,⟨wt,wd⟩⟩
  ·have nb':b≠kl:=fun z=>nb (by simp[z])
   exact up b nb' _ (f8 b _ (PV.fr b o e nb) fun h=>by rw[LK.nw _ hm b h] at e; cases e)
 ·rintro σ H' ⟨⟨o2,o3,o4,rfl⟩,PV⟩;have YA':bA C H' a y:=YA.keep ((s1.trans (s2.trans (s3.trans (s4.trans (s5.trans (s6.trans s7)))))).kp.trans PV.kp) fun b hb o e=>PV.fr b o e fun h=>nk (by rw[<- dH.mp h]; exact hb)
  rw[b7,ll] at PV;obtain⟨ts,lt,ek',hk⟩:=PV.ts;walk_at "rd";refine Me.of (m:="beats") (R:=fun p=>_) YA' (fun _ _ _ _ _ _ _=>rfl) ?_;refine⟨a,y,rfl,YA',YO,?_⟩;refine Me.of (m:="hands") (R:=fun p=>_) YA' (fun _ _ _ _ _ _ _=>rfl) ?_;refine⟨a,y,rfl,YA',YO,fun G1 t1=>⟨by decide,fun x1 G2 g2 t2 h2=>?_⟩⟩
  have Y2:=(YA'.mono t1).mono t2;refine Me.of (m:="beats") (R:=fun p=>_) Y2 (fun _ _ _ _ _ _ _=>rfl) ?_;refine⟨a,y,rfl,Y2,YO,?_⟩;refine Me.of (m:="hands") (R:=fun p=>_) Y2 (fun _ _ _ _ _ _ _=>rfl) ?_;refine⟨a,y,rfl,Y2,YO,fun G3 t3=>⟨by decide,fun x2 G4 g4 t4 h4=>?_⟩⟩
  refine⟨_,_,.list [.int (y.pa.length:Nat),.int (hands y.ss)],rfl,At.lst h4 (aj.cons (At.int _) (aj.cons (At.int _) aj.nil)),At.lst ((t3.trans t4) _ _ h2) (aj.cons (At.int _) (aj.cons (At.int _) aj.nil)),SD.lst (by show 2<=1000; decide) (fun e he=>?_),by decide,fun G5 t5=>?_⟩
  ·simp only[bF,dU,or_false] at he;rcases he with rfl | rfl <;> exact SD.int _
  have sG:=t1.trans (t2.trans (t3.trans (t4.trans t5)))
  match ts,lt with
  | [a0,a1],_=>
   subst eL;exact q G5 ⟨a0,p2,m2,.told y.pa⟩ ⟨a1,p5,[],.nms y.ns⟩ ((hk 0 _ a0 rfl rfl).keep sG.kp fun b _ vs e=>sG b _ e) ((hk 1 _ a1 rfl rfl).keep sG.kp fun b _ vs e=>sG b _ e) (fun b hb=>bk s1 _ (no2 b hb)) (fun b hb=>by have:b=p5:=dH.mp hb; rw[this]; exact h5) (fun b hb h=>d2x b hb _ (s3.trans s4) _ n5 (dH.mp h)) (sG _ _ ek') (PV.fr.trans (sG.fr _))
def Oa (C:Addr):Sp:=fun vs H Q _=>∃(a:Addr) (n:Nat) (A:Ya) (y:Yd) (hl:Addr) (hv:List V) (ls:List (Addr×List V)) (H0:Hp),vs=[.ref a,.ref A.p,.ref hl]/\WD C a H0 n [(A,y)] ((hl,hv)::ls) H/\n<=10000000/\hv.length<=100/\(∀l∈ls,l.1≠hl) /\
 ∀Ph Vf hv' H',Uj y.ns Ph->Uj y.ns Vf->WD C a H0 (n+10) [(A,Vf (Ph y))] ((hl,hv')::ls) H'->cU H H'->Q .non H'
theorem zj:aV ["_law_tape_here","_law_yard_here","_law_handed","_law_names_here","_law_at","_law_post_here","_law_goals"] ["_law_tape_here","_law_yard_here","_law_handed"] (aG vV):=(by walk_at "c")
theorem Le {C:Addr} (F:iM K "_law_deed" "_law_deed" vV f fd) (B:Bi mg) (Z:ZY K C) (aK:Ct P w K mg base k "_law_draw" ["_law_tape_here","_law_many"] fW) (cu:ux P w K mg base k C "names" ["self"] (IK C)) (lR:ux P w K mg base k C "post" ["self","name"] (Dl C gP)) (jB:ux P w K mg base k C "change" ["self","name","post"] (U0 C)) (lU:ux P w K mg base k C "lead" ["self","name","onward"] (UW C)):bJ P w K mg base gD (k+1) f fd ["_law_tape_here","_law_yard_here","_law_handed"] (Oa C):=by
 refine F.ok zj (by rintro vs H Q E ⟨a,n,A,y,hl,hv,ls,H0,rfl,_⟩; rfl) (fun cdv A' outer s H vs Q E hr h=>?_)
 obtain⟨a,n,A,y,hl,hv,ls,H0,rfl,W,hn,lv,nl,q⟩:=h;have ND:=zj.nd;refine⟨_,(aq (aU (i:=3) ND rfl (by walk_at "o") (KQ cu hr (pv 1))) (aq (aU (i:=4) ND rfl (by walk_at "o") (pf aK hr (ao (pv 0) (ao (pb (cA (K:=K) rfl) B.len dM (ao (pv 3) ak)) ak)))) (aq (cL (bh gC (pf aK hr (ao (pv 0) (ao aC ak))) aC (bf _)) (aq (aU (i:=5) ND rfl (by walk_at "o") (pm lR hr (pv 1) (ao (bz bj (pv 3) (pv 4) (fun _ _=>rfl)) ak))) (aF (bC (pm jB hr (pv 1) (ao (bz bj (pv 3) (pv 4) (fun _ _=>rfl)) (ao (aQ oE (aQ oE (cZ jH (pv 5) fB (fu aC)) (bc (ao (bc (ao aC (ao (aQ bB aC (pf aK hr (ao (pv 0) (ao aC ak)))) ak))) ak))) (cZ jH (pv 5) (fu aC) fB)) ak)))))) bH) (aq (cL (bh gC (pf aK hr (ao (pv 0) (ao aC ak))) aC (bf _)) (aq (aU (i:=6) ND rfl (by walk_at "o") (aQ GZ (cZ uW (pv 3) (fu (aQ bB (pv 4) aC)) fB) (bM (ao fZ ak)))) (aF (bC (pm lU hr (pv 1) (ao (bz bj (pv 3) (pv 4) (fun _ _=>rfl)) (ao (bz bj (pv 6) (pf aK hr (ao (pv 0) (ao (pb (cA (K:=K) rfl) B.len dM (ao (pv 6) ak)) ak))) (fun _ _=>rfl)) ak)))))) bH) (aq (bC (d7 (K:=K) rfl PySem.F.plainAttrs_list PySem.F.slot_list_append PySem.F.type_list_append cI (pv 2) (ao (bc (ao fY (ao aC ak))) ak))) (aF (bC (wB PySem.F.plainAttrs_list PySem.F.slot_list_reverse PySem.F.type_list_reverse jq (pv 2))))))))),?_⟩
 have YA:bA C H A y:=W.ys.at_ _ (dH.mpr rfl);have YO:fK y:=W.yo _ (dH.mpr rfl);simp only[Oi];walk_at "rd";refine Me.of (m:="names") (R:=fun p=>_) YA (fun _ _ _ _ _ _ _=>rfl) ?_;refine⟨A,y,rfl,YA,YO,fun qa H1 f1 s1 e1=>?_⟩;refine⟨qa,_,rfl,.inl (b_.of e1),?_⟩;have n1:=YO.n1;have n5:=YO.n5;have W1:=W.new f1 s1 e1;rw[b7];refine bZ.of W1.tp (by omega) (by omega) (by omega) fun d H2 d0 d1 t2 x2=>?_
 have W2:=W1.oK x2 t2;have hd:d.toNat<y.ns.length:=by omega
 have hdn:y.ns[d.toNat]?=some y.ns[d.toNat]:=eF hd
 have atd:yH (y.ns.map V.str) d=some (.str y.ns[d.toNat]):=by
  have:=aY (xs:=y.ns.map V.str) (j:=d.toNat) (v:=.str y.ns[d.toNat]) (by rw[cT,hdn]; rfl)
  rwa [Int.toNat_of_nonneg d0] at this
 generalize y.ns[d.toNat]=nm at hdn atd;have k02:cU H H2:=s1.kp.trans (Ao W1.tp x2);refine mW.of (R:=fun σ' H'=>∃o5 op,σ'=[some (.ref a),some (.ref A.p),some (.ref hl),some (.ref qa),some (.int d),o5,none]/\Uj y.ns op/\WD C a H0 (n+1+2) [(A,op y)] ((qa,y.ns.map V.str)::(hl,hv)::ls) H'/\cU H H') ?_ ?_
 ·rintro σ' H3 ⟨o5,Ph,rfl,G1,W3,k3⟩;refine mW.of (R:=fun σ' H'=>∃o6 op,σ'=[some (.ref a),some (.ref A.p),some (.ref hl),some (.ref qa),some (.int d),o5,o6]/\Uj y.ns op/\WD C a H0 (n+1+2+2) [(A,op (Ph y))] ((qa,y.ns.map V.str)::(hl,hv)::ls) H'/\cU H H') ?_ ?_
  ·rintro σ' H4 ⟨o6,Vf,rfl,G2,W4,k4⟩;walk_at "rd";have e4:H4 hl=some (.lst hv):=(W4.lo (hl,hv) (by simp)).2.2
   refine⟨.inl ⟨rfl,_,b_.of e4⟩,by decide,fun p H5 f5 s5 e5=>?_⟩
   have W5:=W4.grow s5;refine⟨hl,hv,_,rfl,rfl,s5 _ _ e4,aP (by omega),?_⟩
   obtain⟨W6,k6⟩:=W5.put (b:=hl) (vs:=hv) (vs':=hv++[V.ref p]) (by simp)
   obtain⟨W7,k7⟩:=W6.put (b:=hl) (vs:=hv++[V.ref p]) (vs':=(hv++[V.ref p]).reverse) (cY ..);have e6:=(W6.lo (hl,hv++[V.ref p]) (cY ..)).2.2;refine⟨.inl ⟨rfl,_,b_.of e6⟩,hl,_,rfl,rfl,e6,?_⟩;refine q Ph Vf (hv++[V.ref p]).reverse _ G1 G2 ((W7.oK (SX.refl _ _) (W7.tp.mono (m:=n+10) (by omega))).less fun l hl'=>?_) (k4.trans (s5.kp.trans (k6.trans k7)))
   rcases bF.mp hl' with h | h
   ·rw[h]; exact cY ..
   ·refine gk _ (mG.mpr ⟨gk _ (mG.mpr ⟨gk _ (gk _ h),by simpa using nl l h⟩),by simpa using nl l h⟩)
  ·walk_at "rd";intro N hN;refine bZ.of W3.tp (by omega) (by decide) (by decide) fun v H4 _ _ t4 x4=>?_
   have W4:=W3.oK x4 t4;have k4:=k3.trans (Ao W3.tp x4);walk_at "rd";refine cR (fun c=>?_) (fun c=>?_)
   ·have eq9:H4 qa=some (.lst (y.ns.map V.str)):=(W4.lo (qa,y.ns.map V.str) (by simp)).2.2
    refine⟨qa,_,rfl,b_.of eq9,fun pa fa=>?_⟩;rw[kW (by omega),<- zE]
    have sA:=aN fa (HO.lst ((y.ns.drop (d+1).toNat).map V.str));have eA:upd H4 pa (HO.lst ((y.ns.drop (d+1).toNat).map V.str)) pa=some (HO.lst ((y.ns.drop (d+1).toNat).map V.str)):=aD;generalize upd H4 pa (HO.lst ((y.ns.drop (d+1).toNat).map V.str))=HA at sA eA ⊢;refine⟨by decide,fun pb HB fb sB eB=>?_⟩
    refine Kq.of (sB _ _ eA) eB (by simp; omega) fun pc HC fc sC eC=>?_
    obtain⟨os,eos,hos,los,l0⟩:∃os:List (Option Str),(y.ns.drop (d+1).toNat).map V.str++[V.non]=os.map lq/\(∀o∈os,∀z,o=some z->z∈y.ns.drop (d.toNat+1))/\os.length<=20/\1<=os.length:=by
     refine⟨(y.ns.drop (d+1).toNat).map some++[none],by rw[gq,Bb]; rfl,?_,by simp; omega,by simp⟩
     intro o ho z hz;rcases eQ.mp ho with h | h
     ·obtain⟨z',hz',ez⟩:=cO.mp h;rw[<- ez] at hz;cases hz;rw[show d.toNat+1=(d+1).toNat by omega]
      exact hz'
     ·rw[dH.mp h] at hz; cases hz
    rw[eos] at eC;have s9C:=sA.trans (sB.trans sC);have WC:=W4.grow s9C;have pca:pc≠a:=(W4.grow (sA.trans sB)).tp.ne fc;have YC:bA C HC A (Ph y):=WC.ys.at_ _ (dH.mpr rfl);have OK:=G1.ok YO rfl;refine Me.of (m:="lead") (R:=fun p=>_) YC (fun _ _ _ _ _ _ _=>rfl) (Ix.lst (s9C _ _ eq9) atd ?_);refine⟨pc,_,rfl,.inl (b_.of eC),?_⟩;refine bZ.of WC.tp (by omega) (by rw[b7]; omega) (by rw[b7]; omega) fun d8 HD d80 d81 tD xD=>?_
    rw[b7] at d81;have hd8:d8.toNat<os.length:=by omega
    refine Ix.lst (v:=lq os[d8.toNat]) (xD.get pca eC) (by
     have:=aY (xs:=os.map lq) (j:=d8.toNat) (v:=lq os[d8.toNat]) (by rw[cT,eF hd8]; rfl)
     rwa [Int.toNat_of_nonneg d80] at this) ?_
    have hgo:=hos _ (oO hd8);generalize os[d8.toNat]=go at hgo ⊢;have WD':=WC.oK xD tD;refine⟨A,Ph y,d.toNat,nm,go,rfl,WD'.ys.at_ _ (dH.mpr rfl),OK.1,by rw[OK.2.1]; exact hdn,by rw[OK.2.1]; exact hgo,fun HG YG fG=>?_⟩
    have Gg:Uj y.ns (fun y=>{ y with os:=y.os.set d.toNat go }):=.inr (.inr ⟨d.toNat,go,hd,hgo,rfl⟩)
    have inA:∀b∈[A.dn],b∈A.own:=fun b hb=>by rw[dH.mp hb]; unfold Ya.own; simp
    exact hN _ _ ⟨_,_,rfl,Gg,WD'.VN (i:=0) rfl YG (Gg.ok OK.1 OK.2.1).1 fG inA (fun c hc=>.inl hc),k4.trans (s9C.kp.trans ((Ao WC.tp xD).trans (WD'.kp fG fun b hb=>.inr ⟨_,dH.mpr rfl,inA b hb⟩)))⟩
   ·exact hN _ _ ⟨_,_,rfl,.inl rfl,W4.oK (SX.refl _ _) (W4.tp.mono (by omega)),k4⟩
 ·walk_at "rd";intro N hN;refine bZ.of W2.tp (by omega) (by decide) (by decide) fun v H3 _ _ t3 x3=>?_
  have W3:=W2.oK x3 t3;have k3:=k02.trans (Ao W2.tp x3);walk_at "rd";refine cR (fun c=>?_) (fun c=>?_)
  ·have eq3:H3 qa=some (.lst (y.ns.map V.str)):=(W3.lo (qa,y.ns.map V.str) (by simp)).2.2
   have Y3:bA C H3 A y:=W3.ys.at_ _ (dH.mpr rfl);refine Me.of (m:="post") (R:=fun p=>_) Y3 (fun _ _ _ _ _ _ _=>rfl) (Ix.lst eq3 atd ?_);have lp:=YO.lp;have hp:y.ps[d.toNat]?=some y.ps[d.toNat]:=eF (by omega)
   have hx:=YO.pg _ (dz hp);generalize y.ps[d.toNat]=x at hp hx;refine⟨A,y,d.toNat,nm,eV x,rfl,Y3,YO,hdn,by show(y.ps.map eV)[d.toNat]?=_; rw[cT,hp]; rfl,fun v1 H4 s4 a4=>?_⟩
   have W4:=W3.grow s4;have eq4:=s4 _ _ eq3;obtain⟨pp,b,c',e,rfl,h1,h2,h3,h4⟩:=O4 a4;refine Me.of (m:="change") (R:=fun p=>_) (Y3.mono s4) (fun _ _ _ _ _ _ _=>rfl) (Ix.lst eq4 atd ?_);refine⟨pp,_,rfl,h1,fun p5 H5 s5 e5=>?_⟩;have W5:=W4.grow s5;refine bZ.of W5.tp (by omega) (by decide) (by decide) fun m H6 m0 m1 t6 x6=>⟨_,_,rfl,rfl,by decide,fun p7 H7 f7 s7 e7=>⟨by decide,fun p8 H8 f8 s8 e8=>?_⟩⟩
   have W6:=W5.oK x6 t6;have k56:=Ao W5.tp x6;have s68:=s7.trans s8;refine⟨_,_,_,_,rfl,rfl,s68 _ _ (k56 _ _ e5),e8,by show 2+1<=sizeLine; decide,fun p9 H9 s9 e9=>?_⟩
   have k49:cU H4 H9:=s5.kp.trans (k56.trans (s68.trans s9).kp);refine⟨pp,_,rfl,k49 _ _ h1,fun pa HA sA eA=>?_⟩;refine⟨_,_,_,_,rfl,rfl,sA _ _ e9,eA,by show 3+4<=sizeLine; decide,fun pb HB sB eB=>?_⟩
   have k4B:cU H4 HB:=k49.trans (sA.trans sB).kp;have s6B:aM H6 HB:=s68.trans (s9.trans (sA.trans sB));have px:C_ { x with lo:=0,hi:=1+m }:={ hx with lo:=⟨zm 0,by show 0<=1+m; omega⟩,hi:=by show 1+m<=12; omega }
   have aB:At HB (eV { x with lo:=0,hi:=1+m }) (.ref pb):=At.tup eB (aj.cons (At.int _) (aj.cons (At.int _) (aj.cons (At.tup ((s8.trans (s9.trans (sA.trans sB))) _ _ e7) (aj.cons (At.int _) (aj.cons (At.int _) aj.nil))) (aj.cons (At.int _) (aj.cons (At.int _) (aj.cons (At.kp k4B _ _ rfl h3) (aj.cons (At.kp k4B _ _ (by show bK _=true; exact bu.mpr fun d hd=>by obtain⟨rs,_,rfl⟩:=cO.mp hd; exact vX rs) h4) aj.nil)))))))
   generalize hx':({ x with lo:=0,hi:=1+m }:g_)=x' at px aB
   have xlo:x'.lo=0:=by rw[<- hx']
   have WB:=W6.grow s6B;refine⟨A,y,d.toNat,nm,.ref pb,x',rfl,WB.ys.at_ _ (dH.mpr rfl),YO,hdn,aB,?_,fun HG YG fG=>?_⟩
   ·have:=Oh (i:=d.toNat) xlo YO.pg;have:=YO.lm;omega
   ·have Gg:Uj y.ns (fun y=>{ y with ps:=y.ps.set d.toNat x' }):=.inr (.inl ⟨d.toNat,x',hd,px,xlo,rfl⟩)
    have inA:∀b∈[A.dp],b∈A.own:=fun b hb=>by rw[dH.mp hb]; unfold Ya.own; simp
    exact hN _ _ ⟨_,_,rfl,Gg,WB.VN (i:=0) rfl YG (Gg.ok YO rfl).1 fG inA (fun c hc=>.inl hc),k3.trans (s4.kp.trans (k4B.trans (WB.kp fG fun b hb=>.inr ⟨_,dH.mpr rfl,inA b hb⟩)))⟩
  ·exact hN _ _ ⟨_,_,rfl,.inl rfl,W3.oK (SX.refl _ _) (W3.tp.mono (by omega)),k3⟩
structure NW (y:Yd):Prop where
 w:∀s∈y.ss,0<=s.w
 t:y.tot<=60
structure RwB (r:Rw):Prop where
 c:0<=r.c/\r.c<=2000000000000
 d:0<=r.d/\r.d<=60000000
 a:0<=r.a/\r.a<=2000000000000
 h:-100<=r.h/\r.h<=100
theorem VP {x:g_} {st:iR} {ch:Int}:(gF x st ch).w=st.w:=by
 unfold gF;split
 ·rfl
 ·split <;> rfl
theorem Rz {x:g_} {st:iR} {c:Int} (hc:0<=c):0<=dX x st c/\dX x st c<=c:=by
 unfold dX;split <;> split <;> omega
theorem Xp {ss:List iR} {s:iR} (h:∀z∈ss,FN z) (hs:s∈ss):hnd s<=hands ss:=by
 induction ss with
 | nil=>simp at hs
 | cons z zs ih=>
  have hz:=BV (h z (cY ..))
  have hr:0<=hands zs:=su _ fun q hq=>by
   obtain⟨s',hs',rfl⟩:=cO.mp hq;exact BV (h s' (gk _ hs'))
  show hnd s<=hnd z+hands zs;rcases bF.mp hs with rfl | h'
  ·omega
  ·have:=ih (fun z hz=>h z (gk _ hz)) h'; omega
theorem Oo {st:iR} (h:FN st):0<=fH st/\fH st<=hnd st:=by
 have h1:=h.r;have h2:=h.cn;unfold fH hnd;cases e:st.cs with
 | nil=>have:=h.c; rw[e] at this; simp at this
 | cons z zs=>
  rw[e] at h2;have hz:=h2 z (cY ..);have:=su zs fun q hq=>h2 q (gk _ hq);simp only[List.getD_cons_zero,qP];omega
theorem acI {y:Yd} {i:Nat} {c:Int} (YO:fK y) (N:NW y) (hi:i<y.ns.length) (hc:0<=c) (hc2:c<=2000000000000):RwB (xP y i c)/\NW (Q_ y i c):=by
 have l1:=YO.lp;have l2:=YO.ls;have es:y.ss[i]?=some y.ss[i]:=eF (by omega)
 have e1:mK y i=y.ss[i]:=by unfold mK; rw[jD,es]; rfl
 have e2:nG y i=y.ps[i]:=by unfold nG; rw[jD,eF (by omega:i<y.ps.length)]; rfl
 have m1:mK y i∈y.ss:=by rw[e1]; exact oO _
 have m2:nG y i∈y.ps:=by rw[e2]; exact oO _
 have X:=Pz (x:=nG y i) (st:=mK y i) (c:=c) (YO.pg _ m2) (YO.sg _ m1) (JR YO);have hw:=N.w _ m1;have ht:=N.t;have hh:=Xp YO.sg m1;have hh2:=YO.hs;have h0:=BV (YO.sg _ m1);obtain⟨r0,r1⟩:=Oo (YO.sg _ m1);obtain⟨t0,t1⟩:=Rz (x:=nG y i) (st:=mK y i) hc;have p1:=(YO.pg _ m2).p
 have hr:0<=fH (mK y i)*(nG y i).p/\fH (mK y i)*(nG y i).p<=60000000:=by
  refine⟨Int.mul_nonneg r0 (by omega),?_⟩
  calc fH (mK y i)*(nG y i).p<=60*1000000:=Int.mul_le_mul (by omega) p1.2 (by omega) (by decide)
   _=60000000:=by decide
 have hd:0<=iJ (nG y i) (mK y i) c/\iJ (nG y i) (mK y i) c<=60000000/\iJ (nG y i) (mK y i) c<=(mK y i).w+dX (nG y i) (mK y i) c:=by
  unfold iJ;generalize fH (mK y i)*(nG y i).p=g at hr;generalize dX (nG y i) (mK y i) c=t at t0 t1;split <;> omega
 refine⟨⟨⟨hc,hc2⟩,⟨hd.1,hd.2.1⟩,⟨by show 0<=c-dX _ _ c; omega,by show c-dX _ _ c<=_; omega⟩,?_⟩,⟨fun s hs=>?_,ht⟩⟩
 ·have h1:=X.h;have h2:=BV X.s;have h3:=X.l;have hf:kI y<=12:=by unfold kI; split <;> omega
  show -100<=xH (nG y i) (mK y i) c (kI y)/\xH (nG y i) (mK y i) c (kI y)<=100;omega
 ·rcases KJ hs with h | h
  ·exact N.w s h
  ·rw[h];show 0<=(gF _ (jr _ _ c) _).w;rw[VP];show 0<=(mK y i).w+dX _ _ c-iJ _ _ c;omega
structure ad9 (y:Yd) (cm:List Int) (i:Nat):Prop where
 b:∀r∈(bW y cm i).2.2,RwB r
 n:NW (bW y cm i).1
 c:∀c∈(bW y cm i).2.1,0<=c/\c<=1000000000000+i*60000000
 t:∀j t,y.ts[j]?=some t->∃t',(bW y cm i).1.ts[j]?=some t'/\(i<=j->t'=t)/\∀r,(bW y cm i).2.2[j]?=some r->t'=Ue t r.c r.d r.a
 l:(bW y cm i).2.2.length=i
theorem Va {y:Yd} {cm:List Int} (YO:fK y) (N:NW y) (hcm:∀c∈cm,0<=c/\c<=1000000000000):∀i,i<=y.ns.length->ad9 y cm i
 | 0,_=>⟨fun r h=>by simp[bW] at h,N,fun c h=>by have:=hcm c h; omega,fun j t h=>⟨t,h,fun _=>rfl,fun r hr=>by simp[bW] at hr⟩,rfl⟩
 | i+1,h=>by
  have ih:=Va YO N hcm i (Jh h);have F:=gf y cm i;have YI:=qN (cm:=cm) YO (Jh h);have n5:=YO.n5;obtain⟨c,ec⟩:∃c,(bW y cm i).2.1.getD i 0=c:=⟨_,rfl⟩
  have hc:0<=c/\c<=1000000000000+i*60000000:=by
   rw[<- ec,jD];cases e:(bW y cm i).2.1[i]? with
   | none=>show 0<=(0:Int)/\(0:Int)<=_; omega
   | some v=>exact ih.c v (dz e)
  obtain⟨P1,P2⟩:=acI (i:=i) (c:=c) YI ih.n (by rw[F.n]; omega) hc.1 (by omega)
  have e1:(bW y cm (i+1)).1=Q_ (bW y cm i).1 i c:=by show Q_ _ _ ((bW y cm i).2.1.getD i 0)=_; rw[ec]
  have e3:(bW y cm (i+1)).2.2=(bW y cm i).2.2++[xP (bW y cm i).1 i c]:=by show _++[xP _ _ ((bW y cm i).2.1.getD i 0)]=_; rw[ec]
  refine⟨fun r hr=>?_,by rw[e1]; exact P2,fun v hv=>?_,fun j t ht=>?_,by rw[e3,cB,ih.l]; rfl⟩
  ·rw[e3] at hr;rcases eQ.mp hr with h | h
   ·exact ih.b r h
   ·rw[dH.mp h]; exact P1
  ·have e2:(bW y cm (i+1)).2.1=match (bW y cm i).1.os.getD i none with
     | none=>(bW y cm i).2.1
     | some o=>(bW y cm i).2.1.set ((bW y cm i).1.ns.idxOf o) ((bW y cm i).2.1.getD ((bW y cm i).1.ns.idxOf o) 0+(xP (bW y cm i).1 i c).d):=by
    rw[<- ec]; rfl
   rw[e2] at hv;have hd:=P1.d;split at hv
   ·have:=ih.c v hv; omega
   ·rename_i o _;rcases KJ hv with h | h
    ·have:=ih.c v h; omega
    ·rw[h,jD];cases e:(bW y cm i).2.1[(bW y cm i).1.ns.idxOf o]? with
     | none=>show 0<=(0:Int)+_/\(0:Int)+_<=_; omega
     | some u=>
      have:=ih.c u (dz e);show 0<=u+_/\u+_<=_;omega
  ·obtain⟨t',g1,g2,g3⟩:=ih.t j t ht;rw[e1,e3];by_cases hj:i=j
   ·subst hj;have gt:Sv (bW y cm i).1 i=t:=by unfold Sv; rw[jD,g1,g2 (bD _)]; rfl
    refine⟨Ue t c (xP (bW y cm i).1 i c).d (xP (bW y cm i).1 i c).a,?_,fun z=>by omega,fun r hr=>?_⟩
    ·show((bW y cm i).1.ts.set i _)[i]?=_;rw[OD (i_.mp g1).1,gt]
    ·rw[xV (by rw[ih.l]; exact bD _),ih.l,zx] at hr
     cases hr;rfl
   ·refine⟨t',?_,fun z=>g2 (by omega),fun r hr=>?_⟩
    ·show((bW y cm i).1.ts.set i _)[j]?=_;rw[List.getElem?_set_ne hj]; exact g1
    ·by_cases hl:j<i
     ·rw[DK (by rw[ih.l]; exact hl)] at hr
      exact g3 r hr
     ·rw[Jk (by rw[cB,ih.l]; simp; omega)] at hr
      cases hr
theorem JT {cs:List Nat} (h:MK cs):fine 0 (.str (tx cs))=true:=by
 have h1:=h.n;have h2:=h.g;show(decide ((tx cs).length<=40)&&(tx cs).cps.toList.all fun c=>decide (c<4294967296))=true;rw[xT];refine⟨j0 (show cs.toArray.size<=40 by rw[eU]; omega),?_⟩
 show cs.toArray.toList.all _=true;simp only[j4,decide_eq_true_eq];intro c hc;have:=(h2 c hc).2;omega
theorem dq.of {D M:Nat}:∀{ds:List PyData},(∀d∈ds,Wt D M d)->dq D ((M+2)*ds.length) ds
 | [],_=>dq.nil.mono (gm _) (by simp)
 | d::ds,h=>((dq.cons (h d (cY ..)) (dq.of fun e he=>h e (gk _ he)))).mono (bD _) (by rw[gw,Nat.mul_succ]; omega)
def RwG (ns:List Str) (r:Rw):Prop:=RwB r/\r.n∈ns
def Uk (ns:List Str):Prop:=ns.length<=5/\∀n∈ns,∃cs,n=tx cs/\MK cs
theorem Zg {ns:List Str} {r:Rw} (N:Uk ns) (h:RwG ns r):Wt 2 2520 (uX r):=by
 obtain⟨⟨c,d,a,g⟩,hn⟩:=h;obtain⟨cs,en,hc⟩:=N.2 _ hn;have i:∀v:Int,-100<=v->v<=2000000000000->Wt 0 500 (.int v):=fun v h1 h2=>(Py (b:=10000000000000) (by omega)).wt (by decide)
 have s:Wt 0 500 (.str r.n):=by rw[en]; exact(Em (b:=0) (JT hc)).wt (by decide)
 exact((dq.cons s (dq.cons (i _ (by omega) (by omega)) (dq.cons (i _ (by omega) (by omega)) (dq.cons (i _ (by omega) (by omega)) (dq.cons (i _ (by omega) (by omega)) dq.nil))))).tup).mono (by decide) (by decide)
structure Vx (ns:List Str) (rs:List Rw):Prop where
 l:rs.length=ns.length
 g:∀r∈rs,RwG ns r
theorem Up {ns:List Str} {rs:List Rw} (N:Uk ns) (h:Vx ns rs):Wt 3 13000 (qe rs):=by
 have:=N.1;have hl:=h.l;refine(dq.lst (D:=2) (M:=2522*(rs.map uX).length) (dq.of fun d hd=>?_)).mono (by decide) ?_
 ·obtain⟨r,hr,rfl⟩:=cO.mp hd;exact Zg N (h.g r hr)
 ·rw[b7]; omega
theorem CJ {ds:List PyData} (h:∀d∈ds,d.hasDict=false):(PyData.list ds).hasDict=false:=by
 show PyData.hasDictAll ds=false
 induction ds with
 | nil=>rfl
 | cons d ds ih=>
  show(d.hasDict || PyData.hasDictAll ds)=false;rw[h d (cY ..),ih fun e he=>h e (gk _ he)]; rfl
theorem M8 {ns:List Str} {rs:List Rw} (N:Uk ns) (h:Vx ns rs):(Kk.line rs).W/\(Kk.line rs).le:=by
 have w:=(Up N h).mono (D':=60) (M':=sizeLine) (by decide) (by decide)
 have nd:(PyData.list (rs.map uX)).hasDict=false:=CJ fun d hd=>by obtain⟨r,_,rfl⟩:=cO.mp hd; rfl
 exact⟨⟨w,nd⟩,by show rs.length<=500; have:=h.l; have:=N.1; omega⟩
theorem VR {ns:List Str} {dR:List (List Rw)} (N:Uk ns) (h:∀rs∈dR,Vx ns rs) (hl:dR.length<=400):(Kk.told dR).W/\(Kk.told dR).le:=by
 have w:Wt 4 (13002*(dR.map qe).length+3) (.list (dR.map qe)):=dq.lst (D:=3) (dq.of (M:=13000) fun d hd=>by obtain⟨r,hr,rfl⟩:=cO.mp hd; exact Up N (h r hr))
 refine⟨⟨w.mono (by decide) (by rw[b7]; unfold sizeLine; omega),CJ fun d hd=>?_⟩,⟨by omega,fun r hr=>by have:=(h r hr).l; have:=N.1; omega⟩⟩
 obtain⟨r,_,rfl⟩:=cO.mp hd;exact CJ fun d hd=>by obtain⟨r,_,rfl⟩:=cO.mp hd; rfl
theorem Zh {ns:List Str} (N:Uk ns):(Kk.nms ns).W/\(Kk.nms ns).le:=by
 have n5:=N.1
 have w:Wt 1 (502*(ns.map PyData.str).length+3) (.list (ns.map .str)):=dq.lst (D:=0) (dq.of (M:=500) fun d hd=>by
  obtain⟨r,hr,rfl⟩:=cO.mp hd;obtain⟨cs,en,hc⟩:=N.2 _ hr
  rw[en]; exact(Em (b:=0) (JT hc)).wt (by decide))
 exact⟨⟨w.mono (by decide) (by rw[b7]; unfold sizeLine; omega),CJ fun d hd=>by obtain⟨r,_,rfl⟩:=cO.mp hd; rfl⟩,by show ns.length<=500; omega⟩
def eZ (f:Rw->Int) (pa:List (List Rw)) (j:Nat):Int:=(pa.map fun rs=>((rs[j]?).map f).getD 0).sum
theorem tO {f:Rw->Int} {pa:List (List Rw)} {rs:List Rw} {j:Nat} {r:Rw} (h:rs[j]?=some r):eZ f (pa++[rs]) j=eZ f pa j+f r:=by
 unfold eZ;rw[gq,List.sum_append];simp[h]
structure Q5 (y:Yd):Prop where
 nw:NW y
 ln:∀rs∈y.pa,Vx y.ns rs
 sm:∀j t,y.ts[j]?=some t->t=[eZ Rw.c y.pa j,eZ Rw.d y.pa j,eZ Rw.a y.pa j]
theorem Q5.op {ns:List Str} {op:Yd->Yd} (G:Uj ns op) {y:Yd} (YO:fK y) (e:y.ns=ns) (h:Q5 y):Q5 (op y):=by
 obtain⟨_,h1,h2,h3,h4,h5⟩:=G.ok YO e;refine⟨⟨by rw[h2]; exact h.nw.w,by rw[h5]; exact h.nw.t⟩,by rw[h4,h1,<- e]; exact h.ln,by rw[h3,h4]; exact h.sm⟩
theorem lookup_mem {cs:List (Str×Int)} {n:Str} {c:Int} (h:cs.lookup n=some c):(n,c)∈cs:=by
 induction cs with
 | nil=>simp at h
 | cons q cs ih=>
  obtain⟨m,v⟩:=q;rw[lG] at h;by_cases e:n=m
  ·subst e;rw[beq_self_eq_true] at h;cases h;exact cY ..
  ·rw[beq_false_of_ne e] at h;exact gk _ (ih h)
theorem adV {ns:List Str} {cs:List (Str×Int)} (h:∀q∈cs,0<=q.2/\q.2<=1000000000000):∀c∈uw ns cs,0<=c/\c<=1000000000000:=fun c hc=>by
 obtain⟨n,_,rfl⟩:=cO.mp hc;cases e:cs.lookup n with
 | none=>exact⟨by decide,by decide⟩
 | some v=>exact h _ (lookup_mem e)
theorem Q5.X4 {y:Yd} {cs:List (Str×Int)} (YO:fK y) (h:Q5 y) (hc:∀q∈cs,0<=q.2/\q.2<=1000000000000):Q5 (MF y cs)/\Vx y.ns (yG y cs):=by
 have R:=Va YO h.nw (adV (ns:=y.ns) hc) y.ns.length (bD _);have F:=gf y (uw y.ns cs) y.ns.length;have L:Vx y.ns (yG y cs):=⟨R.l,fun r hr=>⟨R.b r hr,adY r hr⟩⟩;refine⟨⟨⟨R.n.w,R.n.t⟩,fun rs hrs=>?_,fun j t ht=>?_⟩,L⟩
 ·show Vx (bW y (uw y.ns cs) y.ns.length).1.ns rs;rw[F.n];rcases eQ.mp (show rs∈y.pa++[yG y cs] from hrs) with h' | h'
  ·exact h.ln rs h'
  ·rw[dH.mp h']; exact L
 ·replace ht:(bW y (uw y.ns cs) y.ns.length).1.ts[j]?=some t:=ht
  have YR:=qN (cm:=uw y.ns cs) YO (bD _)
  have hj:j<y.ns.length:=by
   have:=(i_.mp ht).1;rw[YR.lt,F.n] at this; exact this
  have l3:=YO.lt;have e0:y.ts[j]?=some y.ts[j]:=eF (by omega)
  obtain⟨t',g1,_,g3⟩:=R.t j _ e0;rw[ht] at g1;cases g1;have lr:=R.l;have lb:j<(yG y cs).length:=by show j<(bW y (uw y.ns cs) y.ns.length).2.2.length; omega
  have er:(yG y cs)[j]?=some (yG y cs)[j]:=eF lb;have e1:=g3 _ er;have e2:=h.sm j _ e0;show t=[eZ Rw.c (y.pa++[yG y cs]) j,eZ Rw.d (y.pa++[yG y cs]) j,eZ Rw.a (y.pa++[yG y cs]) j];rw[tO er,tO er,tO er,e1,e2];rfl
section
variable {C a:Addr} {H0 H' cQ:Hp} {m m':Nat} {zs:List (Ya×Yd)} {ls:List (Addr×List V)}
theorem WD.chg (W:WD C a H0 m zs ls H') {S:List Addr} {ls':List (Addr×List V)} (f:Fr S H' cQ) (hS:∀b∈S,∃vs,(b,vs)∈ls) (h':∀l∈ls',(∃vs,(l.1,vs)∈ls)/\cQ l.1=some (.lst l.2)):WD C a H0 m zs ls' cQ/\cU H' cQ:=by
 have kp:cU H' cQ:=f.kp fun b hb xs e=>by
  obtain⟨vs,h⟩:=hS b hb;rw[(W.lo _ h).2.2] at e; cases e
 have nS:∀z∈zs,∀c∈z.1.own,c∉S:=fun z hz c hc hs=>by
  obtain⟨vs,h⟩:=hS c hs;exact(W.fo z hz c hc).2.2 _ h rfl
 refine⟨⟨⟨fun z hz=>(W.ys.at_ z hz).keep kp fun c hc o e=>f _ _ e (nS z hz c hc),W.ys.dj⟩,W.yo,fun z hz c hc=>⟨(W.fo z hz c hc).1,(W.fo z hz c hc).2.1,fun l hl=>?_⟩,fun l hl=>?_,?_,?_⟩,kp⟩
 ·obtain⟨vs,h⟩:=(h' l hl).1;exact(W.fo z hz c hc).2.2 (l.1,vs) h
 ·obtain⟨vs,h⟩:=(h' l hl).1;exact⟨(W.lo _ h).1,(W.lo _ h).2.1,(h' l hl).2⟩
 ·obtain⟨u1,u2,u3,eu,r⟩:=W.tp
  exact⟨u1,u2,u3,f _ _ eu fun h=>by
   obtain⟨vs,h⟩:=hS _ h
   exact(W.lo _ h).2.1 rfl,r⟩
 ·intro b o e;obtain⟨b1,b2⟩:=iI e;rw[cJ b1]
  exact f _ _ (W.sx.get b1 b2) fun h=>by
   obtain⟨vs,h⟩:=hS _ h;rw[(W.lo _ h).1] at b2; cases b2
theorem WD.aat (W:WD C a H0 m zs ls H') {H1:Hp} (s0:∀b,H1 b=none->H0 b=none/\b≠a/\∀z∈zs,b∉z.1.own):∀{Hm:List (Addr×List V)},(∀l∈Hm,H1 l.1=none/\H' l.1=some (.lst l.2))->WD C a H0 m zs (Hm++ls) H'
 | [],_=>W
 | l::Hm,h=>by
  have ih:=WD.aat W s0 (Hm:=Hm) fun x hx=>h x (gk _ hx);obtain⟨h1,h2⟩:=h l (cY ..);obtain⟨f1,f2,f4⟩:=s0 _ h1;exact ih.mem f1 f2 f4 h2
theorem uT.world {ls':List (Addr×List V)} {jG:List (Ya×Yd)} {e:Ke} (h:uT H' e) (W:WD C a H0 m zs ls H') (W':WD C a H0 m' jG ls' cQ) (k:cU H' cQ) (hb:∀b∈e.th::e.ms,∃vs,(b,vs)∈ls/\(b,vs)∈ls'):uT cQ e:=h.keep k fun b hb' vs ev=>by
 obtain⟨vs',h1,h2⟩:=hb b hb';rw[(W.lo _ h1).2.2] at ev;cases ev;exact(W'.lo _ h2).2.2
theorem Kk.aax {H:Hp} {th:Addr} {ms:List Addr}:∀{q:Kk},q.at_ H th ms->∀b∈th::ms,∃vs,H b=some (.lst vs)
 | .line rs,⟨h0,xs,e,_⟩,b,hb=>by
  subst h0;rw[dH.mp hb]; exact⟨xs,e⟩
 | .told dR,⟨e,a⟩,b,hb=>by
  rcases bF.mp hb with rfl | h
  ·exact⟨_,e⟩
  ·exact a.all b h
 | .nms ns,⟨h0,e⟩,b,hb=>by
  subst h0;rw[dH.mp hb]; exact⟨_,e⟩
structure KW (C a:Addr) (H0:Hp) (m:Nat) (A:Ya) (y:Yd) (qa kl tl:Addr) (es:List Ke) (ls:List (Addr×List V)) (H':Hp):Prop where
 W:WD C a H0 m [(A,y)] ls H'
 q:(qa,y.ns.map V.str)∈ls
 k:(kl,es.map fun e=>V.ref e.t)∈ls
 t:(tl,y.pa.map fun rs=>V.str (PyData.shown (qe rs)))∈ls
 n1:qa≠kl
 n2:qa≠tl
 n3:kl≠tl
 e:∀e∈es,uT H' e/\∀b∈e.th::e.ms,(∃vs,(b,vs)∈ls)/\b≠kl/\b≠tl/\b≠qa
theorem KW.go {A A':Ya} {y y':Yd} {qa kl tl:Addr} {es:List Ke} {ls ls':List (Addr×List V)} (h:KW C a H0 m A y qa kl tl es ls H') (W:WD C a H0 m' [(A',y')] ls' cQ) (k:cU H' cQ) (hs:∀l∈ls,l∈ls') (en:y'.ns=y.ns) (ep:y'.pa=y.pa):KW C a H0 m' A' y' qa kl tl es ls' cQ:=
 ⟨W,by rw[en]; exact hs _ h.q,hs _ h.k,by rw[ep]; exact hs _ h.t,h.n1,h.n2,h.n3,fun e he=>⟨(h.e e he).1.world h.W W k fun b hb=>by
  obtain⟨⟨vs,hv⟩,_⟩:=(h.e e he).2 b hb
  exact⟨vs,hv,hs _ hv⟩,fun b hb=>by
  obtain⟨⟨vs,hv⟩,r⟩:=(h.e e he).2 b hb
  exact⟨⟨vs,hs _ hv⟩,r⟩⟩⟩
end
theorem KW.up {C a:Addr} {H0 H' cQ:Hp} {m m':Nat} {A A':Ya} {y y':Yd} {qa kl tl:Addr} {es es2:List Ke} {ls ls':List (Addr×List V)} (h:KW C a H0 m A y qa kl tl es ls H') (W:WD C a H0 m' [(A',y')] ls' cQ) (k:cU H' cQ) (en:y'.ns=y.ns) (hs:∀l∈ls,l.1≠kl->l.1≠tl->l∈ls') (hk:(kl,(es++es2).map fun e=>V.ref e.t)∈ls') (ht:(tl,y'.pa.map fun rs=>V.str (PyData.shown (qe rs)))∈ls') (he:∀e∈es2,uT cQ e/\∀b∈e.th::e.ms,(∃vs,(b,vs)∈ls')/\b≠kl/\b≠tl/\b≠qa):KW C a H0 m' A' y' qa kl tl (es++es2) ls' cQ:=
 ⟨W,by rw[en]; exact hs _ h.q h.n1 h.n2,hk,ht,h.n1,h.n2,h.n3,fun e hm=>by
  rcases eQ.mp hm with h1 | h1
  ·obtain⟨g1,g2⟩:=h.e e h1;refine⟨g1.world h.W W k fun b hb=>?_,fun b hb=>?_⟩
   ·obtain⟨⟨vs,hv⟩,r1,r2,_⟩:=g2 b hb;exact⟨vs,hv,hs _ hv r1 r2⟩
   ·obtain⟨⟨vs,hv⟩,r1,r2,r3⟩:=g2 b hb;exact⟨⟨vs,hs _ hv r1 r2⟩,r1,r2,r3⟩
  ·exact he e h1⟩
theorem QD {K:PySem.W.Frag} {nt:Nat} {g:TG} {js:List Nat} {xs:List V} {tl te:TE} {σ:St} {H:Hp} {Q:VK} (τ:Nat->St) (hτ:∀i,(τ i).length=nt) (hl:∀R:VK,(∀a H1,aM H H1->H1 a=some (.tup xs)->R (.ref a) H1)->tl σ H R)
  (h:∀H1 acc,aM H H1->H1 acc=none->∃Pv:Nat->List V->Hp->Prop,Pv 0 [] (upd H1 acc (.lst []))/\(∀i ys H',Pv i ys H'->aM H1 H') /\
   (∀i x ys H',xs[i]?=some x->Pv i ys H'->(∀R:St->Hp->Prop,R (τ i++bQ js σ) H'->g x (List.replicate nt none++bQ js σ) H' R)/\te (τ i++bQ js σ) H' fun y H4=>H4 acc=some (.lst ys)/\ys.length<sizeLine/\Pv (i+1) (ys++[y]) (upd H4 acc (.lst (ys++[y]))))/\∀ys H',Pv xs.length ys H'->Q (.ref acc) H'):fD nt js (Eu K tl) g qH te σ H Q:=
 hl _ fun a H1 s1 e1=>QC (tl:=fun _ H R=>R (.ref a) H) τ hτ (fun _ hR=>hR) e1 fun acc f=>by
  obtain⟨Pv,p0,p1,p2,p3⟩:=h H1 acc s1 f;exact⟨Pv,p0,fun i ys H' hp=>p1 i ys H' hp _ _ e1,p2,p3⟩
theorem aai {ns:List Str} {rs:List Rw} (N:Uk ns) (h:Vx ns rs):my (PyData.shown (qe rs)):=my.lst fun t ht=>by
 obtain⟨d,hd,rfl⟩:=cO.mp ht;obtain⟨r,hr,rfl⟩:=cO.mp hd;refine my.tup fun t ht=>?_;simp only[gZ,zq,bF,dU,or_false] at ht;obtain⟨cs,en,hc⟩:=N.2 _ (h.g r hr).2;rcases ht with rfl | rfl | rfl | rfl | rfl
 ·refine my.repr fun c hc'=>?_;rw[en] at hc';have:=(hc.g c (by simpa[tx] using hc')).2
  omega
 all_goals exact my.int _
theorem Rt {S:List Str} (h:∀s∈S,my s):PyData.hasDict (.list (S.map .str))=false/\PyData.canLay0 (.list (S.map .str))=true/\PyData.depth (.list (S.map .str))<=60:=by
 have:PyData.hasDictAll (S.map .str)=false/\PyData.canLayAll0 (S.map .str)=true/\PyData.depthAll (S.map .str)=0:=by
  induction S with
  | nil=>exact⟨rfl,rfl,rfl⟩
  | cons s S ih=>
   obtain⟨h1,h2,h3⟩:=ih fun t ht=>h t (gk _ ht);refine⟨?_,?_,?_⟩
   ·show(PyData.hasDict (.str s) || PyData.hasDictAll (S.map .str))=false;rw[h1]; rfl
   ·show(PyData.canLay0 (.str s)&&PyData.canLayAll0 (S.map .str))=true;rw[(h s (cY ..)).ok,h2]; rfl
   ·show max (PyData.depth (.str s)) (PyData.depthAll (S.map .str))=0;rw[h3]; rfl
 refine⟨this.1,this.2.1,?_⟩;show PyData.depthAll (S.map .str)+1<=60;rw[this.2.2]; decide
def M_ (H:Hp) (b:Addr):List V:=match H b with
 | some (.lst vs)=>vs
 | _=>[]
theorem Im {H:Hp} {b:Addr} (h:∃vs,H b=some (.lst vs)):H b=some (.lst (M_ H b)):=by
 obtain⟨vs,e⟩:=h;unfold M_;rw[e]
def ZG:Sp:=fun vs H Q _=>∃(a:Addr) (n:Nat),vs=[.ref a]/\Tp H a n/\n<=1000000/\∀H' m,Tp H' a m->SX a H H'->Q (.bl true) H'
theorem tZ:aV ["_law_tape_here","_law_total","_law_rows","_law_stands_here","_law_posts","_law_begun","_law_yard_here","_law_kept","_law_texts","_law_names_here","_law_turn","_law_comes_here","_law_line","_law_told","_law_k","_law_name","_law_due"] ["_law_tape_here"] (aG pP):=(by walk_at "c")
theorem Eh {C:Addr} (F:iM K "_law_walked" "_law_walked" pP f fd) (B:Bi mg) (Z:ZY K C) (aK:Ct P w K mg base k "_law_draw" ["_law_tape_here","_law_many"] fW) (QJ:Ct P w K mg base k "_law_yard" ["_law_tape_here"] ZF) (HR:Ct P w K mg base k "_law_stands" ["_law_tape_here","_law_total","_law_rows"] U3) (Mm:Ct P w K mg base k "_law_comes" ["_law_tape_here","_law_names_here"] Wd) (jz:Ct P w K mg base k "_law_same" ["_law_found","_law_due"] (Kh 6)) (tQ:Ct P w K mg base k "_law_spoil" ["_law_things"] N6) (Mp:Ct P w K mg base k "_law_asked" ["_law_yard_here","_law_kept"] (U5 C)) (QM:Ct P w K mg base k "_law_deed" ["_law_tape_here","_law_yard_here","_law_handed"] (Oa C)) (HW:YQ P w K mg base k C "Yard" ["self","total","posts","stands"] (Gp C)) (lV:ux P w K mg base k C "beat" ["self","comes"] (Wa C)) (d_:ux P w K mg base k C "told" ["self"] (NK C)) (cu:ux P w K mg base k C "names" ["self"] (IK C)) (dF:ux P w K mg base k C "beats" ["self"] (NP C)) (gU:ux P w K mg base k C "counts" ["self","name"] (Dl C gT)):bJ P w K mg base gD (k+1) f fd ["_law_tape_here"] ZG:=by
 refine F.ok tZ (by rintro vs H Q E ⟨a,n,rfl,_⟩; rfl) (fun cdv A outer s H vs Q E hr h=>?_)
 obtain⟨a,n,rfl,tp,hn,q⟩:=h;have ND:=tZ.nd;refine⟨_,(aq (eX (pf QJ hr (ao (pv 0) ak)) (bT (K:=K) (n:=2) rfl rfl (aJ (aH (i:=1) ND rfl (by walk_at "o")) (aJ (aH (i:=2) ND rfl (by walk_at "o")) bR)))) (aq (aU (i:=3) ND rfl (by walk_at "o") (pf HR hr (ao (pv 0) (ao (pv 1) (ao (pv 2) ak))))) (aq (tG (i:=4) (j:=5) rfl ND rfl rfl (by decide) rfl rfl (ao (pt (kZ) B.list gY (ao (pv 2) ak)) (ao (dI (bh wH (pv 3) fZ (bf _)) fZ (pt (kZ) B.list gY (ao (pv 3) ak))) ak)) (by rfl)) (aq (Jr (i:=6) (j:=7) (l:=8) rfl ND rfl rfl rfl rfl rfl rfl (ao (pk HW hr (ao (pv 1) (ao (pv 4) (ao (pv 5) ak)))) (ao (bM ak) (ao (bM ak) ak))) (by rfl)) (aq (Bg (i:=9) ND rfl (by walk_at "o") (N':=["_law_row_here"]) (js:=[]) rfl (bI (K:=K) rfl (pv 2)) rT.Te rfl (by decide) rfl (fun fp s' H'=>(bz bj (pv 0) aC (fun _ _=>rfl)))) (aq (bC (wB PySem.F.plainAttrs_list PySem.F.slot_list_reverse PySem.F.type_list_reverse jq (pv 4))) (aq (bC (d7 (K:=K) rfl PySem.F.plainAttrs_list PySem.F.slot_list_append PySem.F.type_list_append cI (pv 4) (ao (bc (ao fY (ao (bz bj (bz bj (pv 2) aC (fun _ _=>rfl)) aC (fun _ _=>rfl)) (ao fZ ak)))) ak))) (aq (cL (bh uZ (pv 5) fZ (bf _)) (aF (bC (wB PySem.F.plainAttrs_list PySem.F.slot_list_reverse PySem.F.type_list_reverse jq (pv 5)))) bH) (aq (gK PassesOwn.never rfl (eG (by rfl) B.range (ao (aQ bB aC (pf aK hr (ao (pv 0) (ao aC ak)))) ak)) (aH (i:=10) ND rfl (by walk_at "o")) (aq (aU (i:=11) ND rfl (by walk_at "o") (pf Mm hr (ao (pv 0) (ao (pv 9) ak)))) (aq (aU (i:=12) ND rfl (by walk_at "o") (pm lV hr (pv 6) (ao (pv 11) ak))) (aq (bC (d7 (K:=K) rfl PySem.F.plainAttrs_list PySem.F.slot_list_append PySem.F.type_list_append cI (pv 8) (ao (pt (iu hr) B.str jC (ao (pv 12) ak)) ak))) (aq (cL (bh gC (pf aK hr (ao (pv 0) (ao aC ak))) aC (bf _)) (aF (bC (pf tQ hr (ao (pv 12) ak)))) (aF (bC (d7 (K:=K) rfl PySem.F.plainAttrs_list PySem.F.slot_list_append PySem.F.type_list_append cI (pv 7) (ao (bc (ao (pv 12) (ao (bz bj (pv 8) (Ve Nf aC) (fun _ _=>rfl)) ak))) ak))))) (aq (bC (pf QM hr (ao (pv 0) (ao (pv 6) (ao (pv 11) ak))))) (aF (cL (PW.pt (Bf (bh gC (pf aK hr (ao (pv 0) (ao aC ak))) aC (bf _)) (uY (lJ (dY (pf Mp hr (ao (pv 6) (ao (pv 7) ak)))))))) (aF (a_ pI)) bH)))))))) (aq (aU (i:=13) ND rfl (by walk_at "o") (KQ d_ hr (pv 6))) (aq (cL (PW.pt (qU (bh (WM hr.units) (dG (N':=["_law_line"]) (js:=[]) rfl (bI (K:=K) rfl (pv 13)) rT.Te rfl (by decide) rfl (fun fp s' H'=>(pt (iu hr) B.str jC (ao (pv 0) ak)))) (pv 8) (bf _)) (lH (dY (pb (Mi rfl) B.any XS (ao (jm (nt:=2) (N':=["_law_thing","_law_written"]) (js:=[]) rfl (bI (K:=K) rfl (pv 7)) oZ.of (fun fp s' H'=>(bT (K:=K) (n:=2) rfl rfl (aJ (aH (i:=0) (by show List.Nodup (["_law_thing","_law_written"]:List Str); decide) rfl (.inl (gA rfl)) (.inr (gA rfl))) (aJ (aH (i:=1) (by show List.Nodup (["_law_thing","_law_written"]:List Str); decide) rfl (.inl (gA rfl)) (.inr (gA rfl))) bR)))) (fun fp s' H'=>gO) (fun fp s' H'=>(dZ wF (pt (iu hr) B.str jC (ao (pv 0) ak)) (pv 1) (bf _)))) ak)))))) (aF (a_ pI)) bH) (aq (gK PassesOwn.never rfl (Jt (K:=K) rfl B.enumerate (ao (pv 9) ak)) (bT (K:=K) (n:=2) rfl rfl (aJ (aH (i:=14) ND rfl (by walk_at "o")) (aJ (aH (i:=15) ND rfl (by walk_at "o")) bR))) (aq (aU (i:=16) ND rfl (by walk_at "o") (pt (jc) B.tuple gW (ao (Eb (nt:=1) (N':=["_law_place","_law_told","_law_k"]) (js:=[13,14]) rfl (qY (K:=K) rfl (bc (ao aC (ao aC (ao aC ak))))) qz.of (fun fp s' H'=>(aH (i:=0) (by show List.Nodup (["_law_place","_law_told","_law_k"]:List Str); decide) rfl (.inr (iQ rfl)) (.inl rfl))) (fun fp s' H'=>gO) (fun fp s' H'=>(pb (fM rfl) B.sum lW (ao (dG (N':=["_law_line","_law_k","_law_place"]) (js:=[2,0]) rfl (bI (K:=K) rfl (pv 1)) rT.mk2 rfl (by decide) rfl (fun fp s' H'=>(bz bj (bz bj (pv 0) (pv 1) (fun _ _=>rfl)) (pv 2) (fun _ _=>rfl)))) ak)))) ak))) (aF (cL (PW.pt (qU (lJ (dY (pf jz hr (ao (pm gU hr (pv 6) (ao (pv 15) ak)) (ao (pv 16) ak))))) (lH (lJ (dY (pf jz hr (ao (pm gU hr (pv 6) (ao (pv 15) ak)) (ao (pv 16) ak)))))))) (aF (a_ pI)) bH)))) (aF (a_ (pf jz hr (ao (bM (ao (KQ cu hr (pv 6)) (ao (KQ dF hr (pv 6)) ak))) (ao (bM (ao (pv 9) (ao (pb (cA (K:=K) rfl) B.len dM (ao (pv 8) ak)) ak))) ak))))))))))))))))),?_⟩
 refine uz (fun σ H1=>∃tot p us ts,σ=[some (.ref a),some (.int tot),some (.ref p),none,none,none,none,none,none,none,none,none,none,none,none,none,none]/\WD C a H (n+3000) [] [(p,us)] H1/\aj H1 (List.map Dk ts) us/\Mt tot ts/\(∀x∈ts,C_ x.2.1)/\tot<=60) ?_ ?_
 rotate_left
 ·intro N hN;walk_at "rd";refine⟨a,n,rfl,tp,by omega,fun p q' tot ts us H1 ep f1 qa e1 a1 T hps h60 t1 x1=>?_⟩
  refine⟨p,_,rfl,e_.of ep,rfl,?_⟩;walk_at "rd";have W0:WD C a H (n+3000) [] [] H1:=⟨⟨by simp,by simp⟩,by simp,by simp,by simp,t1,x1⟩
  exact hN _ _ ⟨tot,q',us,ts,rfl,W0.mem f1 qa (by simp) e1,a1,T,hps,h60⟩
 rintro σ H1 ⟨tot,pr,us,ts,rfl,W1,a1,T,hps,h60⟩;have lt:=a1.length;rw[b7] at lt;have T5:=T.n5;refine uz (fun σ H2=>∃sv ss ls,σ=[some (.ref a),some (.int tot),some (.ref pr),some sv,none,none,none,none,none,none,none,none,none,none,none,none,none]/\WD C a H (n+3400) [] ls H2/\(pr,us)∈ls/\aj H2 (List.map Dk ts) us/\((sv=.non/\ss=ts.map fun x=>jw x.2.1)\/∃l jG,sv=.ref l/\(l,jG)∈ls/\aj H2 (ss.map vA) jG)/\ss.length=ts.length/\(∀z∈ss,FN z/\0<=z.w)/\hands ss<=tot) ?_ ?_
 rotate_left
 ·intro N hN;walk_at "rd";have e1:H1 pr=some (.lst us):=(W1.lo (pr,us) (by simp)).2.2
  refine⟨a,_,tot,pr,us,rfl,W1.tp,by omega,(W1.lo (pr,us) (by simp)).2.1,e1,by omega,fun sv H3 hsv t3 x3=>?_⟩
  have W3:=W1.oK x3 t3;have a3:=aj.kp (Ao W1.tp x3) _ _ (qI _) a1;rcases hsv with h | ⟨l,jG,ss,h1,f2,la,h2,h3,h4,h5,h6⟩
  ·refine hN _ _ ⟨sv,_,[(pr,us)],rfl,W3,by simp,a3,.inl ⟨h,rfl⟩,by rw[b7],fun z hz=>?_,by rw[ur hps]; exact T.lm⟩
   obtain⟨x,hx,rfl⟩:=cO.mp hz;exact⟨(JS (hps x hx)).1,zm 0⟩
  ·exact hN _ _ ⟨sv,ss,[(l,jG),(pr,us)],rfl,W1.aao f2 x3 t3 h2,by simp,a3,.inr ⟨l,jG,h1,by simp,h3⟩,by omega,h5,h6⟩
 rintro σ H2 ⟨sv,ss,ls,rfl,W2,hp,a2,hsv,hls,hss,hhs⟩;refine uz (fun σ H2=>∃p2 bv ls,σ=[some (.ref a),some (.int tot),some (.ref pr),some sv,some (.ref p2),some bv,none,none,none,none,none,none,none,none,none,none,none]/\WD C a H (n+3400) [] ls H2/\(pr,us)∈ls/\(p2,us)∈ls/\p2≠pr/\aj H2 (List.map Dk ts) us/\((bv=.non/\ss=ts.map fun x=>jw x.2.1)\/∃l jG,bv=.ref l/\(l,jG)∈ls/\l≠pr/\l≠p2/\aj H2 (ss.map vA) jG)) ?_ ?_
 rotate_left
 ·intro N hN;walk_at "rd";have e2:=(W2.lo _ hp).2.2;refine⟨pr,us,rfl,e2,fun p2 f2=>?_⟩;have s3:=aN f2 (HO.lst us);have e3:upd H2 p2 (.lst us) p2=some (.lst us):=aD;generalize upd H2 p2 (.lst us)=H3 at s3 e3 ⊢;have W3:=W2.new f2 s3 e3;have np:p2≠pr:=fun z=>by subst z; rw[e2] at f2; cases f2
  refine⟨trivial,?_⟩;rcases hsv with⟨h,hs⟩ | ⟨l,jG,h,hl,ha⟩
  ·subst h;rw[bx (by decide)]
   exact⟨_,_,rfl,hN _ _ ⟨p2,.non,_,rfl,W3,gk _ hp,cY ..,np,a2.mono s3,.inl ⟨rfl,hs⟩⟩⟩
  ·subst h;rw[aX (by simp)]
   have el:=s3 _ _ (W2.lo _ hl).2.2;have ep:=s3 _ _ e2;refine⟨l,jG,rfl,el,fun l2 f4=>?_⟩;have s4:=aN f4 (HO.lst jG);have e4:upd H3 l2 (.lst jG) l2=some (.lst jG):=aD;generalize upd H3 l2 (.lst jG)=H4 at s4 e4 ⊢;exact⟨_,_,rfl,hN _ _ ⟨p2,.ref l2,_,rfl,W3.new f4 s4 e4,gk _ (gk _ hp),gk _ (cY ..),np,(a2.mono s3).mono s4,.inr ⟨l2,jG,rfl,cY ..,(fun z=>by subst z; rw[ep] at f4; cases f4),(fun z=>by subst z; rw[e3] at f4; cases f4),(ha.mono s3).mono s4⟩⟩⟩
 rintro σ H3 ⟨p2,bv,ls,rfl,W3,hp,hp2,np,a3,hbv⟩;refine uz (fun σ H2=>∃A kl tl ls,σ=[some (.ref a),some (.int tot),some (.ref pr),some sv,some (.ref p2),some bv,some (.ref A.p),some (.ref kl),some (.ref tl),none,none,none,none,none,none,none,none]/\WD C a H (n+3400) [(A,ye tot ts ss)] ls H2/\(pr,us)∈ls/\(p2,us)∈ls/\(kl,[])∈ls/\(tl,[])∈ls/\(pr≠kl/\pr≠tl/\p2≠kl/\p2≠tl/\kl≠tl)/\aj H2 (List.map Dk ts) us/\(bv=.non\/∃l jG,bv=.ref l/\(l,jG)∈ls/\l≠pr/\l≠p2/\l≠kl/\l≠tl)) ?_ ?_
 rotate_left
 ·intro N hN;walk_at "rd";have ep:=(W3.lo _ hp).2.2;have ep2:=(W3.lo _ hp2).2.2;refine Td W3 ep2 a3 T hps (hbv.imp id fun⟨l,jG,h,hl,_,_,ha⟩=>⟨l,jG,h,(W3.lo _ hl).2.2,ha⟩) hls (fun z hz=>(hss z hz).1) hhs fun A H4 s4 W4=>?_;refine⟨by decide,fun kl H5 f5 s5 e5=>⟨by decide,fun tl H6 f6 s6 e6=>?_⟩⟩
  have W5:=W4.new f5 s5 e5;have W6:=W5.new f6 s6 e6;have dk:∀b vs,(b,vs)∈ls->b≠kl/\b≠tl:=fun b vs h=>⟨(fun z=>by subst z; rw[(W4.lo (b,vs) h).2.2] at f5; cases f5),(fun z=>by subst z; rw[(W5.lo (b,vs) (gk _ h)).2.2] at f6; cases f6)⟩
  have kt:kl≠tl:=fun z=>by subst z; rw[e5] at f6; cases f6
  have up:∀l,l∈ls->l∈(tl,([]:List V))::(kl,[])::ls:=fun l h=>gk _ (gk _ h);refine⟨_,_,_,rfl,hN _ _ ⟨A,kl,tl,_,rfl,W6,up _ hp,up _ hp2,gk _ (cY ..),cY ..,⟨(dk _ _ hp).1,(dk _ _ hp).2,(dk _ _ hp2).1,(dk _ _ hp2).2,kt⟩,a3.mono (s4.trans (s5.trans s6)),hbv.imp (fun h=>h.1) fun⟨l,jG,h,hl,h1,h2,_⟩=>⟨l,jG,h,up _ hl,h1,h2,(dk _ _ hl).1,(dk _ _ hl).2⟩⟩⟩
 rintro σ H4 ⟨A,kl,tl,ls,rfl,W4,hp,hp2,hk,htl,dst,a4,hbv⟩;have nn:(ts.map (·.1)).Nodup:=T.nn;refine uz (fun σ H2=>∃qa ls,σ=[some (.ref a),some (.int tot),some (.ref pr),some sv,some (.ref p2),some bv,some (.ref A.p),some (.ref kl),some (.ref tl),some (.ref qa),none,none,none,none,none,none,none]/\WD C a H (n+3400) [(A,ye tot ts ss)] ls H2/\(pr,us)∈ls/\(p2,us)∈ls/\(kl,[])∈ls/\(tl,[])∈ls/\(qa,(ts.map (·.1)).map V.str)∈ls/\(qa≠kl/\qa≠tl/\qa≠p2)/\aj H2 (List.map Dk ts) us/\(bv=.non\/∃l jG,bv=.ref l/\(l,jG)∈ls/\l≠pr/\l≠p2/\l≠kl/\l≠tl/\l≠qa)) ?_ ?_
 rotate_left
 ·intro N hN;walk_at "rd";obtain⟨lg,TA⟩:=sr a4;have e4:H4 pr=some (.lst us):=(W4.lo _ hp).2.2;refine jO ((ts.map (·.1)).map .str) (fun R hR=>by walk_at "rd"; exact hR) e4 (by simp; omega) (by omega) (mY _) (fun i x d H' hx hd s' R hR=>?_) fun acc vs H5 f5 s5 e5 a5=>?_
  ·have hi:i<ts.length:=by rw[<- lt]; exact(i_.mp hx).1
   have et:ts[i]?=some ts[i]:=eF hi;obtain⟨b,vp,h1,h2,h3⟩:=(TA.mono s'.kp).at_ i _ et;rw[hx] at h1;cases h1;rw[cT,cT,et] at hd;cases hd;walk_at "rd";exact Ix.tup h3 (aY (j:=0) rfl) (hR _ _ (aM.refl _) (At.str _))
  ·have:=kj a5;subst this;have W5:=W4.new f5 s5 e5;have df:∀b vs,(b,vs)∈ls->acc≠b:=fun b vs h z=>by subst z; rw[(W4.lo (_,vs) h).2.2] at f5; cases f5
   have up:∀l,l∈ls->l∈(acc,(ts.map (·.1)).map V.str)::ls:=fun l h=>gk _ h;exact hN _ _ ⟨acc,_,rfl,W5,up _ hp,up _ hp2,up _ hk,up _ htl,cY ..,⟨df _ _ hk,df _ _ htl,df _ _ hp2⟩,a4.mono s5,hbv.imp id fun⟨l,jG,h,hl,h1,h2,h3,h4⟩=>⟨l,jG,h,up _ hl,h1,h2,h3,h4,(df _ _ hl).symm⟩⟩
 rintro σ H5 ⟨qa,ls,rfl,W5,hp,hp2,hk,htl,hq,dsq,a5,hbv⟩;have mf:∀(ls:List (Addr×List V)) (vs':List V) (b:Addr) (vs:List V),(b,vs)∈ls->b≠p2->(b,vs)∈(p2,vs')::ls.filter fun l=>l.1≠p2:=fun ls vs' b vs h nb=>gk _ (mG.mpr ⟨h,by simpa using nb⟩)
 obtain⟨d1,d2,d3,d4,d5⟩:=dst;obtain⟨q1,q2,q3⟩:=dsq;refine uz (fun σ H2=>∃ls vs2,σ=[some (.ref a),some (.int tot),some (.ref pr),some sv,some (.ref p2),some bv,some (.ref A.p),some (.ref kl),some (.ref tl),some (.ref qa),none,none,none,none,none,none,none]/\WD C a H (n+3400) [(A,ye tot ts ss)] ls H2/\(pr,us)∈ls/\(p2,vs2)∈ls/\vs2.length<=5/\(kl,[])∈ls/\(tl,[])∈ls/\(qa,(ts.map (·.1)).map V.str)∈ls/\aj H2 (List.map Dk ts) us/\(bv=.non\/∃l jG,bv=.ref l/\(l,jG)∈ls/\l≠pr/\l≠p2/\l≠kl/\l≠tl/\l≠qa)) ?_ ?_
 rotate_left
 ·intro N hN;walk_at "rd";have e2:H5 p2=some (.lst us):=(W5.lo _ hp2).2.2;obtain⟨W6,k6⟩:=W5.put (vs':=us.reverse) hp2;refine⟨.inl ⟨rfl,_,b_.of e2⟩,p2,_,rfl,rfl,e2,hN _ _ ⟨_,us.reverse,rfl,W6,mf _ _ _ _ hp np.symm,cY ..,by rw[List.length_reverse]; omega,mf _ _ _ _ hk d3.symm,mf _ _ _ _ htl d4.symm,mf _ _ _ _ hq q3,aj.kp k6 _ _ (qI _) a5,hbv.imp id fun⟨l,jG,h,hl,h1,h2,h3⟩=>⟨l,jG,h,mf _ _ _ _ hl h2,h1,h2,h3⟩⟩⟩
 rintro σ H6 ⟨ls,vs2,rfl,W6,hp,hp2,lv2,hk,htl,hq,a6,hbv⟩;refine uz (fun σ H2=>∃ls vs2,σ=[some (.ref a),some (.int tot),some (.ref pr),some sv,some (.ref p2),some bv,some (.ref A.p),some (.ref kl),some (.ref tl),some (.ref qa),none,none,none,none,none,none,none]/\WD C a H (n+3400) [(A,ye tot ts ss)] ls H2/\(p2,vs2)∈ls/\(kl,[])∈ls/\(tl,[])∈ls/\(qa,(ts.map (·.1)).map V.str)∈ls/\(bv=.non\/∃l jG,bv=.ref l/\(l,jG)∈ls/\l≠kl/\l≠tl/\l≠qa)) ?_ ?_
 rotate_left
 ·intro N hN;walk_at "rd";have e2:H6 p2=some (.lst vs2):=(W6.lo _ hp2).2.2;have er:H6 pr=some (.lst us):=(W6.lo _ hp).2.2;obtain⟨lg,TA⟩:=sr a6;have T1:=T.n1;have et:ts[0]?=some ts[0]:=eF (by omega)
  obtain⟨b,vp,h1,h2,h3⟩:=TA.at_ 0 _ et;refine⟨.inl ⟨rfl,_,b_.of e2⟩,Ix.lst er (aY (j:=0) h1) (Ix.tup h3 (aY (j:=1) rfl) ⟨by decide,fun p7 H7 f7 s7 e7=>?_⟩)⟩
  obtain⟨W8,k8⟩:=(W6.grow s7).put (vs':=vs2++[V.ref p7]) hp2;exact⟨p2,vs2,_,rfl,rfl,s7 _ _ e2,aP (by omega),hN _ _ ⟨_,_,rfl,W8,cY ..,mf _ _ _ _ hk d3.symm,mf _ _ _ _ htl d4.symm,mf _ _ _ _ hq q3,hbv.imp id fun⟨l,jG,h,hl,h1,h2,h3⟩=>⟨l,jG,h,mf _ _ _ _ hl h2,h3⟩⟩⟩
 rintro σ H7 ⟨ls,vs2,rfl,W7,hp2,hk,htl,hq,hbv⟩;refine uz (fun σ H2=>∃ls,σ=[some (.ref a),some (.int tot),some (.ref pr),some sv,some (.ref p2),some bv,some (.ref A.p),some (.ref kl),some (.ref tl),some (.ref qa),none,none,none,none,none,none,none]/\KW C a H (n+3400) A (ye tot ts ss) qa kl tl [] ls H2) ?_ ?_
 rotate_left
 ·intro N hN;walk_at "rd";refine⟨trivial,?_⟩;rcases hbv with h | ⟨l,jG,h,hl,l1,l2,l3⟩
  ·subst h;rw[aX (by decide)]
   exact hN _ _ ⟨ls,rfl,⟨W7,hq,hk,htl,q1,q2,d5,by simp⟩⟩
  ·subst h;rw[bx (by simp)]
   have e:H7 l=some (.lst jG):=(W7.lo _ hl).2.2;obtain⟨W8,k8⟩:=W7.put (vs':=jG.reverse) hl;have mg:∀(b:Addr) (vs:List V),(b,vs)∈ls->b≠l->(b,vs)∈(l,jG.reverse)::ls.filter fun q=>q.1≠l:=fun b vs h nb=>gk _ (mG.mpr ⟨h,by simpa using nb⟩)
   exact⟨.inl ⟨rfl,_,b_.of e⟩,l,_,rfl,rfl,e,hN _ _ ⟨_,rfl,⟨W8,mg _ _ hq l3.symm,mg _ _ hk l1.symm,mg _ _ htl l2.symm,q1,q2,d5,by simp⟩⟩⟩
 rintro σ H8 ⟨ls,rfl,YJ⟩
 have PG:Q5 (ye tot ts ss):=⟨⟨fun s hs=>(hss s hs).2,h60⟩,fun rs h=>(dU h).elim,fun j t ht=>by
  replace ht:(ts.map fun _=>([0,0,0]:List Int))[j]?=some t:=ht
  obtain⟨_,_,rfl⟩:=cO.mp (dz ht)
  rfl⟩
 refine uz (fun σ H'=>∃A y es ls Pu Pr Pq m',σ=[some (.ref a),some (.int tot),some (.ref pr),some sv,some (.ref p2),some bv,some (.ref A.p),some (.ref kl),some (.ref tl),some (.ref qa),Pu,Pr,Pq,none,none,none,none]/\KW C a H m' A y qa kl tl es ls H'/\y.ns=ts.map (·.1)/\Q5 y/\y.pa.length<=20/\es.length<=60) ?_ ?_
 rotate_left
 ·intro N hN;rw[qF];walk_at "rd";refine bZ.of YJ.W.tp (by omega) (by decide) (by decide) fun d H9 d0 d1 t9 x9=>?_
  have Ye:=YJ.go (YJ.W.oK x9 t9) (Ao YJ.W.tp x9) (fun _ h=>h) rfl rfl;refine⟨10,d,rfl,rfl,?_⟩;refine FK.ofN (n:=(10+d).toNat) (by omega) (by omega) (fun i σ H'=>∃A y es ls Pu Pr Pq,σ=[some (.ref a),some (.int tot),some (.ref pr),some sv,some (.ref p2),some bv,some (.ref A.p),some (.ref kl),some (.ref tl),some (.ref qa),Pu,Pr,Pq,none,none,none,none]/\KW C a H (n+3401+100*i) A y qa kl tl es ls H'/\y.ns=ts.map (·.1)/\Q5 y/\y.pa.length=i/\es.length<=3*i) ⟨A,_,[],ls,_,_,_,rfl,Ye,rfl,PG,rfl,bD _⟩ ?_ (fun σ H' ⟨A,y,es,ls,Pu,Pr,Pq,h1,h2,h3,h4,h5,h6⟩=>hN _ _ ⟨A,y,es,ls,Pu,Pr,Pq,_,h1,h2,h3,h4,by omega,by omega⟩)
  clear YJ Ye PG W1 W2 W3 W4 W5 W6 W7 hbv hsv hp2 hk htl hq hp;clear ls A;rintro i σ H9 hi ⟨A,y,es,ls,Pu,Pr,Pq,rfl,K1,yn,PG,yp,le⟩ M hM;simp only[Oi];walk_at "rd";have YO:fK y:=K1.W.yo (A,y) (by simp)
  have NS:Uk y.ns:=⟨YO.n5,YO.ng⟩;refine K1.W.comes K1.q YO.nn YO.n5 (by omega) fun p us' cs H1 W1 a1 G1 k1 f1=>?_
  have K2:KW C a H (n+3401+100*i+40) A y qa kl tl es ls H1:=K1.go (W1.less fun l h=>gk _ h) k1 (fun _ h=>h) rfl rfl;have np:=(K1.W.free f1).2.2.1;refine Me.of (m:="beat") (R:=fun p=>_) (W1.ys.at_ (A,y) (by simp)) (fun _ _ _ _ _ _ _=>rfl) ?_
  refine W1.X4 (i:=0) rfl (cY ..) a1 G1 (by omega) fun p8 mm xs H2 W2 a2 k2 f2=>?_
  obtain⟨PG2,L2⟩:=PG.X4 YO G1.b;have np8:=(W1.free f2).2.2.1;have n2:(MF y cs).ns=y.ns:=aaY;have pa2:(MF y cs).pa=y.pa++[yG y cs]:=aaX;have w2:=M8 NS L2;have lus:=a1.length;rw[b7] at lus;have lcs:=G1.l;generalize yG y cs=rs at a2 pa2 w2;generalize MF y cs=y2 at W2 PG2 n2 pa2;have tm:(tl,y.pa.map fun rs=>V.str (PyData.shown (qe rs)))∈(p8,xs)::(p,us')::ls:=gk _ (gk _ K2.t);have e8:H2 p8=some (.lst xs):=(W2.lo (p8,xs) (by simp)).2.2
  have et:H2 tl=_:=(W2.lo _ tm).2.2;refine⟨.inl ⟨rfl,_,b_.of et⟩,_,rs.map uX,rfl,At.lst e8 a2,w2.1.w,w2.1.d,?_⟩;obtain⟨W3,k3⟩:=W2.put (vs':=(y.pa.map fun rs=>V.str (PyData.shown (qe rs)))++[V.str (PyData.shown (qe rs))]) tm;refine⟨tl,_,_,rfl,rfl,et,aP (by rw[b7]; omega),?_⟩
  have tv:(y2.pa.map fun rs=>V.str (PyData.shown (qe rs)))=(y.pa.map fun rs=>V.str (PyData.shown (qe rs)))++[V.str (PyData.shown (qe rs))]:=by rw[pa2,gq]; rfl
  rw[<- tv] at W3 k3;show mW _ _ _ _ (upd H2 tl (.lst ((y.pa.map fun rs=>V.str (PyData.shown (qe rs)))++[V.str (PyData.shown (qe rs))])));rw[<- tv];have p8t:p8≠tl:=np8 _ (gk _ K2.t);have pt:p≠tl:=np _ K2.t;have p8p:p8≠p:=np8 _ (cY ..)
  have W3:WD C a H (n+3401+100*i+40) [({ A with ue:=A.ue++[mm] },y2)] ((p8,xs)::(p,us')::(tl,y2.pa.map fun rs=>V.str (PyData.shown (qe rs)))::ls.filter fun l=>l.1≠tl) (upd H2 tl (.lst (y2.pa.map fun rs=>V.str (PyData.shown (qe rs))))):=W3.less fun l hl=>by
   simp only[bF,mG,decide_eq_true_eq] at hl ⊢;rcases hl with rfl | rfl | rfl | h
   ·exact .inr ⟨.inl rfl,p8t⟩
   ·exact .inr ⟨.inr (.inl rfl),pt⟩
   ·exact .inl rfl
   ·exact .inr ⟨.inr (.inr h.1),h.2⟩
  have S7:∀l∈(tl,y2.pa.map fun rs=>V.str (PyData.shown (qe rs)))::ls.filter fun l=>l.1≠tl,p≠l.1/\p8≠l.1:=fun l hl=>by
   rcases bF.mp hl with h | h
   ·rw[h]; exact⟨pt,p8t⟩
   ·have:=(mG.mp h).1;exact⟨np _ this,np8 _ (gk _ this)⟩
  have K3:KW C a H (n+3401+100*i+40) { A with ue:=A.ue++[mm] } y2 qa kl tl (es++[]) ((tl,y2.pa.map fun rs=>V.str (PyData.shown (qe rs)))::ls.filter fun l=>l.1≠tl) _:=K2.up (W3.less fun l h=>gk _ (gk _ h)) (k2.trans k3) n2 (fun l hl _ ht=>gk _ (mG.mpr ⟨hl,by simpa using ht⟩)) (gk _ (mG.mpr ⟨by rw[uA]; exact K2.k,by simpa using K2.n3⟩)) (cY ..) (by simp)
  rw[uA] at K3;have a3:=aj.kp k3 _ _ (iw _) a2;have nA:({ A with ue:=A.ue++[mm] }:Ya).p=A.p:=rfl
  generalize upd H2 tl (.lst (y2.pa.map fun rs=>V.str (PyData.shown (qe rs))))=H3 at W3 K3 k3 a3 ⊢;generalize ac7:((tl,y2.pa.map fun rs=>V.str (PyData.shown (qe rs)))::ls.filter fun l=>l.1≠tl)=Yt at W3 K3 S7;rw[<- nA];generalize ({ A with ue:=A.ue++[mm] }:Ya)=A2 at W3 K3 ⊢
  clear W2 W1 K2 K1 a2 a1 e8 et tm;have e8:H3 p8=some (.lst xs):=(W3.lo (p8,xs) (by simp)).2.2
  have et:H3 tl=some (.lst (y2.pa.map fun rs=>V.str (PyData.shown (qe rs)))):=(K3.W.lo _ K3.t).2.2;refine mW.of (R:=fun σ' H'=>∃es2 Hm,σ'=[some (.ref a),some (.int tot),some (.ref pr),some sv,some (.ref p2),some bv,some (.ref A2.p),some (.ref kl),some (.ref tl),some (.ref qa),some (.int (0+(i:Nat))),some (.ref p),some (.ref p8),none,none,none,none]/\KW C a H (n+3401+100*i+41) A2 y2 qa kl tl (es++es2) Hm H'/\WD C a H (n+3401+100*i+41) [(A2,y2)] ((p,us')::Hm) H'/\(∀l∈Hm,l.1≠p)/\es2.length<=1) ?_ ?_
  rotate_left
  ·intro M2 hM2;walk_at "rd";refine bZ.of W3.tp (by omega) (by decide) (by decide) fun v H4 _ _ t4 x4=>?_
   have W4:=W3.oK x4 t4;have K4:=K3.go (K3.W.oK x4 t4) (Ao W3.tp x4) (fun _ h=>h) rfl rfl;have e8:=x4.get (W3.lo (p8,xs) (by simp)).2.1 e8
   have a4:=aj.kp (Ao W3.tp x4) _ _ (iw _) a3;walk_at "rd";refine cR (fun c=>?_) (fun c=>?_)
   ·obtain⟨xs',e8',l8,_,o8⟩:=Kk.UT (q:=.line rs) (th:=p8) (ms:=[]) ⟨rfl,xs,e8,a4⟩ w2.2;rw[e8] at e8';cases e8';refine⟨p8,xs,[],rfl,e8,l8,by simp,by simp,o8,fun H5 f5 k5=>?_⟩
    have g5:∀l∈(p,us')::Yt,l.1≠p8:=fun l hl=>by
     rcases bF.mp hl with h | h
     ·rw[h]; exact p8p.symm
     ·exact(S7 l h).2.symm
    obtain⟨W5,_⟩:=W4.chg (ls':=(p,us')::Yt) f5 (fun b hb=>by rw[dH.mp hb]; exact⟨xs,by simp⟩) (fun l hl=>⟨⟨l.2,gk _ hl⟩,f5 _ _ (W4.lo l (gk _ hl)).2.2 (by simpa using g5 l hl)⟩)
    refine hM2 _ _ ⟨[],Yt,rfl,?_,W5,fun l hl=>(S7 l hl).1.symm,by simp⟩
    rw[uA];exact K4.go (W5.less fun l h=>gk _ h) k5 (fun _ h=>h) rfl rfl
   ·have ek:H4 kl=some (.lst (es.map fun e=>V.ref e.t)):=(K4.W.lo _ K4.k).2.2;have et4:H4 tl=some (.lst (y2.pa.map fun rs=>V.str (PyData.shown (qe rs)))):=(K4.W.lo _ K4.t).2.2;refine⟨.inl ⟨rfl,_,b_.of ek⟩,Ix.lst et4 (by rw[tv]; exact QV _ _) ⟨by decide,fun p9 H5 f5 s5 e5=>?_⟩⟩
    have W5:=W4.grow s5;obtain⟨W6,k6⟩:=W5.put (vs':=(es.map fun e=>V.ref e.t)++[V.ref p9]) (gk _ (gk _ K4.k));refine⟨kl,_,_,rfl,rfl,s5 _ _ ek,aP (by rw[b7]; omega),?_⟩
    have p8k:=(S7 _ K3.k).2;have pk:=(S7 _ K3.k).1
    have W7:WD C a H (n+3401+100*i+41) [(A2,y2)] ((p,us')::(kl,(es.map fun e=>V.ref e.t)++[V.ref p9])::(p8,xs)::Yt.filter fun l=>l.1≠kl) _:=W6.less fun l hl=>by
     simp only[bF,mG,decide_eq_true_eq] at hl ⊢;rcases hl with rfl | rfl | rfl | h
     ·exact .inr ⟨.inr (.inl rfl),pk⟩
     ·exact .inl rfl
     ·exact .inr ⟨.inl rfl,p8k⟩
     ·exact .inr ⟨.inr (.inr h.1),h.2⟩
    have mf:∀l∈Yt,l.1≠kl->l∈(kl,(es.map fun e=>V.ref e.t)++[V.ref p9])::(p8,xs)::Yt.filter fun l=>l.1≠kl:=fun l hl nk=>gk _ (gk _ (mG.mpr ⟨hl,by simpa using nk⟩))
    refine hM2 _ _ ⟨[⟨p9,p8,[],.line rs⟩],_,rfl,K4.up (W7.less fun l h=>gk _ h) (s5.kp.trans k6) rfl (fun l hl nk _=>mf l hl nk) (by rw[gq]; exact cY ..) (mf _ K4.t K4.n3.symm) (fun e he=>?_),W7,fun l hl=>?_,by simp⟩
    ·rw[dH.mp he];refine⟨⟨k6 _ _ e5,⟨rfl,xs,(W7.lo (p8,xs) (by simp)).2.2,aj.kp (s5.kp.trans k6) _ _ (iw _) a4⟩,w2.1⟩,fun b hb=>?_⟩
     rw[dH.mp hb];exact⟨⟨xs,by simp⟩,p8k,(S7 _ K3.t).2,(S7 _ K3.q).2⟩
    ·simp only[bF,mG,decide_eq_true_eq] at hl;rcases hl with rfl | rfl | h
     ·exact pk.symm
     ·exact p8p
     ·exact(S7 l h.1).1.symm
  rintro σ H4 ⟨es2,Hm,rfl,K4,W4,np4,l2⟩;walk_at "rd";clear W3 K3 k3 a3 e8 et S7 ac7;have YO2:fK y2:=K4.W.yo (A2,y2) (by simp)
  refine⟨a,_,A2,y2,p,us',Hm,H,rfl,W4,by omega,by omega,np4,fun Ph Vf hv' H5 g1 g2 W5 k5=>?_⟩
  have Y1:=g1.ok YO2 rfl;have Y2:=g2.ok Y1.1 Y1.2.1;have PG5:=Q5.op g2 Y1.1 Y1.2.1 (Q5.op g1 YO2 rfl PG2);have n3:(Vf (Ph y2)).ns=y2.ns:=Y2.2.1;have p3:(Vf (Ph y2)).pa=y2.pa:=Y2.2.2.2.2.1.trans Y1.2.2.2.2.1;have K5:=K4.go (W5.less fun l h=>gk _ h) k5 (fun _ h=>h) n3 p3;have YO3:=Y2.1;clear Y1 Y2 W5 g1 g2;generalize Vf (Ph y2)=y3 at K5 PG5 n3 p3 YO3;have ln3:y3.pa.length=i+1:=by rw[p3,pa2,cB,yp]; rfl
  have yn3:y3.ns=ts.map (·.1):=by rw[n3,n2,yn]
  refine bZ.of K5.W.tp (by omega) (by decide) (by decide) fun v H6 _ _ t6 x6=>?_
  have K6:KW C a H (n+3401+100*(i+1)) A2 y3 qa kl tl (es++es2) Hm H6:=by
   have W6:=K5.W.oK x6 t6;exact K5.go (W6.oK (SX.refl _ _) (W6.tp.mono (by omega))) (Ao K5.W.tp x6) (fun _ h=>h) rfl rfl
  clear K5 K4 W4 x6;walk_at "rd";refine cR (fun c=>?_) (fun c=>?_)
  ·have ek:=(K6.W.lo _ K6.k).2.2;have NS3:Uk y3.ns:=⟨YO3.n5,YO3.ng⟩;have wt:=VR NS3 PG5.ln (by omega)
   have wn:=Zh NS3;refine⟨A2,y3,kl,_,rfl,K6.W.ys.at_ (A2,y3) (by simp),YO3,ek,fun h=>(K6.W.fo (A2,y3) (by simp) _ h).2.2 _ K6.k rfl,by rw[b7,cB]; omega,wt.1,wn.1,wt.2,wn.2,fun H7 e1 e2 ke1 ke2 g1 g2 dj ek7 f7=>?_⟩
   obtain⟨W7,k7⟩:=K6.W.chg (S:=[kl]) (ls':=(kl,((es++es2).map fun e=>V.ref e.t)++[V.ref e1.t,V.ref e2.t])::Hm.filter fun l=>l.1≠kl) f7 (fun b hb=>by rw[dH.mp hb]; exact⟨_,K6.k⟩) (fun l hl=>by
    rcases bF.mp hl with h | h
    ·rw[h]; exact⟨⟨_,K6.k⟩,ek7⟩
    ·obtain⟨h1,h2⟩:=mG.mp h
     exact⟨⟨l.2,h1⟩,f7 _ _ (K6.W.lo _ h1).2.2 (by simpa using h2)⟩)
   have fr:∀b∈(e1.th::e1.ms)++(e2.th::e2.ms),H6 b=none/\H7 b=some (.lst (M_ H7 b)):=fun b hb=>by
    rcases eQ.mp hb with h | h
    ·exact⟨g1 b h,Im (Kk.aax ke1.ad b h)⟩
    ·exact⟨g2 b h,Im (Kk.aax ke2.ad b h)⟩
   have W8:=W7.aat (H1:=H6) (fun b hb=>⟨(K6.W.free hb).1,(K6.W.free hb).2.1,(K6.W.free hb).2.2.2⟩) (Hm:=((e1.th::e1.ms)++(e2.th::e2.ms)).map fun b=>(b,M_ H7 b)) (fun l hl=>by
    obtain⟨b,hb,rfl⟩:=cO.mp hl
    exact fr b hb)
   have hn:∀b∈(e1.th::e1.ms)++(e2.th::e2.ms),(∃vs,(b,vs)∈(((e1.th::e1.ms)++(e2.th::e2.ms)).map fun b=>(b,M_ H7 b))++(kl,((es++es2).map fun e=>V.ref e.t)++[V.ref e1.t,V.ref e2.t])::Hm.filter fun l=>l.1≠kl)/\b≠kl/\b≠tl/\b≠qa:=fun b hb=>by
    have F:=(K6.W.free (fr b hb).1).2.2.1;exact⟨⟨_,GJ _ (cO.mpr ⟨b,hb,rfl⟩)⟩,F _ K6.k,F _ K6.t,F _ K6.q⟩
   have K8:=K6.up (es2:=[e1,e2]) W8 k7 rfl (fun l hl nk _=>gJ _ (gk _ (mG.mpr ⟨hl,by simpa using nk⟩))) (gJ _ (by rw[gq (l₁:=es++es2)]; exact cY ..)) (gJ _ (gk _ (mG.mpr ⟨K6.t,by simpa using K6.n3.symm⟩))) (fun e he=>by
    rcases bF.mp he with rfl | he
    ·exact⟨ke1,fun b hb=>hn b (GJ _ hb)⟩
    ·rw[dH.mp he]
     exact⟨ke2,fun b hb=>hn b (gJ _ hb)⟩)
   refine⟨true,rfl,?_⟩;rw[aX (by decide)]
   exact hM _ _ ⟨A2,y3,_,_,_,_,_,rfl,K8,yn3,PG5,ln3,by simp only[cB,gw,uD]; omega⟩
  ·exact hM _ _ ⟨A2,y3,_,_,_,_,_,rfl,K6,yn3,PG5,ln3,by rw[cB]; omega⟩
 rintro σ H9 ⟨A',y',es,ls',Pu,Pr,Pq,m',rfl,Ye,yn,PG9,lpa,les⟩;have YO:fK y':=Ye.W.yo (A',y') (by simp)
 have NS:Uk y'.ns:=⟨YO.n5,YO.ng⟩;clear YJ W1 W2 W3 W4 W5 W6 W7 hbv hsv hp2 hk htl hq hp;refine uz (fun σ H'=>∃p ms,σ=[some (.ref a),some (.int tot),some (.ref pr),some sv,some (.ref p2),some bv,some (.ref A'.p),some (.ref kl),some (.ref tl),some (.ref qa),Pu,Pr,Pq,some (.ref p),none,none,none]/\KW C a H m' A' y' qa kl tl es ls' H'/\H' p=some (.lst (ms.map V.ref))/\bO H' ms y'.pa) ?_ ?_
 rotate_left
 ·intro N hN;walk_at "rd";have YA:=Ye.W.ys.at_ (A',y') (by simp)
  refine Me.of (m:="told") (R:=fun p=>_) YA (fun _ _ _ _ _ _ _=>rfl) ⟨A',y',rfl,YA,YO,fun p ms H' _ _ _ s e pa=>hN _ _ ⟨p,ms,rfl,Ye.go (Ye.W.grow s) s.kp (fun _ h=>h) rfl rfl,e,pa⟩⟩
 rintro σ HA ⟨p,ms,rfl,KA,eA,pA⟩;have aA:=pA.QW;have lA:=aA.length;rw[b7,b7] at lA;refine uz (fun σ H'=>σ=[some (.ref a),some (.int tot),some (.ref pr),some sv,some (.ref p2),some bv,some (.ref A'.p),some (.ref kl),some (.ref tl),some (.ref qa),Pu,Pr,Pq,some (.ref p),none,none,none]/\aM HA H') ?_ ?_
 rotate_left
 ·intro N hN;walk_at "rd";refine jO ((y'.pa.map fun rs=>PyData.shown (qe rs)).map .str) (fun R hR=>by walk_at "rd"; exact hR) eA (by simp; omega) (by rw[b7]; omega) (mY _) (fun i x d H' hx hd s' R hR=>?_) fun acc vs H5 f5 s5 e5 a5=>?_
  ·obtain⟨d',hd',hv⟩:=(aA.mono s').get hx;rw[cT] at hd';cases er:y'.pa[i]? with
   | none=>rw[er] at hd'; cases hd'
   | some rs=>
   rw[er] at hd';cases hd';rw[cT,cT,er] at hd;cases hd;have w:=M8 NS (PG9.ln rs (dz er));walk_at "rd";exact⟨_,rs.map uX,rfl,hv,w.1.w,w.1.d,hR _ _ (aM.refl _) (At.str _)⟩
  ·have ev:(y'.pa.map fun rs=>V.str (PyData.shown (qe rs)))=(y'.pa.map fun rs=>PyData.shown (qe rs)).map V.str:=by rw[Bb]; rfl
   have et5:H5 tl=some (.lst ((y'.pa.map fun rs=>PyData.shown (qe rs)).map V.str)):=by rw[<- ev]; exact s5 _ _ (KA.W.lo _ KA.t).2.2
   have td:=Rt (S:=y'.pa.map fun rs=>PyData.shown (qe rs)) (fun s hs=>by obtain⟨rs,hr,rfl⟩:=cO.mp hs; exact aai NS (PG9.ln rs hr))
   refine⟨_,_,At.lst e5 a5,At.lst et5 (nZ _),td.1,td.1,td.2.1,td.2.1,td.2.2,?_⟩;rw[SeqAt.eqv_refl _ td.2.1,aX (by simp)]
   have KB:=KA.go (KA.W.grow s5) s5.kp (fun _ h=>h) rfl rfl;have ek5:=(KB.W.lo _ KB.k).2.2;refine EY (fun i=>match es[i]? with | some e=>[some (V.ref e.th),some (.str (PyData.shown (.list e.k.ds)))] | none=>[none,none]) (fun i=>by cases es[i]? <;> rfl) (fun R hR=>by walk_at "rd"; exact hR) ek5 (fun Ft f6=>?_)
   refine⟨fun i ys H'=>∃bs:List Bool,ys=bs.map V.bl/\bs.length=i/\bs.any id=false/\H' Ft=some (.lst ys)/\aM H5 H',⟨[],rfl,rfl,rfl,aD,aN f6 _⟩,fun i ys H' ⟨_,h⟩=>h.2.2.2.2 _ _ ek5,fun i x ys H' hx h=>?_,fun ys H' h=>?_⟩
   ·obtain⟨bs,rfl,hb,h0,e6,s6⟩:=h;rw[cT] at hx;cases ee:es[i]? with
    | none=>rw[ee] at hx; cases hx
    | some e=>
    rw[ee] at hx;cases hx;have ke:uT H' e:=(KB.e e (dz ee)).1.keep s6.kp fun b _ vs h=>s6 _ _ h;refine⟨fun R hR=>⟨e.t,_,rfl,e_.of ke.et,rfl,by walk_at "rd"; exact hR⟩,?_⟩
    walk_at "rd";have li:=(i_.mp ee).1;refine⟨_,e.k.ds,rfl,Kk.data ke.ad,ke.w.w,ke.w.d,e6,aP (by rw[b7]; omega),bs++[false],?_,by simp[hb],by simp[h0],aD,s6.du f6⟩
    simp
   ·obtain⟨bs,rfl,_,h0,e6,s6⟩:=h;refine⟨Ft,bs,rfl,e6,?_⟩;rw[h0,aX (by decide)]
    exact hN _ _ ⟨rfl,s5.trans s6⟩
 rintro σ HB ⟨rfl,sB⟩;have KB:=KA.go (KA.W.grow sB) sB.kp (fun _ h=>h) rfl rfl;refine uz (fun σ H'=>∃o14 o15 o16,σ=[some (.ref a),some (.int tot),some (.ref pr),some sv,some (.ref p2),some bv,some (.ref A'.p),some (.ref kl),some (.ref tl),some (.ref qa),Pu,Pr,Pq,some (.ref p),o14,o15,o16]/\aM HB H') ?_ ?_
 rotate_left
 ·intro N hN;rw[yR];walk_at "rd";have eq:=(KB.W.lo _ KB.q).2.2;refine EK.of eq (fun i σ H'=>∃o14 o15 o16,σ=[some (.ref a),some (.int tot),some (.ref pr),some sv,some (.ref p2),some bv,some (.ref A'.p),some (.ref kl),some (.ref tl),some (.ref qa),Pu,Pr,Pq,some (.ref p),o14,o15,o16]/\aM HB H') ⟨_,_,_,rfl,aM.refl _⟩ (fun i σ H' _ ⟨_,_,_,_,z⟩=>z _ _ eq) ?_ (fun σ H' ⟨_,_,_,h,z⟩=>hN _ _ ⟨_,_,_,h,z⟩);rintro i x σ H1 px hx ⟨o14,o15,o16,rfl,s1⟩ fp;have s2:=aN fp (HO.tup [.int (i:Nat),x]);have e2:upd H1 px (HO.tup [.int (i:Nat),x]) px=some (HO.tup [.int (i:Nat),x]):=aD;generalize upd H1 px (HO.tup [.int (i:Nat),x])=H2 at s2 e2 ⊢;refine⟨px,_,rfl,e_.of e2,rfl,?_⟩;walk_at "rd";have s02:aM HB H2:=s1.trans s2
  have ei:∃nm,y'.ns[i]?=some nm/\x=.str nm:=by
   rw[cT] at hx;cases en:y'.ns[i]? with
   | none=>rw[en] at hx; cases hx
   | some nm=>rw[en] at hx; cases hx; exact⟨nm,rfl,rfl⟩
  obtain⟨nm,en,rfl⟩:=ei;have hin:i<y'.ns.length:=(i_.mp en).1;have lts:=YO.lt;have Mz:y'.ts[i]?=some y'.ts[i]:=eF (by omega)
  have esm:=PG9.sm i _ Mz;rw[esm] at Mz;have pl3:([V.int 1,V.int 2,V.int 3]:List V).length=3:=rfl;refine QD (xs:=[.int 1,.int 2,.int 3]) (fun j=>[some (.int (1+(j:Nat)))]) (fun _=>rfl) (fun R hR=>?_) (fun H3 acc s3 f3=>?_)
  ·walk_at "rd";exact⟨by decide,fun p H' f s e=>hR p H' s e⟩
  have s03:=s02.trans s3;have pA3:=aA.mono (sB.trans s03);have eA3:=(sB.trans s03) _ _ eA
  have inner:∀(q:Nat) (f:Rw->Int),(∀r H v,At H (uX r) v->∃b ys,v=.ref b/\H b=some (.tup ys)/\ys[q]?=some (.int (f r)))->∀H' (R:VK),aM H3 H'->(∀cQ,aM H' cQ->R (.int (eZ f y'.pa i)) cQ)->Yp (fun vs H Q=>∃p ns,vs=[V.ref p]/\(H p=some (HO.lst (List.map V.int ns))\/H p=some (HO.tup (List.map V.int ns)))/\Q (V.int ns.sum) H) (ph (gG [2,0] (jM K (mD 1)) (RB Dr (RB Dr (mD 0) (mD 1)) (mD 2))) Ar) [some (.int (q:Nat)),some (.ref p),some (.int (i:Nat))] H' R:=by
   intro q f hf H' R s' hR;walk_at "rd";refine jO ((y'.pa.map fun rs=>((rs[i]?).map f).getD 0).map .int) (fun R hR=>by walk_at "rd"; exact hR) (s' _ _ eA3) (by simp; omega) (by rw[b7]; omega) (gM _) (fun k x d H4 hx hd s4 R2 hR2=>?_) fun Ft vs H5 f5 s5 e5 a5=>?_
   ·obtain⟨d',hd',hv⟩:=(pA3.mono (s'.trans s4)).get hx;rw[cT] at hd';cases er:y'.pa[k]? with
    | none=>rw[er] at hd'; cases hd'
    | some rs=>
    rw[er] at hd';cases hd';rw[cT,cT,er] at hd;cases hd;have lr:=(PG9.ln rs (dz er)).l;have hr':rs[i]?=some rs[i]:=eF (by omega)
    obtain⟨b,xs,rfl,eb,ab⟩:∃b xs,x=.ref b/\H4 b=some (.lst xs)/\aj H4 (rs.map uX) xs:=by
     unfold qe At at hv;obtain⟨b,xs,h1,h2,h3⟩:=hv;exact⟨b,xs,h1,h2,h3⟩
    obtain⟨u,hu,hau⟩:=ab.getD (i:=i) (d:=uX rs[i]) (by rw[cT,hr']; rfl)
    obtain⟨c,ys,rfl,ec,hy⟩:=hf _ _ _ hau;show Dr (V.ref b) (V.int (i:Nat)) H4 fun x H1=>Dr x (V.int (q:Nat)) H1 R2;refine Ix.lst eb (aY hu) ?_;refine Ix.tup ec (aY hy) (hR2 _ _ (aM.refl _) ?_);show At H4 (.int (((rs[i]?).map f).getD 0)) _;rw[hr'];exact At.int _
   ·have:=cN a5;subst this;exact⟨Ft,_,rfl,.inl e5,hR _ s5⟩
  have row:∀(r:Rw) (H:Hp) (v:V),At H (uX r) v->∃b g,v=.ref b/\H b=some (.tup [.str r.n,.int r.c,.int r.d,.int r.a,g]):=fun r H v h=>by
   unfold uX At at h;obtain⟨b,ys,rfl,eb,ay⟩:=h;obtain⟨_,_,rfl,h1,_,_,rfl,h2,_,_,rfl,h3,_,_,rfl,h4,g,_,rfl,h5,ay⟩:=ay;subst ay;unfold At at h1 h2 h3 h4;subst h1 h2 h3 h4;exact⟨b,g,rfl,eb⟩
  refine⟨fun j ys H'=>ys=([eZ Rw.c y'.pa i,eZ Rw.d y'.pa i,eZ Rw.a y'.pa i].take j).map V.int/\H' acc=some (.lst ys)/\aM H3 H',⟨rfl,aD,aN f3 _⟩,fun j ys H' h=>h.2.2,fun j x ys H' hx h=>?_,fun ys H' h=>?_⟩
  ·obtain⟨rfl,ea,sa⟩:=h;rcases j with _ | _ | _ | j
   ·cases hx;refine⟨fun R hR=>hR,inner 1 Rw.c (fun r H v h=>?_) _ _ sa fun H4 s4=>⟨s4 _ _ ea,aP (by rw[b7,j5]; exact ik (DW _ _) (by decide)),rfl,aD,(sa.trans s4).du f3⟩⟩
    obtain⟨b,g,h1,h2⟩:=row r H v h;exact⟨b,_,h1,h2,rfl⟩
   ·cases hx;refine⟨fun R hR=>hR,inner 2 Rw.d (fun r H v h=>?_) _ _ sa fun H4 s4=>⟨s4 _ _ ea,aP (by rw[b7,j5]; exact ik (DW _ _) (by decide)),rfl,aD,(sa.trans s4).du f3⟩⟩
    obtain⟨b,g,h1,h2⟩:=row r H v h;exact⟨b,_,h1,h2,rfl⟩
   ·cases hx;refine⟨fun R hR=>hR,inner 3 Rw.a (fun r H v h=>?_) _ _ sa fun H4 s4=>⟨s4 _ _ ea,aP (by rw[b7,j5]; exact ik (DW _ _) (by decide)),rfl,aD,(sa.trans s4).du f3⟩⟩
    obtain⟨b,g,h1,h2⟩:=row r H v h;exact⟨b,_,h1,h2,rfl⟩
   ·cases hx
  ·obtain⟨rfl,ea,sa⟩:=h;refine⟨acc,_,rfl,ea,fun l fl=>?_⟩;have s5:=aN fl (HO.tup (([eZ Rw.c y'.pa i,eZ Rw.d y'.pa i,eZ Rw.a y'.pa i].take 3).map V.int));have e5:upd H' l (HO.tup (([eZ Rw.c y'.pa i,eZ Rw.d y'.pa i,eZ Rw.a y'.pa i].take 3).map V.int)) l=some (HO.tup (([eZ Rw.c y'.pa i,eZ Rw.d y'.pa i,eZ Rw.a y'.pa i].take 3).map V.int)):=aD
   replace s5:aM H' (upd H' l (.tup (([eZ Rw.c y'.pa i,eZ Rw.d y'.pa i,eZ Rw.a y'.pa i].take [V.int 1,V.int 2,V.int 3].length).map V.int))):=s5
   replace e5:upd H' l (.tup (([eZ Rw.c y'.pa i,eZ Rw.d y'.pa i,eZ Rw.a y'.pa i].take [V.int 1,V.int 2,V.int 3].length).map V.int)) l=some (HO.tup ([eZ Rw.c y'.pa i,eZ Rw.d y'.pa i,eZ Rw.a y'.pa i].map V.int)):=e5
   generalize upd H' l (.tup (([eZ Rw.c y'.pa i,eZ Rw.d y'.pa i,eZ Rw.a y'.pa i].take [V.int 1,V.int 2,V.int 3].length).map V.int))=H5 at s5 e5 ⊢;have ZP:=s03.trans (sa.trans s5);have Y5:=(KB.W.ys.at_ (A',y') (by simp)).mono ZP
   generalize [eZ Rw.c y'.pa i,eZ Rw.d y'.pa i,eZ Rw.a y'.pa i]=cl at e5 Mz
   have hcl:cl.length<=1000:=by
    have:=YO.tg _ (dz Mz);omega
   have once:∀(H6:Hp) (R:VK) (E:XK),aM H5 H6->(∀H7,aM H5 H7->R (.bl true) H7)->Dl C gT [V.ref A'.p,V.str nm] H6 (fun x H1=>Kh 6 [x,V.ref l] H1 R E0) E:=fun H6 R E s6 hR=>⟨A',y',i,nm,jR cl,rfl,Y5.mono s6,YO,en,by show(y'.ts.map jR)[i]?=_; rw[cT,Mz]; rfl,fun v H7 s7 av=>⟨v,.ref l,jR cl,rfl,av,At.tup ((s6.trans s7) _ _ e5) (dh cl),(SD.ints (n:=0) hcl).mono (by decide),by decide,fun H8 s8=>hR H8 (s6.trans (s7.trans s8))⟩⟩
   refine Me.of (m:="counts") (R:=fun p=>_) Y5 (fun _ _ _ _ _ _ _=>rfl) (once _ _ _ (aM.refl _) fun H7 s7=>⟨true,rfl,?_⟩);rw[aX (by decide)]
   refine Me.of (m:="counts") (R:=fun p=>_) (Y5.mono s7) (fun _ _ _ _ _ _ _=>rfl) (once _ _ _ s7 fun H8 s8=>⟨true,rfl,?_⟩);rw[aX (by decide)]
   exact⟨_,_,_,rfl,ZP.trans s8⟩
 rintro σ HC ⟨o14,o15,o16,rfl,sC⟩;walk_at "rd";have KC:=KB.go (KB.W.grow sC) sC.kp (fun _ h=>h) rfl rfl;have YC:=KC.W.ys.at_ (A',y') (by simp)
 have eqC:=(KC.W.lo _ KC.q).2.2;have etC:=(KC.W.lo _ KC.t).2.2;refine Me.of (m:="names") (R:=fun p=>_) YC (fun _ _ _ _ _ _ _=>rfl) ⟨A',y',rfl,YC,YO,fun q1 H1 f1 s1 e1=>?_⟩;refine Me.of (m:="beats") (R:=fun p=>_) (YC.mono s1) (fun _ _ _ _ _ _ _=>rfl) ⟨A',y',rfl,YC.mono s1,YO,by decide,fun q2 H2 f2 s2 e2=>?_⟩
 refine⟨tl,_,rfl,.inl (b_.of ((s1.trans s2) _ _ etC)),by decide,fun q3 H3 f3 s3 e3=>?_⟩
 have pU:=s1.trans (s2.trans s3);refine⟨.ref q2,.ref q3,.list [.list (y'.ns.map .str),.int (y'.pa.length:Nat)],rfl,At.lst (s3 _ _ e2) (aj.cons (At.lst ((s2.trans s3) _ _ e1) (nZ _)) (aj.cons (At.int _) aj.nil)),At.lst e3 (aj.cons (At.lst (pU _ _ eqC) (nZ _)) (aj.cons (by rw[b7]; exact At.int _) aj.nil)),SD.lst (by show 2<=1000; decide) (fun e he=>?_),by decide,fun H4 s4=>q H4 _ (KC.W.grow (pU.trans s4)).tp (KC.W.grow (pU.trans s4)).sx⟩
 simp only[bF,dU,or_false] at he;rcases he with rfl | rfl
 ·refine SD.lst (n:=4) (by rw[b7]; have:=YO.n5; omega) fun e he=>?_
  obtain⟨nm,hn,rfl⟩:=cO.mp he;exact SD.str (YO.str hn)
 ·exact SD.int _
def I_ (K:PySem.W.Frag):Sp:=fun vs H Q _=>∃(p:Addr) (ns:List Int),vs=[.ref p]/\Rh K H p (ns.map V.int)/\ns.length<=63/\∀H',Q (.bl true) H'
theorem Oj:aV ["_law_script"] ["_law_script"] (aG vO):=(by walk_at "c")
theorem WQ (F:iM K "law" "law" vO f fd) (B:Bi mg) (QK:Ct P w K mg base k "_law_tape" ["_law_script","_law_k"] (NZ K)) (HQ:Ct P w K mg base k "_law_walked" ["_law_tape_here"] ZG):bJ P w K mg base gD (k+1) f fd ["_law_script"] (I_ K):=by
 refine F.ok Oj (by rintro vs H Q E ⟨p,ns,rfl,_⟩; rfl) (fun cdv A outer s H vs Q E hr h=>?_)
 obtain⟨p,ns,rfl,hS,hl,q⟩:=h;have ND:=Oj.nd;refine⟨_,(aF (a_ (pb (k_ rfl) B.all xN (ao (dG (N':=["_law_k","_law_script"]) (js:=[0]) rfl (eG (by rfl) B.range (ao (pb (kY rfl) B.max tW (ao aC (ao (pb (fO rfl) B.min lX (ao (pb (cA (K:=K) rfl) B.len dM (ao (pv 0) ak)) (ao aC ak))) ak))) ak)) rT.mk1 rfl (by decide) rfl (fun fp s' H'=>(pf HQ hr (ao (pf QK hr (ao (pv 1) (ao (pv 0) ak))) ak)))) ak)))),?_⟩
 walk_at "rd";rw[rZ];walk_at "rd";refine⟨p,_,rfl,.inl hS.sq,_,_,rfl,?_⟩;rw[b7]
 obtain⟨n,hn,hn8⟩:∃n:Nat,(if(if(4:Int)<(ns.length:Int) then(4:Int) else(ns.length:Int))>2 then(if(4:Int)<(ns.length:Int) then(4:Int) else(ns.length:Int)) else 2)=(n:Int)/\n<=4:=by
  refine⟨(if(if(4:Int)<(ns.length:Int) then(4:Int) else(ns.length:Int))>2 then(if(4:Int)<(ns.length:Int) then(4:Int) else(ns.length:Int)) else 2).toNat,?_,?_⟩ <;> (split <;> split <;> omega)
 rw[hn];refine CK.of (n:=n) rfl (by omega) fun acc hacc=>?_
 refine⟨fun j zs H'=>zs=(List.replicate j true).map V.bl/\H' acc=some (.lst zs)/\Rh K H' p (ns.map V.int)/\aM H H',⟨rfl,aD,hS.same (aN hacc _),aN hacc _⟩,?_,?_⟩
 ·rintro j zs H2 hj ⟨rfl,c2,e2,s2⟩;show mX _ _ _ _ [some _,some (.ref p)] H2 _;walk_at "rd";refine⟨p,ns,_,rfl,e2.sq,by omega,by omega,fun a H3 f3 s3 t3=>?_⟩
  refine⟨a,0,rfl,t3,by decide,fun H4 _ _ s4=>?_⟩
  have k4:aM H2 H4:=fun b o hb=>by
   have ba:b≠a:=cH hb f3;exact s4.get ba (s3 _ _ hb)
  have s5:=(s2.trans k4).du (o:=.lst ((List.replicate j true).map V.bl++[V.bl true])) hacc;refine⟨k4 _ _ c2,by rw[b7,qR]; exact aP (by omega),?_,aD,hS.same s5,s5⟩
  rw[List.map_replicate,<- Kz,List.replicate_succ']
 ·rintro zs H2 ⟨rfl,c2,e2,s2⟩;refine⟨acc,_,rfl,c2,?_⟩;have:(List.replicate n true).all id=true:=by simp
  rw[this];exact q H2
end
theorem un0 {us:List Value} {n:Nat} (h:us.length=n+1):∃a r,us=a::r/\r.length=n:=by
 cases us with
 | nil=>cases h
 | cons a r=>exact⟨a,r,rfl,Nat.succ.inj h⟩
theorem Gd {us:List Value} (h:us.length=1):∃a,us=[a]:=by
 obtain⟨a,r,rfl,g⟩:=un0 h;cases List.length_eq_zero_iff.mp g;exact⟨a,rfl⟩
theorem Fy {us:List Value} (h:us.length=2):∃a a0,us=[a,a0]:=by
 obtain⟨a,r,rfl,g⟩:=un0 h;obtain⟨a0,rfl⟩:=Gd g;exact⟨a,a0,rfl⟩
theorem Gb {us:List Value} (h:us.length=3):∃a a0 a1,us=[a,a0,a1]:=by
 obtain⟨a,r,rfl,g⟩:=un0 h;obtain⟨a0,a1,rfl⟩:=Fy g;exact⟨a,a0,a1,rfl⟩
theorem un4 {us:List Value} (h:us.length=4):∃a a0 a1 a2,us=[a,a0,a1,a2]:=by
 obtain⟨a,r,rfl,g⟩:=un0 h;obtain⟨a0,a1,a2,rfl⟩:=Gb g;exact⟨a,a0,a1,a2,rfl⟩
theorem all_mk {l:PySem.W.OpenLaw} {w:World} {K:PySem.W.Frag} {h:Heap} {mg:Str->Option Value} {fa:Addr} (X:K.In h) (G:h.Ns mainGlobals mg) (hfa:mg "law" = some (.ref fa))
  {f0:Addr} (e0:mQ K "is_name" sX f0)
  {f1:Addr} (e1:mQ K "wish" Gw f1)
  {f2:Addr} (e2:mQ K "rule_wish" nC f2)
  {f3:Addr} (e3:mQ K "row_says" pO f3)
  {f4:Addr} (e4:mQ K "first_stand" jU f4)
  {f5:Addr} (e5:mQ K "hands_of" pR f5)
  {f6 T6:Addr} (e6:VB K "beat" Gx f6 T6 12)
  {f7:Addr} (e7:mQ K "since_and_look" ie f7)
  {f8:Addr} (e8:mQ K "change_of" nD f8)
  {f9:Addr} (e9:mQ K "with_change" jT f9)
  {f10:Addr} (e10:mQ K "sent_home" nq f10)
  {f11:Addr} (e11:mQ K "check_posts" jV f11)
  {f12:Addr} (Vq:mQ K "check_least" jW f12)
  {f13:Addr} (XM:mQ K "check_onward" jh f13)
  {f14:Addr} (e14:mQ K "check_stands" jg f14)
  {f15:Addr} (TV:mQ K "_law_tape" vQ f15)
  {f16:Addr} (e16:mQ K "_law_draw" vU f16)
  {f17:Addr} (e17:mQ K "_law_units" sE f17)
  {f18:Addr} (e18:mQ K "_law_row" A_ f18)
  {f19:Addr} (e19:mQ K "_law_rules" sS f19)
  {f20:Addr} (e20:mQ K "_law_post" vR f20)
  {f21:Addr} (e21:mQ K "_law_small_post" jf f21)
  {f22:Addr} (e22:mQ K "_law_stand" sH f22)
  {f23:Addr} (e23:mQ K "_law_names" sU f23)
  {f24:Addr} (e24:mQ K "_law_yard" vP f24)
  {f25:Addr} (e25:mQ K "_law_stands" pQ f25)
  {f26:Addr} (e26:mQ K "_law_comes" sV f26)
  {f27:Addr} (e27:mQ K "_law_same" qM f27)
  {f28:Addr} (e28:mQ K "_law_spoil" sO f28)
  {f29:Addr} (e29:mQ K "_law_asked" sW f29)
  {f30:Addr} (e30:mQ K "_law_deed" vV f30)
  {f31:Addr} (e31:mQ K "_law_walked" pP f31)
  {f32:Addr} (e32:mQ K "law" vO f32)
  {dN:Addr} (il:YS K "Yard" "Yard.__init__" ig dN)
  (x_:cX K dN "total")
  (yd:cX K dN "order")
  (yc:cX K dN "posts")
  (uN:cX K dN "onwards")
  (wQ:cX K dN "stands")
  (uM:cX K dN "tallies")
  (Bt:cX K dN "past")
  {BX:Addr} (Bw:FQ K dN "told" "Yard.told" lC BX)
  {yj:Addr} (yf:FQ K dN "names" "Yard.names" jX yj)
  {yq:Addr} (yh:FQ K dN "beats" "Yard.beats" jZ yq)
  {ym:Addr} (yg:FQ K dN "hands" "Yard.hands" jY ym)
  {oW:Addr} (oV:FQ K dN "check_names" "Yard.check_names" fX oW)
  {BZ:Addr} (Bx:FQ K dN "post" "Yard.post" lD BZ)
  {xj:Addr} (wX:FQ K dN "change" "Yard.change" jj xj)
  {B_:Addr} (BJ:FQ K dN "lead" "Yard.lead" lE B_)
  {rE:Addr} (rm:FQ K dN "post_beat" "Yard.post_beat" gH rE)
  {Ca:Addr} (BK:FQ K dN "beat" "Yard.beat" lF Ca)
  {xg:Addr} (wV:FQ K dN "counts" "Yard.counts" ji xg)
  (yJ:PySem.W.nsIn K mainGlobals "beat_beats" = some (some (.ref f6)))
  (Za:Nb K "all")
  (Al:Nb K "isinstance")
  (YX:Nb K "str")
  (Y8:Nb K "len")
  (Y4:Nb K "max")
  (Y0:Nb K "min")
  (YW:Nb K "sum")
  (VD:Nb K "list")
  (FW:Nb K "reversed")
  (Rn:Nb K "range")
  (Rm:Nb K "tuple")
  (Dc:Nb K "enumerate")
  (YZ:Nb K "set")
  (Zb:Nb K "abs")
  (Y9:Nb K "int")
  (VG:Nb K "bool")
  (YT:Nb K "zip")
  (Y_:Nb K "any")
  (VF:Nb K "dict")
  {Nj Nh Ng:Tok} (S8:NT K "WHATS" [.str "come" Nj,.str "done" Nh,.str "wait" Ng])
  (WW:CP K "OVER" "over")
  (S9:CP K "UNDER" "under")
  (WX:CP K "EACH" "each")
  (Lg:CP K "LETTERS" "abcdefghijklmnopqrstuvwxyz")
  (wU:Ni K "MOST_LETTERS" 8)
  (Bv:Ni K "MOST_HANDS" 12)
  (wR:Ni K "TRIPLES_SEEN" 3)
  (Bu:Ni K "MOST_POSTS" 5) :
  ∃fd:FuncData,(∀(s:Shared) (v:Value),BindsTo s fd ⟨[v],[]⟩ [("_law_script",v)])/\∀base:Heap,K.In base->base.Ns mainGlobals mg->bJ l.prog w K mg base gD 10 fa fd ["_law_script"] (I_ K):=by
 obtain⟨h0⟩:=e0.has X G (ps:=["thing"]) fun _ _ _ _ _ _ us hl=>by obtain⟨_,rfl⟩:=Gd hl; rfl
 obtain⟨h1⟩:=e1.has X G (ps:=["post","hands","newest"]) fun _ _ _ _ _ _ us hl=>by obtain⟨_,_,_,rfl⟩:=Gb hl; rfl
 obtain⟨h2⟩:=e2.has X G (ps:=["rule","hands","newest"]) fun _ _ _ _ _ _ us hl=>by obtain⟨_,_,_,rfl⟩:=Gb hl; rfl
 obtain⟨h3⟩:=e3.has X G (ps:=["row","hands","newest"]) fun _ _ _ _ _ _ us hl=>by obtain⟨_,_,_,rfl⟩:=Gb hl; rfl
 obtain⟨h4⟩:=e4.has X G (ps:=["post"]) fun _ _ _ _ _ _ us hl=>by obtain⟨_,rfl⟩:=Gd hl; rfl
 obtain⟨h5⟩:=e5.has X G (ps:=["stand"]) fun _ _ _ _ _ _ us hl=>by obtain⟨_,rfl⟩:=Gd hl; rfl
 obtain⟨h6⟩:=e6.has X G (ps:=["post","stand","come","free"]) (fun _ _ _ _ _ _ _ us hl=>by
  rw[uA] at hl;obtain⟨_,_,_,_,rfl⟩:=un4 hl
  exact⟨_,rfl,rfl⟩) fun _ _ _ _ _ _ _ us hl=>by
  obtain⟨_,_,_,rfl⟩:=Gb (Nat.succ.inj ((cB).symm.trans hl));exact⟨_,rfl,rfl⟩
 obtain⟨h7⟩:=e7.has X G (ps:=["post","since","rest"]) fun _ _ _ _ _ _ us hl=>by obtain⟨_,_,_,rfl⟩:=Gb hl; rfl
 obtain⟨h8⟩:=e8.has X G (ps:=["post","hands","newest","free"]) fun _ _ _ _ _ _ us hl=>by obtain⟨_,_,_,_,rfl⟩:=un4 hl; rfl
 obtain⟨h9⟩:=e9.has X G (ps:=["post","stand","change"]) fun _ _ _ _ _ _ us hl=>by obtain⟨_,_,_,rfl⟩:=Gb hl; rfl
 obtain⟨h10⟩:=e10.has X G (ps:=["ready","called","many"]) fun _ _ _ _ _ _ us hl=>by obtain⟨_,_,_,rfl⟩:=Gb hl; rfl
 obtain⟨h11⟩:=e11.has X G (ps:=["total","posts"]) fun _ _ _ _ _ _ us hl=>by obtain⟨_,_,rfl⟩:=Fy hl; rfl
 obtain⟨h12⟩:=Vq.has X G (ps:=["total","posts"]) fun _ _ _ _ _ _ us hl=>by obtain⟨_,_,rfl⟩:=Fy hl; rfl
 obtain⟨h13⟩:=XM.has X G (ps:=["onward","behind"]) fun _ _ _ _ _ _ us hl=>by obtain⟨_,_,rfl⟩:=Fy hl; rfl
 obtain⟨h14⟩:=e14.has X G (ps:=["total","posts","stands"]) fun _ _ _ _ _ _ us hl=>by obtain⟨_,_,_,rfl⟩:=Gb hl; rfl
 obtain⟨h15⟩:=TV.has X G (ps:=["_law_script","_law_k"]) fun _ _ _ _ _ _ us hl=>by obtain⟨_,_,rfl⟩:=Fy hl; rfl
 obtain⟨h16⟩:=e16.has X G (ps:=["_law_tape_here","_law_many"]) fun _ _ _ _ _ _ us hl=>by obtain⟨_,_,rfl⟩:=Fy hl; rfl
 obtain⟨h17⟩:=e17.has X G (ps:=["_law_tape_here"]) fun _ _ _ _ _ _ us hl=>by obtain⟨_,rfl⟩:=Gd hl; rfl
 obtain⟨h18⟩:=e18.has X G (ps:=["_law_tape_here","_law_small"]) fun _ _ _ _ _ _ us hl=>by obtain⟨_,_,rfl⟩:=Fy hl; rfl
 obtain⟨h19⟩:=e19.has X G (ps:=["_law_tape_here","_law_small"]) fun _ _ _ _ _ _ us hl=>by obtain⟨_,_,rfl⟩:=Fy hl; rfl
 obtain⟨h20⟩:=e20.has X G (ps:=["_law_tape_here"]) fun _ _ _ _ _ _ us hl=>by obtain⟨_,rfl⟩:=Gd hl; rfl
 obtain⟨h21⟩:=e21.has X G (ps:=["_law_tape_here"]) fun _ _ _ _ _ _ us hl=>by obtain⟨_,rfl⟩:=Gd hl; rfl
 obtain⟨h22⟩:=e22.has X G (ps:=["_law_tape_here"]) fun _ _ _ _ _ _ us hl=>by obtain⟨_,rfl⟩:=Gd hl; rfl
 obtain⟨h23⟩:=e23.has X G (ps:=["_law_tape_here","_law_many"]) fun _ _ _ _ _ _ us hl=>by obtain⟨_,_,rfl⟩:=Fy hl; rfl
 obtain⟨h24⟩:=e24.has X G (ps:=["_law_tape_here"]) fun _ _ _ _ _ _ us hl=>by obtain⟨_,rfl⟩:=Gd hl; rfl
 obtain⟨h25⟩:=e25.has X G (ps:=["_law_tape_here","_law_total","_law_rows"]) fun _ _ _ _ _ _ us hl=>by obtain⟨_,_,_,rfl⟩:=Gb hl; rfl
 obtain⟨h26⟩:=e26.has X G (ps:=["_law_tape_here","_law_names_here"]) fun _ _ _ _ _ _ us hl=>by obtain⟨_,_,rfl⟩:=Fy hl; rfl
 obtain⟨JQ⟩:=e27.has X G (ps:=["_law_found","_law_due"]) fun _ _ _ _ _ _ us hl=>by obtain⟨_,_,rfl⟩:=Fy hl; rfl
 obtain⟨h28⟩:=e28.has X G (ps:=["_law_things"]) fun _ _ _ _ _ _ us hl=>by obtain⟨_,rfl⟩:=Gd hl; rfl
 obtain⟨h29⟩:=e29.has X G (ps:=["_law_yard_here","_law_kept"]) fun _ _ _ _ _ _ us hl=>by obtain⟨_,_,rfl⟩:=Fy hl; rfl
 obtain⟨h30⟩:=e30.has X G (ps:=["_law_tape_here","_law_yard_here","_law_handed"]) fun _ _ _ _ _ _ us hl=>by obtain⟨_,_,_,rfl⟩:=Gb hl; rfl
 obtain⟨h31⟩:=e31.has X G (ps:=["_law_tape_here"]) fun _ _ _ _ _ _ us hl=>by obtain⟨_,rfl⟩:=Gd hl; rfl
 have yI:=(PySem.W.mg_of X G yJ).trans ((PySem.W.mg_of X G e6.ns).symm.trans h6.m)
 obtain⟨JP⟩:=il.has X G (ps:=["self","total","posts","stands"]) (fun _ _ _ _ _ _ _ us hl=>by
  rw[uA] at hl;obtain⟨_,_,_,_,rfl⟩:=un4 hl
  exact⟨_,rfl,rfl⟩) fun _ _ _ _ _ _ _ us hl=>by
  obtain⟨_,_,_,rfl⟩:=Gb (Nat.succ.inj ((cB).symm.trans hl));exact⟨_,rfl,rfl⟩
 have eE:ZY K dN:=⟨il.c,x_,yd,yc,uN,wQ,uM,Bt⟩;obtain⟨pJ⟩:=Bw.has (ps:=["self"]) fun _ _ _ _ _ _ us hl=>by obtain⟨_,rfl⟩:=Gd hl; rfl
 obtain⟨nO⟩:=yf.has (ps:=["self"]) fun _ _ _ _ _ _ us hl=>by obtain⟨_,rfl⟩:=Gd hl; rfl
 obtain⟨nQ⟩:=yh.has (ps:=["self"]) fun _ _ _ _ _ _ us hl=>by obtain⟨_,rfl⟩:=Gd hl; rfl
 obtain⟨nP⟩:=yg.has (ps:=["self"]) fun _ _ _ _ _ _ us hl=>by obtain⟨_,rfl⟩:=Gd hl; rfl
 obtain⟨iH⟩:=oV.has (ps:=["self","names"]) fun _ _ _ _ _ _ us hl=>by obtain⟨_,_,rfl⟩:=Fy hl; rfl
 obtain⟨pK⟩:=Bx.has (ps:=["self","name"]) fun _ _ _ _ _ _ us hl=>by obtain⟨_,_,rfl⟩:=Fy hl; rfl
 obtain⟨mC⟩:=wX.has (ps:=["self","name","post"]) fun _ _ _ _ _ _ us hl=>by obtain⟨_,_,_,rfl⟩:=Gb hl; rfl
 obtain⟨pL⟩:=BJ.has (ps:=["self","name","onward"]) fun _ _ _ _ _ _ us hl=>by obtain⟨_,_,_,rfl⟩:=Gb hl; rfl
 obtain⟨jt⟩:=rm.has (ps:=["self","name","come"]) fun _ _ _ _ _ _ us hl=>by obtain⟨_,_,_,rfl⟩:=Gb hl; rfl
 obtain⟨pM⟩:=BK.has (ps:=["self","comes"]) fun _ _ _ _ _ _ us hl=>by obtain⟨_,_,rfl⟩:=Fy hl; rfl
 obtain⟨mz⟩:=wV.has (ps:=["self","name"]) fun _ _ _ _ _ _ us hl=>by obtain⟨_,_,rfl⟩:=Fy hl; rfl
 have B:Bi mg:=⟨PySem.W.mg_none_of X G Za,PySem.W.mg_none_of X G Al,PySem.W.mg_none_of X G YX,PySem.W.mg_none_of X G Y8,PySem.W.mg_none_of X G Y4,PySem.W.mg_none_of X G Y0,PySem.W.mg_none_of X G YW,PySem.W.mg_none_of X G VD,PySem.W.mg_none_of X G FW,PySem.W.mg_none_of X G Rn,PySem.W.mg_none_of X G Rm,PySem.W.mg_none_of X G Dc,PySem.W.mg_none_of X G YZ,PySem.W.mg_none_of X G Zb,PySem.W.mg_none_of X G Y9,PySem.W.mg_none_of X G VG,PySem.W.mg_none_of X G YT,PySem.W.mg_none_of X G Y_,PySem.W.mg_none_of X G VF⟩;have O:Co K mg:=⟨(let ⟨a,n,_,z,m⟩:=S8; ⟨a,PySem.W.mg_of X G z,⟨_,m,rfl,rfl⟩,fun H=>.inr ⟨_,_,n,m,rfl,rfl,(by show 3<=sizeLine; decide),(.cons ⟨_,rfl⟩ (.cons ⟨_,rfl⟩ (.cons ⟨_,rfl⟩ .nil)))⟩⟩),WW.gs X G,S9.gs X G,WX.gs X G,Lg.gs X G,wU.gi X G,Bv.gi X G,wR.gi X G,Bu.gi X G⟩
 obtain⟨oc,od,an,sl,kV,dc,pm,cd,ct,ea,el,ec,ek0⟩:=e32;have e:=hfa.symm.trans (PySem.W.mg_of X G ea);cases e;refine⟨PySem.W.fnOf "law" "law" (cz vO) (bV vO) (aG vO) .none kV dc pm an cd ct,fun s v=>.of_eq rfl,fun base _ _=>?_⟩;have F:=Hw (st:=vO) el ec ek0;have Ff:=h15.ct l.prog w base (La (k:=0) h15.F B);have cC:=h16.ct l.prog w base (Ld (k:=0) h16.F B);have iZ:=h17.ct l.prog w base (G6 (k:=1) h17.F B (cC.mono (by decide)))
 have HS:=h18.ct l.prog w base (Pn (k:=2) h18.F B (cC.mono (by decide)) (iZ.mono (by decide)))
 have rP:=h19.ct l.prog w base (G_ (k:=3) h19.F B (cC.mono (by decide)) (HS.mono (by decide)))
 have Fg:=h20.ct l.prog w base (Lb (k:=4) h20.F B (cC.mono (by decide)) (iZ.mono (by decide)) (rP.mono (by decide)))
 have rO:=h21.ct l.prog w base (uH (k:=4) h21.F B (cC.mono (by decide)) (rP.mono (by decide)))
 have Cv:=h23.ct l.prog w base (Ha (k:=1) h23.F B (cC.mono (by decide)))
 have Fe:=h24.ct l.prog w base (K_ (k:=5) h24.F B (cC.mono (by decide)) (Fg.mono (by decide)) (rO.mono (by decide)) (Cv.mono (by decide)))
 have Cu:=h22.ct l.prog w base (G7 (k:=2) h22.F B (cC.mono (by decide)) (iZ.mono (by decide)))
 have yw:=h25.ct l.prog w base (Ei (k:=3) h25.F B (cC.mono (by decide)) (Cu.mono (by decide)))
 have Cw:=h26.ct l.prog w base (Hb (k:=2) h26.F B (cC.mono (by decide)) (iZ.mono (by decide)))
 have yF:=JQ.ct l.prog w base (G9 (k:=0) JQ.F);have yE:=JQ.ct l.prog w base (jb (k:=1) 0 JQ.F B (yF.mono (by decide)))
 have yD:=JQ.ct l.prog w base (jb (k:=2) 1 JQ.F B (yE.mono (by decide)))
 have yC:=JQ.ct l.prog w base (jb (k:=3) 2 JQ.F B (yD.mono (by decide)))
 have yz:=JQ.ct l.prog w base (jb (k:=4) 3 JQ.F B (yC.mono (by decide)))
 have yx:=JQ.ct l.prog w base (jb (k:=5) 4 JQ.F B (yz.mono (by decide)))
 have pN:=JQ.ct l.prog w base (jb (k:=6) 5 JQ.F B (yx.mono (by decide)))
 have rN:=h28.ct l.prog w base (G8 (k:=0) h28.F B);have d_:=pJ.ct il.c l.prog w base (xW (k:=0) pJ.F B eE);have cu:=nO.ct il.c l.prog w base (wM (k:=0) nO.F B eE);have dF:=nQ.ct il.c l.prog w base (wO (k:=0) nQ.F B eE);have dC:=h5.ct l.prog w base (Ej (k:=0) h5.F B);have dD:=nP.ct il.c l.prog w base (wN (k:=1) nP.F B eE (dC.mono (by decide)))
 have Cy:=h29.ct l.prog w base (Hc (k:=7) h29.F B eE (rN.mono (by decide)) (pN.mono (by decide)) (d_.mono (by decide)) (cu.mono (by decide)) (dF.mono (by decide)) (dD.mono (by decide)))
 have aR:=iH.ct il.c l.prog w base (nH (k:=0) iH.F B eE);have lR:=pK.ct il.c l.prog w base (xX (k:=1) pK.F eE (aR.mono (by decide)))
 have eO:=h12.ct l.prog w base (wL (k:=0) h12.F B);have jB:=mC.ct il.c l.prog w base (uL (k:=1) mC.F B eE (aR.mono (by decide)) (eO.mono (by decide)))
 have dJ:=h13.ct l.prog w base (uJ (k:=0) h13.F);have lU:=pL.ct il.c l.prog w base (xY (k:=1) pL.F B eE (aR.mono (by decide)) (dJ.mono (by decide)))
 have Fi:=h30.ct l.prog w base (Le (k:=2) h30.F B eE (cC.mono (by decide)) (cu.mono (by decide)) (lR.mono (by decide)) (jB.mono (by decide)) (lU.mono (by decide)))
 have tU:=h0.ct l.prog w base (Hd (k:=0) h0.F B O);have j_:=h11.ct l.prog w base (wK (k:=1) h11.F B O (tU.mono (by decide)) (dJ.mono (by decide)) (eO.mono (by decide)))
 have j9:=h4.ct l.prog w base (wJ (k:=0) h4.F B);have jA:=h14.ct l.prog w base (uI (k:=1) h14.F B (dC.mono (by decide)))
 have tV:=q_ (k:=2) JP.F B eE (j_.mono (by decide)) (j9.mono (by decide)) (jA.mono (by decide))
 have QQ:=JP.ctE l.prog w base tV;have HW:=QQ.calm;have fP:=h7.ct l.prog w base (qZ (k:=0) h7.F);have qp:=h3.ct l.prog w base (Eg (k:=0) h3.F B O);have nY:=h2.ct l.prog w base (Bq (k:=1) h2.F (qp.mono (by decide)))
 have HN:=h1.ct l.prog w base (SQ (k:=2) h1.F B (nY.mono (by decide)))
 have jP:=h8.ct l.prog w base (Br (k:=3) h8.F B (HN.mono (by decide)))
 have nW:=h10.ct l.prog w base (Bp (k:=0) h10.F B);have iz:=h9.ct l.prog w base (wI (k:=1) h9.F B (nW.mono (by decide)))
 have adX:=h6.ct l.prog w base (Jv (k:=4) h6.F B O (fP.mono (by decide)) (jP.mono (by decide)) (dC.mono (by decide)) (iz.mono (by decide)))
 have lQ:=Ri.alias (h6.ct l.prog w base (Jv (k:=4) h6.F B O (fP.mono (by decide)) (jP.mono (by decide)) (dC.mono (by decide)) (iz.mono (by decide)))) yI
 have gR:=jt.ct il.c l.prog w base (qd (k:=5) jt.F B O eE (dD.mono (by decide)) (lQ.mono (by decide)))
 have lV:=pM.ct il.c l.prog w base (xZ (k:=6) pM.F B eE (aR.mono (by decide)) (gR.mono (by decide)))
 have gU:=mz.ct il.c l.prog w base (uK (k:=1) mz.F eE (aR.mono (by decide)))
 have yu:=h31.ct l.prog w base (Eh (k:=8) h31.F B eE (cC.mono (by decide)) (Fe.mono (by decide)) (yw.mono (by decide)) (Cw.mono (by decide)) (pN.mono (by decide)) (rN.mono (by decide)) (Cy.mono (by decide)) (Fi.mono (by decide)) (HW.mono (by decide)) (lV.mono (by decide)) (d_.mono (by decide)) (cu.mono (by decide)) (dF.mono (by decide)) (gU.mono (by decide)))
 exact WQ (k:=9) F B (Ff.mono (by decide)) (yu.mono (by decide))
theorem walk {l:PySem.W.OpenLaw} {q:Program} {loose:List Str} {XP:(Str->Option Value)->Heap->Prop} {YP:World->Heap->Prop} {d:DefRec} {K:Params->PySem.W.Frag} (hn:l.most=some 63) (hdf:d.params.defaults=[])
  (hY:∀(w:World) (h:Heap),YP w h->(K w.params).In h)
  (F:∀(w:World) (mg:Str->Option Value) (fa:Addr) (h:Heap),(K w.params).In h->h.Ns mainGlobals mg->mg d.name=some (.ref fa) ->
   ∃fd:FuncData,(∀(s:Shared) (u:Value),BindsTo s fd ⟨[u],[]⟩ [("_law_script",u)])/\∀base:Heap,(K w.params).In base->base.Ns mainGlobals mg->bJ l.prog w (K w.params) mg base gD 10 fa fd ["_law_script"] (I_ (K w.params))) :
  PySem.W.WalkO q loose XP YP l.row.toRowW d [] (fun f vs=>PySem.call f vs):=
 L2.Rq (n:=63) (k:=10) (x:="_law_script") (CX:=fun _=>gD) (sp:=fun w=>I_ (K w.params)) hn (by decide) hdf ⟨rfl,by decide,by decide,rfl⟩ hY F (fun _ _ a ns hl hO hS=>⟨a,ns,rfl,Rh.of hS hO,hl,fun _=>rfl⟩) fun _ _ _ _ _ z=>z
end K36
structure PySem.W.Fast:Prop where(tw5772254502463096587 tw10864015501544320447 tw14881989802782726734 tw3410838296664971634 tw9072906821942488529 tw15697395800778863253 tw12762453871088579827 tw18326946257235425152 tw8782024045566946703 tw3969205635581775347 tw7520123280069267101 tw13724960035132207595 tw10753479064005912002 tw14385709989028862191 tw1223905887962471646 tw13755608369938541143 tw2200689785382412202 tw6858461783105873875 tw13170294332094312679 tw17839541246789932342 tw13885731447256926238 tw870927560516625350 tw1760187047519389276 tw6931654255683181475 tw4930095351112783126 tw1663600812578963827 tw10472541203644733059 tw8841557457820649880 tw10903906317034676140 tw12882450350443274574 tw10904767514660935149 tw4141785081728099424 tw11960481034403034439 tw838514764908929180 tw8230713141342728880 tw3154889059739215905 tw12217382287085701461 tw7542378870098119192 tw14694941204033535415 tw17533607471511530133 tw5479784048675019182 tw3469798530417712081 tw10092696592629155946 tw3234995873799231804 tw16486311649308060378 tw16374496475392574118 tw6996940589327915631 tw2913574711775190550 tw15522610171627318904 tw17915766652628229901 tw9054946586048884659 tw15666495814241404973 tw997071711076408511 tw946928714052182202 tw14046221615607101828 tw17034360088491363516 tw15044209425733251872 tw3503796904214476446 tw16861257508446756407 tw17985357465429195638 tw5839059838878644002 tw10393678605432915638 tw7570061253806781166 tw7956221901270884892 tw1132064695480845048 tw4053458341246154444 tw9084745802765952041 tw5118823227525431142 tw7042956614543687119 tw816945184661179109 tw7358007515692897520 tw17155175806243895537 tw17726867446814018991 tw10948096277649443385 tw9669487883994982615 tw11543073687834926929 tw4761096427423037197 tw17410411396721969394 tw14796259883729371289 tw5295371256502437105 tw17614558936378149605 tw768705226310976016 tw5756138860946298282 tw4929736044548003584 tw13014955718786556855 tw1734098682283013100 tw14149001364954502278 tw7514070143829917662 tw2213549009898308382 tw4703946664654144210 tw9416509365868405935 tw12124981704706240719 tw9815596349882896448 tw16589957405295810245 tw3192129864716611307 tw10149500914915333660 tw13042809303937487261 tw6746258852535371462 tw6238104152200217476 tw14368412978049797526 tw12373002625496664536 tw5738182851229255852 tw16016225800390472499 tw2954055897766946954 tw975508717732291631 tw9018237104825210048 tw6788174856149512496 tw386906435848942151 tw4741805427544906163 tw4676835611029654645 tw2721176060859010085 tw17973035209538550286 tw7246588692579022765 tw11767786569839723766 tw1318593154503018719 tw14683342670441202262 tw5751408900813657366 tw7471123163724897164 tw16918905583991025936 tw6692220389005700876 tw11938527212828020735 tw1724253964228605133 tw8865501374043358192 tw17257681293898317796 tw3862475247676474120 tw1467252736441542169 tw1317979171389521810 tw8397776169054753607 tw13401611300509530792 tw3781027139596198670 tw2213554827584097036 tw13952501105518009660 tw17027839957701165275 tw10421706559752359379 tw2933478945047250429 tw15093669310138141850 tw17700480990282645848 tw10060444119508000733 tw17989849588384485787 tw17718676527196913002 tw14586651030055860413 tw3318518483389924506 tw5037898195924587582 tw4739510883346101475 tw17283374883154507031 tw14225241550615072080 tw11273094216183781096 tw17925813971837866399 tw6824182644387010788 tw12315737560728925929 tw12504621154600081994 tw14180601997784429948 tw4303032173307826213 tw7103759636358443864 tw14953300160198520756 tw17151931854978672207 tw13366127955663045219 tw10153390442759676305 tw15973298166872375611 tw6856964509643973320 tw9605796251331713680 tw542206409769084449 tw14874098087974674667 tw8391708033674293788 tw18252186912471458303 tw14514249340386442387 tw6394653992137528499 tw8656627006964094901 tw17295574521422073301 tw18112655643040986086 tw6416089176954021578 tw13958880083208605975 tw15550749870756411221 tw10600885911111429716 tw10200551287784716895 tw5543426267960485971 tw8040453493081545021 tw1540126635543153566 tw15671208433401218435 tw14433053894554470302 tw1324185201787727626 tw15709230461454600904 tw7872704516948132011 tw9200921473889917927 tw15609801240703973396 tw1683296528866284757 tw9833948609712805223 tw5462093973044358685 tw13102477843011973964 tw12899878276707679442 tw15630596893710574941 tw17794364279676569825 tw4942356306068198302 tw17340557224459708352 tw15360444413894196558 tw13754588423270516169 tw4914971692902196798 tw7032472499596971979 tw9704661327599131300 tw9967467634104614118 tw6731576512160342712 tw13649962987673841927 tw15772480820872622645 tw14773440755551975575 tw17619344558153237728 tw7802024054150065905 tw16613504210309603307 tw6402550418504680909 tw8677756266302023993 tw6849807728121214270 tw8544210835018291476 tw4997298382380645478 tw1414201099888048286 tw5969138525536046230 tw13956494872179359251 tw2242853079755609082 tw4814525310350960134 tw4629820945412168304 tw5302655070569513727 tw14541883496375302265 tw16098310180112563139 tw13915342913875786934 tw3674557872459598534 tw9996971012425047884 tw6981151297047432224 tw2748097602148736686 tw15814805966412220385 tw7155660941254628155 tw13472853930007468899 tw10493079538598076897 tw17001557056185110696 tw5160938119733672651 tw4606723823998204972 tw14145493253416745723 tw11854120404301069981 tw15785130966442268210 tw16829511213447295803 tw381155186313199997 tw9000222793504411242 tw1977496160844882741 tw6367591216441014093 tw5656665322149555511 tw12677511648479026072 tw6980955815818704449 tw2280236494071418032 tw14772746152501433026 tw17671592633998453124 tw3738700854463311308 tw17992314840005148499 tw3191722010614290842 tw13696481090437163411 tw12210370423510181634 tw5482877510053147837 tw9765689535496475835 tw7776499117291246486 tw7692614696714121090 tw17521346917415764606 tw4233909071823699120 tw10231595123095087075 tw14276253376698638153 tw14358545373479650998 tw11689603790697548833 tw6695716020614913631 tw9433787903866070145 tw17194065527360158533 tw426752454270004798 tw5470981960975423262 tw10937747224956734750 tw62576818357724976 tw8734801430533409726 tw14193580096008641639 tw4975185896716553844 tw607284301112383660 tw5549480606682451297 tw18438505990090235148 tw7223988270262864261 tw6783701911124107731 tw5028597821460229575 tw4498282141186517356 tw10268921230750765834 tw8787845662961842769 tw15480301479554219635 tw12278275958264405345 tw5813562210416542620 tw316485726927444636 tw5712507180073110118 tw6613784894940930474 tw13890180306577968886 tw15871401859359026932 tw6521977953627755775 tw575390033941029679 tw7235512691407762220 tw3433552443934598026 tw9041434058673739221 tw1561351148097427769 tw6224475748059667480 tw2886624517738806696 tw5423639902786009624 tw6915697035934154750 tw4983649075604581213 tw7188050898805045644 tw7159952425436964277 tw16436223513964291738 tw5557483271233203454 tw7846448467046825219 tw8135506570804989443 tw3793299853150070009 tw2885156626856392289 tw10665096403513018480 tw18039814401405911765 tw4406473334637912222 tw674935857116867521 tw15225598191043233702 tw15178186119707141365 tw10207116917098003763 tw3007510865203381877 tw12286367506131108746 tw9179344952825304603 tw4411835278990341552 tw72786930459110243 tw3979109609632785416 tw17893216261192999498 tw11523729991868995611 tw1584499989032265595 tw9904842453667127055 tw10883717498995083337 tw207155263765404455 tw6882074584027954303 tw1519824537838313310 tw3067550003878859954 tw6257943987105455333 tw2281445031731331011 tw3451228229235614030 tw17290374035388511770 tw3330142716798783287 tw3113339421811717609 tw16166535518323904267 tw779399521461977869 tw14266903093403957179 tw2072028156732923300 tw12017034987227832153 tw4298818588319595143 tw12892649327553262115 tw8252511813445354890 tw14395515781358735255 tw17953902475306169712 tw3784537001953895974 tw13272368160951355718 tw1089019258427394033 tw12259187568886687637 tw9681246620828997201 tw2289743408677300621 tw10240186020484284170 tw10334288120768465700 tw14683950851414843717 tw6336284291125361008 tw1137078232464915773 tw12392078050765709294 tw11856822795280695983 tw17961866369916685293 tw3592310752490415022 tw4910962714587037832 tw12995451117421695847 tw6218175138825083831 tw18133610752802842039 tw11254511792771743929 tw12502070839449804625 tw11050143541449002656 tw4019837816711642434 tw11163000539607498122 tw5991493754134656372 tw5818109563465934270 tw6791679528127514088 tw8491044410171624014 tw13476149632347558483 tw4196581320385588062 tw4221591723550822067 tw13656379473088466017 tw14854874752291711083 tw17691145854907071038 tw8775166795171041447 tw14148627294876218497 tw864871711507208631 tw8391757123750945671 tw5813054762815672368 tw12092335850824598230 tw13348950818613625029 tw15442660085793447949 tw1756277642801319612 tw7581842672281770361 tw7647047968733427497 tw6129648679543308143 tw12155908341853079391 tw1952920524926110916 tw6922386065308665854 tw12776194951116672411 tw8099369495831598230 tw14758527070214149831 tw14766591515840794101 tw14305710811192086069 tw4374427142628432288 tw4342769529352704754 tw678248143320406141 tw17682284944537009159 tw17571224510039605070 tw9749665443241352665 tw6046988645112859902 tw1766974906502626687 tw4648501387369246312:True)
open PySem PySem.W PyProof.Rows
local macro_rules | `(tactic| walk_at "cle")=>`(tactic| (refine' L2.YS.mk' ?a ?b ?c ?d ?e ?f ?g ?h ?i ?j ?k ?l ?m; (case a=>k_is); (case b=>k_is); (case c=>k_is); (case d=>k_is); (case e=>k_is); (case f=>k_is); (case g=>k_is); (case h=>k_is); (case i=>k_is); (case j=>k_is); (case k=>k_is); (case l=>k_is); (case m=>k_is)))
local macro_rules | `(tactic| walk_at "fc")=>`(tactic| (refine' L2.FQ.mk' ?a ?b ?c ?d ?e; (case a=>k_is); (case b=>k_is); (case c=>k_is); (case d=>k_is); (case e=>k_is)))
local macro_rules | `(tactic| walk_at "fd")=>`(tactic| (refine' L2.VB.mk ?a ?b ?c ?d ?e; (case a=>k_is); (case b=>k_is); (case c=>k_is); (case d=>k_is); (case e=>k_is)))
local macro_rules | `(tactic| walk_at "fn")=>`(tactic| (refine' L2.mQ.mk ?a ?b ?c ?d; (case a=>k_is); (case b=>k_is); (case c=>k_is); (case d=>k_is)))
local macro_rules | `(tactic| walk_at "na")=>`(tactic| (unfold L2.cX; k_is))
local macro_rules | `(tactic| walk_at "nb")=>`(tactic| (unfold L2.Nb; k_is))
local macro_rules | `(tactic| walk_at "ni")=>`(tactic| (refine' L2.Ni.mk ?a; (case a=>k_is)))
local macro_rules | `(tactic| walk_at "ns")=>`(tactic| (refine' L2.CP.mk ?a; (case a=>k_is)))
local macro_rules | `(tactic| walk_at "nt")=>`(tactic| (refine' L2.NT.mk ?a ?b; (case a=>k_is); (case b=>k_is)))
set_option maxRecDepth 100000 in
set_option maxHeartbeats 0 in
theorem PySem.Challenge.cw_waithands_k36_what_beats_told_holds : PySem.Challenge.rw_waithands_k36_what_beats_told.Holds := by
 w_on; o_law; k_head; (case hw=>w_witness2)
 k_fill
 refine K36.walk (l:=PySem.Challenge.rw_waithands_k36_what_beats_told) rfl rfl (fun w h Y=>PySem.W.kIn_of Y) ?F
 case F=>
  intro w mg fa h KX G hmg;refine' K36.all_mk KX G hmg ?e0 ?e1 ?e2 ?e3 ?e4 ?e5 ?e6 ?e7 ?e8 ?e9 ?e10 ?e11 ?Vq ?XM ?e14 ?TV ?e16 ?e17 ?e18 ?e19 ?e20 ?e21 ?e22 ?e23 ?e24 ?e25 ?e26 ?e27 ?e28 ?e29 ?e30 ?e31 ?e32 ?e33 ?e34 ?e35 ?e36 ?e37 ?e38 ?e39 ?e40 ?e41 ?e42 ?e43 ?e44 ?e45 ?e46 ?e47 ?e48 ?e49 ?e50 ?e51 ?e52 ?e53 ?e54 ?e55 ?e56 ?e57 ?e58 ?e59 ?e60 ?e61 ?e62 ?e63 ?e64 ?e65 ?e66 ?e67 ?e68 ?e69 ?e70 ?e71 ?e72 ?e73 ?e74 ?e75 ?e76 ?e77 ?e78 ?e79 ?e80
  case e0 | e1 | e2 | e3 | e4 | e5=>walk_at "fn"
  case e6=>walk_at "fd"
  case e7 | e8 | e9 | e10 | e11 | Vq | XM | e14 | TV | e16 | e17 | e18 | e19 | e20 | e21 | e22 | e23 | e24 | e25 | e26 | e27 | e28 | e29 | e30 | e31 | e32=>walk_at "fn"
  case e33=>walk_at "cle"
  case e34 | e35 | e36 | e37 | e38 | e39 | e40=>walk_at "na"
  case e41 | e42 | e43 | e44 | e45 | e46 | e47 | e48 | e49 | e50 | e51=>walk_at "fc"
  case e52=>k_is
  case e53 | e54 | e55 | e56 | e57 | e58 | e59 | e60 | e61 | e62 | e63 | e64 | e65 | e66 | e67 | e68 | e69 | e70 | e71=>walk_at "nb"
  case e72=>walk_at "nt"
  case e73 | e74 | e75 | e76=>walk_at "ns"
  case e77 | e78 | e79 | e80=>walk_at "ni"

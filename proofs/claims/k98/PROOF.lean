import PyProof.Rows.All
import Wide.All
import OpenK.AllK
import Wide.FinOn
import Lean
import PyProof.EqAt
import PyProof.EqKinds
import PyProof.TupleCall
import PyProof.P3In
import PyProof.NeData
import KE.KMinKey
import PyProof.Rows.CallKwBuiltin
import PyProof.LayNew
import PyProof.EnumFor
import PyProof.EnumMake
import PyProof.EnumStmt
import KE.KRevIter
import KE.KRevSl
import PyProof.StationsW
import PyProof.RulesAs
import KE.KTryMore
import PyProof.Rows.TopTwo
import PyProof.NsDelKeeps
import PyProof.ExcArgsOwn
import KE.KIsAll
import PyProof.AutoListH
import PyProof.SetRoads
import PyProof.SetNew
import PyProof.ListRange
import PyProof.Rows.TupDisplay
import PyProof.Draws
import PyProof.ZipIter
import PyProof.TupleIter
import PyProof.AttrMissSeq
import KE.KDictOf
import PySem.Challenge.RW_waithands_k98_whole_long_rounds_and_grea
set_option Elab.async false
set_option linter.all false
set_option maxRecDepth 100000
section
open PySem PySem.Spec PyProof.Rows
abbrev aW:=@wpAny_bind
abbrev dW:=@Heap.get?_push_of_some
abbrev gO:=@List.getElem?_eq_getElem
abbrev iy:=@List.getD_eq_getElem?_getD
abbrev dH:=@List.length_map
abbrev cC:=@wpAny_pure
abbrev bx:=@if_neg
abbrev h_:=@List.getElem?_map
abbrev jk:=@Heap.get?_push_size
abbrev eX:=@Heap.lt_size
abbrev aR:=@if_pos
abbrev cA:=@List.mem_cons
abbrev bN:=@Nat.le_refl
abbrev fC:=@lookup_relabel_local
abbrev iM:=@List.getElem?_eq_some_iff
abbrev fj:=@List.size_toArray
abbrev gM:=@List.mem_append_right
abbrev fX:=@List.mem_singleton
abbrev gF:=@List.length_append
abbrev dY:=@Nat.ne_of_lt
abbrev jr:=@List.mem_cons_of_mem
abbrev jd:=@List.mem_cons_self
abbrev jq:=@Nat.lt_of_lt_of_le
abbrev lU:=@Option.map_eq_some_iff
abbrev dX:=@wpAny_mono
abbrev jW:=@Bool.false_ne_true
abbrev iK:=@Heap.size_push
abbrev jJ:=@List.not_mem_nil
abbrev jH:=@List.length_take
abbrev m9:=@List.mem_of_getElem?
abbrev qj:=@Heap.get?_update_other
abbrev jo:=@decide_eq_true
abbrev gD:=@Nat.zero_le
abbrev jV:=@decide_eq_false
abbrev gQ:=@wpAny_field
abbrev lR:=@List.length_cons
abbrev m8:=@Int.toNat_natCast
abbrev lQ:=@List.map_append
abbrev oN:=@wpAny_newObj_type
abbrev oM:=@of_decide_eq_true
abbrev qi:=@wpAny_Call_Name_kw
abbrev qg:=@of_decide_eq_false
abbrev m7:=@List.append_nil
abbrev oK:=@List.lookup_cons
abbrev qe:=@List.take_length
abbrev lq:=@Nat.le_of_lt
abbrev lg:=@List.mem_map
abbrev rK:=@List.all_eq_true
abbrev zH:=@List.length_replicate
abbrev zE:=@Heap.get?_update_self
abbrev qd:=@wpAny_seqItems
abbrev Ck:=@Option.isSome_iff_exists
abbrev oJ:=@Nat.lt_irrefl
abbrev mZ:=@Nat.le_trans
abbrev rJ:=@List.mem_range
abbrev uz:=@List.mem_append
abbrev wV:=@wpAny_call_entry
abbrev zy:=@Int.emod_lt_of_pos
abbrev rH:=@wpAny_holding
abbrev oH:=@wpAny_of_eq
abbrev Ht:=@wpAny_callSpecial?_slot
abbrev Cj:=@List.replicate_succ
abbrev uy:=@wpAny_standAt
abbrev ux:=@List.map_cons
abbrev zx:=@List.length_drop
abbrev Ci:=@Bool.false_eq_true
abbrev zu:=@Int.emod_nonneg
abbrev Cg:=@wpAny_truthy_bool
abbrev Ce:=@wpAny_pyIter_list
abbrev Hs:=@List.filterMap_cons
abbrev lO:=@congrArg
abbrev zr:=@List.take_succ
abbrev Cd:=@Bool.and_eq_true
abbrev Hr:=@wpAny_setField_rec
abbrev Hq:=@wpAny_pyIter_tuple
abbrev Ho:=@List.getElem_range
abbrev Hn:=@Nat.lt_succ_of_lt
abbrev Hm:=@List.length_range
abbrev uw:=@wpAny_rule
abbrev Oj:=@List.getElem?_append_right
abbrev Oi:=@Array.getElem?_eq_some_iff
abbrev zq:=@Nat.lt_or_ge
abbrev Hl:=@List.getElem_mem
abbrev Hk:=@List.forIn_cons
abbrev Hj:=@Bool.eq_iff_iff
abbrev Oh:=@List.getElem?_replicate
abbrev zp:=@Int.le_refl
abbrev Hi:=@wpAny_setField
abbrev Hh:=@wpAny_bindName
abbrev Og:=@List.getElem?_set_self
abbrev Kh:=@List.flatten_cons
abbrev Oe:=@List.getElem?_eq_none
abbrev Kg:=@Nat.lt_succ_self
abbrev Kf:=@List.ext_getElem
abbrev Ke:=@List.drop_length
abbrev Hg:=@Bool.not_true
abbrev Ca:=@wpAny_letGo
abbrev Od:=@List.mem_of_mem_take
abbrev zX:=@wpAny_specialOf
abbrev zW:=@wpAny_passesOwn
abbrev zV:=@wpAny_execs_nil
abbrev zU:=@List.range_succ
abbrev zT:=@List.nil_append
abbrev zR:=@List.length_nil
abbrev vy:=@Int.zero_add
abbrev zQ:=@wpAny_tryCatch
abbrev Kr:=@List.getElem?_append_left
abbrev Kq:=@List.drop_eq_getElem_cons
abbrev Ez:=@wpAny_pyIter_enum
abbrev Ey:=@List.append_assoc
abbrev zP:=@wpAny_onRaise
abbrev zO:=@List.map_take
abbrev Ex:=@Nat.min_eq_right
abbrev Ew:=@Nat.le_add_right
abbrev Kp:=@wpAny_pyIter_rangeiter
abbrev zN:=@Nat.ne_of_gt
abbrev zM:=@Nat.lt_trans
abbrev Ko:=@List.take_of_length_le
abbrev zL:=@List.map_map
abbrev Km:=@List.filter_eq_nil_iff
abbrev Kl:=@List.drop_of_length_le
abbrev zK:=@Int.sub_zero
end
namespace L2
open PySem PySem.Spec PyProof.Rows
abbrev Key:=Sum Int Str
def Q3:Key->Value->Bool
 | .inl k,v=>Value.isInt k v
 | .inr x,v=>Value.isStrOf x v
def YK (w:World):Key->Int
 | .inl k=>hashInt k
 | .inr x=>hashStr w x
theorem cR:∀{k:Key} {v:Value},Q3 k v=true->(∃i t,k=Sum.inl i/\v=Value.int i t)\/(∃x t,k=Sum.inr x/\v=Value.str x t)
 | .inl i,v,h=>by
  obtain⟨t,e⟩:=Value.isInt_shape (k:=i) (v:=v) h;exact .inl ⟨i,t,rfl,e⟩
 | .inr x,v,h=>by
  obtain⟨t,e⟩:=Value.isStrOf_shape (x:=x) (v:=v) h;exact .inr ⟨x,t,rfl,e⟩
theorem S9 (a b:Int):decide ((Sum.inl a:Key)=Sum.inl b)=(a==b):=by
 by_cases e:a=b
 ·subst e; simp
 ·have h:¬(Sum.inl a:Key)=Sum.inl b:=fun q=>e (Sum.inl.inj q);rw[jV h];exact(beq_eq_false_iff_ne.mpr e).symm
theorem S6 (a b:Str):decide ((Sum.inr a:Key)=Sum.inr b)=decide (a=b):=by
 by_cases e:a=b
 ·subst e; simp
 ·have h:¬(Sum.inr a:Key)=Sum.inr b:=fun q=>e (Sum.inr.inj q);rw[jV h,jV e]
theorem S8 (a:Int) (b:Str):decide ((Sum.inl a:Key)=Sum.inr b)=false:=jV (fun q=>nomatch q)
theorem S7 (a:Str) (b:Int):decide ((Sum.inr a:Key)=Sum.inl b)=false:=jV (fun q=>nomatch q)
def Ft (prog:Program) (w:World):PySem.KeyKind prog w Key where
 is:=Q3
 hash:=YK w
 inj:=fun v a b ha hb=>by
  rcases cR ha with⟨i,t,rfl,rfl⟩ | ⟨x,t,rfl,rfl⟩
  ·rcases cR hb with⟨j,u,rfl,e⟩ | ⟨y,u,rfl,e⟩
   ·injection e with e1 _; rw[e1]
   ·exact nomatch e
  ·rcases cR hb with⟨j,u,rfl,e⟩ | ⟨y,u,rfl,e⟩
   ·exact nomatch e
   ·injection e with e1 _; rw[e1]
 byValue:=fun k v h=>by
  rcases cR h with⟨i,t,rfl,rfl⟩ | ⟨x,t,rfl,rfl⟩ <;> rfl
 pyHash:=fun hv h=>by
  rcases cR hv with⟨i,t,rfl,rfl⟩ | ⟨x,t,rfl,rfl⟩
  ·exact wpAny_pyHash_int h
  ·exact wpAny_pyHash_str h
 eqBool:=fun hu hv h=>by
  rcases cR hu with⟨i,t,rfl,rfl⟩ | ⟨x,t,rfl,rfl⟩
  ·rcases cR hv with⟨j,u,rfl,rfl⟩ | ⟨y,u,rfl,rfl⟩
   ·rw[S9] at h; exact wpAny_eqBool_int h
   ·rw[S8] at h; exact SeqAt.EqAt.int_str i t y u _ _ _ _ h
  ·rcases cR hv with⟨j,u,rfl,rfl⟩ | ⟨y,u,rfl,rfl⟩
   ·rw[S7] at h; exact SeqAt.EqAt.str_int x t j u _ _ _ _ h
   ·rw[S6] at h; exact wpAny_eqBool_str h
 «strs»:=fun k x t v h=>by
  rcases cR h with⟨i,u,rfl,e⟩ | ⟨y,u,rfl,e⟩
  ·exact nomatch e
  ·injection e with e1 _
   subst e1;cases v <;> rfl
inductive V where
 | non | bl (b:Bool) | int (i:Int) | str (x:Str) | Js (b:Array UInt8) | flt (b:UInt64) | ref (a:Addr) | ty (n:String)
 deriving DecidableEq
def RelV:V->Value->Prop
 | .non,u=>u=Value.none
 | .bl b,u=>u=Value.bool b
 | .int i,u=>∃t,u=Value.int i t
 | .str x,u=>∃t,u=Value.str x t
 | .Js b,u=>∃t,u=Value.bytes b t
 | .flt b,u=>∃t,u=Value.float b t
 | .ref a,u=>u=Value.ref a
 | .ty n,u=>u=Value.type n
abbrev Vals:List V->List Value->Prop:=Paired RelV
theorem Vals.length {xs:List V} {us:List Value} (r:Vals xs us):xs.length=us.length:=Paired.length r
theorem Vals.get:∀{xs:List V} {us:List Value} {i:Nat} {x:V},Vals xs us->xs[i]?=some x->∃u,us[i]?=some u/\RelV x u
 | _,_,_,_,.nil,e=>by simp at e
 | _,_,0,_,.cons r _,e=>by simp at e; subst e; exact⟨_,rfl,r⟩
 | _,_,i+1,x,.cons _ t,e=>by
  obtain⟨u,h1,h2⟩:=Vals.get (i:=i) (x:=x) t (by simpa using e)
  exact⟨u,by simpa using h1,h2⟩
theorem Vals.set {x:V} {u:Value} (r:RelV x u):∀{xs:List V} {us:List Value} (i:Nat),Vals xs us->Vals (xs.set i x) (us.set i u)
 | _,_,_,.nil=>.nil
 | _,_,0,.cons _ t=>.cons r t
 | _,_,i+1,.cons q t=>.cons q (Vals.set r i t)
theorem Vals.append:∀{xs ys:List V} {us ws:List Value},Vals xs us->Vals ys ws->Vals (xs++ys) (us++ws)
 | _,_,_,_,.nil,s=>s
 | _,_,_,_,.cons r t,s=>.cons r (Vals.append t s)
theorem Vals.take:∀{xs:List V} {us:List Value} (n:Nat),Vals xs us->Vals (xs.take n) (us.take n)
 | _,_,0,_=>.nil
 | _,_,_+1,.nil=>.nil
 | _,_,n+1,.cons r t=>.cons r (Vals.take n t)
theorem Vals.drop:∀{xs:List V} {us:List Value} (n:Nat),Vals xs us->Vals (xs.drop n) (us.drop n)
 | _,_,0,r=>r
 | _,_,_+1,.nil=>.nil
 | _,_,n+1,.cons _ t=>Vals.drop n t
def yt:Option V->Option Value->Prop
 | some v,some u=>RelV v u
 | none,none=>True
 | _,_=>False
def KV {κ:Type}:List (κ×V)->List (κ×Value)->Prop:=Paired fun(p:κ×V) (q:κ×Value)=>p.1=q.1/\RelV p.2 q.2
def kV:Key->V
 | .inl i=>.int i
 | .inr x=>.str x
inductive HO where
 | lst (xs:List V)
 | tup (xs:List V)
 | dK (kvs:List (Key×V)) | dT (kvs:List (List Key×V))
 | set (S:Int->Bool) (n:Nat)
 | ins (C dx:Addr) (fs:List (Str×V))
 | own (x:Addr)
 | xd (fs:List (Str×V))
 | met (f x:Addr)
 | Uk (lo hi:Int)
 | yF (o:Obj) (u:HO)
 | Qy (ps:Array Value)
 | ext (φ:Heap->Prop)
abbrev Hp:=Addr->Option HO
def upd (H:Hp) (a:Addr) (o:HO):Hp:=fun b=>if b=a then some o else H b
theorem az {H:Hp} {a:Addr} {o:HO}:upd H a o a=some o:=by unfold upd; rw[aR rfl]
theorem aV {H:Hp} {a b:Addr} {o:HO} (h:b≠a):upd H a o b=H b:=by unfold upd; rw[bx h]
theorem bU {H:Hp} {a b:Addr} {o:HO} (h:H a=some o) (h':H b=none):a≠b:=by
 intro e; subst e; rw[h] at h'; cases h'
section
variable (P:Program) (w:World)
def b8 (H:Hp) (h:Heap) (a:Addr):HO->Prop
 | .lst xs=>xs.length<=sizeLine/\∃(its:List Value) (n:Nat),Vals xs its/\h.get? a=some { cls:=.type "list",data:=.seq its.toArray n }
 | .tup xs=>xs.length<=sizeLine/\∃its:List Value,Vals xs its/\IsTup h a its.toArray
 | .dK kvs=>kvs.length<=sizeLine/\(a==sysModules)=false/\∃vs,KV kvs vs/\h.DictOf (Ft P w) a vs
 | .dT kvs=>kvs.length<=sizeLine/\(a==sysModules)=false/\∃xs:List (List Key×Addr×Value),
   Paired (fun(p:List Key×V) (q:List Key×Addr×Value)=>p.1=q.1/\H q.2.1=some (.tup (p.1.map kV))/\RelV p.2 q.2.2) kvs xs /\
   ∃o es ep,h.get? a=some o/\o.ExactDict/\o.data=.dict es ep/\es.toList=xs.map (entryOfKey (tupleKind (Ft P w)))/\(xs.map (·.1)).Nodup
 | .set S n=>h.SetOf (intKind P w) a S n
 | .ins C dx fs=>H dx=some (.own a)/\fs.length<=1000/\dx≠a/\h.get? a=some (PySem.W.instObj C dx) /\
   ∃mA,h.Ns1 dx mA/\(∀f,yt (fs.lookup f) (mA f))/\PySem.Within mA (fs.map (·.1))
 | .own _=>∃o,h.get? a=some o
 | .xd fs=>∃mA,h.Ns1 a mA/\∀f,yt (fs.lookup f) (mA f)
 | .Uk lo hi=>∃t u v,h.get? a=some { cls:=.type "range",data:=.fields #[.int lo t,.int hi u,.int 1 v] }
 | .yF o u=>h.get? a=some o/\b8 H h a u
 | .Qy ps=>h.get? a=some { cls:=.none,data:=.fields ps }
 | .met f x=>h.get? a=some (PySem.W.methodObj (.ref f) (.ref x))
 | .ext φ=>φ h/\(∃o,h.get? a=some o)/\∀h1 h2:Heap,φ h1->(∀o,h1.get? a=some o->h2.get? a=some o)->φ h2
def jF (H:Hp) (h:Heap):Prop:=∀a o,H a=some o->b8 P w H h a o
end
section
variable {P:Program} {w:World} {H H':Hp} {h h':Heap} {a:Addr} {o:HO}
theorem b8.lt (x:b8 P w H h a o):a<h.objs.size:=by
 cases o with
 | lst xs=>obtain⟨_,_,_,_,e⟩:=x; exact eX e
 | tup xs=>obtain⟨_,_,_,p⟩:=x; exact p.lt
 | dK kvs=>obtain⟨_,_,_,_,o,_,_,e,_⟩:=x; exact eX e
 | dT kvs=>obtain⟨_,_,_,_,o,_,_,e,_⟩:=x; exact eX e
 | set S n=>obtain⟨o,_,_,_,e,_⟩:=x; exact eX e
 | ins C dx fs=>obtain⟨_,_,_,e,_⟩:=x; exact eX e
 | own y=>obtain⟨_,e⟩:=x; exact eX e
 | xd fs=>obtain⟨_,⟨_,_,_,e,_⟩,_⟩:=x; exact eX e
 | Uk lo hi=>obtain⟨_,_,_,e⟩:=x; exact eX e
 | yF ob u=>obtain⟨e,_⟩:=x; exact eX e
 | Qy ps=>exact eX (show h.get? a=some _ from x)
 | met f y=>exact eX (show h.get? a=some _ from x)
 | ext φ=>obtain⟨_,⟨_,e⟩,_⟩:=x; exact eX e
theorem Paired.Pa {α β:Type} {F G:α->β->Prop}:∀{l₁:List α} {l₂:List β},Paired F l₁ l₂->(∀a b,F a b->G a b)->Paired G l₁ l₂
 | _,_,.nil,_=>.nil
 | _,_,.cons r t,f=>.cons (f _ _ r) (Paired.Pa t f)
theorem b8.stay (x:b8 P w H h a o) (k:∀b u,(b=a\/H b=some (.own a))->h.get? b=some u->h'.get? b=some u)
  (ho:∀b,H b=some (.own a)->H' b=some (.own a)) (ht:∀b xs,H b=some (.tup xs)->H' b=some (.tup xs)):b8 P w H' h' a o:=by
 induction o with
 | lst xs=>obtain⟨z,its,n,r,e⟩:=x; exact⟨z,its,n,r,k _ _ (.inl rfl) e⟩
 | tup xs=>obtain⟨z,its,r,ob,e,c⟩:=x; exact⟨z,its,r,ob,k _ _ (.inl rfl) e,c⟩
 | dK kvs=>obtain⟨z,y,vs,r,ob,es,ep,e,c⟩:=x; exact⟨z,y,vs,r,ob,es,ep,k _ _ (.inl rfl) e,c⟩
 | dT kvs=>
  obtain⟨z,y,xs,r,ob,es,ep,e,c⟩:=x;exact⟨z,y,xs,Paired.Pa r fun p q z=>⟨z.1,ht _ _ z.2.1,z.2.2⟩,ob,es,ep,k _ _ (.inl rfl) e,c⟩
 | set S n=>obtain⟨ob,es,ep,t,e,c⟩:=x; exact⟨ob,es,ep,t,k _ _ (.inl rfl) e,c⟩
 | ins C dx fs=>
  obtain⟨d,z,ne,e,mA,⟨od,es,ep,e2,c⟩,r⟩:=x;exact⟨ho _ d,z,ne,k _ _ (.inl rfl) e,mA,⟨od,es,ep,k _ _ (.inr d) e2,c⟩,r⟩
 | own y=>obtain⟨ob,e⟩:=x; exact⟨ob,k _ _ (.inl rfl) e⟩
 | xd fs=>obtain⟨mA,⟨od,es,ep,e,c⟩,r⟩:=x; exact⟨mA,⟨od,es,ep,k _ _ (.inl rfl) e,c⟩,r⟩
 | Uk lo hi=>obtain⟨t,u,v,e⟩:=x; exact⟨t,u,v,k _ _ (.inl rfl) e⟩
 | yF ob u ih=>obtain⟨e,q⟩:=x; exact⟨k _ _ (.inl rfl) e,ih q⟩
 | Qy ps=>
  have e:h.get? a=some { cls:=.none,data:=.fields ps }:=x;show h'.get? a=some { cls:=.none,data:=.fields ps };exact k a _ (.inl rfl) e
 | met f y=>
  have e:h.get? a=some (PySem.W.methodObj (.ref f) (.ref y)):=x;show h'.get? a=some (PySem.W.methodObj (.ref f) (.ref y));exact k a _ (.inl rfl) e
 | ext φ=>obtain⟨p,⟨o,e⟩,st⟩:=x; exact⟨st _ _ p fun o q=>k _ _ (.inl rfl) q,⟨o,k _ _ (.inl rfl) e⟩,st⟩
theorem jF.lt (x:jF P w H h) (e:H a=some o):a<h.objs.size:=(x a o e).lt
theorem jF.fresh (x:jF P w H h) (e:h.objs.size<=a):H a=none:=by
 cases q:H a with
 | none=>rfl
 | some u=>exact absurd (jq (x.lt q) e) (oJ _)
theorem jF.kept (x:jF P w H h) (k:∀b u,h.get? b=some u->h'.get? b=some u):jF P w H h':=fun a o e=>
 (x a o e).stay (fun b u _ q=>k b u q) (fun _ q=>q) fun _ _ q=>q
theorem jF.laid (x:jF P w H h) (k:∀b u,h.get? b=some u->h'.get? b=some u) (hp:h.objs.size<=a) (new:b8 P w (upd H a o) h' a o):jF P w (upd H a o) h':=fun b u e=>by
 have hn:=x.fresh hp;by_cases hb:b=a
 ·subst hb; rw[az] at e; cases e; exact new
 ·rw[aV hb] at e;exact(x b u e).stay (fun c v _ q=>k c v q) (fun c q=>by rw[aV (bU q hn)]; exact q) fun c xs q=>by rw[aV (bU q hn)]; exact q
end
def Rd (H:Hp) (a:Addr) (u:HO):Prop:=H a=some u\/∃o,H a=some (.yF o u)
theorem Rd.ok {P:Program} {w:World} {H:Hp} {h:Heap} {a:Addr} {u:HO} (r:Rd H a u) (x:jF P w H h):b8 P w H h a u:=by
 rcases r with r | ⟨o,r⟩
 ·exact x a u r
 ·obtain⟨_,q⟩:=x a _ r;exact q
def X3:Option HO->Prop
 | some (.lst _)=>True
 | some (.dK _)=>True
 | some (.dT _)=>True
 | some (.set _ _)=>True
 | some (.ins _ _ _)=>True
 | some (.ext _)=>True
 | _=>False
section
variable {P:Program} {w:World} {H:Hp} {h h':Heap} {x e:Addr} {o':HO}
theorem jF.write (ok:jF P w H h) (mu:X3 (H x)) (he:e=x\/H e=some (.own x)) (k:∀b u,b≠e->h.get? b=some u->h'.get? b=some u) (heo:∃u,h'.get? e=some u)
  (new:b8 P w (upd H x o') h' x o'):jF P w (upd H x o') h':=fun b u q=>by
 have Wf:∀c y,H c=some (.own y)->c≠x:=fun c y r z=>by subst z; rw[r] at mu; exact mu
 have Yz:∀c xs,H c=some (.tup xs)->c≠x:=fun c xs r z=>by subst z; rw[r] at mu; exact mu
 by_cases hb:b=x
 ·subst hb; rw[az] at q; cases q; exact new
 ·rw[aV hb] at q;by_cases hbe:b=e
  ·have q':H b=some (.own x):=by
    rcases he with z | z
    ·exact absurd (hbe.trans z) hb
    ·rw[hbe]; exact z
   rw[q] at q'; cases q';obtain⟨v,hv⟩:=heo;exact⟨v,by rw[hbe]; exact hv⟩
  ·refine(ok b u q).stay (fun c v hc r=>k c v ?_ r) (fun c r=>by rw[aV (Wf c b r)]; exact r) fun c xs r=>by rw[aV (Yz c xs r)]; exact r
   rcases hc with rfl | hc
   ·exact hbe
   ·rintro rfl;rcases he with z | z
    ·exact Wf c b hc z
    ·rw[hc] at z; cases z; exact hb rfl
end
structure Un (fs ex:List Addr) (H H':Hp) (h h':Heap):Prop where
 keep:∀b o,h.get? b=some o->H b=none->b∉fs->b∉ex->h'.get? b=some o
 slot:∀b o,h.get? b=some o->H b=none->b∈fs->b∉ex->∃sl,h'.get? b=some { o with slots:=sl }
 free:∀b o,h.get? b=some o->H b=none->b∉ex->H' b=none
 there:∀b o,h.get? b=some o->b∉ex->∃o',h'.get? b=some o'
 tups:∀b xs,H b=some (.tup xs)->H' b=some (.tup xs)
 tu:∀b o u,H b=some (.yF o u)->H' b=some (.yF o u)
 uh:∀b ps,H b=some (.Qy ps)->∃more,H' b=some (.Qy (ps++more))
section
variable {fs fs' ex ex':List Addr} {H H1 H2:Hp} {h h1 h2 h':Heap} {a x e:Addr} {o:HO}
theorem Un.any (u:Un fs ex H H1 h h1) {b:Addr} {ob:Obj} (q:h.get? b=some ob) (n:H b=none) (hx:b∉ex):∃sl,h1.get? b=some { ob with slots:=sl }:=by
 by_cases hb:b∈fs
 ·exact u.slot b ob q n hb hx
 ·exact⟨ob.slots,u.keep b ob q n hb hx⟩
theorem Un.kept (k:∀b u,h.get? b=some u->h'.get? b=some u):Un fs ex H H h h':=
 ⟨fun b ob q _ _ _=>k b ob q,fun b ob q _ _ _=>⟨ob.slots,k b ob q⟩,fun _ _ _ n _=>n,fun b ob q _=>⟨ob,k b ob q⟩,fun _ _ q=>q,fun _ _ _ q=>q,fun _ ps q=>⟨#[],by rw[q]; simp⟩⟩
theorem Un.refl:Un fs ex H H h h:=Un.kept fun _ _ q=>q
theorem Un.laid (k:∀b u,h.get? b=some u->h'.get? b=some u) (hp:h.objs.size<=a) (hn:H a=none):Un fs ex H (upd H a o) h h' where
 keep:=fun b u q _ _ _=>k b u q
 slot:=fun b u q _ _ _=>⟨u.slots,k b u q⟩
 free:=fun b u q n _=>by rw[aV (dY (jq (eX q) hp))]; exact n
 there:=fun b u q _=>⟨u,k b u q⟩
 tups:=fun b xs q=>by rw[aV (bU q hn)]; exact q
 tu:=fun b u xs q=>by rw[aV (bU q hn)]; exact q
 uh:=fun b ps q=>⟨#[],by rw[aV (bU q hn),q]; simp⟩
theorem Un.write (mu:X3 (H x)) (he:e=x\/H e=some (.own x)) (k:∀b u,b≠e->h.get? b=some u->h'.get? b=some u) (heo:∃u,h'.get? e=some u):Un fs ex H (upd H x o) h h':=by
 have hx:∀b,H b=none->b≠x:=fun b n z=>by subst z; rw[n] at mu; exact mu
 have hb:∀b,H b=none->b≠e:=fun b n z=>by
  subst z;rcases he with r | r
  ·exact hx b n r
  ·rw[n] at r; cases r
 have hm:∀b u,H b=some u->¬X3 (some u)->b≠x:=fun b u q nm z=>by subst z; rw[q] at mu; exact nm mu
 refine⟨fun b u q n _ _=>k b u (hb b n) q,fun b u q n _ _=>⟨u.slots,k b u (hb b n) q⟩,fun b u q n _=>by rw[aV (hx b n)]; exact n,fun b u q _=>?_,
  fun b xs q=>by rw[aV (hm b _ q fun z=>z)]; exact q,fun b u xs q=>by rw[aV (hm b _ q fun z=>z)]; exact q,fun b ps q=>⟨#[],by rw[aV (hm b _ q fun z=>z),q]; simp⟩⟩
 by_cases hbe:b=e
 ·subst hbe; exact heo
 ·exact⟨u,k b u hbe q⟩
end
def Xk (h:Heap) (H:Hp):List Addr:=(List.range h.objs.size).filter fun a=>(H a).isSome
def xP (h:Heap) (H:Hp):Heap:=PySem.W.hideAll h (Xk h H)
theorem Ik (h:Heap) (H:Hp):(xP h H).objs.size=h.objs.size:=PySem.W.hideAll_size _ _
theorem Lz {h:Heap} {H:Hp} {b:Addr} {o:Obj} (e:h.get? b=some o) (n:H b=none):(xP h H).get? b=some o:=
 PySem.W.hideAll_get _ e fun hm=>by
  have q:(H b).isSome=true:=(List.mem_filter.mp hm).2;rw[n] at q; simp at q
theorem O4 {h:Heap} {H:Hp} {b:Addr} {o:Obj} (e:(xP h H).get? b=some o):h.get? b=some o/\H b=none:=by
 have e':h.get? b=some o:=PySem.W.of_hideAll (Xk h H) e;refine⟨e',?_⟩;cases q:H b with
 | none=>rfl
 | some x=>
  have hm:b∈Xk h H:=List.mem_filter.mpr ⟨rJ.mpr (eX e'),by simp[q]⟩
  have z:(xP h H).get? b=none:=PySem.W.hideAll_none (Xk h H) hm;rw[z] at e; cases e
def Qi (g h:Heap) (L:Addr):List (Addr×Obj):=(List.range h.objs.size).filterMap fun a=>if a=L\/(g.get? a).isSome=true then none else(h.get? a).map fun o=>(a,o)
def rest (g h:Heap) (L d:Addr):List (Addr×Obj):=(Qi g h L).filter fun p=>decide (p.1≠d)
structure Mod (K:PySem.W.Frag) (mg:Str->Option Value) (base:Heap):Prop where
 Px:K.In base
 glob:base.Ns mainGlobals mg
 blt:∃mb,base.Ns builtinsNs mb/\∀x:Str,x ≠ "__name__" -> mb x=bootBuiltins x
 nolimit:base.NoLimit
structure Cx where
 prog:Program
 w:World
 K:PySem.W.Frag
 mg:Str->Option Value
 base:Heap
 A:Around
 N:List Str
 s₀:Shared
 H₀:Hp
 env:Env
 outer:List Env
 stack:List Env
 ex:List Addr
 fn:Str->Bool
 calm:Bool
 pn:List (Addr×Obj)
 xe:Value->Shared->Prop
def frs (l:List Env):List Addr:=l.filterMap (·.frame)
abbrev Cx.fs (X:Cx):List Addr:=frs X.outer
def WT (sc:Scope) (x:Str):Prop:=sc.names.lookup x=some .local\/sc.names.lookup x=some .cell\/sc.names.lookup x=some .free
def Loc (sc:Scope) (x:Str):Prop:=sc.names.lookup x=some .local\/sc.names.lookup x=some .cell
def Look (env:Env) (h:Heap) (m:Str->Option Value) (x:Str) (u:Value):Prop:=
 (env.kindOf x=some .local/\m x=some u)\/((env.kindOf x=some .cell\/env.kindOf x=some .free)/\∃c,env.cells.lookup x=some c/\h.IsCell c (some u))
structure Cx.Ok (X:Cx):Prop where
 mod:Mod X.K X.mg X.base
 kind:X.env.scope.kind=.function
 glob:X.env.globals=mainGlobals
 blt:X.env.builtins=builtinsNs
 above:X.s₀.heap.objs.size<=X.env.locals
 inj:∀x y c,X.env.cells.lookup x=some c->X.env.cells.lookup y=some c->x=y
 has:∀x,(X.env.kindOf x=some .cell\/X.env.kindOf x=some .free)->∃c,X.env.cells.lookup x=some c
 cab:∀x c,X.fn x=true->X.env.cells.lookup x=some c->X.s₀.heap.objs.size<=c
 hd:X.calm=true->X.A.handled=none
 frames:X.A.frames=some X.stack
 Vv:X.stack=X.outer\/(X.stack=X.env::X.outer/\X.env.frame=some X.env.locals)
 WM:∀b∈X.ex,b≠X.env.locals/\∀x c,X.env.cells.lookup x=some c->c≠b
 bs:∀b o,X.base.get? b=some o->X.s₀.heap.get? b=some o/\X.H₀ b=none
 Jt:X.base.objs.size<=X.s₀.heap.objs.size
 Af:∀b o,X.base.get? b=some o->b∉X.ex
 Dq:∀b∈X.ex,b∉X.fs
 qp:X.s₀.heap.FunFrames X.base X.outer
 Tg:∀b∈X.fs,X.H₀ b=none
structure Inv (X:Cx) (pins:List (Addr×Obj)) (σ:List (Option V)) (H:Hp) (s:Shared):Prop where
 ok:X.Ok
 os:s.os=X.s₀.os
 bare:AllBare s.gens
 base:Un X.fs X.ex X.H₀ H X.s₀.heap s.heap
 loc:∃m,s.heap.Ns X.env.locals m/\∀(i:Nat) (x:Str) (v:V),X.N[i]?=some x->σ[i]?=some (some v)->WT X.env.scope x->∃u,RelV v u/\Look X.env s.heap m x u
 cell:∀x c,X.env.cells.lookup x=some c->∃v,s.heap.IsCell c v
 free:H X.env.locals=none
 iD:∀x c,X.env.cells.lookup x=some c->H c=none
 pin:∀p∈X.pn++pins,s.heap.get? p.1=some p.2/\H p.1=none/\p.1≠X.env.locals/\p.1∉X.fs/\∀v,p.2.data≠.cell v
 hok:jF X.prog X.w H s.heap
 len:σ.length=X.N.length
section
variable {X:Cx} {pins:List (Addr×Obj)} {σ:List (Option V)} {H H':Hp} {s:Shared} {h':Heap}
theorem Cx.Ok.YC (ok:X.Ok) {b:Addr} {o:Obj} (e:X.base.get? b=some o):b∉X.fs:=fun hb=>by
 have:=(ok.qp.mem hb).1;rw[e] at this; cases this
theorem Inv.bs (I:Inv X pins σ H s):∀b o,X.base.get? b=some o->s.heap.get? b=some o/\H b=none:=fun b o e=>
 ⟨I.base.keep b o (I.ok.bs b o e).1 (I.ok.bs b o e).2 (I.ok.YC e) (I.ok.Af b o e),I.base.free b o (I.ok.bs b o e).1 (I.ok.bs b o e).2 (I.ok.Af b o e)⟩
theorem Inv.bk (I:Inv X pins σ H s):∀b o,X.base.get? b=some o->s.heap.get? b=some o:=fun b o e=>(I.bs b o e).1
theorem Inv.mod (I:Inv X pins σ H s):Mod X.K X.mg X.base:=I.ok.mod
theorem Inv.kO (I:Inv X pins σ H s):X.K.In s.heap:=I.ok.mod.Px.keeps I.bk
theorem Inv.fr (I:Inv X pins σ H s):∃m,Fr X.base X.env.locals s.heap m:=
 let ⟨m,hn,_⟩:=I.loc
 ⟨m,hn,I.bk,mZ I.ok.Jt I.ok.above⟩
theorem Inv.lt (I:Inv X pins σ H s):X.env.locals<s.heap.objs.size:=let ⟨_,hn,_⟩:=I.loc; hn.lt
theorem Inv.sz (I:Inv X pins σ H s):X.s₀.heap.objs.size<=s.heap.objs.size:=mZ I.ok.above (lq I.lt)
theorem Inv.YB (I:Inv X pins σ H s) {a:Addr} (h:s.heap.objs.size<=a):a∉X.fs:=fun hb=>by
 obtain⟨_,o,ho,_⟩:=I.ok.qp.mem hb;exact absurd (jq (eX ho) (mZ I.sz h)) (oJ _)
theorem Inv.Qe (I:Inv X pins σ H s):∀x c,X.env.cells.lookup x=some c->c≠X.env.locals:=fun x c e z=>by
 obtain⟨v,o,ho,hd⟩:=I.cell x c e;obtain⟨m,⟨o',es,ep,ho',hd',_⟩,_⟩:=I.loc;rw[z,ho'] at ho; cases ho; rw[hd'] at hd; cases hd
theorem Inv.qp (I:Inv X pins σ H s):s.heap.FunFrames X.base X.outer:=by
 have all:∀(l:List Env),(∀b∈frs l,b∈X.fs)->X.s₀.heap.FunFrames X.base l->s.heap.FunFrames X.base l:=by
  intro l
  induction l with
  | nil=>intro _ _; trivial
  | cons env r ih=>
   intro hs hl;obtain⟨hk,⟨L,o,hf,hn,ho,hd⟩,hr⟩:=hl;have hL:L∈X.fs:=hs L (by unfold frs; rw[Hs,hf]; exact jd)
   obtain⟨sl,e⟩:=I.base.slot L o ho (I.ok.Tg L hL) hL fun z=>I.ok.Dq L z hL;exact⟨hk,⟨L,_,hf,hn,e,hd⟩,ih (fun b hb=>hs b (by unfold frs; rw[Hs,hf]; exact jr _ hb)) hr⟩
 exact all X.outer (fun _ hb=>hb) I.ok.qp
theorem Inv.stack (I:Inv X pins σ H s):s.heap.FunFrames X.base X.stack:=by
 rcases I.ok.Vv with e | ⟨e,hf⟩
 ·rw[e]; exact I.qp
 ·rw[e];obtain⟨m,hn,_⟩:=I.loc;refine .cons (by rw[I.ok.kind]; decide) hf hn ?_ I.qp
  exact Heap.get?_none_of_le (mZ I.ok.Jt I.ok.above)
theorem Inv.Bu (I:Inv X pins σ H s):∀b∈frs X.stack,b∈X.env.locals::X.fs:=fun b hb=>by
 rcases I.ok.Vv with e | ⟨e,hf⟩
 ·rw[e] at hb; exact jr _ hb
 ·rw[e] at hb;unfold frs at hb;rw[Hs,hf] at hb;exact hb
theorem Inv.qz (I:Inv X pins σ H s):∀b∈frs X.stack,H b=none:=fun b hb=>by
 rcases cA.mp (I.Bu b hb) with e | hb
 ·rw[e]; exact I.free
 ·obtain⟨_,o,ho,_⟩:=I.ok.qp.mem hb;exact I.base.free b o ho (I.ok.Tg b hb) fun z=>I.ok.Dq b z hb
theorem Inv.step {g':Array GenState} {t':Nat} {d':Drawn} {ch:List Addr} (I:Inv X pins σ H s)
  (hch:∀b∈ch,(b∈X.ex\/X.s₀.heap.objs.size<=b)/\b≠X.env.locals/\(∀x c,X.env.cells.lookup x=some c->c≠b)/\∀p∈X.pn++pins,p.1≠b)
  (keep:∀b o,b≠X.env.locals->b∉X.fs->b∉ch->s.heap.get? b=some o->H b=none->h'.get? b=some o)
  (slot:∀b o,b≠X.env.locals->b∈X.fs->b∉ch->s.heap.get? b=some o->H b=none->∃sl,h'.get? b=some { o with slots:=sl }) (free:∀b o,b∉ch->s.heap.get? b=some o->H b=none->H' b=none)
  (there:∀b o,b∉ch->s.heap.get? b=some o->∃o',h'.get? b=some o')
  (tups:∀b xs,H b=some (.tup xs)->H' b=some (.tup xs)) (tu:∀b o u,H b=some (.yF o u)->H' b=some (.yF o u)) (uh:∀b ps,H b=some (.Qy ps)->∃more,H' b=some (.Qy (ps++more)))
  (ns:∀m,s.heap.Ns X.env.locals m->h'.Ns X.env.locals m) (hok:jF X.prog X.w H' h') (hg:AllBare g') :
  Inv X pins σ H' { s with heap:=h',gens:=g',drawn:=d',toks:=t' }:=by
 have neL:∀b o,X.s₀.heap.get? b=some o->b≠X.env.locals:=fun b o e=>dY (jq (eX e) I.ok.above)
 have Xq:∀b o,X.s₀.heap.get? b=some o->b∉X.ex->b∉ch:=fun b o e hx hb=>by
  rcases(hch b hb).1 with z | z
  ·exact hx z
  ·exact absurd (jq (eX e) z) (oJ _)
 have cellK:∀x c,X.env.cells.lookup x=some c->∀v,s.heap.IsCell c v->h'.IsCell c v:=fun x c e v ⟨o,ho,hd⟩=>by
  have Wj:c∉ch:=fun z=>(hch c z).2.2.1 x c e rfl;by_cases hc:c∈X.fs
  ·obtain⟨sl,q⟩:=slot c o (I.Qe x c e) hc Wj ho (I.iD x c e);exact⟨_,q,hd⟩
  ·exact⟨o,keep c o (I.Qe x c e) hc Wj ho (I.iD x c e),hd⟩
 refine⟨I.ok,I.os,hg,⟨fun b o e n hb hx=>?_,fun b o e n hb hx=>?_,fun b o e n hx=>?_,fun b o e hx=>?_,fun b xs e=>tups b xs (I.base.tups b xs e),fun b o xs e=>tu b o xs (I.base.tu b o xs e),fun b ps e=>?_⟩,?_,fun x c e=>?_,?_,fun x c e=>?_,fun p hp=>?_,hok,I.len⟩
 ·exact keep b o (neL b o e) hb (Xq b o e hx) (I.base.keep b o e n hb hx) (I.base.free b o e n hx)
 ·obtain⟨sl,e1⟩:=I.base.slot b o e n hb hx;obtain⟨sl',e2⟩:=slot b _ (neL b o e) hb (Xq b o e hx) e1 (I.base.free b o e n hx);exact⟨sl',e2⟩
 ·obtain⟨o',e1⟩:=I.base.there b o e hx;exact free b o' (Xq b o e hx) e1 (I.base.free b o e n hx)
 ·obtain⟨o',e1⟩:=I.base.there b o e hx;exact there b o' (Xq b o e hx) e1
 ·obtain⟨m1,e1⟩:=I.base.uh b ps e;obtain⟨m2,e2⟩:=uh b _ e1;exact⟨m1++m2,by rw[e2,Array.append_assoc]⟩
 ·obtain⟨m,hn,hl⟩:=I.loc;refine⟨m,ns m hn,fun i x v e1 e2 e3=>?_⟩;obtain⟨u,r,l⟩:=hl i x v e1 e2 e3;refine⟨u,r,?_⟩;rcases l with l | ⟨k,c,e,z⟩
  ·exact .inl l
  ·exact .inr ⟨k,c,e,cellK x c e _ z⟩
 ·obtain⟨v,z⟩:=I.cell x c e;exact⟨v,cellK x c e v z⟩
 ·obtain⟨m,⟨o,_,_,ho,_⟩,_⟩:=I.loc;exact free _ o (fun z=>(hch _ z).2.1 rfl) ho I.free
 ·obtain⟨v,o,ho,hd⟩:=I.cell x c e;exact free c o (fun z=>(hch c z).2.2.1 x c e rfl) ho (I.iD x c e)
 ·obtain⟨e,n,ne,nf,d⟩:=I.pin p hp;have Wj:p.1∉ch:=fun z=>(hch p.1 z).2.2.2 p hp rfl;exact⟨keep p.1 p.2 ne nf Wj e n,free p.1 p.2 Wj e n,ne,nf,d⟩
theorem Inv.un {t':Nat} (I:Inv X pins σ H s) (u:Un X.fs [] H H' s.heap h') (hok:jF X.prog X.w H' h'):Inv X pins σ H' { s with heap:=h',toks:=t' }:=by
 obtain⟨m,⟨o,es,ep,ho,r⟩,_⟩:=id I.loc;obtain⟨sl,hL⟩:=u.any ho I.free (by simp)
 exact I.step (g':=s.gens) (d':=s.drawn) (ch:=[]) (fun _ z=>nomatch z) (fun b o _ hb _ e n=>u.keep b o e n hb (by simp)) (fun b o _ hb _ e n=>u.slot b o e n hb (by simp)) (fun b o _ e n=>u.free b o e n (by simp)) (fun b o _ e=>u.there b o e (by simp)) u.tups u.tu u.uh (fun m' hm=>by
  obtain⟨o',es',ep',ho',r'⟩:=hm;rw[ho] at ho'; cases ho'
  exact⟨_,es',ep',hL,r'⟩) hok I.bare
theorem Inv.call {g':Array GenState} {t':Nat} {d':Drawn} {ch:List Addr} (I:Inv X pins σ H s) (u:Un (frs X.stack) ch H H' s.heap h') (hok:jF X.prog X.w H' h') (hg:AllBare g')
  (hch:∀b∈ch,(b∈X.ex\/X.s₀.heap.objs.size<=b)/\b≠X.env.locals/\(∀x c,X.env.cells.lookup x=some c->c≠b)/\∀p∈X.pn++pins,p.1≠b) :
  Inv X pins σ H' { s with heap:=h',gens:=g',drawn:=d',toks:=t' }:=by
 obtain⟨m,⟨o,es,ep,ho,r⟩,_⟩:=id I.loc;obtain⟨sl,hL⟩:=u.any ho I.free fun z=>(hch _ z).2.1 rfl
 exact I.step (ch:=ch) hch (fun b o hL hb hc e n=>u.keep b o e n (fun z=>(cA.mp (I.Bu b z)).elim hL hb) hc) (fun b o _ _ hc e n=>u.any e n hc) (fun b o hc e n=>u.free b o e n hc) (fun b o hc e=>u.there b o e hc) u.tups u.tu u.uh (fun m' hm=>by
  obtain⟨o',es',ep',ho',r'⟩:=hm;rw[ho] at ho'; cases ho'
  exact⟨_,es',ep',hL,r'⟩) hok hg
theorem Inv.turned {t':Nat} {it:Addr} (I:Inv X pins σ H s) (k:∀b o,b≠it->s.heap.get? b=some o->h'.get? b=some o) (hn:H it=none) (hL:it≠X.env.locals)
  (h1:it∈X.ex\/X.s₀.heap.objs.size<=it) (h2:∀x c,X.env.cells.lookup x=some c->c≠it) (h3:∀p∈X.pn++pins,p.1≠it):Inv X pins σ H { s with heap:=h',toks:=t' }:=by
 have nit:∀b u,H b=some u->b≠it:=fun b u e z=>by rw[z,hn] at e; cases e
 refine I.step (g':=s.gens) (d':=s.drawn) (ch:=[it]) (fun b hb=>?_) (fun b o _ _ hc e _=>k b o (fun z=>hc (by simp[z])) e) (fun b o _ _ hc e _=>⟨o.slots,k b o (fun z=>hc (by simp[z])) e⟩) (fun _ _ _ _ n=>n)
  (fun b o hc e=>⟨o,k b o (fun z=>hc (by simp[z])) e⟩) (fun _ _ e=>e) (fun _ _ _ e=>e) (fun b ps e=>⟨#[],by rw[e]; simp⟩) (fun m hm=>?_) (fun b u e=>?_) I.bare
 ·have e:b=it:=by simpa using hb
  subst e;exact⟨h1,hL,h2,h3⟩
 ·obtain⟨o,es,ep,ho,r⟩:=hm;exact⟨o,es,ep,k _ o (Ne.symm hL) ho,r⟩
 ·refine(I.hok b u e).stay (fun c v hc q=>k c v ?_ q) (fun _ q=>q) fun _ _ q=>q;rcases hc with z | z
  ·rw[z]; exact nit b u e
  ·exact nit c _ z
theorem Inv.tok (I:Inv X pins σ H s) (t:Nat):Inv X pins σ H { s with toks:=t }:=I.un (h':=s.heap) (t':=t) Un.refl I.hok
theorem Inv.kept {t':Nat} (I:Inv X pins σ H s) (k:∀b u,s.heap.get? b=some u->h'.get? b=some u):Inv X pins σ H { s with heap:=h',toks:=t' }:=I.un (Un.kept k) (I.hok.kept k)
theorem Inv.laid {a:Addr} {o:HO} {t':Nat} (I:Inv X pins σ H s) (k:∀b u,s.heap.get? b=some u->h'.get? b=some u) (hp:s.heap.objs.size<=a) (new:b8 X.prog X.w (upd H a o) h' a o) :
  Inv X pins σ (upd H a o) { s with heap:=h',toks:=t' }:=I.un (Un.laid k hp (I.hok.fresh hp)) (I.hok.laid k hp new)
theorem Inv.write {x e:Addr} {o:HO} {t':Nat} (I:Inv X pins σ H s) (mu:X3 (H x)) (he:e=x\/H e=some (.own x)) (k:∀b u,b≠e->s.heap.get? b=some u->h'.get? b=some u) (heo:∃u,h'.get? e=some u)
  (new:b8 X.prog X.w (upd H x o) h' x o):Inv X pins σ (upd H x o) { s with heap:=h',toks:=t' }:=I.un (Un.write mu he k heo) (I.hok.write mu he k heo new)
theorem Inv.weak {σ':List (Option V)} (I:Inv X pins σ H s) (hl:σ'.length=σ.length) (w:∀(i:Nat) v,σ'[i]?=some (some v)->σ[i]?=some (some v)):Inv X pins σ' H s:=
 ⟨I.ok,I.os,I.bare,I.base,let ⟨m,hn,hl'⟩:=I.loc; ⟨m,hn,fun i x v e1 e2 e3=>hl' i x v e1 (w i v e2) e3⟩,I.cell,I.free,I.iD,I.pin,I.hok,hl.trans I.len⟩
theorem Inv.Fd {QW:List (Addr×Obj)} (I:Inv X pins σ H s) (h:∀p∈QW,s.heap.get? p.1=some p.2/\H p.1=none/\p.1≠X.env.locals/\p.1∉X.fs/\∀v,p.2.data≠.cell v):Inv X QW σ H s:=
 ⟨I.ok,I.os,I.bare,I.base,I.loc,I.cell,I.free,I.iD,fun p hp=>(uz.mp hp).elim (fun z=>I.pin p (List.mem_append_left _ z)) (h p),I.hok,I.len⟩
theorem rY {N:List Str} (hN:N.Nodup) {i j:Nat} {x:Str} (a:N[i]?=some x) (b:N[j]?=some x):i=j:=by
 obtain⟨h1,e1⟩:=iM.mp a;obtain⟨h2,e2⟩:=iM.mp b;exact(List.getElem_inj hN).mp (e1.trans e2.symm)
theorem GQ {M:Model} {A:Around} {E:Value->Shared->Prop} {i:Nat} {x:Str} {v:V} {u:Value} {Q:Unit->Shared->Prop} (I:Inv X pins σ H s) (hN:X.N.Nodup) (hi:X.N[i]?=some x) (hx:Loc X.env.scope x) (r:RelV v u)
  (h:∀s',Inv X pins (σ.set i (some v)) H s'->(∃a,Heap.SameBut a s.heap s'.heap/\(a=X.env.locals\/X.env.cells.lookup x=some a))->Q () s') (hf:X.fn x=true\/X.env.scope.names.lookup x=some .local:=by first | exact .inl rfl | exact .inr rfl | assumption):wpAny M A (storeName X.env x u) Q E s:=by
 obtain⟨m,hn,hl⟩:=id I.loc;have hcls:(X.env.scope.kind==.class || (X.env.scope.kind==.module&&X.env.locals != X.env.globals))=false:=by rw[I.ok.kind]; rfl
 have Wu:i<σ.length:=by rw[I.len]; exact(iM.mp hi).1
 have Qe:=I.Qe
 have tracked:∀{a:Addr} {h':Heap},(∃o,s.heap.get? a=some o/\H a=none)->Heap.SameBut a s.heap h'->jF X.prog X.w H h':=fun {a h'} ha hs b ob e=>by
  obtain⟨_,_,hfree⟩:=ha;refine(I.hok b ob e).stay (fun c w' hc q=>(hs.2 c ?_).trans q) (fun _ q=>q) fun _ _ q=>q;rintro rfl;rcases hc with rfl | hc
  ·rw[hfree] at e; cases e
  ·rw[hfree] at hc; cases hc
 rcases hx with hk | hk
 ·refine wpAny_storeName_local hk hn (fun h' hn' hs=>?_) hcls;obtain⟨oL,_,_,hoL,_⟩:=id hn;refine h _ ⟨I.ok,I.os,I.bare,⟨fun b o e n hb hx=>?_,fun b o e n hb hx=>?_,I.base.free,fun b o e hx=>?_,I.base.tups,I.base.tu,I.base.uh⟩,⟨_,hn',fun j y v' e1 e2 e3=>?_⟩,fun y c e=>?_,I.free,I.iD,fun p hp=>?_,tracked ⟨oL,hoL,I.free⟩ hs,by simpa using I.len⟩ ⟨_,hs,.inl rfl⟩
  ·exact(hs.2 b (dY (jq (eX e) I.ok.above))).trans (I.base.keep b o e n hb hx)
  ·obtain⟨sl,e1⟩:=I.base.slot b o e n hb hx;exact⟨sl,(hs.2 b (dY (jq (eX e) I.ok.above))).trans e1⟩
  ·obtain⟨o',e1⟩:=I.base.there b o e hx;exact⟨o',(hs.2 b (dY (jq (eX e) I.ok.above))).trans e1⟩
  ·by_cases hj:j=i
   ·subst hj;rw[hi] at e1; cases e1;rw[Og Wu] at e2;cases e2;exact⟨u,r,.inl ⟨hk,by simp⟩⟩
   ·rw[List.getElem?_set_ne (Ne.symm hj)] at e2;obtain⟨u',r',q⟩:=hl j y v' e1 e2 e3;refine⟨u',r',?_⟩;rcases q with⟨k,e⟩ | ⟨k,c,e,z⟩
    ·refine .inl ⟨k,?_⟩;have:y≠x:=fun e=>hj (rY hN e1 (e▸hi));simp[this,e]
    ·exact .inr ⟨k,c,e,z.sameBut hs (Qe y c e)⟩
  ·obtain⟨w',z⟩:=I.cell y c e;exact⟨w',z.sameBut hs (Qe y c e)⟩
  ·obtain⟨e,n,ne,nf,d⟩:=I.pin p hp;exact⟨(hs.2 p.1 ne).trans e,n,ne,nf,d⟩
 ·have hfn:X.fn x=true:=by
   rcases hf with z | z
   ·exact z
   ·rw[z] at hk; cases hk
  obtain⟨c,hc⟩:=I.ok.has x (.inl hk);obtain⟨w',z⟩:=I.cell x c hc;refine wpAny_storeName_cell I.ok.kind hk hc z (fun h' hc' hs=>?_);obtain⟨oc,hoc,Y0⟩:=id z;refine h { s with heap:=h' } ⟨I.ok,I.os,I.bare,⟨fun b o e n hb hx=>?_,fun b o e n hb hx=>?_,I.base.free,fun b o e hx=>?_,I.base.tups,I.base.tu,I.base.uh⟩,⟨m,hn.sameBut hs (Ne.symm (Qe x c hc)),fun j y v' e1 e2 e3=>?_⟩,fun y c' e=>?_,I.free,I.iD,fun p hp=>?_,tracked ⟨oc,hoc,I.iD x c hc⟩ hs,by simpa using I.len⟩ ⟨c,hs,.inr hc⟩
  ·exact(hs.2 b (dY (jq (eX e) (I.ok.cab x c hfn hc)))).trans (I.base.keep b o e n hb hx)
  ·obtain⟨sl,e1⟩:=I.base.slot b o e n hb hx;exact⟨sl,(hs.2 b (dY (jq (eX e) (I.ok.cab x c hfn hc)))).trans e1⟩
  ·obtain⟨o',e1⟩:=I.base.there b o e hx;exact⟨o',(hs.2 b (dY (jq (eX e) (I.ok.cab x c hfn hc)))).trans e1⟩
  ·by_cases hj:j=i
   ·subst hj;rw[hi] at e1; cases e1;rw[Og Wu] at e2;cases e2;exact⟨u,r,.inr ⟨.inl hk,c,hc,hc'⟩⟩
   ·rw[List.getElem?_set_ne (Ne.symm hj)] at e2;obtain⟨u',r',q⟩:=hl j y v' e1 e2 e3;refine⟨u',r',?_⟩;rcases q with q | ⟨k,c',e,z'⟩
    ·exact .inl q
    ·refine .inr ⟨k,c',e,z'.sameBut hs ?_⟩;rintro rfl;exact hj (rY hN e1 (I.ok.inj _ _ _ e hc▸hi))
  ·by_cases hcc:c'=c
   ·subst hcc; exact⟨_,hc'⟩
   ·obtain⟨w2,z2⟩:=I.cell y c' e;exact⟨w2,z2.sameBut hs hcc⟩
  ·obtain⟨e,n,ne,nf,d⟩:=I.pin p hp;refine⟨(hs.2 p.1 ?_).trans e,n,ne,nf,d⟩;intro q;rw[q,hoc] at e;have q':oc=p.2:=Option.some.inj e;exact d w' (by rw[<- q']; exact Y0)
theorem eU {M:Model} {A:Around} {E:Value->Shared->Prop} {i:Nat} {x:Str} {v:V} {u:Value} {Q:Unit->Shared->Prop} (I:Inv X pins σ H s) (hN:X.N.Nodup) (hi:X.N[i]?=some x) (hx:Loc X.env.scope x) (r:RelV v u)
  (h:∀s',Inv X pins (σ.set i (some v)) H s'->Q () s') (hf:X.fn x=true\/X.env.scope.names.lookup x=some .local:=by first | exact .inl rfl | exact .inr rfl | assumption):wpAny M A (storeName X.env x u) Q E s:=
 GQ I hN hi hx r (fun s' I' _=>h s' I') hf
theorem Inv.call' {s':Shared} {ch:List Addr} (I:Inv X pins σ H s) (ho:s'.os=s.os) (u:Un (frs X.stack) ch H H' s.heap s'.heap) (hok:jF X.prog X.w H' s'.heap) (hg:AllBare s'.gens)
  (hch:∀b∈ch,(b∈X.ex\/X.s₀.heap.objs.size<=b)/\b≠X.env.locals/\(∀x c,X.env.cells.lookup x=some c->c≠b)/\∀p∈X.pn++pins,p.1≠b):Inv X pins σ H' s':=by
 obtain⟨h',g',d',t',o'⟩:=s';have e:o'=s.os:=ho;subst e;exact I.call (g':=g') (t':=t') (d':=d') u hok hg hch
end
abbrev XK:=Value->Option Addr->Hp->Prop
abbrev St:=List (Option V)
abbrev VK:=V->Hp->Prop
abbrev TE:=St->Hp->VK->Prop
abbrev TT:=St->Hp->(Bool->Hp->Prop)->Prop
abbrev TA:=St->Hp->(List V->Hp->Prop)->Prop
structure Ends where
 nx:St->Hp->Prop
 rt:VK
 bk:St->Hp->Prop:=fun _ _=>False
 ct:St->Hp->Prop:=fun _ _=>False
abbrev TS:=Ends->St->Hp->Prop
def EP (X:Cx) (pins:List (Addr×Obj)) (σ:St) (Q:VK) (u:Value) (s':Shared):Prop:=∃v H',Inv X pins σ H' s'/\RelV v u/\Q v H'
def TP (X:Cx) (pins:List (Addr×Obj)) (σ:St) (Q:Bool->Hp->Prop) (b:Bool) (s':Shared):Prop:=∃H',Inv X pins σ H' s'/\Q b H'
def AP (X:Cx) (pins:List (Addr×Obj)) (σ:St) (Q:List V->Hp->Prop) (us:List Value) (s':Shared):Prop:=∃vs H',Inv X pins σ H' s'/\Vals vs us/\Q vs H'
def SP (X:Cx) (pins:List (Addr×Obj)) (D:Ends) (f:Flow) (s':Shared):Prop:=
 match f with
 | .next=>∃σ' H',Inv X pins σ' H' s'/\D.nx σ' H'
 | .brk=>∃σ' H',Inv X pins σ' H' s'/\D.bk σ' H'
 | .cont=>∃σ' H',Inv X pins σ' H' s'/\D.ct σ' H'
 | .ret u=>∃v σ' H',Inv X pins σ' H' s'/\RelV v u/\D.rt v H'
structure PE (X:Cx) (e:Expr) (t:TE):Prop where
 mk ::
 go :
 ∀(pins:List (Addr×Obj)) (s:Shared) (σ:St) (H:Hp) (Q:VK),Inv X pins σ H s->t σ H Q->wpAny (model X.prog X.w) X.A (eval e X.env) (EP X pins σ Q) X.xe s
instance {X:Cx} {e:Expr} {t:TE}:CoeFun (PE X e t) (fun _=>
 ∀(pins:List (Addr×Obj)) (s:Shared) (σ:St) (H:Hp) (Q:VK),Inv X pins σ H s->t σ H Q->wpAny (model X.prog X.w) X.A (eval e X.env) (EP X pins σ Q) X.xe s):=⟨PE.go⟩
structure PT (X:Cx) (e:Expr) (t:TT):Prop where
 mk ::
 go :
 ∀(pins:List (Addr×Obj)) (s:Shared) (σ:St) (H:Hp) (Q:Bool->Hp->Prop),Inv X pins σ H s->t σ H Q->wpAny (model X.prog X.w) X.A (isTrue e X.env (eval e X.env)) (TP X pins σ Q) X.xe s
instance {X:Cx} {e:Expr} {t:TT}:CoeFun (PT X e t) (fun _=>
 ∀(pins:List (Addr×Obj)) (s:Shared) (σ:St) (H:Hp) (Q:Bool->Hp->Prop),Inv X pins σ H s->t σ H Q->wpAny (model X.prog X.w) X.A (isTrue e X.env (eval e X.env)) (TP X pins σ Q) X.xe s):=⟨PT.go⟩
structure PW (X:Cx) (e:Expr) (t:TT):Prop where
 mk ::
 go :
 ∀(whole:Sem Value) (pins:List (Addr×Obj)) (s:Shared) (σ:St) (H:Hp) (Q:Bool->Hp->Prop),Inv X pins σ H s->t σ H Q->wpAny (model X.prog X.w) X.A (isTrue e X.env whole) (TP X pins σ Q) X.xe s
instance {X:Cx} {e:Expr} {t:TT}:CoeFun (PW X e t) (fun _=>
 ∀(whole:Sem Value) (pins:List (Addr×Obj)) (s:Shared) (σ:St) (H:Hp) (Q:Bool->Hp->Prop),Inv X pins σ H s->t σ H Q->wpAny (model X.prog X.w) X.A (isTrue e X.env whole) (TP X pins σ Q) X.xe s):=⟨PW.go⟩
theorem PW.pt {X:Cx} {e:Expr} {t:TT} (h:PW X e t):PT X e t:=.mk <| h _
structure PA (X:Cx) (es:List Expr) (t:TA):Prop where
 mk ::
 go :
 ∀(pos:Pos) (pins:List (Addr×Obj)) (s:Shared) (σ:St) (H:Hp) (Q:List V->Hp->Prop),Inv X pins σ H s->t σ H Q->wpAny (model X.prog X.w) X.A (spliced (backTo pos (starEach es X.env))) (AP X pins σ Q) X.xe s
instance {X:Cx} {es:List Expr} {t:TA}:CoeFun (PA X es t) (fun _=>
 ∀(pos:Pos) (pins:List (Addr×Obj)) (s:Shared) (σ:St) (H:Hp) (Q:List V->Hp->Prop),Inv X pins σ H s->t σ H Q->wpAny (model X.prog X.w) X.A (spliced (backTo pos (starEach es X.env))) (AP X pins σ Q) X.xe s):=⟨PA.go⟩
structure PS (X:Cx) (st:Stmt) (t:TS):Prop where
 mk ::
 go :
 ∀(pins:List (Addr×Obj)) (s:Shared) (σ:St) (H:Hp) (D:Ends),Inv X pins σ H s->t D σ H->wpAny (model X.prog X.w) X.A (exec st X.env) (SP X pins D) X.xe s
instance {X:Cx} {st:Stmt} {t:TS}:CoeFun (PS X st t) (fun _=>
 ∀(pins:List (Addr×Obj)) (s:Shared) (σ:St) (H:Hp) (D:Ends),Inv X pins σ H s->t D σ H->wpAny (model X.prog X.w) X.A (exec st X.env) (SP X pins D) X.xe s):=⟨PS.go⟩
structure yw (X:Cx) (st:List Stmt) (t:TS):Prop where
 mk ::
 go :
 ∀(pins:List (Addr×Obj)) (s:Shared) (σ:St) (H:Hp) (D:Ends),Inv X pins σ H s->t D σ H->wpAny (model X.prog X.w) X.A (execs st X.env) (SP X pins D) X.xe s
instance {X:Cx} {st:List Stmt} {t:TS}:CoeFun (yw X st t) (fun _=>
 ∀(pins:List (Addr×Obj)) (s:Shared) (σ:St) (H:Hp) (D:Ends),Inv X pins σ H s->t D σ H->wpAny (model X.prog X.w) X.A (execs st X.env) (SP X pins D) X.xe s):=⟨yw.go⟩
theorem cH {α:Type} {t:Sem α} {Q Q':α->Shared->Prop} {M:Model} {A:Around} {E:Value->Shared->Prop} {s:Shared} (h:wpAny M A t Q E s) (hQ:∀a s,Q a s->Q' a s):wpAny M A t Q' E s:=dX h hQ fun _ _ x=>x
section
variable {X:Cx}
def um (i:Nat):TE:=fun σ H Q=>match σ[i]? with
 | some (some v)=>Q v H
 | _=>False
theorem um.ex {i:Nat} {σ:St} {H:Hp} {Q:VK} (h:um i σ H Q):∃v,σ[i]?=some (some v)/\Q v H:=by
 unfold um at h;split at h
 ·rename_i v e;exact⟨v,e,h⟩
 ·exact h.elim
def tC (v:V):TE:=fun _ H Q=>Q v H
theorem R5 {i:Nat} {x:Str} {pos:Pos} (hN:X.N[i]?=some x) (hv:WT X.env.scope x) (hd:(x==("__debug__" : Str))=false:=by decide) (hcd:(x==("__classdict__" : Str))=false:=by decide):PE X (.Name x pos) (um i):=by
 refine .mk ?_;intro pins s σ H Q I h;obtain⟨v,e,h⟩:=um.ex h;obtain⟨m,hn,hl⟩:=I.loc;obtain⟨u,r,l⟩:=hl i x v hN e hv;have fin:EP X pins σ Q u s:=⟨v,H,I,r,h⟩;rcases l with⟨hk,hm⟩ | ⟨hk,c,hc,hcell⟩
 ·exact wpAny_Name (wpAny_loadName_local I.ok.kind hk hn hm fin) hd
 ·rcases hk with hk | hk
  ·exact wpAny_Name (wpAny_loadName_cell I.ok.kind hk hc hcell fin) hd
  ·exact wpAny_Name (wpAny_loadName_free I.ok.kind hk hc hcell fin hcd) hd
theorem ao {i j pos}:PE X (.Constant (.int i) j pos) (tC (.int i)):=.mk <| fun _ _ _ H _ I h=>wpAny_Constant_int ⟨.int i,H,I.tok _,⟨_,rfl⟩,h⟩
theorem jY {b j pos}:PE X (.Constant (.bool b) j pos) (tC (.bl b)):=.mk <| fun _ _ _ H _ I h=>Constant_bool ⟨.bl b,H,I,rfl,h⟩
theorem ju {j pos}:PE X (.Constant .none j pos) (tC .non):=.mk <| fun _ _ _ H _ I h=>Constant_none ⟨.non,H,I,rfl,h⟩
theorem bQ {x j pos}:PE X (.Constant (.str x) j pos) (tC (.str x)):=.mk <| fun _ _ _ H _ I h=>Calls.Constant_str ⟨.str x,H,I.tok _,⟨_,rfl⟩,h⟩
def Gl (X:Cx) (x:Str):Prop:=X.env.kindOf x=some .globalImplicit
theorem nG {E:Value->Shared->Prop} {pins:List (Addr×Obj)} {s:Shared} {σ:St} {H:Hp} {x:Str} {u:Value} {pos:Pos} {Q:Value->Shared->Prop} (I:Inv X pins σ H s) (hg:Gl X x) (hm:X.mg x=some u) (h:Q u s)
  (hd:(x==("__debug__" : Str))=false:=by decide):wpAny (model X.prog X.w) X.A (eval (.Name x pos) X.env) Q E s:=
 Calls.Name_function_global I.ok.kind hg (Calls.loadGlobal_global (by rw[I.ok.glob]; exact I.mod.glob.keeps I.bk) hm h) hd
theorem gW {E:Value->Shared->Prop} {pins:List (Addr×Obj)} {s:Shared} {σ:St} {H:Hp} {x:Str} {u:Value} {pos:Pos} {Q:Value->Shared->Prop} (I:Inv X pins σ H s) (hg:Gl X x) (hm:X.mg x=none) (hv:bootBuiltins x=some u) (h:Q u s)
  (hn:x ≠ "__name__" := by decide) (hd:(x==("__debug__" : Str))=false:=by decide):wpAny (model X.prog X.w) X.A (eval (.Name x pos) X.env) Q E s:=by
 obtain⟨mb,h1,h2⟩:=I.mod.blt;exact Calls.Name_function_global I.ok.kind hg (Calls.loadGlobal_builtin (by rw[I.ok.glob]; exact I.mod.glob.keeps I.bk) hm (by rw[I.ok.blt]; exact h1.keeps I.bk) ((h2 x hn).trans hv) h) hd
theorem eE {x:Str} {v:V} {u:Value} {pos:Pos} (hg:Gl X x) (hm:X.mg x=some u) (r:RelV v u) (hd:(x==("__debug__" : Str))=false:=by decide):PE X (.Name x pos) (tC v):=
 .mk <| fun _ _ _ H _ I h=>nG I hg hm ⟨v,H,I,r,h⟩ hd
theorem Ow {x:Str} {v:V} {u:Value} {pos:Pos} (hg:Gl X x) (hm:X.mg x=none) (hv:bootBuiltins x=some u) (r:RelV v u) (hn:x ≠ "__name__" := by decide) (hd:(x==("__debug__" : Str))=false:=by decide):PE X (.Name x pos) (tC v):=
 .mk <| fun _ _ _ H _ I h=>gW I hg hm hv ⟨v,H,I,r,h⟩ hn hd
variable {a b:Expr} {ta tb:TE} {pos:Pos}
def tB (t:TE):TT:=fun σ H Q=>t σ H fun x H1=>∃c,x=.bl c/\Q c H1
theorem fu {e:Expr} {t:TE} (h:PE X e t) (he:∀whole,isTrue e X.env whole=(do let v <- whole; standAt e.pos; holding [v] (truthy v)):=by intro _; rfl):PT X e (tB t):=by
 refine .mk ?_;intro pins s σ H Q I hw;refine isTrue_plain (cH (h pins s σ H _ I hw) fun v s1 ⟨x,H1,I1,r1,q1⟩=>?_) (he _);obtain⟨d,rfl,q⟩:=q1;cases r1;exact Cg ⟨H1,I1,q⟩
variable {tA Xm:TT} {rest:List Expr}
def Vq (t u:TT):TT:=fun σ H Q=>t σ H fun c H1=>if c=true then u σ H1 Q else Q false H1
def tOr (t u:TT):TT:=fun σ H Q=>t σ H fun c H1=>if c=true then Q true H1 else u σ H1 Q
def Vn (t:TT):TT:=fun σ H Q=>t σ H fun c H1=>Q (!c) H1
theorem wX (ha:PT X a tA):PW X (.BoolOp .And [a] pos) tA:=by
 refine .mk ?_;intro wh pins s σ H Q I h;refine isTrue_and (cH (ha pins s σ H Q I h) fun c s1 e=>?_);cases c with
 | true=>exact isTrue_and_nil e
 | false=>exact e
theorem wW (ha:PT X a tA):PW X (.BoolOp .Or [a] pos) tA:=by
 refine .mk ?_;intro wh pins s σ H Q I h;refine isTrue_or (cH (ha pins s σ H Q I h) fun c s1 e=>?_);cases c with
 | false=>exact isTrue_or_nil e
 | true=>exact e
theorem Cm (ha:PT X a tA) (hb:PW X (.BoolOp .And (b::rest) pos) Xm):PW X (.BoolOp .And (a::b::rest) pos) (Vq tA Xm):=by
 refine .mk ?_;intro wh pins s σ H Q I h;refine isTrue_and (cH (ha pins s σ H _ I h) fun c s1 qx=>?_);obtain⟨H1,I1,q1⟩:=qx;cases c with
 | true=>exact hb wh pins s1 σ H1 Q I1 q1
 | false=>exact⟨H1,I1,q1⟩
theorem Fb (ha:PT X a tA) (hb:PW X (.BoolOp .Or (b::rest) pos) Xm):PW X (.BoolOp .Or (a::b::rest) pos) (tOr tA Xm):=by
 refine .mk ?_;intro wh pins s σ H Q I h;refine isTrue_or (cH (ha pins s σ H _ I h) fun c s1 qx=>?_);obtain⟨H1,I1,q1⟩:=qx;cases c with
 | true=>exact⟨H1,I1,q1⟩
 | false=>exact hb wh pins s1 σ H1 Q I1 q1
theorem rN (ha:PT X a tA):PT X (.UnaryOp .Not a pos) (Vn tA):=by
 refine .mk ?_;intro pins s σ H Q I h;exact isTrue_not (ha pins s σ H (fun c H1=>Q (!c) H1) I h)
def QM (ta tb:TE):TE:=fun σ H Q=>ta σ H fun x H1=>∃c,x=.bl c/\if c=true then tb σ H1 Q else Q (.bl false) H1
def Vm (ta tb:TE):TE:=fun σ H Q=>ta σ H fun x H1=>∃c,x=.bl c/\if c=true then Q (.bl true) H1 else tb σ H1 Q
def QF (ta:TE):TE:=fun σ H Q=>ta σ H fun x H1=>∃c,x=.bl c/\Q (.bl (!c)) H1
theorem rQ {op} {t:TE} (h:PE X a t):PE X (.BoolOp op [a] pos) t:=.mk <| fun pins s σ H Q I hw=>BoolOp_one (h pins s σ H Q I hw)
theorem oV (ha:PE X a ta) (hb:PE X (.BoolOp .And (b::rest) pos) tb):PE X (.BoolOp .And (a::b::rest) pos) (QM ta tb):=by
 refine .mk ?_;intro pins s σ H Q I h;refine BoolOp_and (cH (ha pins s σ H _ I h) fun v s1 qx=>?_);obtain⟨x,H1,I1,r1,q1⟩:=qx;obtain⟨c,rfl,q1⟩:=q1;cases r1;refine Cg ?_;cases c with
 | true=>exact hb pins s1 σ H1 Q I1 q1
 | false=>exact⟨.bl false,H1,I1,rfl,q1⟩
theorem V9 (ha:PE X a ta) (hb:PE X (.BoolOp .Or (b::rest) pos) tb):PE X (.BoolOp .Or (a::b::rest) pos) (Vm ta tb):=by
 refine .mk ?_;intro pins s σ H Q I h;refine BoolOp_or (cH (ha pins s σ H _ I h) fun v s1 qx=>?_);obtain⟨x,H1,I1,r1,q1⟩:=qx;obtain⟨c,rfl,q1⟩:=q1;cases r1;refine Cg ?_;cases c with
 | false=>exact hb pins s1 σ H1 Q I1 q1
 | true=>exact⟨.bl true,H1,I1,rfl,q1⟩
theorem R6 (ha:PE X a ta):PE X (.UnaryOp .Not a pos) (QF ta):=by
 refine .mk ?_;intro pins s σ H Q I h;refine UnaryOp_ (cH (ha pins s σ H _ I h) fun v s1 qx=>?_);obtain⟨x,H1,I1,r1,q1⟩:=qx;obtain⟨c,rfl,q1⟩:=q1;cases r1;exact not_of (Cg ⟨.bl (!c),H1,I1,rfl,q1⟩)
def tIf (t:TT) (ta tb:TE):TE:=fun σ H Q=>t σ H fun c H1=>if c=true then ta σ H1 Q else tb σ H1 Q
theorem b7 {c:Expr} (hc:PT X c tA) (ha:PE X a ta) (hb:PE X b tb):PE X (.IfExp c a b pos) (tIf tA ta tb):=by
 refine .mk ?_;intro pins s σ H Q I h;refine wpAny_IfExp (cH (hc pins s σ H _ I h) fun d s1 qx=>?_);obtain⟨H1,I1,q1⟩:=qx;cases d with
 | true=>exact ha pins s1 σ H1 Q I1 q1
 | false=>exact hb pins s1 σ H1 Q I1 q1
end
def dI (K:PySem.W.Frag) (H:Hp) (a:Addr) (xs:List V):Prop:=
 Rd H a (.lst xs) \/
  ∃(o:Obj) (its:Array Value) (n:Nat),K.lookup a=some o/\o.cls=.type "list" /\ o.dict=none/\o.data=.seq its n/\its.size<=sizeLine/\Vals xs its.toList
def cY (K:PySem.W.Frag) (H:Hp) (a:Addr) (xs:List V):Prop:=
 Rd H a (.tup xs) \/
  ∃(o:Obj) (its:Array Value) (n:Nat),K.lookup a=some o/\o.cls=.type "tuple" /\ o.data=.seq its n/\its.size<=sizeLine/\Vals xs its.toList
def ZK:Value->Option V
 | .none=>some .non
 | .bool b=>some (.bl b)
 | .int i _=>some (.int i)
 | .str x _=>some (.str x)
 | .bytes b _=>some (.Js b)
 | .float b _=>some (.flt b)
 | .ref a=>some (.ref a)
 | .type n=>some (.ty n)
 | _=>none
theorem RelV.abs {x:V} {u:Value} (r:RelV x u):ZK u=some x:=by
 cases x with
 | non=>cases r; rfl
 | bl _=>cases r; rfl
 | int _=>obtain⟨t,rfl⟩:=r; rfl
 | str _=>obtain⟨t,rfl⟩:=r; rfl
 | Js _=>obtain⟨t,rfl⟩:=r; rfl
 | flt _=>obtain⟨t,rfl⟩:=r; rfl
 | ref _=>cases r; rfl
 | ty _=>cases r; rfl
theorem RelV.inj {x y:V} {u:Value} (r:RelV x u) (q:RelV y u):x=y:=Option.some.inj (r.abs.symm.trans q.abs)
theorem Vals.inj:∀{xs ys:List V} {us:List Value},Vals xs us->Vals ys us->xs=ys
 | _,_,_,.nil,.nil=>rfl
 | _,_,_,.cons r t,.cons r' t'=>by rw[r.inj r',Vals.inj t t']
section
variable {X:Cx} {pins:List (Addr×Obj)} {σ:St} {H:Hp} {s:Shared} {a:Addr} {xs ys:List V}
theorem dI.of {K:PySem.W.Frag} (h:H a=some (.lst xs)):dI K H a xs:=.inl (.inl h)
theorem cY.of {K:PySem.W.Frag} (h:H a=some (.tup xs)):cY K H a xs:=.inl (.inl h)
theorem Inv.list (I:Inv X pins σ H s) (h:dI X.K H a xs):∃its:List Value,Vals xs its/\PlainL s.heap a its.toArray/\xs.length<=sizeLine:=by
 rcases h with h | ⟨o,its,n,hk,hc,hd,hs,hz,r⟩
 ·obtain⟨z,its,n,r,e⟩:=h.ok I.hok;exact⟨its,r,⟨_,n,e,rfl,rfl,rfl⟩,z⟩
 ·refine⟨its.toList,r,⟨o,n,I.kO a o hk,hc,hd,by simpa using hs⟩,?_⟩
  have e:=r.length;simp only[Array.length_toList] at e;omega
theorem Inv.tuple (I:Inv X pins σ H s) (h:cY X.K H a xs):∃its:List Value,Vals xs its/\IsTup s.heap a its.toArray/\xs.length<=sizeLine:=by
 rcases h with h | ⟨o,its,n,hk,hc,hs,hz,r⟩
 ·obtain⟨z,its,r,p⟩:=h.ok I.hok;exact⟨its,r,p,z⟩
 ·refine⟨its.toList,r,⟨o,I.kO a o hk,hc,n,by simpa using hs⟩,?_⟩
  have e:=r.length;simp only[Array.length_toList] at e;omega
theorem Inv.sE (I:Inv X pins σ H s) (h:dI X.K H a xs) (h':dI X.K H a ys):xs=ys:=by
 obtain⟨its,r,⟨o,n,e,_,_,d⟩,_⟩:=I.list h;obtain⟨its',r',⟨o',n',e',_,_,d'⟩,_⟩:=I.list h';rw[e] at e'; cases e';rw[d] at d';injection d' with d1 _
 have:its=its':=by simpa using lO Array.toList d1
 subst this;exact r.inj r'
theorem Inv.nY (I:Inv X pins σ H s) (h:cY X.K H a xs) (h':cY X.K H a ys):xs=ys:=by
 obtain⟨its,r,⟨o,e,_,n,d⟩,_⟩:=I.tuple h;obtain⟨its',r',⟨o',e',_,n',d'⟩,_⟩:=I.tuple h';rw[e] at e'; cases e';rw[d] at d';injection d' with d1 _
 have:its=its':=by simpa using lO Array.toList d1
 subst this;exact r.inj r'
end
abbrev Cx.wish (X:Cx) (E:Value->Shared->Prop):Cx:={ X with xe:=E }
abbrev Cx.Um (X:Cx):Cx:=X.wish fun _ _=>False
theorem Cx.Ok.wish {X:Cx} (ok:X.Ok) (E:Value->Shared->Prop):(X.wish E).Ok:=
 ⟨ok.mod,ok.kind,ok.glob,ok.blt,ok.above,ok.inj,ok.has,ok.cab,ok.hd,ok.frames,ok.Vv,ok.WM,ok.bs,ok.Jt,ok.Af,ok.Dq,ok.qp,ok.Tg⟩
theorem Cx.Ok.jN {X:Cx} {E:Value->Shared->Prop} (ok:(X.wish E).Ok):X.Ok:=
 ⟨ok.mod,ok.kind,ok.glob,ok.blt,ok.above,ok.inj,ok.has,ok.cab,ok.hd,ok.frames,ok.Vv,ok.WM,ok.bs,ok.Jt,ok.Af,ok.Dq,ok.qp,ok.Tg⟩
section
variable {X:Cx} {pins:List (Addr×Obj)} {σ:St} {H:Hp} {s:Shared} {E:Value->Shared->Prop}
theorem Inv.wish (I:Inv X pins σ H s) (E:Value->Shared->Prop):Inv (X.wish E) pins σ H s:=⟨I.ok.wish E,I.os,I.bare,I.base,I.loc,I.cell,I.free,I.iD,I.pin,I.hok,I.len⟩
theorem Inv.jN (I:Inv (X.wish E) pins σ H s):Inv X pins σ H s:=⟨I.ok.jN,I.os,I.bare,I.base,I.loc,I.cell,I.free,I.iD,I.pin,I.hok,I.len⟩
theorem SP.jN {D:Ends} {f:Flow} {s':Shared} (h:SP (X.wish E) pins D f s'):SP X pins D f s':=by
 cases f with
 | next=>obtain⟨σ',H',I,q⟩:=h; exact⟨σ',H',I.jN,q⟩
 | brk=>obtain⟨σ',H',I,q⟩:=h; exact⟨σ',H',I.jN,q⟩
 | cont=>obtain⟨σ',H',I,q⟩:=h; exact⟨σ',H',I.jN,q⟩
 | ret u=>obtain⟨v,σ',H',I,r,q⟩:=h; exact⟨v,σ',H',I.jN,r,q⟩
theorem yw.Um {st:List Stmt} {t:TS} (h:yw X.Um st t):yw X st t:=.mk <| fun pins s σ H D I hw=>
 dX (h pins s σ H D (I.wish _) hw) (fun _ _ q=>q.jN) fun _ _ z=>False.elim z
end
section
variable {X:Cx} {st:Stmt} {rest:List Stmt} {t u:TS} {e:Expr} {te:TE} {pos:Pos}
def QG:TS:=fun D σ H=>D.nx σ H
def JN (t u:TS):TS:=fun D σ H=>t { D with nx:=u D } σ H
theorem bT:yw X [] QG:=.mk <| fun _ _ σ H _ I h=>zV ⟨σ,H,I,h⟩
theorem aq (h1:PS X st t) (h2:yw X rest u):yw X (st::rest) (JN t u):=by
 refine .mk ?_;intro pins s σ H D I h;refine wpAny_execs_cons (cH (h1 pins s σ H { D with nx:=u D } I h) fun f s1 q=>?_)
 cases f with
 | next=>
  obtain⟨σ',H',I',q⟩:=q;exact h2 pins s1 σ' H' D I' q
 | ret v=>exact q
 | brk=>exact q
 | cont=>exact q
theorem aK (h1:PS X st t):yw X [st] t:=by
 refine .mk ?_;intro pins s σ H D I h;refine wpAny_execs_cons (cH (h1 pins s σ H D I h) fun f s1 q=>?_);cases f with
 | next=>exact zV q
 | ret v=>exact q
 | brk=>exact q
 | cont=>exact q
theorem Inv.quiet {pins:List (Addr×Obj)} {σ:St} {H:Hp} {s:Shared} (I:Inv X pins σ H s):interactive X.env=false:=by simp[interactive,I.ok.kind]
def QK (te:TE):TS:=fun D σ H=>te σ H fun _ H1=>D.nx σ H1
theorem m_ (he:PE X e te) (hs:swapsWith e none pos.line X.env=pure false:=by rfl):PS X (.Expr e pos) (QK te):=by
 refine .mk ?_;intro pins s σ H D I h;exact wpAny_Expr_any (cH (he pins s σ H _ I h) fun v s1 ⟨x,H1,I1,r1,q1⟩=>⟨σ,H1,I1,q1⟩) I.quiet hs
def Vk (te:TE):TS:=fun D σ H=>te σ H D.rt
theorem bc (he:PE X e te):PS X (.Return (some e) pos) (Vk te):=by
 refine .mk ?_;intro pins s σ H D I h;exact wpAny_Return_some (cH (he pins s σ H _ I h) fun v s1 ⟨x,H1,I1,r1,q1⟩=>⟨x,σ,H1,I1,r1,q1⟩)
def Vj:TS:=fun D _ H=>D.rt .non H
def Nz (c:TT) (t u:TS):TS:=fun D σ H=>c σ H fun b H1=>if b=true then t D σ H1 else u D σ H1
theorem dJ {c:Expr} {a b:List Stmt} {tc:TT} (hc:PT X c tc) (ha:yw X a t) (hb:yw X b u):PS X (.If c a b pos) (Nz tc t u):=by
 refine .mk ?_;intro pins s σ H D I h;refine wpAny_If (cH (hc pins s σ H _ I h) fun d s1 qx=>?_);obtain⟨H1,I1,q1⟩:=qx;cases d with
 | true=>exact ha pins s1 σ H1 D I1 q1
 | false=>exact hb pins s1 σ H1 D I1 q1
end
abbrev TG:=V->St->Hp->(St->Hp->Prop)->Prop
abbrev MN:=List V->St->Hp->(St->Hp->Prop)->Prop
structure PG (X:Cx) (target:Expr) (t:TG):Prop where
 mk ::
 go :
 ∀(pins:List (Addr×Obj)) (s:Shared) (σ:St) (H:Hp) (v:V) (u:Value) (Q:St->Hp->Prop),Inv X pins σ H s->RelV v u->t v σ H Q ->
  wpAny (model X.prog X.w) X.A (assign target X.env u) (fun _ s'=>∃σ' H',Inv X pins σ' H' s'/\Q σ' H') X.xe s
instance {X:Cx} {target:Expr} {t:TG}:CoeFun (PG X target t) (fun _=>
 ∀(pins:List (Addr×Obj)) (s:Shared) (σ:St) (H:Hp) (v:V) (u:Value) (Q:St->Hp->Prop),Inv X pins σ H s->RelV v u->t v σ H Q ->
  wpAny (model X.prog X.w) X.A (assign target X.env u) (fun _ s'=>∃σ' H',Inv X pins σ' H' s'/\Q σ' H') X.xe s):=⟨PG.go⟩
structure T3 (X:Cx) (ts:List Expr) (t:MN):Prop where
 mk ::
 go :
 ∀(pins:List (Addr×Obj)) (s:Shared) (σ:St) (H:Hp) (vs:List V) (us:List Value) (Q:St->Hp->Prop),Inv X pins σ H s->Vals vs us->t vs σ H Q ->
  wpAny (model X.prog X.w) X.A (assignInOrder ((assignEach ts X.env).map (·.2)) us) (fun _ s'=>∃σ' H',Inv X pins σ' H' s'/\Q σ' H') X.xe s
instance {X:Cx} {ts:List Expr} {t:MN}:CoeFun (T3 X ts t) (fun _=>
 ∀(pins:List (Addr×Obj)) (s:Shared) (σ:St) (H:Hp) (vs:List V) (us:List Value) (Q:St->Hp->Prop),Inv X pins σ H s->Vals vs us->t vs σ H Q ->
  wpAny (model X.prog X.w) X.A (assignInOrder ((assignEach ts X.env).map (·.2)) us) (fun _ s'=>∃σ' H',Inv X pins σ' H' s'/\Q σ' H') X.xe s):=⟨T3.go⟩
abbrev Jh:=V->V->V->Hp->(Hp->Prop)->Prop
structure Jj (X:Cx) (t:Jh):Prop where
 mk ::
 go :
 ∀(pins:List (Addr×Obj)) (s:Shared) (σ:St) (H:Hp) (o i v:V) (ov iv u:Value) (Q:Hp->Prop),Inv X pins σ H s->RelV o ov->RelV i iv->RelV v u->t o i v H Q ->
  wpAny (model X.prog X.w) X.A (setItem ov iv u) (fun _ s'=>∃H',Inv X pins σ H' s'/\Q H') X.xe s
instance {X:Cx} {t:Jh}:CoeFun (Jj X t) (fun _=>
 ∀(pins:List (Addr×Obj)) (s:Shared) (σ:St) (H:Hp) (o i v:V) (ov iv u:Value) (Q:Hp->Prop),Inv X pins σ H s->RelV o ov->RelV i iv->RelV v u->t o i v H Q ->
  wpAny (model X.prog X.w) X.A (setItem ov iv u) (fun _ s'=>∃H',Inv X pins σ H' s'/\Q H') X.xe s):=⟨Jj.go⟩
abbrev Uv:=V->V->Hp->VK->Prop
def XS (X:Cx) (op:Operator) (t:Uv):Prop:=
 ∀(pins:List (Addr×Obj)) (s:Shared) (σ:St) (H:Hp) (x y:V) (v u:Value) (Q:VK),Inv X pins σ H s->RelV x v->RelV y u->t x y H Q ->
  wpAny (model X.prog X.w) X.A (inplaceOp op v u) (EP X pins σ Q) X.xe s
section
variable {X:Cx} {pos:Pos}
def dF (i:Nat):TG:=fun v σ H Q=>Q (σ.set i (some v)) H
theorem aA {i:Nat} {x:Str} (hN:X.N.Nodup) (hi:X.N[i]?=some x) (hx:Loc X.env.scope x) (hf:X.fn x=true\/X.env.scope.names.lookup x=some .local:=by first | exact .inl rfl | exact .inr rfl | assumption):PG X (.Name x pos) (dF i):=by
 refine .mk ?_;intro pins s σ H v u Q I r h;exact wpAny_assign_Name (eU I hN hi hx r (fun s' I'=>⟨_,H,I',h⟩) hf)
def uF:MN:=fun vs σ H Q=>match vs with
 | []=>Q σ H
 | _=>False
theorem uF.ex {vs:List V} {σ:St} {H:Hp} {Q:St->Hp->Prop} (h:uF vs σ H Q):vs=[]/\Q σ H:=by
 cases vs with
 | nil=>exact⟨rfl,h⟩
 | cons a b=>exact h.elim
def gY (t:TG) (u:MN):MN:=fun vs σ H Q=>match vs with
 | v::r=>t v σ H fun σ' H'=>u r σ' H' Q
 | []=>False
theorem gY.ex {t:TG} {u:MN} {vs:List V} {σ:St} {H:Hp} {Q:St->Hp->Prop} (h:gY t u vs σ H Q):∃v r,vs=v::r/\t v σ H fun σ' H'=>u r σ' H' Q:=by
 cases vs with
 | nil=>exact h.elim
 | cons a b=>exact⟨a,b,rfl,h⟩
theorem cD:T3 X [] uF:=by
 refine .mk ?_;intro pins s σ H vs us Q I r h;obtain⟨e,h⟩:=uF.ex h;subst e;cases r;exact assignInOrder_nil ⟨σ,H,I,h⟩
theorem aG {e:Expr} {es:List Expr} {t:TG} {u:MN} (h1:PG X e t) (h2:T3 X es u)
  (hs:(assignEach (e::es) X.env).map (·.2)=assign e X.env::(assignEach es X.env).map (·.2):=by rfl):T3 X (e::es) (gY t u):=by
 refine .mk ?_;intro pins s σ H vs us Q I r h;obtain⟨v,vr,e1,h⟩:=gY.ex h;subst e1;cases r with
 | cons r rr=>
  rw[hs];refine assignInOrder_cons (cH (h1 pins s σ H _ _ _ I r h) fun _ s1 qx=>?_);obtain⟨σ1,H1,I1,q1⟩:=qx;exact h2 pins s1 σ1 H1 _ _ Q I1 rr q1
def Dh (K:PySem.W.Frag) (n:Nat) (t:MN):TG:=fun v σ H Q=>∃a xs,v=.ref a/\cY K H a xs/\xs.length=n/\t xs σ H Q
theorem R4 {es:List Expr} {k:Nat} {t:MN} {n:Nat} (hc:X.calm=true) (h:T3 X es t)
  (hn:(assignEach es X.env).length=n:=by rfl) (hst:(assignEach es X.env).findIdx? (·.1)=none:=by rfl):PG X (.Tuple es k pos) (Dh X.K n t):=by
 refine .mk ?_;intro pins s σ H v u Q I r hw;obtain⟨a,xs,e1,hq,hl,hw⟩:=hw;subst e1;cases r;obtain⟨its,rv,ht,hz⟩:=I.tuple hq;refine assign_Tuple_tuple (I.ok.hd hc) ht (by simp[hn,<- hl,rv.length]) hst fun h' hx=>?_
 have I1:Inv X pins σ H { s with heap:=h' }:=I.kept (t':=s.toks) fun b o e=>hx b o (dY (eX e)) e
 exact h pins _ σ H xs _ Q I1 (by simpa using rv) hw
def Ww (to ti:TE) (t:Jh):TG:=fun v σ H Q=>to σ H fun o H1=>ti σ H1 fun i H2=>t o i v H2 fun H3=>Q σ H3
theorem oU {o i:Expr} {to ti:TE} {t:Jh} (ho:PE X o to) (hi:PE X i ti) (hs:Jj X t)
  (ha:∀v,assign (.Subscript o i pos) X.env v=(do
   let ov <- holding [v] (eval o X.env)
   let iv <- holding [v,ov] (eval i X.env)
   standAt pos
   holding [v,ov,iv] (setItem ov iv v)
   release [v,ov,iv] []):=by intro _; rfl):PG X (.Subscript o i pos) (Ww to ti t):=by
 refine .mk ?_;intro pins s σ H v u Q I r h;rw[ha];refine aW (rH (cH (ho pins s σ H _ I h) fun ov s1 qx=>?_));obtain⟨x,H1,I1,r1,q1⟩:=qx;refine aW (rH (cH (hi pins s1 σ H1 _ I1 q1) fun iv s2 qx=>?_));obtain⟨y,H2,I2,r2,q2⟩:=qx;refine aW (uy (aW (rH (cH (hs pins s2 σ H2 x y v ov iv u _ I2 r1 r2 r q2) fun _ s3 qx=>?_))));obtain⟨H3,I3,q3⟩:=qx;exact wpAny_release ⟨σ,H3,I3,q3⟩
def yQ (te:TE) (g:TG):TS:=fun D σ H=>te σ H fun x H1=>g x σ H1 D.nx
theorem cW {tg e:Expr} {te:TE} {g:TG} (he:PE X e te) (hg:PG X tg g) (hs:swapsWithSole [tg] e pos.line X.env=pure false:=by rfl) (hw:swappedStores [tg] e X.env=pure none:=by rfl)
  (h1:(assignEach [tg] X.env).map (·.2)=[assign tg X.env]:=by rfl):PS X (.Assign [tg] e pos) (yQ te g):=by
 refine .mk ?_;intro pins s σ H D I h;refine wpAny_Assign_stores (cH (he pins s σ H _ I h) fun v s1 ⟨x,H1,I1,r1,q1⟩=>?_) hs hw;rw[h1];exact cH (hg pins s1 σ H1 x v _ I1 r1 q1) fun _ s2 q=>q
theorem aQ {i:Nat} {x:Str} {e:Expr} {te:TE} {pos':Pos} (hN:X.N.Nodup) (hi:X.N[i]?=some x) (hx:Loc X.env.scope x) (he:PE X e te) (hs:swapsWith e (some (.Name x pos')) pos.line X.env=pure false:=by rfl) (hf:X.fn x=true\/X.env.scope.names.lookup x=some .local:=by first | exact .inl rfl | exact .inr rfl | assumption) :
  PS X (.Assign [.Name x pos'] e pos) (yQ te (dF i)):=by
 refine .mk ?_;intro pins s σ H D I h;refine wpAny_Assign_Name (cH (he pins s σ H _ I h) fun v s1 ⟨y,H1,I1,r1,q1⟩=>?_) hs;exact eU I1 hN hi hx r1 (fun s2 I2=>⟨_,H1,I2,q1⟩) hf
def Vl (i j:Nat) (ta:TA):TS:=fun D σ H=>ta σ H fun vs H1=>∃v w,vs=[v,w]/\D.nx ((σ.set i (some v)).set j (some w)) H1
theorem oO {i j:Nat} {x y:Str} {a b:Expr} {ta:TA} {px py pt:Pos} {kt k2 RV} (hc:X.calm=true) (hN:X.N.Nodup) (hi:X.N[i]?=some x) (hj:X.N[j]?=some y) (hij:i≠j)
  (hx:X.env.scope.names.lookup x=some .local) (hy:X.env.scope.names.lookup y=some .local) (ha:PA X [a,b] ta)
  (hw:swappedStores [.Tuple [.Name x px,.Name y py] kt pt] (.Tuple [a,b] k2 RV) X.env=pure (some [x,y]))
  (hs:swapsWithSole [.Tuple [.Name x px,.Name y py] kt pt] (.Tuple [a,b] k2 RV) pos.line X.env=pure false:=by rfl) :
  PS X (.Assign [.Tuple [.Name x px,.Name y py] kt pt] (.Tuple [a,b] k2 RV) pos) (Vl i j ta):=by
 refine .mk ?_;intro pins s σ H D I h;rw[exec_Assign_arm];refine aW (uy ?_);rw[hs];refine aW (cC ?_);rw[bx (by decide)]
 refine aW (Tuple_ (cH (ha _ pins s σ H _ I h) fun us s1 qx=>?_));obtain⟨vs,H1,I1,r1,q1⟩:=qx;obtain⟨v,w,e1,q1⟩:=q1;subst e1
 obtain⟨u1,u2,rfl,rv,Hd⟩:∃u1 u2,us=[u1,u2]/\RelV v u1/\RelV w u2:=by
  cases r1 with
  | cons p q=>
   cases q with
   | cons p' q'=>
    cases q';exact⟨_,_,rfl,p,p'⟩
 refine oN ?_ (by show 2<=sizeLine; decide)
 have I2:Inv X pins σ H1 { s1 with heap:=s1.heap.push { cls:=.type "tuple",data:=.seq [u1,u2].toArray } }:=I1.kept (t':=s1.toks) fun b o e=>dW _ e
 rw[hw];refine aW (cC ?_);show wpAny (model X.prog X.w) X.A (do rule "assign.swapped-stores"; let items <- unpackItems (.ref s1.heap.objs.size) 2 none; assignInOrder [fun v=>bindName X.env y v,fun v=>bindName X.env x v] items.reverse; pure Flow.next) _ _ _
 refine aW (uw (aW (unpackItems_tuple (items:=#[u1,u2]) (I.ok.hd hc) (IsTup.new s1.heap _) fun h' hx'=>?_)));have I3:=I2.kept (h':=h') (t':=s1.toks) fun b o e=>hx' b o (dY (eX e)) e;show wpAny _ _ (assignInOrder [fun v=>bindName X.env y v,fun v=>bindName X.env x v] [u2,u1] >>= fun _=>pure Flow.next) _ _ _;refine aW (assignInOrder_cons (Hh (eU I3 hN hj (.inl hy) Hd (fun s2 I4=>?_) (.inr hy))));refine assignInOrder_cons (Hh (eU I4 hN hi (.inl hx) rv (fun s3 I5=>assignInOrder_nil (cC ?_)) (.inr hx)));rw[List.set_comm _ _ (Ne.symm hij)] at I5;exact⟨_,H1,I5,q1⟩
def Vp (i:Nat) (te:TE) (ti:Uv):TS:=fun D σ H=>∃x,σ[i]?=some (some x)/\te σ H fun y H1=>ti x y H1 fun z H2=>D.nx (σ.set i (some z)) H2
theorem wZ {i:Nat} {x:Str} {e:Expr} {te:TE} {op:Operator} {ti:Uv} {pos':Pos} (hN:X.N.Nodup) (hi:X.N[i]?=some x) (hx:Loc X.env.scope x) (he:PE X e te) (ho:XS X op ti) (hf:X.fn x=true\/X.env.scope.names.lookup x=some .local:=by first | exact .inl rfl | exact .inr rfl | assumption) :
  PS X (.AugAssign (.Name x pos') op e pos) (Vp i te ti):=by
 refine .mk ?_;intro pins s σ H D I h;obtain⟨v,e1,h⟩:=h;obtain⟨m,hn,hl⟩:=I.loc;have vis:WT X.env.scope x:=by rcases hx with k | k; exact .inl k; exact .inr (.inl k)
 obtain⟨u,r,l⟩:=hl i x v hi e1 vis;refine wpAny_AugAssign_Name ?_
 have go:wpAny (model X.prog X.w) X.A (eval e X.env) (fun w s₂=>wpAny (model X.prog X.w) X.A (inplaceOp op u w) (fun r s₃=>wpAny (model X.prog X.w) X.A (storeName X.env x r) (fun _=>SP X pins D .next) X.xe s₃) X.xe s₂) X.xe s:=by
  refine cH (he pins s σ H _ I h) fun w s1 qx=>?_;obtain⟨y,H1,I1,r1,q1⟩:=qx;refine cH (ho pins s1 σ H1 v y u w _ I1 r r1 q1) fun z s2 qx=>?_;obtain⟨zv,H2,I2,r2,q2⟩:=qx;exact eU I2 hN hi hx r2 (fun s3 I3=>⟨_,H2,I3,q2⟩) hf
 rcases l with⟨hk,hm⟩ | ⟨hk,c,hc,hcell⟩
 ·exact wpAny_loadName_local I.ok.kind hk hn hm go
 ·rcases hk with hk | hk
  ·exact wpAny_loadName_cell I.ok.kind hk hc hcell go
  ·rcases hx with k | k
   ·have:X.env.scope.names.lookup x=some .free:=hk;rw[k] at this; cases this
   ·have:X.env.scope.names.lookup x=some .free:=hk;rw[k] at this; cases this
def QL (to ti te:TE) (Ny:V->V->Hp->VK->Prop) (Xl:Uv) (Nx:Jh):TS:=fun D σ H=>to σ H fun o H1=>ti σ H1 fun i H2=>Ny o i H2 fun x H3=>te σ H3 fun y H4=>Xl x y H4 fun z H5=>Nx o i z H5 fun H6=>D.nx σ H6
def W4 (X:Cx) (t:V->V->Hp->VK->Prop):Prop:=
 ∀(pins:List (Addr×Obj)) (s:Shared) (σ:St) (H:Hp) (o i:V) (ov iv:Value) (Q:VK),Inv X pins σ H s->RelV o ov->RelV i iv->t o i H Q ->
  wpAny (model X.prog X.w) X.A (getItem ov iv) (EP X pins σ Q) X.xe s
theorem Oo {o i e:Expr} {to ti te:TE} {Ny:V->V->Hp->VK->Prop} {Xl:Uv} {Nx:Jh} {op:Operator} {tpos:Pos} (ho:PE X o to) (hi:PE X i ti) (hg:W4 X Ny) (he:PE X e te) (hp:XS X op Xl) (hs:Jj X Nx)
  (ha:∀ov iv new,augStore i ov iv new=(do holding [new,ov,iv] (setItem ov iv new); release [new,ov,iv] []; pure .next):=by intros; rfl):PS X (.AugAssign (.Subscript o i tpos) op e pos) (QL to ti te Ny Xl Nx):=by
 refine .mk ?_;intro pins s σ H D I h;refine wpAny_AugAssign_SubscriptAny (cH (ho pins s σ H _ I h) fun ov s1 ⟨x1,H1,I1,r1,q1⟩=>?_) ha;refine cH (hi pins s1 σ H1 _ I1 q1) fun iv s2 qx=>?_;obtain⟨x2,H2,I2,r2,q2⟩:=qx;refine cH (hg pins s2 σ H2 x1 x2 ov iv _ I2 r1 r2 q2) fun old s3 qx=>?_;obtain⟨x3,H3,I3,r3,q3⟩:=qx;refine cH (he pins s3 σ H3 _ I3 q3) fun v s4 qx=>?_;obtain⟨x4,H4,I4,r4,q4⟩:=qx;refine cH (hp pins s4 σ H4 x3 x4 old v _ I4 r3 r4 q4) fun new s5 qx=>?_;obtain⟨x5,H5,I5,r5,q5⟩:=qx;exact cH (hs pins s5 σ H5 x1 x2 x5 ov iv new _ I5 r1 r2 r5 q5) fun _ s6 ⟨H6,I6,q6⟩=>⟨σ,H6,I6,q6⟩
def YM (f:Int->Int->Int):Uv:=fun x y H Q=>∃i j,x=.int i/\y=.int j/\Q (.int (f i j)) H
theorem Lr:XS X .Add (YM fun i j=>i+j):=by
 intro pins s σ H x y v u Q I r1 r2 h;obtain⟨i,j,e1,e2,q⟩:=h;subst e1; subst e2;obtain⟨t,rfl⟩:=r1;obtain⟨t',rfl⟩:=r2;exact iadd_int ⟨.int _,H,I.tok _,⟨_,rfl⟩,q⟩
theorem Dg:XS X .Sub (YM fun i j=>i-j):=by
 intro pins s σ H x y v u Q I r1 r2 h;obtain⟨i,j,e1,e2,q⟩:=h;subst e1; subst e2;obtain⟨t,rfl⟩:=r1;obtain⟨t',rfl⟩:=r2;exact isub_int ⟨.int _,H,I.tok _,⟨_,rfl⟩,q⟩
end
section
variable {X:Cx} {pos:Pos}
end
structure It where
 go:Nat->Hp->Prop
 wg:Nat->Hp->V->Hp->Prop
 stop:Nat->Hp->Prop
def fO (X:Cx) (pins:List (Addr×Obj)) (H:Hp) (b:Addr):Prop:=
 H b=none/\b≠X.env.locals/\b∉X.fs/\(b∈X.ex\/X.s₀.heap.objs.size<=b)/\(∀x c,X.env.cells.lookup x=some c->c≠b)/\∀p∈X.pn++pins,p.1≠b
theorem Inv.qt {X:Cx} {pins:List (Addr×Obj)} {σ:St} {H H':Hp} {s:Shared} {b:Addr} (I:Inv X pins σ H s) (hb:s.heap.objs.size<=b) (hn:H' b=none):fO X pins H' b:=by
 refine⟨hn,zN (jq I.lt hb),I.YB hb,.inr (mZ I.sz hb),fun x c e z=>?_,fun p hp z=>?_⟩
 ·obtain⟨v,q⟩:=I.cell x c e;exact absurd (jq q.lt (by rw[z]; exact hb)) (oJ _)
 ·exact absurd (jq (eX (I.pin p hp).1) (by rw[z]; exact hb)) (oJ _)
structure Turn (P:Program) (w:World) (K:PySem.W.Frag) (tg:Expr) (J:It) (fp:List Addr) (it:Addr) (tn:Nat->Heap->Prop):Prop where
 mem:it∈fp
 obj:∀i h,tn i h->∀b∈fp,∃o,h.get? b=some o/\∀v,o.data≠.cell v
 keep:∀i h h',tn i h->(∀b∈fp,∀o,h.get? b=some o->h'.get? b=some o)->tn i h'
 item:∀(X:Cx),X.prog=P->X.w=w->X.K=K->X.calm=true->∀(i:Nat) (pins:List (Addr×Obj)) (s:Shared) (σ:St) (H:Hp) (E:Value->Shared->Prop),Inv X pins σ H s->(∀b∈fp,fO X pins H b)->tn i s.heap->J.go i H ->
  wpAny (model P w) X.A (pyNext (.ref it)) (fun r s1=>∃u,r=some u /\
   wpAny (model P w) X.A (letOwnedTupleGo tg (.ref it) u) (fun _ s2=>∃x H',Inv X pins σ H' s2/\RelV x u/\J.wg i H x H'/\tn (i+1) s2.heap/\∀b∈fp,H' b=none) E s1) E s
 done:∀(X:Cx),X.prog=P->X.w=w->X.K=K->X.calm=true->∀(i:Nat) (pins:List (Addr×Obj)) (s:Shared) (σ:St) (H:Hp) (E:Value->Shared->Prop),Inv X pins σ H s->(∀b∈fp,fO X pins H b)->tn i s.heap->J.stop i H ->
  wpAny (model P w) X.A (pyNext (.ref it)) (fun r s1=>r=none/\Inv X pins σ H s1) E s
 self:∀(A:Around) (i:Nat) (s:Shared) (Q:Value->Shared->Prop) (E:Value->Shared->Prop),tn i s.heap->Q (.ref it) s->wpAny (model P w) A (pyIter (.ref it)) Q E s
abbrev TI:=St->Hp->(It->Hp->Prop)->Prop
def PIE (X:Cx) (pins:List (Addr×Obj)) (σ:St) (tg:Expr) (R:It->Hp->Prop) (itv:Value) (s2:Shared):Prop:=
 ∃(it:Addr) (fp:List Addr) (tn:Nat->Heap->Prop) (J:It) (H':Hp),itv=.ref it/\Inv X pins σ H' s2/\Turn X.prog X.w X.K tg J fp it tn/\tn 0 s2.heap/\(∀b∈fp,fO X pins H' b)/\R J H'
structure PI (X:Cx) (tg iter:Expr) (wi:TI):Prop where
 mk ::
 go :
 ∀(pins:List (Addr×Obj)) (s:Shared) (σ:St) (H:Hp) (R:It->Hp->Prop),Inv X pins σ H s->wi σ H R ->
  wpAny (model X.prog X.w) X.A (eval iter X.env) (fun v s1=>wpAny (model X.prog X.w) X.A (pyIter v) (PIE X pins σ tg R) X.xe s1) X.xe s
instance {X:Cx} {tg iter:Expr} {wi:TI}:CoeFun (PI X tg iter wi) (fun _=>
 ∀(pins:List (Addr×Obj)) (s:Shared) (σ:St) (H:Hp) (R:It->Hp->Prop),Inv X pins σ H s->wi σ H R ->
  wpAny (model X.prog X.w) X.A (eval iter X.env) (fun v s1=>wpAny (model X.prog X.w) X.A (pyIter v) (PIE X pins σ tg R) X.xe s1) X.xe s):=⟨PI.go⟩
theorem Ga {M:Model} {A:Around} {E:Value->Shared->Prop} {s:Shared} {tg:Expr} {it:Addr} {u:Value} {o:Obj} {n:String} {vs:Array Value} {Q:Unit->Shared->Prop} (ho:s.heap.get? it=some o) (hc:o.cls=.type n) (hd:o.data=.fields vs)
  (hn:["enumerate","zip","dict_itemiterator","dict_reverseitemiterator","odict_iterator","itertools.zip_longest","itertools.pairwise"].contains n=false) (hQ:Q () s):wpAny M A (letOwnedTupleGo tg (.ref it) u) Q E s:=by
 unfold letOwnedTupleGo;cases tg <;> first
  | exact cC hQ
  | (cases u <;> first
    | exact cC hQ
    | (refine aW (wpAny_load ho ?_)
       rw[hc,hd];show wpAny M A (if(["enumerate","zip","dict_itemiterator","dict_reverseitemiterator","odict_iterator","itertools.zip_longest","itertools.pairwise"].contains n&&vs[0]?==some (rawInt _))=true then _ else _) Q E s
       rw[bx (by intro h; rw[hn,Bool.false_and] at h; cases h)]
       exact cC hQ))
def Rb (K:PySem.W.Frag) (a:Addr):It:=
 ⟨fun i H=>∃xs x,dI K H a xs/\xs[i]?=some x,fun i H x H'=>H'=H/\∀xs,dI K H a xs->xs[i]?=some x,fun i H=>∃xs,dI K H a xs/\xs.length<=i⟩
def Ra (K:PySem.W.Frag) (a:Addr):It:=
 ⟨fun i H=>∃xs x,cY K H a xs/\xs[i]?=some x,fun i H x H'=>H'=H/\∀xs,cY K H a xs->xs[i]?=some x,fun i H=>∃xs,cY K H a xs/\xs.length<=i⟩
def Ju (lo:Int) (n:Nat):It:=⟨fun i _=>i<n,fun i H x H'=>H'=H/\x=.int (lo+i),fun i _=>n<=i⟩
theorem GF {P:Program} {w:World} {K:PySem.W.Frag} {tg:Expr} (a it:Addr):Turn P w K tg (Rb K a) [it] it (fun i h=>h.IsListIter it a i) where
 mem:=by simp
 obj:=fun i h st b hb=>by
  have e:b=it:=by simpa using hb
  subst e;obtain⟨o,e,c,d⟩:=st;exact⟨o,e,fun v z=>by rw[d] at z; cases z⟩
 keep:=fun i h h' st k=>st.at fun o e=>k it (by simp) o e
 item:=by
  intro X hP hw hK hc i pins s σ H E I hf st hg;subst hP hw hK;obtain⟨xs,x,hq,hx⟩:=hg;obtain⟨its,rv,p,hz⟩:=I.list hq;obtain⟨u,hu,ru⟩:=rv.get hx;obtain⟨f0,f1,f2,f3,f4,f5⟩:=hf it (by simp)
  refine wpAny_pyNext_list_item st p.isList (x:=u) (by simpa using hu) fun h' st' sb=>?_
  have I1:Inv X pins σ H { s with heap:=h' }:=I.turned (t':=s.toks) (fun b o hb e=>(sb.2 b hb).trans e) f0 f1 f3 f4 f5
  obtain⟨o,e,c,d⟩:=id st';exact⟨u,rfl,Ga (s:={ s with heap:=h' }) e c d (by decide) ⟨x,H,I1,ru,⟨rfl,fun ys hy=>by rw[I.sE hy hq]; exact hx⟩,st',fun b hb=>(hf b hb).1⟩⟩
 done:=by
  intro X hP hw hK hc i pins s σ H E I hf st hg;subst hP hw hK;obtain⟨xs,hq,hx⟩:=hg;obtain⟨its,rv,p,hz⟩:=I.list hq;obtain⟨f0,f1,f2,f3,f4,f5⟩:=hf it (by simp)
  have hl:=rv.length;exact wpAny_pyNext_list_end (I.ok.hd hc) st p.isList (by simp; omega) fun h' eb=>⟨rfl,I.turned (t':=s.toks) (fun b o hb e=>eb b o hb e) f0 f1 f3 f4 f5⟩
 self:=fun _ _ _ _ _ st h=>wpAny_pyIter_listiter st h
theorem Bm {P:Program} {w:World} {K:PySem.W.Frag} {tg:Expr} (a it:Addr):Turn P w K tg (Ra K a) [it] it (fun i h=>h.IsTupleIter it a i) where
 mem:=by simp
 obj:=fun i h st b hb=>by
  have e:b=it:=by simpa using hb
  subst e;obtain⟨o,e,c,d⟩:=st;exact⟨o,e,fun v z=>by rw[d] at z; cases z⟩
 keep:=fun i h h' st k=>st.at fun o e=>k it (by simp) o e
 item:=by
  intro X hP hw hK hc i pins s σ H E I hf st hg;subst hP hw hK;obtain⟨xs,x,hq,hx⟩:=hg;obtain⟨its,rv,p,hz⟩:=I.tuple hq;obtain⟨u,hu,ru⟩:=rv.get hx;obtain⟨f0,f1,f2,f3,f4,f5⟩:=hf it (by simp)
  refine wpAny_pyNext_tuple_item st (show s.heap.IsTuple a its.toArray from p) (x:=u) (by simpa using hu) fun h' st' sb=>?_
  have I1:Inv X pins σ H { s with heap:=h' }:=I.turned (t':=s.toks) (fun b o hb e=>(sb.2 b hb).trans e) f0 f1 f3 f4 f5
  obtain⟨o,e,c,d⟩:=id st';exact⟨u,rfl,Ga (s:={ s with heap:=h' }) e c d (by decide) ⟨x,H,I1,ru,⟨rfl,fun ys hy=>by rw[I.nY hy hq]; exact hx⟩,st',fun b hb=>(hf b hb).1⟩⟩
 done:=by
  intro X hP hw hK hc i pins s σ H E I hf st hg;subst hP hw hK;obtain⟨xs,hq,hx⟩:=hg;obtain⟨its,rv,p,hz⟩:=I.tuple hq;obtain⟨f0,f1,f2,f3,f4,f5⟩:=hf it (by simp)
  have hl:=rv.length;exact wpAny_pyNext_tuple_end (I.ok.hd hc) st (show s.heap.IsTuple a its.toArray from p) (by simp; omega) fun h' eb=>⟨rfl,I.turned (t':=s.toks) (fun b o hb e=>eb b o hb e) f0 f1 f3 f4 f5⟩
 self:=fun _ _ _ _ _ st h=>wpAny_pyIter_tupleiter st h
theorem Bo {P:Program} {w:World} {K:PySem.W.Frag} {tg:Expr} (it:Addr) (lo:Int) (n:Nat):Turn P w K tg (Ju lo n) [it] it (fun i h=>IsRangeIter h it (lo+(i:Nat)*1) ((n:Int)-(i:Nat)) 1) where
 mem:=by simp
 obj:=fun i h st b hb=>by
  have e:b=it:=by simpa using hb
  subst e
  exact⟨_,st,fun v z=>by
   have z':Data.fields _=Data.cell v:=z
   cases z'⟩
 keep:=fun i h h' st k=>k it (by simp) _ st
 item:=by
  intro X hP hw hK hc i pins s σ H E I hf st hg;subst hP hw hK;obtain⟨f0,f1,f2,f3,f4,f5⟩:=hf it (by simp)
  have W:=Walks.range (prog:=X.prog) (w:=X.w) (I.ok.hd hc) it lo 1 n;refine W.item i s _ _ hg st fun v h' tk hv st' kk=>?_;obtain⟨t,rfl⟩:=hv;have I1:Inv X pins σ H { s with heap:=h',toks:=tk }:=I.turned (fun b o hb e=>kk b o (by simpa using hb) e) f0 f1 f3 f4 f5
  refine⟨_,rfl,Ga (s:={ s with heap:=h',toks:=tk }) (n:="range_iterator") st' rfl rfl (by decide) ⟨.int (lo+i),H,I1,⟨t,?_⟩,⟨rfl,rfl⟩,st',fun b hb=>(hf b hb).1⟩⟩
  rw[Int.mul_one]
 done:=by
  intro X hP hw hK hc i pins s σ H E I hf st hg;subst hP hw hK;obtain⟨f0,f1,f2,f3,f4,f5⟩:=hf it (by simp)
  exact wpAny_pyNext_range_end (I.ok.hd hc) st (by have:n<=i:=hg; omega) fun h' eb=>⟨rfl,I.turned (t':=s.toks) (fun b o hb e=>eb b o hb e) f0 f1 f3 f4 f5⟩
 self:=fun _ _ _ _ _ st h=>Kp st h
section
variable {X:Cx} {tg:Expr}
def sU (K:PySem.W.Frag) (tl:TE):TI:=fun σ H R=>tl σ H fun x H1=>∃a,x=.ref a/\(∃xs,dI K H1 a xs)/\R (Rb K a) H1
def uE (K:PySem.W.Frag) (tl:TE):TI:=fun σ H R=>tl σ H fun x H1=>∃a,x=.ref a/\(∃xs,cY K H1 a xs)/\R (Ra K a) H1
theorem Ov {l:Expr} {tl:TE} (hl:PE X l tl):PI X tg l (sU X.K tl):=by
 refine .mk ?_;intro pins s σ H R I h;refine cH (hl pins s σ H _ I h) fun v s1 qx=>?_;obtain⟨x,H1,I1,r1,q1⟩:=qx;obtain⟨a,e,⟨xs,hq⟩,q⟩:=q1;subst e;cases r1;obtain⟨its,rv,p,hz⟩:=I1.list hq;refine Ce p.isList ?_;refine⟨s1.heap.objs.size,[s1.heap.objs.size],_,_,H1,rfl,I1.kept (t':=s1.toks) fun b o e=>dW _ e,GF a _,⟨_,jk _ rfl,rfl,rfl⟩,fun b hb=>?_,q⟩;have e:b=s1.heap.objs.size:=by simpa using hb
 subst e;exact I1.qt (bN _) (I1.hok.fresh (bN _))
theorem R0 {l:Expr} {tl:TE} (hl:PE X l tl):PI X tg l (uE X.K tl):=by
 refine .mk ?_;intro pins s σ H R I h;refine cH (hl pins s σ H _ I h) fun v s1 qx=>?_;obtain⟨x,H1,I1,r1,q1⟩:=qx;obtain⟨a,e,⟨xs,hq⟩,q⟩:=q1;subst e;cases r1;obtain⟨its,rv,p,hz⟩:=I1.tuple hq;refine Hq (show s1.heap.IsTuple a its.toArray from p) ?_;refine⟨s1.heap.objs.size,[s1.heap.objs.size],_,_,H1,rfl,I1.kept (t':=s1.toks) fun b o e=>dW _ e,Bm a _,⟨_,jk _ rfl,rfl,rfl⟩,fun b hb=>?_,q⟩;have e:b=s1.heap.objs.size:=by simpa using hb
 subst e;exact I1.qt (bN _) (I1.hok.fresh (bN _))
theorem Kd {pins:List (Addr×Obj)} {σ:St} {H:Hp} {s:Shared} {R:It->Hp->Prop} {E:Value->Shared->Prop} {lo hi:Int} {t u v:Tok} {tk:Nat} (I:Inv X pins σ H s) (h1:-(2 ^ 62)<=lo) (h2:lo<2 ^ 62) (h3:-(2 ^ 62)<=hi) (h4:hi<2 ^ 62)
  (q:R (Ju lo (hi-lo).toNat) H):wpAny (model X.prog X.w) X.A (pyIter (.ref s.heap.objs.size)) (PIE X pins σ tg R) E { s with heap:=s.heap.push { cls:=.type "range",data:=.fields #[.int lo t,.int hi u,.int 1 v] },toks:=tk }:=by
 refine wpAny_pyIter_range (IsRange.new ..) (small_one h1 h2 h3 h4) ?_;have I1:Inv X pins σ H { s with heap:=s.heap.push { cls:=.type "range",data:=.fields #[.int lo t,.int hi u,.int 1 v] },toks:=tk }:=I.kept fun b o e=>dW _ e
 refine⟨(s.heap.push { cls:=.type "range",data:=.fields #[.int lo t,.int hi u,.int 1 v] }).objs.size,[(s.heap.push { cls:=.type "range",data:=.fields #[.int lo t,.int hi u,.int 1 v] }).objs.size],_,_,H,rfl,
  I1.kept (t':=tk) fun b o e=>dW _ e,Bo _ lo (hi-lo).toNat,?_,fun b hb=>?_,q⟩
 ·have e1:lo+((0:Nat):Int)*1=lo:=by simp
  have e2:(((hi-lo).toNat:Nat):Int)-((0:Nat):Int)=Builtin.Range.rangeSize lo hi 1:=by rw[rangeSize_one]; split <;> omega
  show IsRangeIter _ _ (lo+((0:Nat):Int)*1) ((((hi-lo).toNat:Nat):Int)-((0:Nat):Int)) 1;rw[e1,e2];exact jk _ rfl
 ·have e:b=(s.heap.push { cls:=.type "range",data:=.fields #[.int lo t,.int hi u,.int 1 v] }).objs.size:=by simpa using hb
  subst e;exact I1.qt (bN _) (I1.hok.fresh (bN _))
def vJ (ta:TA):TI:=fun σ H R=>ta σ H fun vs H1=>∃j:Int,vs=[.int j]/\-(2 ^ 62)<=j/\j<2 ^ 62/\R (Ju 0 j.toNat) H1
theorem cN {a:Expr} {ta:TA} {p pos:Pos} (hg:Gl X "range") (hm:X.mg "range" = none) (ha:PA X [a] ta) (hs:starEach [a] X.env=[(false,eval a X.env)]:=by rfl):PI X tg (.Call (.Name "range" p) [a] [] pos) (vJ ta):=by
 refine .mk ?_;intro pins s σ H R I h;refine Call_ (gW I hg hm boot_range (PyProof.Rows.callWith_type1 (cH (ha pos pins s σ H _ I h) fun us s1 ⟨vs,H1,I1,r1,q1⟩=>?_) hs rfl));obtain⟨j,e,q1,q2,q⟩:=q1;subst e;cases r1 with
 | cons r rr=>
  cases rr;obtain⟨t,rfl⟩:=r;exact call_range_1 (Kd I1 (by omega) (by omega) q1 q2 (by simpa using q))
def uo (wi:TI) (g:TG) (tb:TS):TS:=fun D σ H=>wi σ H fun J H1=>∃W:Nat->Nat->St->Hp->Prop,(∃m,W 0 m σ H1)/\∀i m σ H,W i m σ H ->
 (J.stop i H/\D.nx σ H)\/(J.go i H/\∃N:St->Hp->Prop,(∀σ' H',N σ' H'->∃m',m'<m/\W (i+1) m' σ' H')/\∀x H',J.wg i H x H'->g x σ H' fun σ2 H2=>tb { D with nx:=N,ct:=N,bk:=D.nx } σ2 H2)
def xf (fp:List Addr) (h:Heap):List (Addr×Obj):=fp.filterMap fun b=>(h.get? b).map fun o=>(b,o)
theorem cI {fp:List Addr} {h:Heap} {b:Addr} {o:Obj} (hb:b∈fp) (e:h.get? b=some o):(b,o)∈xf fp h:=List.mem_filterMap.mpr ⟨b,hb,by rw[e]; rfl⟩
theorem HR {fp:List Addr} {h:Heap} {p:Addr×Obj} (hp:p∈xf fp h):p.1∈fp/\h.get? p.1=some p.2:=by
 obtain⟨b,hb,e⟩:=List.mem_filterMap.mp hp;cases q:h.get? b with
 | none=>rw[q] at e; cases e
 | some o=>
  rw[q] at e;have e':(b,o)=p:=Option.some.inj e;subst e';exact⟨hb,q⟩
theorem Inv.pinned {pins:List (Addr×Obj)} {σ:St} {H:Hp} {s:Shared} {fp:List Addr} (I:Inv X pins σ H s) (hf:∀b∈fp,fO X pins H b) (ho:∀b∈fp,∃o,s.heap.get? b=some o/\∀v,o.data≠.cell v):Inv X (pins++xf fp s.heap) σ H s:=
 I.Fd fun p hp=>(uz.mp hp).elim (fun z=>I.pin p (gM _ z)) fun z=>by
  obtain⟨hb,e⟩:=HR z;obtain⟨f0,f1,f2,_⟩:=hf p.1 hb;obtain⟨o,e',d⟩:=ho p.1 hb;rw[e] at e'; cases e';exact⟨e,f0,f1,f2,d⟩
theorem Inv.gA {pins pl:List (Addr×Obj)} {σ:St} {H:Hp} {s:Shared} (I:Inv X (pins++pl) σ H s):Inv X pins σ H s:=I.Fd fun p hp=>I.pin p (gM _ (List.mem_append_left _ hp))
theorem gG {iter:Expr} {body:List Stmt} {wi:TI} {g:TG} {tb:TS} {pos:Pos} (hp:PassesOwn (model X.prog X.w) X.A X.env X.xe) (hc:X.calm=true) (hi:PI X tg iter wi) (hg:PG X tg g) (hb:yw X body tb)
  (hs:∀x,foldedSetIterable iter X.env x=pure x:=by intro _; rfl):PS X (.For tg iter body [] pos) (uo wi g tb):=by
 refine .mk ?_;intro pins s σ H D I h;refine wpAny_For (cH (hi pins s σ H _ I h) fun v s1 h1=>cH h1 fun itv s2 h2=>?_) hs;obtain⟨it,fp,tn,J,H2,e,I2,T,st2,f2,W,⟨m0,w0⟩,turn⟩:=h2;subst e;have stat:∀{H':Hp},(∀b∈fp,H' b=none)->∀b∈fp,fO X pins H' b:=fun hn b hb=>⟨hn b hb,(f2 b hb).2⟩;refine codeAny_forLoop_any (fun n s'=>∃i σ' H',Inv X pins σ' H' s'/\tn i s'.heap/\(∀b∈fp,H' b=none)/\W i n σ' H') ?_ m0 ⟨0,σ,H2,I2,st2,fun b hb=>(f2 b hb).1,w0⟩;rintro n s3 ⟨i,σ3,H3,I3,st3,fr3,w3⟩;rcases turn i n σ3 H3 w3 with⟨stop,qn⟩ | ⟨go,N,hN,step⟩
 ·refine zW hp (cH (T.done X rfl rfl rfl hc i pins s3 σ3 H3 X.xe I3 (stat fr3) st3 stop) fun r s4 qx=>?_);obtain⟨hr,I4⟩:=qx;subst hr;exact zV ⟨σ3,H3,I4,qn⟩
 ·refine zW hp (cH (T.item X rfl rfl rfl hc i pins s3 σ3 H3 X.xe I3 (stat fr3) st3 go) fun r s4 qx=>?_);obtain⟨u,hr,h4⟩:=qx;subst hr;refine zW hp (cH h4 fun _ s5 qx=>?_);obtain⟨x,H5,I5,r5,y5,NK,Th⟩:=qx;have I5':=I5.pinned (stat Th) (T.obj _ _ NK);refine zW hp (cH (hg _ s5 σ3 H5 x u _ I5' r5 (step x H5 y5)) fun _ s6 qx=>?_);obtain⟨σ6,H6,I6,q6⟩:=qx;refine zW hp (cH (hb _ s6 σ6 H6 _ I6 q6) fun f s7 q7=>?_)
  have again:∀{σ7:St} {H7:Hp},Inv X (pins++xf fp s5.heap) σ7 H7 s7->N σ7 H7->∃m,m<n/\∃i σ' H',Inv X pins σ' H' s7/\tn i s7.heap/\(∀b∈fp,H' b=none)/\W i m σ' H':=fun {σ7 H7} I7 n7=>by
   obtain⟨m',hm,w7⟩:=hN σ7 H7 n7;refine⟨m',hm,i+1,σ7,H7,I7.gA,T.keep _ _ _ NK fun b hb o e=>(I7.pin (b,o) (gM _ (gM _ (cI hb e)))).1,fun b hb=>?_,w7⟩;obtain⟨o,e,d⟩:=T.obj _ _ NK b hb;exact(I7.pin (b,o) (gM _ (gM _ (cI hb e)))).2.1
  cases f with
  | next=>obtain⟨σ7,H7,I7,n7⟩:=q7; exact again I7 n7
  | cont=>obtain⟨σ7,H7,I7,n7⟩:=q7; exact again I7 n7
  | brk=>obtain⟨σ7,H7,I7,q7⟩:=q7; exact⟨σ7,H7,I7.gA,q7⟩
  | ret v=>obtain⟨x7,σ7,H7,I7,r7,q7⟩:=q7; exact⟨x7,σ7,H7,I7.gA,r7,q7⟩
end
theorem Mf {K:PySem.W.Frag} {a:Addr} {xs:List V} {g:TG} {tb:TS} {D:Ends} {σ:St} {H:Hp} (Pv:Nat->St->Hp->Prop) (h0:Pv 0 σ H) (hl:∀i σ H,i<=xs.length->Pv i σ H->dI K H a xs)
  (hs:∀i x σ H,xs[i]?=some x->Pv i σ H->g x σ H fun σ2 H2=>tb { D with nx:=Pv (i+1),ct:=Pv (i+1),bk:=D.nx } σ2 H2) (hd:∀σ H,Pv xs.length σ H->D.nx σ H) :
  ∃W:Nat->Nat->St->Hp->Prop,(∃m,W 0 m σ H)/\∀i m σ H,W i m σ H ->
   ((Rb K a).stop i H/\D.nx σ H)\/((Rb K a).go i H/\∃N:St->Hp->Prop,(∀σ' H',N σ' H'->∃m',m'<m/\W (i+1) m' σ' H')/\∀x H',(Rb K a).wg i H x H'->g x σ H' fun σ2 H2=>tb { D with nx:=N,ct:=N,bk:=D.nx } σ2 H2):=by
 refine⟨fun i m σ H=>m=xs.length-i/\i<=xs.length/\Pv i σ H,⟨xs.length,by simp,gD _,h0⟩,?_⟩
 rintro i m σ H ⟨rfl,hi,p⟩;have q:=hl i σ H hi p;by_cases hlt:i<xs.length
 ·refine .inr ⟨⟨xs,xs[i],q,by simp[hlt]⟩,Pv (i+1),fun σ' H' p'=>⟨xs.length-(i+1),by omega,rfl,hlt,p'⟩,fun x H' y=>?_⟩
  obtain⟨e,y⟩:=y;subst e;exact hs i x σ _ (y xs q) p
 ·have e:i=xs.length:=by omega
  subst e;exact .inl ⟨⟨xs,q,bN _⟩,hd σ H p⟩
theorem Pz {K:PySem.W.Frag} {a:Addr} {xs:List V} {g:TG} {tb:TS} {D:Ends} {σ:St} {H:Hp} (Pv:Nat->St->Hp->Prop) (h0:Pv 0 σ H) (hl:∀i σ H,i<=xs.length->Pv i σ H->cY K H a xs)
  (hs:∀i x σ H,xs[i]?=some x->Pv i σ H->g x σ H fun σ2 H2=>tb { D with nx:=Pv (i+1),ct:=Pv (i+1),bk:=D.nx } σ2 H2) (hd:∀σ H,Pv xs.length σ H->D.nx σ H) :
  ∃W:Nat->Nat->St->Hp->Prop,(∃m,W 0 m σ H)/\∀i m σ H,W i m σ H ->
   ((Ra K a).stop i H/\D.nx σ H)\/((Ra K a).go i H/\∃N:St->Hp->Prop,(∀σ' H',N σ' H'->∃m',m'<m/\W (i+1) m' σ' H')/\∀x H',(Ra K a).wg i H x H'->g x σ H' fun σ2 H2=>tb { D with nx:=N,ct:=N,bk:=D.nx } σ2 H2):=by
 refine⟨fun i m σ H=>m=xs.length-i/\i<=xs.length/\Pv i σ H,⟨xs.length,by simp,gD _,h0⟩,?_⟩
 rintro i m σ H ⟨rfl,hi,p⟩;have q:=hl i σ H hi p;by_cases hlt:i<xs.length
 ·refine .inr ⟨⟨xs,xs[i],q,by simp[hlt]⟩,Pv (i+1),fun σ' H' p'=>⟨xs.length-(i+1),by omega,rfl,hlt,p'⟩,fun x H' y=>?_⟩
  obtain⟨e,y⟩:=y;subst e;exact hs i x σ _ (y xs q) p
 ·have e:i=xs.length:=by omega
  subst e;exact .inl ⟨⟨xs,q,bN _⟩,hd σ H p⟩
theorem vN {lo:Int} {n:Nat} {g:TG} {tb:TS} {D:Ends} {σ:St} {H:Hp} (Pv:Nat->St->Hp->Prop) (h0:Pv 0 σ H)
  (hs:∀i σ H,i<n->Pv i σ H->g (.int (lo+i)) σ H fun σ2 H2=>tb { D with nx:=Pv (i+1),ct:=Pv (i+1),bk:=D.nx } σ2 H2) (hd:∀σ H,Pv n σ H->D.nx σ H) :
  ∃W:Nat->Nat->St->Hp->Prop,(∃m,W 0 m σ H)/\∀i m σ H,W i m σ H ->
   ((Ju lo n).stop i H/\D.nx σ H)\/((Ju lo n).go i H/\∃N:St->Hp->Prop,(∀σ' H',N σ' H'->∃m',m'<m/\W (i+1) m' σ' H')/\∀x H',(Ju lo n).wg i H x H'->g x σ H' fun σ2 H2=>tb { D with nx:=N,ct:=N,bk:=D.nx } σ2 H2):=by
 refine⟨fun i m σ H=>m=n-i/\i<=n/\Pv i σ H,⟨n,by simp,gD _,h0⟩,?_⟩
 rintro i m σ H ⟨rfl,hi,p⟩;by_cases hlt:i<n
 ·refine .inr ⟨hlt,Pv (i+1),fun σ' H' p'=>⟨n-(i+1),by omega,rfl,hlt,p'⟩,fun x H' y=>?_⟩
  obtain⟨e,y⟩:=y;subst e y;exact hs i σ _ hlt p
 ·have e:i=n:=by omega
  subst e;exact .inl ⟨bN _,hd σ H p⟩
abbrev R2:=V->V->Hp->VK->Prop
structure mD (X:Cx) (f:Value->Value->Sem Value) (r:R2):Prop where
 mk ::
 go :
 ∀(pins:List (Addr×Obj)) (s:Shared) (σ:St) (H:Hp) (x y:V) (v u:Value) (Q:VK),Inv X pins σ H s->RelV x v->RelV y u->r x y H Q ->
  wpAny (model X.prog X.w) X.A (f v u) (EP X pins σ Q) X.xe s
instance {X:Cx} {f:Value->Value->Sem Value} {r:R2}:CoeFun (mD X f r) (fun _=>
 ∀(pins:List (Addr×Obj)) (s:Shared) (σ:St) (H:Hp) (x y:V) (v u:Value) (Q:VK),Inv X pins σ H s->RelV x v->RelV y u->r x y H Q ->
  wpAny (model X.prog X.w) X.A (f v u) (EP X pins σ Q) X.xe s):=⟨mD.go⟩
structure WW (X:Cx) (f:Value->Sem Value) (r:V->Hp->VK->Prop):Prop where
 mk ::
 go :
 ∀(pins:List (Addr×Obj)) (s:Shared) (σ:St) (H:Hp) (x:V) (v:Value) (Q:VK),Inv X pins σ H s->RelV x v->r x H Q ->
  wpAny (model X.prog X.w) X.A (f v) (EP X pins σ Q) X.xe s
instance {X:Cx} {f:Value->Sem Value} {r:V->Hp->VK->Prop}:CoeFun (WW X f r) (fun _=>
 ∀(pins:List (Addr×Obj)) (s:Shared) (σ:St) (H:Hp) (x:V) (v:Value) (Q:VK),Inv X pins σ H s->RelV x v->r x H Q ->
  wpAny (model X.prog X.w) X.A (f v) (EP X pins σ Q) X.xe s):=⟨WW.go⟩
structure cV (X:Cx) (f:Value) (r:List V->Hp->VK->Prop):Prop where
 mk ::
 go :
 ∀(pins:List (Addr×Obj)) (s:Shared) (σ:St) (H:Hp) (xs:List V) (us:List Value) (Q:VK),Inv X pins σ H s->Vals xs us->r xs H Q ->
  wpAny (model X.prog X.w) X.A (call f us) (EP X pins σ Q) X.xe s
instance {X:Cx} {f:Value} {r:List V->Hp->VK->Prop}:CoeFun (cV X f r) (fun _=>
 ∀(pins:List (Addr×Obj)) (s:Shared) (σ:St) (H:Hp) (xs:List V) (us:List Value) (Q:VK),Inv X pins σ H s->Vals xs us->r xs H Q ->
  wpAny (model X.prog X.w) X.A (call f us) (EP X pins σ Q) X.xe s):=⟨cV.go⟩
def Rk (r:R2) (ta tb:TE):TE:=fun σ H Q=>ta σ H fun x H1=>tb σ H1 fun y H2=>r x y H2 Q
def tUn (r:V->Hp->VK->Prop) (ta:TE):TE:=fun σ H Q=>ta σ H fun x H1=>r x H1 Q
def rI (C:Int->Int->Prop) (g:Int->Int->V):R2:=fun x y H Q=>∃i j,x=.int i/\y=.int j/\C i j/\Q (g i j) H
def QS (g:Int->Int->V):R2:=fun x y H Q=>∃i j,x=.int i/\y=.int j/\Q (g i j) H
def rU (g:Int->V):V->Hp->VK->Prop:=fun x H Q=>∃i,x=.int i/\Q (g i) H
section
variable {X:Cx} {a b c:Expr} {ta tb tc:TE} {pos:Pos}
theorem Tz (ha:PE X a ta) (hb:PE X b tb) {pins:List (Addr×Obj)} {s:Shared} {σ:St} {H:Hp} {R:V->V->Hp->Prop} (I:Inv X pins σ H s)
  (h:ta σ H fun x H1=>tb σ H1 fun y H2=>R x y H2) {Q:Value->Shared->Prop} {f:Value->Value->Sem Value}
  (hf:∀v u s2 x y H2,Inv X pins σ H2 s2->RelV x v->RelV y u->R x y H2->wpAny (model X.prog X.w) X.A (f v u) Q X.xe s2) :
  wpAny (model X.prog X.w) X.A (eval a X.env) (fun v s₁=>wpAny (model X.prog X.w) X.A (eval b X.env) (fun u s₂=>wpAny (model X.prog X.w) X.A (f v u) Q X.xe s₂) X.xe s₁) X.xe s:=by
 refine cH (ha pins s σ H _ I h) fun v s1 qx=>?_;obtain⟨x,H1,I1,r1,q1⟩:=qx;refine cH (hb pins s1 σ H1 _ I1 q1) fun u s2 qx=>?_;obtain⟨y,H2,I2,r2,q2⟩:=qx;exact hf v u s2 x y H2 I2 r1 r2 q2
theorem aH {op:Operator} {r:R2} (ho:mD X (binaryOp op) r) (ha:PE X a ta) (hb:PE X b tb):PE X (.BinOp a op b pos) (Rk r ta tb):=by
 refine .mk ?_;intro pins s σ H Q I h;exact wpAny_BinOp (Tz ha hb I h fun v u s2 x y H2 I2 rx ry q=>ho pins s2 σ H2 x y v u Q I2 rx ry q)
theorem KD {op:UnaryOp} {r:V->Hp->VK->Prop} (ho:WW X (unaryOp op) r) (ha:PE X a ta):PE X (.UnaryOp op a pos) (tUn r ta):=by
 refine .mk ?_;intro pins s σ H Q I h;exact UnaryOp_ (cH (ha pins s σ H _ I h) fun v s1 ⟨x,H1,I1,r1,q1⟩=>ho pins s1 σ H1 x v Q I1 r1 q1)
theorem We {f:Value->Value->Sem Value} {C:Int->Int->Prop} {g:Int->Int->Int}
  (rule:∀(i j:Int) (t u:Tok) (s:Shared) (Q:Value->Shared->Prop) (E:Value->Shared->Prop),C i j->Q (.int (g i j) s.toks) { s with toks:=s.toks+1 }->wpAny (model X.prog X.w) X.A (f (.int i t) (.int j u)) Q E s) :
  mD X f (rI C fun i j=>.int (g i j)):=by
 refine .mk ?_;intro pins s σ H x y v u Q I rx ry h;obtain⟨i,j,rfl,rfl,hc,q⟩:=h;obtain⟨t,rfl⟩:=rx;obtain⟨t',rfl⟩:=ry;exact rule i j t t' s _ _ hc ⟨.int (g i j),H,I.tok _,⟨_,rfl⟩,q⟩
theorem Wd {f:Value->Value->Sem Value} {g:Int->Int->Int}
  (rule:∀(i j:Int) (t u:Tok) (s:Shared) (Q:Value->Shared->Prop) (E:Value->Shared->Prop),Q (.int (g i j) s.toks) { s with toks:=s.toks+1 }->wpAny (model X.prog X.w) X.A (f (.int i t) (.int j u)) Q E s) :
  mD X f (QS fun i j=>.int (g i j)):=by
 refine .mk ?_;intro pins s σ H x y v u Q I rx ry h;obtain⟨i,j,rfl,rfl,q⟩:=h;obtain⟨t,rfl⟩:=rx;obtain⟨t',rfl⟩:=ry;exact rule i j t t' s _ _ ⟨.int (g i j),H,I.tok _,⟨_,rfl⟩,q⟩
theorem Sd {f:Value->Value->Sem Value} {g:Int->Int->Bool}
  (rule:∀(i j:Int) (t u:Tok) (s:Shared) (Q:Value->Shared->Prop) (E:Value->Shared->Prop),Q (.bool (g i j)) s->wpAny (model X.prog X.w) X.A (f (.int i t) (.int j u)) Q E s) :
  mD X f (QS fun i j=>.bl (g i j)):=by
 refine .mk ?_;intro pins s σ H x y v u Q I rx ry h;obtain⟨i,j,rfl,rfl,q⟩:=h;obtain⟨t,rfl⟩:=rx;obtain⟨t',rfl⟩:=ry;exact rule i j t t' s _ _ ⟨.bl (g i j),H,I,rfl,q⟩
def Z9 (i j:Int):Prop:=0<j/\j<1073741824
def Z8 (i j:Int):Prop:=0<=j/\j<=1000000/\i.natAbs<2 ^ 64
def M7 (i j:Int):Prop:=(-(2 ^ 64)<i/\i<2 ^ 64)\/(-(2 ^ 64)<j/\j<2 ^ 64)
theorem M7.ok {i j:Int} (h:M7 i j):IntMulOk i j:=by
 rcases h with⟨h1,h2⟩ | ⟨h1,h2⟩
 ·exact .of_left (intBits_le_64 h1 h2)
 ·exact .of_right (intBits_le_64 h1 h2)
theorem a_:mD X (binaryOp .Add) (QS fun i j=>.int (i+j)):=Wd fun _ _ _ _ _ _ _ q=>add_int q
theorem cB:mD X (binaryOp .Sub) (QS fun i j=>.int (i-j)):=Wd fun _ _ _ _ _ _ _ q=>sub_int q
theorem fB:mD X (binaryOp .Mult) (rI M7 fun i j=>.int (i*j)):=We fun _ _ _ _ _ _ _ hc q=>mul_int q hc.ok
theorem OD:mD X (binaryOp .FloorDiv) (rI Z9 fun i j=>.int (i / j)):=We fun i j _ _ _ _ _ hc q=>by
 have h1:(0:Int)<j:=hc.1;have h2:j<1073741824:=hc.2;exact floordiv_int (by omega) (by rw[Int.fdiv_eq_ediv_of_nonneg i (by omega)]; exact q) (.inl (PyProof.noPylong_small (by omega)))
theorem iQ:mD X (binaryOp .Mod) (rI (fun _ j=>0<j) fun i j=>.int (i % j)):=We fun i j _ _ _ _ _ hc q=>by
 have h1:(0:Int)<j:=hc;exact mod_int' (by omega) (by rw[Int.fmod_eq_emod_of_nonneg i (by omega)]; exact q)
theorem gU:mD X (binaryOp .Pow) (rI Z8 fun i j=>.int (i ^ j.toNat)):=We fun _ _ _ _ _ _ _ hc q=>pow_int_small hc.1 hc.2.1 hc.2.2 q
theorem unI {f:Value->Sem Value} {g:Int->Int}
  (rule:∀(i:Int) (t:Tok) (s:Shared) (Q:Value->Shared->Prop) (E:Value->Shared->Prop),Q (.int (g i) s.toks) { s with toks:=s.toks+1 }->wpAny (model X.prog X.w) X.A (f (.int i t)) Q E s) :
  WW X f (rU fun i=>.int (g i)):=by
 refine .mk ?_;intro pins s σ H x v Q I rx h;obtain⟨i,rfl,q⟩:=h;obtain⟨t,rfl⟩:=rx;exact rule i t s _ _ ⟨.int (g i),H,I.tok _,⟨_,rfl⟩,q⟩
theorem Bk:WW X (unaryOp .USub) (rU fun i=>.int (-i)):=unI fun _ _ _ _ _ q=>neg_int q
end
def Hb:V->V->Bool
 | .non,.non=>true | .non,.int _=>true | .int _,.non=>true | .non,.bl _=>true | .bl _,.non=>true | .non,.str _=>true | .str _,.non=>true
 | .int _,.int _=>true | .bl _,.bl _=>true | .str _,.str _=>true | .Js _,.Js _=>true
 | .int _,.str _=>true | .str _,.int _=>true | .bl _,.str _=>true | .str _,.bl _=>true
 | _,_=>false
def V5:R2:=fun x y H Q=>Hb x y=true/\Q (.bl (decide (x=y))) H
def V2:R2:=fun x y H Q=>Hb x y=true/\Q (.bl (!decide (x=y))) H
theorem Gf {i j:Int}:decide (V.int i=V.int j)=(i==j):=by
 rw[Hj];simp
theorem Mj {i j:Bool}:decide (V.bl i=V.bl j)=(i==j):=by
 rw[Hj];simp
theorem Ge {i j:Str}:decide (V.str i=V.str j)=(i==j):=by
 rw[Hj];simp
theorem Gg {i j:Array UInt8}:decide (V.Js i=V.Js j)=(i.toList==j.toList):=by
 rw[Hj];cases i;cases j;simp
section
variable {X:Cx} {a b c:Expr} {ta tb tc:TE} {pos:Pos}
theorem bG {pins:List (Addr×Obj)} {σ:St} {H:Hp} {s:Shared} {Q:VK} {k k':Bool} (I:Inv X pins σ H s) (q:Q (.bl k) H) (e:k=k'):EP X pins σ Q (.bool k') s:=by
 subst e;exact⟨.bl k,H,I,rfl,q⟩
theorem fU:mD X (compareOp .Eq) V5:=by
 refine .mk ?_;intro pins s σ H x y v u Q I rx ry h;obtain⟨hs,q⟩:=h;cases x with
 | non=>
  cases rx;cases y with
  | non=>cases ry; exact PySem.EqNone.eq_none_none (bG I q (by simp))
  | bl j=>cases ry; exact PySem.EqNone.eq_none_bool (bG I q (by simp))
  | int j=>obtain⟨t',rfl⟩:=ry; exact PySem.EqNone.eq_none_int (bG I q (by simp))
  | str j=>obtain⟨t',rfl⟩:=ry; exact PySem.EqNone.eq_none_str (bG I q (by simp))
  | _=>exact absurd (show false=true from hs) jW
 | bl i=>
  cases rx;cases y with
  | non=>cases ry; exact PySem.EqNone.eq_bool_none (bG I q (by simp))
  | bl j=>cases ry; exact eq_bool (bG I q Mj)
  | str j=>obtain⟨t',rfl⟩:=ry; exact PySem.EqMixed.eq_bool_str (bG I q (by simp))
  | _=>exact absurd (show false=true from hs) jW
 | int i=>
  obtain⟨t,rfl⟩:=rx;cases y with
  | non=>cases ry; exact PySem.EqNone.eq_int_none (bG I q (by simp))
  | int j=>obtain⟨t',rfl⟩:=ry; exact eq_int (bG I q Gf)
  | str j=>obtain⟨t',rfl⟩:=ry; exact PySem.EqMixed.eq_int_str (bG I q (by simp))
  | _=>exact absurd (show false=true from hs) jW
 | str i=>
  obtain⟨t,rfl⟩:=rx;cases y with
  | non=>cases ry; exact PySem.EqNone.eq_str_none (bG I q (by simp))
  | bl j=>cases ry; exact PySem.EqMixed.eq_str_bool (bG I q (by simp))
  | int j=>obtain⟨t',rfl⟩:=ry; exact PySem.EqMixed.eq_str_int (bG I q (by simp))
  | str j=>obtain⟨t',rfl⟩:=ry; exact eq_str (bG I q Ge)
  | _=>exact absurd (show false=true from hs) jW
 | Js i=>
  obtain⟨t,rfl⟩:=rx;cases y with
  | Js j=>obtain⟨t',rfl⟩:=ry; exact PySem.W.eq_bytes (bG I q Gg)
  | _=>exact absurd (show false=true from hs) jW
 | _=>cases y <;> exact absurd (show false=true from hs) jW
theorem Fi:mD X (compareOp .NotEq) V2:=by
 refine .mk ?_;intro pins s σ H x y v u Q I rx ry h;obtain⟨hs,q⟩:=h;cases x with
 | non=>
  cases rx;cases y with
  | non=>cases ry; exact PySem.EqNone.ne_none_none (bG I q (by simp))
  | bl j=>cases ry; exact PySem.EqNone.ne_none_bool (bG I q (by simp))
  | int j=>obtain⟨t',rfl⟩:=ry; exact PySem.EqNone.ne_none_int (bG I q (by simp))
  | str j=>obtain⟨t',rfl⟩:=ry; exact PySem.EqNone.ne_none_str (bG I q (by simp))
  | _=>exact absurd (show false=true from hs) jW
 | bl i=>
  cases rx;cases y with
  | non=>cases ry; exact PySem.EqNone.ne_bool_none (bG I q (by simp))
  | bl j=>cases ry; exact ne_bool (bG I q (lO not Mj))
  | str j=>obtain⟨t',rfl⟩:=ry; exact PySem.EqMixed.ne_bool_str (bG I q (by simp))
  | _=>exact absurd (show false=true from hs) jW
 | int i=>
  obtain⟨t,rfl⟩:=rx;cases y with
  | non=>cases ry; exact PySem.EqNone.ne_int_none (bG I q (by simp))
  | int j=>obtain⟨t',rfl⟩:=ry; exact ne_int (bG I q (lO not Gf))
  | str j=>obtain⟨t',rfl⟩:=ry; exact PySem.EqMixed.ne_int_str (bG I q (by simp))
  | _=>exact absurd (show false=true from hs) jW
 | str i=>
  obtain⟨t,rfl⟩:=rx;cases y with
  | non=>cases ry; exact PySem.EqNone.ne_str_none (bG I q (by simp))
  | bl j=>cases ry; exact PySem.EqMixed.ne_str_bool (bG I q (by simp))
  | int j=>obtain⟨t',rfl⟩:=ry; exact PySem.EqMixed.ne_str_int (bG I q (by simp))
  | str j=>obtain⟨t',rfl⟩:=ry; exact ne_str (bG I q (lO not Ge))
  | _=>exact absurd (show false=true from hs) jW
 | Js i=>
  obtain⟨t,rfl⟩:=rx;cases y with
  | Js j=>obtain⟨t',rfl⟩:=ry; exact PySem.W.ne_bytes (bG I q (lO not Gg))
  | _=>exact absurd (show false=true from hs) jW
 | _=>cases y <;> exact absurd (show false=true from hs) jW
theorem rR:mD X (compareOp .Lt) (QS fun i j=>.bl (decide (i<j))):=Sd fun _ _ _ _ _ _ _ q=>lt_int q
theorem pW:mD X (compareOp .Gt) (QS fun i j=>.bl (decide (j<i))):=Sd fun _ _ _ _ _ _ _ q=>gt_int q
theorem K8:mD X (compareOp .GtE) (QS fun i j=>.bl (decide (j<=i))):=Sd fun _ _ _ _ _ _ _ q=>ge_int q
theorem R9:mD X (compareOp .Is) (fun x y H Q=>y=.non/\Q (.bl (decide (x=.non))) H):=by
 refine .mk ?_;intro pins s σ H x y v u Q I rx ry h;obtain⟨rfl,q⟩:=h;cases ry;refine is_none_gen (bG I q ?_);cases x <;> first
  | (cases rx; rfl)
  | (obtain⟨t,rfl⟩:=rx; rfl)
theorem xm:mD X (compareOp .IsNot) (fun x y H Q=>y=.non/\Q (.bl (!decide (x=.non))) H):=by
 refine .mk ?_;intro pins s σ H x y v u Q I rx ry h;obtain⟨rfl,q⟩:=h;cases ry;refine isnot_none_gen (bG I q ?_);cases x <;> first
  | (cases rx; rfl)
  | (obtain⟨t,rfl⟩:=rx; rfl)
theorem bu (b:Expr) {op:CmpOp} (h:op≠.In:=by decide) (h2:op≠.NotIn:=by decide):behindInMarks op b=false:=by
 have e1:(op==CmpOp.In)=false:=by cases op <;> first | rfl | exact absurd rfl h
 have e2:(op==CmpOp.NotIn)=false:=by cases op <;> first | rfl | exact absurd rfl h2
 cases b <;> simp[behindInMarks,e1,e2]
theorem fG {op:CmpOp} {r:R2} (ho:mD X (compareOp op) r) (ha:PE X a ta) (hb:PE X b tb) (hm:behindInMarks op b=false):PE X (.Compare a [op] [b] pos) (Rk r ta tb):=by
 refine .mk ?_;intro pins s σ H Q I h;exact wpAny_Compare1 (Tz ha hb I h fun v u s2 x y H2 I2 rx ry q=>ho pins s2 σ H2 x y v u Q I2 rx ry q) hm
def JM (t:TE):TT:=fun σ H Q=>t σ H fun x H'=>∃k,x=.bl k/\Q k H'
theorem bj {op:CmpOp} {r:R2} (ho:mD X (compareOp op) r) (ha:PE X a ta) (hb:PE X b tb) (hm:behindInMarks op b=false):PT X (.Compare a [op] [b] pos) (JM (Rk r ta tb)):=by
 refine .mk ?_;intro pins s σ H Q I h
 refine wpAny_isTrue_Compare1 (cH (ha pins s σ H _ I h) fun v s1 ⟨x,H1,I1,r1,q1⟩=>cH (hb pins s1 σ H1 _ I1 q1) fun u s2 ⟨y,H2,I2,r2,q2⟩=>
  cH (ho pins s2 σ H2 x y v u _ I2 r1 r2 q2) fun c s3 ⟨z,H3,I3,r3,k,e,q3⟩=>?_) hm
 subst e;cases r3;exact Cg ⟨H3,I3,q3⟩
def Rp (r r':R2) (ta tb tc:TE):TE:=fun σ H Q=>ta σ H fun x H1=>tb σ H1 fun y H2=>r x y H2 fun z H3=>∃k,z=.bl k /\
 (if k=true then tc σ H3 fun w' H4=>r' y w' H4 Q else Q (.bl false) H3)
def ZS (K:PySem.W.Frag) (x:V) (H:Hp) (k:Bool):Prop:=
 match x with
 | .non=>k=false
 | .bl b=>k=b
 | .int i=>k=(i != 0)
 | .str y=>y.length<=sizeLine/\k=((y.length:Int) != 0)
 | .Js y=>y.size<=sizeLine/\k=((y.size:Int) != 0)
 | .ref p=>(∃xs,dI K H p xs/\k = !xs.isEmpty)\/(∃xs,cY K H p xs/\k = !xs.isEmpty)\/∃kvs,H p=some (.dK kvs)/\k = !kvs.isEmpty
 | _=>False
theorem sG:(sizeLine:Nat)<2 ^ 63:=by rw[sizeLine_eq]; decide
theorem vals1 {x:V} {us:List Value} (r:Vals [x] us):∃u,us=[u]/\RelV x u:=by
 cases r with
 | cons r1 r2=>cases r2; exact⟨_,rfl,r1⟩
theorem vals2 {x y:V} {us:List Value} (r:Vals [x,y] us):∃u w',us=[u,w']/\RelV x u/\RelV y w':=by
 cases r with
 | cons r1 r2=>
  cases r2 with
  | cons r3 r4=>cases r4; exact⟨_,_,rfl,r1,r3⟩
theorem Aq:cV X (.builtin "abs") (fun xs H Q=>∃i,xs=[.int i]/\Q (.int (if i<0 then -i else i)) H):=by
 refine .mk ?_;intro pins s σ H xs us Q I r h;obtain⟨i,rfl,q⟩:=h;obtain⟨u,rfl,t,rfl⟩:=vals1 r;exact call_abs_int fun u tk=>⟨.int (if i<0 then -i else i),H,I.tok _,⟨_,rfl⟩,q⟩
theorem dM (hc:X.calm=true):cV X (.builtin "max") (fun xs H Q=>∃i j,xs=[.int i,.int j]/\Q (.int (if j>i then j else i)) H):=by
 refine .mk ?_;intro pins s σ H xs us Q I r h;obtain⟨i,j,rfl,q⟩:=h;obtain⟨u,w',rfl,⟨t,rfl⟩,⟨t',rfl⟩⟩:=vals2 r;refine max_two_ints (I.ok.hd hc) fun h' tk k=>⟨_,H,I.kept k,?_,q⟩;by_cases hj:j>i
 ·rw[aR hj,aR hj]; exact⟨_,rfl⟩
 ·rw[bx hj,bx hj]; exact⟨_,rfl⟩
theorem dq (hc:X.calm=true):cV X (.builtin "min") (fun xs H Q=>∃i j,xs=[.int i,.int j]/\Q (.int (if j<i then j else i)) H):=by
 refine .mk ?_;intro pins s σ H xs us Q I r h;obtain⟨i,j,rfl,q⟩:=h;obtain⟨u,w',rfl,⟨t,rfl⟩,⟨t',rfl⟩⟩:=vals2 r;refine min_two_ints (I.ok.hd hc) fun h' tk k=>⟨_,H,I.kept k,?_,q⟩;by_cases hj:j<i
 ·rw[aR hj,aR hj]; exact⟨_,rfl⟩
 ·rw[bx hj,bx hj]; exact⟨_,rfl⟩
end
structure T4 (h:Heap) (x dx C:Addr) (mA:Str->Option Value):Prop where
 obj:h.get? x=some (PySem.W.instObj C dx)
 ns:h.Ns1 dx mA
 ne:dx≠x
theorem Ia {h:Heap} {dx:Addr} {mA:Str->Option Value} (n:h.Ns1 dx mA):∃od,h.get? dx=some od/\∀name,PySem.W.lookIn name od=some (mA name):=by
 obtain⟨o,es,ep,ho,hd,hk,_,hm⟩:=n;refine⟨o,ho,fun name=>?_⟩;have e:=hm name;unfold nsFind findBy at e;rw[<- Array.find?_toList] at e;unfold PySem.W.lookIn;rw[hd];dsimp only;split
 ·rename_i y q;rw[q] at e;exact lO some e
 ·rename_i q;rw[q] at e
  have a:es.toList.any (·.refKey)=false:=by
   rw[List.any_eq_false];intro y hy;obtain⟨z,t,hkey⟩:=hk y (Array.mem_toList_iff.mp hy);simp[DictEntry.refKey,hkey]
  have a':¬es.toList.any (·.refKey)=true:=by rw[a]; exact jW
  rw[bx a'];exact lO some e
theorem T4.look {h:Heap} {x dx C:Addr} {mA:Str->Option Value} (I:T4 h x dx C mA):∃od,PySem.W.InstAt h x (PySem.W.instObj C dx) C (some od)/\∀name,PySem.W.lookIn name od=some (mA name):=
 let ⟨od,ho,hl⟩:=Ia I.ns
 ⟨od,⟨I.obj,rfl,rfl,ho⟩,hl⟩
section
variable {prog:Program} {w:World} {A:Around} {E:Value->Shared->Prop} {s:Shared} {K:PySem.W.Frag} {x dx C f:Addr} {mA:Str->Option Value} {name:Str} {v:Value}
end
theorem yt.some_of {v:V} {o:Option Value} (r:yt (some v) o):∃u,o=some u/\RelV v u:=by
 cases o with
 | none=>exact(show False from r).elim
 | some u=>exact⟨u,rfl,r⟩
section
variable {P:Program} {w:World} {H H':Hp} {h h':Heap} {a C dx:Addr} {fs fs':List (Str×V)}
theorem FZ (hok:jF P w H h) (e:H a=some (.ins C dx fs)):∃mA,T4 h a dx C mA/\(∀f,yt (fs.lookup f) (mA f))/\PySem.Within mA (fs.map (·.1))/\fs.length<=1000/\H dx=some (.own a):=by
 obtain⟨d,z,ne,ob,mA,n,r,q⟩:=(show b8 P w H h a (.ins C dx fs) from hok a _ e);exact⟨mA,⟨ob,n,ne⟩,r,q,z,d⟩
end
structure Z7 (K:PySem.W.Frag) (C:Addr):Prop where
 pg:PySem.W.plainGet K C Str.empty=true
 hd:PySem.W.hasDictIn K C=true
 po:PySem.W.plainOver K C=true
 sa:PySem.W.findIn K (.ref C) "__setattr__" = some (some (.builtin "object.__setattr__"))
theorem Z7.get {K:PySem.W.Frag} {C:Addr} (c:Z7 K C) (f:Str):PySem.W.plainGet K C f=true:=c.pg
structure Con (K:PySem.W.Frag) (C:Addr) (f:Str) (v:V) (u:Value):Prop where
 at_:PySem.W.findIn K (.ref C) f=some (some u)
 rel:RelV v u
 get:PySem.W.specialIn K u "__get__" = some none
 cp:PySem.W.copiedNames.contains f=false
structure Meth (K:PySem.W.Frag) (C:Addr) (m:Str) (f:Addr):Prop where
 at_:PySem.W.findIn K (.ref C) m=some (some (.ref f))
 fn:PySem.W.isFn K (.ref f)=true
 kp:PySem.W.keepIn K (.ref f)=true
section
variable {X:Cx} {pins:List (Addr×Obj)} {σ:St} {H:Hp} {s:Shared} {a C dx:Addr} {fs:List (Str×V)} {f:Str} {v:V} {A:Around} {E:Value->Shared->Prop}
end
section
variable {X:Cx} {o e value:Expr} {f:Str} {pos pos' tpos:Pos} {ta tv:TE}
end
section
variable {X:Cx} {pins:List (Addr×Obj)} {σ:St} {H:Hp} {s:Shared} {A:Around} {E:Value->Shared->Prop} {Q:Value->Shared->Prop} {c:Value} {b:Bool}
inductive nU (K:PySem.W.Frag) (H:Hp):V->Value->Prop where
 | non:nU K H .non (.type "NoneType")
 | bl (x:Bool):nU K H (.bl x) (.type "bool")
 | int (i:Int):nU K H (.int i) (.type "int")
 | str (x:Str):nU K H (.str x) (.type "str")
 | flt (x:UInt64):nU K H (.flt x) (.type "float")
 | lst {a:Addr} {xs:List V} (e:H a=some (.lst xs)):nU K H (.ref a) (.type "list")
 | yF {a:Addr} {o:Obj} {xs:List V} (e:H a=some (.yF o (.lst xs))):nU K H (.ref a) (.type "list")
 | tup {a:Addr} {xs:List V} (e:H a=some (.tup xs)):nU K H (.ref a) (.type "tuple")
 | dK {a:Addr} {kvs:List (Key×V)} (e:H a=some (.dK kvs)):nU K H (.ref a) (.type "dict")
 | dT {a:Addr} {kvs:List (List Key×V)} (e:H a=some (.dT kvs)):nU K H (.ref a) (.type "dict")
 | ins {a C dx:Addr} {fs:List (Str×V)} (e:H a=some (.ins C dx fs)) (cl:Z7 K C) (ha:PySem.W.findIn K (.ref C) "__class__" = some (some (.builtin "object.__class__")))
   (hn:PySem.W.specialIn K (.builtin "object.__class__") "__get__" = some (some (.builtin "getset_descriptor.__get__"))) (htk:PySem.W.takesIn K (.builtin "object.__class__")=some true)
   (hm:PySem.W.mroIn K C (.type "object")=some true):nU K H (.ref a) (.ref C)
theorem Ii {x:V} {u t:Value} (I:Inv X pins σ H s) (rx:RelV x u) (ty:nU X.K H x t) (e:PySem.W.kitOne X.K t c=some b) (h:∀tk,Q (.bool b) { s with toks:=tk }) :
  wpAny (model X.prog X.w) A (call (.builtin "isinstance") [u,c]) Q E s:=by
 cases ty with
 | non=>cases(show u=Value.none from rx); exact PySem.W.kia_one PySem.W.kitx_none I.kO True.intro e (fun z=>nomatch z) h
 | bl y=>cases(show u=Value.bool y from rx); exact PySem.W.kia_one PySem.W.kitx_bool I.kO True.intro e (fun z=>nomatch z) h
 | int i=>obtain⟨t,q⟩:=(show ∃t,u=Value.int i t from rx); cases q; exact PySem.W.kia_one PySem.W.kitx_int I.kO True.intro e (fun z=>nomatch z) h
 | str y=>obtain⟨t,q⟩:=(show ∃t,u=Value.str y t from rx); cases q; exact PySem.W.kia_one PySem.W.kitx_str I.kO True.intro e (fun z=>nomatch z) h
 | flt y=>obtain⟨t,q⟩:=(show ∃t,u=Value.float y t from rx); cases q; exact PySem.W.kia_one PySem.W.kitx_float I.kO True.intro e (fun z=>nomatch z) h
 | @lst a xs ea=>
  cases(show u=Value.ref a from rx);obtain⟨_,_,n,_,h1⟩:=(show b8 X.prog X.w H s.heap a (.lst xs) from I.hok a _ ea);exact PySem.W.kia_one PySem.W.kitx_list I.kO ⟨_,h1,rfl⟩ e (fun z=>nomatch z) h
 | @yF a ob xs ea=>
  cases(show u=Value.ref a from rx);obtain⟨_,_,_,n,_,h1⟩:=(show b8 X.prog X.w H s.heap a (.yF ob (.lst xs)) from I.hok a _ ea);exact PySem.W.kia_one PySem.W.kitx_list I.kO ⟨_,h1,rfl⟩ e (fun z=>nomatch z) h
 | @tup a xs ea=>
  cases(show u=Value.ref a from rx);obtain⟨_,_,_,p⟩:=(show b8 X.prog X.w H s.heap a (.tup xs) from I.hok a _ ea);obtain⟨o,h1,h2,_⟩:=p;exact PySem.W.kia_one PySem.W.kitx_tuple I.kO ⟨o,h1,h2⟩ e (fun z=>nomatch z) h
 | @dK a kvs ea=>
  cases(show u=Value.ref a from rx);obtain⟨_,_,vs,_,p⟩:=(show b8 X.prog X.w H s.heap a (.dK kvs) from I.hok a _ ea);obtain⟨o,es,ep,h1,h2,_⟩:=p;exact PySem.W.kia_one PySem.W.kitx_dict I.kO ⟨o,h1,h2.1⟩ e (fun z=>nomatch z) h
 | @dT a kvs ea=>
  cases(show u=Value.ref a from rx);obtain⟨_,_,xs,_,o,es,ep,h1,h2,_⟩:=(show b8 X.prog X.w H s.heap a (.dT kvs) from I.hok a _ ea);exact PySem.W.kia_one PySem.W.kitx_dict I.kO ⟨o,h1,h2.1⟩ e (fun z=>nomatch z) h
 | @ins a C dx fs ea cl ha hn htk hm=>
  cases(show u=Value.ref a from rx);obtain⟨mA,O,_⟩:=FZ I.hok ea;obtain⟨od,J,_⟩:=O.look;exact PySem.W.kia_one (PySem.W.kitx_own (cl.get _) cl.hd ha hn htk hm) I.kO J e (fun z=>nomatch z) h
end
structure gw (k:Nat) (A:Around):Prop where
 hd:A.handled=none
 dp:A.depth+3*k+5<recursionLimit
 un:A.units+16*k+200<cLine
 gd:A.guards=some []
theorem gw.mono {j k:Nat} {A:Around} (r:gw k A) (h:j<=k):gw j A:=⟨r.hd,by have:=r.dp; omega,by have:=r.un; omega,r.gd⟩
theorem gw.deeper {k:Nat} {A:Around} (r:gw (k+1) A) (env:Env):gw k (A.deeper env):=
 ⟨r.hd,by have:=r.dp; show A.depth+1+3*k+5<_; omega,by have:=r.un; show A.units+3+16*k+200<_; omega,by first | exact r.gd | (simpa[Around.deeper,Around.under,Code.guards,Code.isGuard,guardIds,pushGuards] using r.gd)⟩
theorem gw.depth {k:Nat} {A:Around} (r:gw k A):A.depth<recursionLimit:=by have:=r.dp; omega
theorem gw.units {k:Nat} {A:Around} (r:gw k A):A.units+64<cLine:=by have:=r.un; omega
def Rm:TA:=fun _ H Q=>Q [] H
def Ec (ta:TE) (tr:TA):TA:=fun σ H Q=>ta σ H fun x H1=>tr σ H1 fun xs H2=>Q (x::xs) H2
section
variable {X:Cx} {e:Expr} {es:List Expr} {te:TE} {t:TA} {pos:Pos}
theorem aj:PA X [] Rm:=.mk <| fun _ _ _ _ H Q I h=>Calls.spliced_nil ⟨[],H,I,.nil,h⟩
theorem Ox (ha:PE X e te) (hr:PA X es t) (hs:starEach (e::es) X.env=(false,eval e X.env)::starEach es X.env:=by rfl):PA X (e::es) (Ec te t):=by
 refine .mk ?_;intro pos pins s σ H Q I h;rw[hs];show wpAny _ _ (spliced ((false,eval e X.env)::backTo pos (starEach es X.env))) _ _ s;refine Calls.spliced_cons (cH (ha pins s σ H _ I h) fun u s1 qx=>?_);obtain⟨x,H1,I1,r1,q1⟩:=qx;exact cH (hr pos pins s1 σ H1 _ I1 q1) fun us s2 ⟨xs,H2,I2,r2,q2⟩=>⟨x::xs,H2,I2,.cons r1 r2,q2⟩
def Rj (t:TA):TE:=fun σ H Q=>t σ H fun xs H1=>xs.length<=sizeLine/\∀p,H1 p=none->Q (.ref p) (upd H1 p (.tup xs))
def Vo (t:TA):TE:=fun σ H Q=>t σ H fun xs H1=>xs.length<=sizeLine/\∀p,H1 p=none->Q (.ref p) (upd H1 p (.lst xs))
theorem KH {x1} (h:PA X es t):PE X (.Tuple es x1 pos) (Rj t):=by
 refine .mk ?_;intro pins s σ H Q I hq;refine wpAny_Tuple_spliced (cH (h pos pins s σ H _ I hq) fun us s1 ⟨xs,H1,I1,r,z,q⟩=>⟨by rw[<- r.length]; exact z,?_⟩)
 have hf:H1 s1.heap.objs.size=none:=I1.hok.fresh (bN _);refine⟨.ref s1.heap.objs.size,upd H1 s1.heap.objs.size (.tup xs),I1.laid (t':=s1.toks) (fun b u e=>dW _ e) (bN _) ?_,rfl,q _ hf⟩;exact⟨z,us,r,⟨_,jk _ rfl,rfl,_,rfl⟩⟩
theorem KJ (h:PA X es t):PE X (.List es pos) (Vo t):=by
 refine .mk ?_;intro pins s σ H Q I hq;refine wpAny_List_spliced (cH (h pos pins s σ H _ I hq) fun us s1 ⟨xs,H1,I1,r,z,q⟩=>⟨by rw[<- r.length]; exact z,?_⟩)
 have hf:H1 s1.heap.objs.size=none:=I1.hok.fresh (bN _);refine⟨.ref s1.heap.objs.size,upd H1 s1.heap.objs.size (.lst xs),I1.laid (t':=s1.toks) (fun b u e=>dW _ e) (bN _) ?_,rfl,q _ hf⟩;exact⟨z,us,0,r,jk _ rfl⟩
end
abbrev Sp:=List V->Hp->VK->XK->Prop
abbrev Gr:=List Env->Hp->Shared->XK->Value->Shared->Prop
structure Qo (P:Program) (w:World) (K:PySem.W.Frag) (mg:Str->Option Value) (base:Heap) (A:Around) (outer:List Env) (s:Shared) (H:Hp):Prop where
 frames:A.frames=some outer
 mod:Mod K mg base
 bs:∀b o,base.get? b=some o->s.heap.get? b=some o/\H b=none
 Jt:base.objs.size<=s.heap.objs.size
 qp:s.heap.FunFrames base outer
 Tg:∀b∈frs outer,H b=none
 hok:jF P w H s.heap
 bare:AllBare s.gens
def CE (outer:List Env) (P:Program) (w:World) (H:Hp) (s:Shared) (Q:VK) (u:Value) (s':Shared):Prop:=
 ∃v H',s'.os=s.os/\AllBare s'.gens/\Un (frs outer) [] H H' s.heap s'.heap/\jF P w H' s'.heap/\RelV v u/\Q v H'
def CR (CX:Gr) (outer:List Env) (P:Program) (w:World) (H:Hp) (s:Shared) (Q:VK) (E:XK) (r:Result) (s':Shared):Prop:=
 match r with
 | .ok (.ret u)=>CE outer P w H s Q u s'
 | .ok _=>False
 | .error e=>CX outer H s E e s'
structure bV (P:Program) (w:World) (K:PySem.W.Frag) (mg:Str->Option Value) (base:Heap) (CX:Gr) (k:Nat) (f:Addr) (fd:FuncData) (ps:List Str) (sp:Sp):Prop where
 len:∀vs H Q E,sp vs H Q E->vs.length=ps.length
 run:∀(A:Around) (outer:List Env) (s:Shared) (H:Hp) (args:Args) (us:List Value) (vs:List V) (Q:VK) (E:XK),gw k A->Qo P w K mg base A outer s H->BindsTo s fd args (ps.zip us)->Vals vs us->sp vs H Q E ->
  codeAny (model P w) A (.call (.ref f) args) (CR CX outer P w H s Q E) s
theorem bV.mono {P:Program} {w:World} {K:PySem.W.Frag} {mg:Str->Option Value} {base:Heap} {CX:Gr} {j k:Nat} {f:Addr} {fd:FuncData} {ps:List Str} {sp:Sp} (F:bV P w K mg base CX j f fd ps sp) (h:j<=k) :
  bV P w K mg base CX k f fd ps sp:=⟨F.len,fun A outer s H args us vs Q E hr=>F.run A outer s H args us vs Q E (hr.mono h)⟩
section
variable {X:Cx} {pins:List (Addr×Obj)} {σ:St} {H:Hp} {s s':Shared}
theorem Inv.env0 (I:Inv X pins σ H s):Qo X.prog X.w X.K X.mg X.base X.A X.stack s H:=
 ⟨I.ok.frames,I.ok.mod,I.bs,mZ I.ok.Jt I.sz,I.stack,I.qz,I.hok,I.bare⟩
theorem Inv.after {Q:VK} {u:Value} (I:Inv X pins σ H s) (h:CE X.stack X.prog X.w H s Q u s'):EP X pins σ Q u s':=by
 obtain⟨v,H',os,bare,un,hok,r,q⟩:=h;obtain⟨hh,g,d,t,os'⟩:=s';obtain rfl:os'=s.os:=os;exact⟨v,H',I.call (h':=hh) (g':=g) (d':=d) (t':=t) (ch:=[]) un hok bare (fun b z=>absurd z (by simp)),r,q⟩
end
def lB (sp:Sp) (Jr:List V) (E:XK) (t:TA):TE:=fun σ H Q=>t σ H fun vs H1=>sp (vs++Jr) H1 Q E
def Binds (K:PySem.W.Frag) (fd:FuncData) (ps:List Str) (ds:List Value):Prop:=
 ∀(s:Shared) (us:List Value),K.In s.heap->(us++ds).length=ps.length->BindsTo s fd ⟨us,[]⟩ (ps.zip (us++ds))
theorem Binds.all {K:PySem.W.Frag} {fd:FuncData} {ps:List Str} (h:∀us:List Value,us.length=ps.length->bindArgs fd ⟨us,[]⟩=pure (ps.zip us)):Binds K fd ps []:=fun s us _ hl=>by
 rw[m7] at hl ⊢;exact .of_eq (h us hl)
def Passes (CX:Gr) (X:Cx) (E:XK):Prop:=∀(pins:List (Addr×Obj)) (σ:St) (H:Hp) (s:Shared) (e:Value) (s':Shared),Inv X pins σ H s->CX X.stack H s E e s'->X.xe e s'
section
variable {X:Cx} {CX:Gr} {k:Nat} {f C:Addr} {fd:FuncData} {ps:List Str} {sp:Sp} {Jr:List V} {ds:List Value} {E:XK} {x m:Str} {p pos apos:Pos} {e o:Expr} {es:List Expr} {ta:TE} {t:TA}
theorem RG {pins:List (Addr×Obj)} {σ:St} {H:Hp} {s:Shared} {Q:VK} {us:List Value} {vs:List V} (F:bV X.prog X.w X.K X.mg X.base CX k f fd ps sp) (hr:gw k X.A) (hb:Binds X.K fd ps ds) (hd:Vals Jr ds) (hx:Passes CX X E)
  (I:Inv X pins σ H s) (r:Vals vs us) (h:sp (vs++Jr) H Q E):wpAny (model X.prog X.w) X.A (call (.ref f) us) (EP X pins σ Q) X.xe s:=by
 have r2:Vals (vs++Jr) (us++ds):=r.append hd;have hl:(us++ds).length=ps.length:=by rw[<- r2.length]; exact F.len _ _ _ _ h
 refine wpAny_call (codeAny_mono (F.run X.A X.stack s H ⟨us,[]⟩ (us++ds) (vs++Jr) Q E hr I.env0 (hb s us I.kO hl) r2 h) fun r s' hq=>?_);cases r with
 | error e=>exact hx pins σ H s e s' I hq
 | ok fl=>
  cases fl with
  | ret u=>exact I.after hq
  | next=>exact False.elim hq
  | brk=>exact False.elim hq
  | cont=>exact False.elim hq
theorem xj (F:bV X.prog X.w X.K X.mg X.base CX k f fd ps sp) (hr:gw k X.A) (hg:Gl X x) (hm:X.mg x=some (.ref f)) (hk:PySem.W.keepIn X.K (.ref f)=true) (hb:Binds X.K fd ps ds) (hd:Vals Jr ds) (hx:Passes CX X E)
  (ha:PA X (e::es) t) (hdb:(x==("__debug__" : Str))=false:=by decide) (he:starEach (e::es) X.env=(false,eval e X.env)::starEach es X.env:=by rfl) (hpl:(backTo pos (starEach es X.env)).any (·.1)=false:=by rfl) :
  PE X (.Call (.Name x p) (e::es) [] pos) (lB sp Jr E t):=by
 refine .mk ?_;intro pins s σ H Q I h;refine qi (nG I hg hm ?_ hdb);refine PySem.W.callWith_K (h₀:=X.base) I.ok.mod.Px hk (cH (ha pos pins s σ H _ I h) fun us s1 ⟨vs,H1,I1,r,q⟩=>⟨I1.kO,?_⟩) he hpl;exact RG F hr hb hd hx I1 r q
structure Mk (K:PySem.W.Frag) (C f:Addr):Prop where
 makes:PySem.W.makesIn K C=true
 init:PySem.W.findIn K (.ref C) "__init__" = some (some (.ref f))
 fn:PySem.W.isFn K (.ref f)=true
 kp:PySem.W.keepIn K (.ref C)=true
end
def PK (X:Cx) (kws:List Keyword) (t:TA):Prop:=
 ∀(pos:Pos) (pins:List (Addr×Obj)) (s:Shared) (σ:St) (H:Hp) (Q:List V->Hp->Prop),Inv X pins σ H s->t σ H Q->wpAny (model X.prog X.w) X.A (evalAll ((backToKw pos (keywordEach kws X.env)).map (·.2))) (AP X pins σ Q) X.xe s
section
variable {X:Cx} {CX:Gr} {k:Nat} {f C:Addr} {fd:FuncData} {ps ks:List Str} {sp:Sp} {E:XK} {x m:Str} {p pos apos Pq:Pos} {e o:Expr} {es:List Expr} {kws:List Keyword} {te ta:TE} {t tk:TA} {nm:Option Str}
theorem RX:PK X [] Rm:=fun _ _ _ _ H Q I h=>wpAny_evalAll_nil ⟨[],H,I,.nil,h⟩
theorem Oq (ha:PE X e te) (hr:PK X kws t):PK X (⟨nm,e,Pq⟩::kws) (Ec te t):=by
 intro pos pins s σ H Q I h;show wpAny _ _ (evalAll ((do let v <- eval e X.env; standAt pos; pure v)::(backToKw pos (keywordEach kws X.env)).map (·.2))) _ _ s
 refine wpAny_evalAll_cons (aW (cH (ha pins s σ H _ I h) fun u s1 ⟨x,H1,I1,r1,q1⟩=>aW (uy (cC ?_))));exact cH (hr pos pins s1 σ H1 _ I1 q1) fun us s2 ⟨xs,H2,I2,r2,q2⟩=>⟨x::xs,H2,I2,.cons r1 r2,q2⟩
structure ZZ (K:PySem.W.Frag) (fd:FuncData) (ps ks:List Str) (g:List Value->List Value->List Value) (gV:List V->List V->List V):Prop where
 to:∀(s:Shared) (us ws:List Value),K.In s.heap->(g us ws).length=ps.length->BindsTo s fd ⟨us,ks.zip ws⟩ (ps.zip (g us ws))
 rel:∀{vs:List V} {us:List Value} {zs:List V} {ws:List Value},Vals vs us->Vals zs ws->Vals (gV vs zs) (g us ws)
variable {g:List Value->List Value->List Value} {gV:List V->List V->List V}
end
structure bh (N P:List Str) (sc:Scope):Prop where
 kind:sc.kind=.function
 co:sc.isCoroutine=false
 gen:sc.isGenerator=false
 nd:N.Nodup
 pre:N.take P.length=P
 par:∀x∈P,sc.names.lookup x=some .local\/sc.names.lookup x=some .cell
 Su:∀y∈sc.names,y.2≠.free
theorem vQ {kindOf:Str->Option NameKind} {x:Str}:∀{binds:List (Str×Value)} {m:Str->Option Value},(∀v,(x,v)∉binds)->bindL kindOf binds m x=m x
 | [],_,_=>rfl
 | (n,v)::r,m,h=>by
  unfold bindL;rw[vQ fun w hw=>h w (jr _ hw)];split
  ·have:x≠n:=by rintro rfl; exact h v jd
   simp[this]
  ·rfl
theorem vU {kindOf:Str->Option NameKind} {x:Str}:∀{binds:List (Str×Value)} {m:Str->Option Value},(∀v,(x,v)∉binds)->bindC kindOf binds m x=m x
 | [],_,_=>rfl
 | (n,v)::r,m,h=>by
  unfold bindC;rw[vU fun w hw=>h w (jr _ hw)];split
  ·rfl
  ·have:x≠n:=by rintro rfl; exact h v jd
   simp[this]
theorem vR {kindOf:Str->Option NameKind} {x:Str} {v:Value}:∀{P:List Str} {vs:List Value} {i:Nat} {m:Str->Option Value},P.Nodup->P[i]?=some x->vs[i]?=some v->kindOf x=some .local ->
  bindL kindOf (P.zip vs) m x=some v
 | [],_,_,_,_,h,_,_=>by simp at h
 | _::_,[],_,_,_,_,h,_=>by simp at h
 | p::P,w::vs,0,m,nd,h1,h2,hk=>by
  simp at h1 h2; subst h1; subst h2;show bindL kindOf ((p,w)::P.zip vs) m p=_;unfold bindL;rw[vQ fun v hv=>(List.nodup_cons.mp nd).1 (List.of_mem_zip hv).1,aR hk];simp
 | p::P,w::vs,i+1,m,nd,h1,h2,hk=>by
  show bindL kindOf ((p,w)::P.zip vs) m x=_;unfold bindL;exact vR (i:=i) (List.nodup_cons.mp nd).2 (by simpa using h1) (by simpa using h2) hk
theorem vV {kindOf:Str->Option NameKind} {x:Str} {v:Value}:∀{P:List Str} {vs:List Value} {i:Nat} {m:Str->Option Value},P.Nodup->P[i]?=some x->vs[i]?=some v->kindOf x≠some .local ->
  bindC kindOf (P.zip vs) m x=some v
 | [],_,_,_,_,h,_,_=>by simp at h
 | _::_,[],_,_,_,_,h,_=>by simp at h
 | p::P,w::vs,0,m,nd,h1,h2,hk=>by
  simp at h1 h2; subst h1; subst h2;show bindC kindOf ((p,w)::P.zip vs) m p=_;unfold bindC;rw[vU fun v hv=>(List.nodup_cons.mp nd).1 (List.of_mem_zip hv).1,bx hk];simp
 | p::P,w::vs,i+1,m,nd,h1,h2,hk=>by
  show bindC kindOf ((p,w)::P.zip vs) m x=_;unfold bindC;exact vV (i:=i) (List.nodup_cons.mp nd).2 (by simpa using h1) (by simpa using h2) hk
def start (N:List Str) (vs:List V):St:=vs.map some++List.replicate (N.length-vs.length) none
def fK (CX:Gr) (P:Program) (w:World) (K:PySem.W.Frag) (mg:Str->Option Value) (base:Heap) (N:List Str) (qual:Str) (scope:Scope) (f:Addr) (cd:Value) (A:Around) (outer:List Env) (s:Shared) (H:Hp) (E:XK):Cx where
 prog:=P
 w:=w
 K:=K
 mg:=mg
 base:=base
 A:=A.deeper (envOfC qual scope s.heap.objs.size f cd)
 N:=N
 s₀:=s
 H₀:=H
 env:=envOfC qual scope s.heap.objs.size f cd
 outer:=outer
 stack:=envOfC qual scope s.heap.objs.size f cd::outer
 ex:=[]
 calm:=true
 fn:=fun _=>true
 pn:=[]
 xe:=fun e s'=>wpAny (model P w) (A.deeper (envOfC qual scope s.heap.objs.size f cd)) (leaving (envOfC qual scope s.heap.objs.size f cd) e) (fun _ s''=>CX outer H s E e s'') (fun e' s''=>CX outer H s E e' s'') s'
theorem An {sc:Scope} {n:Nat} {x:Str} (h:sc.names.lookup x=some .cell):∃c,(cellsFrom n sc.names []).lookup x=some c:=by
 have q:=PySem.W.cellsFrom_some sc.names n [] (.inl h);exact Ck.mp q
theorem vH {CX:Gr} {P:Program} {w:World} {K:PySem.W.Frag} {mg:Str->Option Value} {base:Heap} {N ps:List Str} {qual:Str} {scope:Scope} {f:Addr} {cd:Value} {A:Around} {outer:List Env} {s s1:Shared} {H:Hp} {E:XK} {us:List Value} {vs:List V}
  (S:bh N ps scope) (hd:A.handled=none) (e0:Qo P w K mg base A outer s H) (hl:vs.length=ps.length) (r:Vals vs us)
  (x:InCallC s s.heap.objs.size (bindL (envOfC qual scope s.heap.objs.size f cd).kindOf (ps.zip us) fun _=>none) (cellsFrom (s.heap.objs.size+1) scope.names []) (bindC (envOfC qual scope s.heap.objs.size f cd).kindOf (ps.zip us) fun _=>none) s1) :
  Inv (fK CX P w K mg base N qual scope f cd A outer s H E) [] (start N vs) H s1:=by
 have hpl:ps.length<=N.length:=by have:=lO List.length S.pre; rw[jH] at this; omega
 obtain⟨h1,tk,rfl,hk⟩:=x.done;have Wg:∀b:Addr,b∉(fK CX P w K mg base N qual scope f cd A outer s H E).ex:=fun b z=>absurd (show b∈([]:List Addr) from z) (by simp)
 refine⟨⟨e0.mod,S.kind,rfl,rfl,bN _,fun y z c h1 h2=>?_,fun y hy=>?_,fun y c _ h=>?_,fun _=>hd,Around.frames_deeper e0.frames,.inr ⟨rfl,rfl⟩,fun b z=>absurd z (Wg b),e0.bs,e0.Jt,fun b _ _=>Wg b,fun b z=>absurd z (Wg b),e0.qp,e0.Tg⟩,
  rfl,e0.bare,Un.kept hk,⟨_,x.toInCall.ns,fun i y v h1 h2 h3=>?_⟩,fun y c h=>⟨_,x.cell y c h⟩,e0.hok.fresh (bN _),fun y c h=>?_,fun p hp=>absurd (show p∈([]:List (Addr×Obj)) from hp) (by simp),e0.hok.kept hk,?_⟩
 ·exact name_of_addr x.apart (PySem.mem_of_lookup h1) (PySem.mem_of_lookup h2)
 ·have hy:scope.names.lookup y=some .cell\/scope.names.lookup y=some .free:=hy;rcases hy with hy | hy
  ·exact An hy
  ·exact absurd rfl (S.Su _ (PySem.mem_of_lookup hy))
 ·exact lq (x.above y c (PySem.mem_of_lookup h))
 ·have hi:i<vs.length:=by
   unfold start at h2;by_cases hi:i<vs.length
   ·exact hi
   ·rw[Oj (by simpa using hi)] at h2
    rw[Oh] at h2;split at h2 <;> cases h2
  have ha:vs[i]?=some v:=by
   unfold start at h2;rw[Kr (by simpa using hi),h_] at h2
   cases e:vs[i]? with
   | none=>rw[e] at h2; cases h2
   | some a=>rw[e] at h2; cases h2; rfl
  obtain⟨u,hu,rv⟩:=r.get ha
  have hp:ps[i]?=some y:=by
   rw[<- S.pre,List.getElem?_take_of_lt (by omega)]; exact h1
  have ndP:ps.Nodup:=by rw[<- S.pre]; exact S.nd.sublist (List.take_sublist _ _)
  refine⟨u,rv,?_⟩;rcases S.par y (m9 hp) with k | k
  ·exact .inl ⟨k,vR ndP hp hu k⟩
  ·obtain⟨c,e⟩:=An (n:=s.heap.objs.size+1) k;refine .inr ⟨.inl k,c,e,?_⟩;have q:=x.cell y c e;rw[vV ndP hp hu (by show scope.names.lookup y≠_; rw[k]; decide)] at q
   exact q
 ·exact e0.hok.fresh (lq (x.above y c (PySem.mem_of_lookup h)))
 ·unfold start;show _=N.length;rw[gF,dH,zH];omega
theorem Q5 {CX:Gr} {P:Program} {w:World} {K:PySem.W.Frag} {mg:Str->Option Value} {base:Heap} {k:Nat} {f:Addr} {name qual:Str} {params:Arguments} {body:List Stmt} {scope:Scope} {dV kV doc pm cdv ct oc:Value} {an od:Option Addr}
  {osl:Array (Option Value)} {N ps:List Str} {sp:Sp} (lk:K.lookup f=some ⟨oc,od,.func (PySem.W.fnOf name qual params body scope dV kV doc pm an cdv ct),osl⟩) (hcd:PySem.W.codeIn K cdv qual=true) (S:bh N ps scope)
  (len:∀vs H Q E,sp vs H Q E->vs.length=ps.length)
  (hbody:∀(A:Around) (outer:List Env) (s:Shared) (H:Hp) (vs:List V) (Q:VK) (E:XK),gw k (A.deeper (envOfC qual scope s.heap.objs.size f cdv))->sp vs H Q E ->
   ∃t,yw (fK CX P w K mg base N qual scope f cdv A outer s H E) body t/\t { nx:=fun _ H'=>Q .non H',rt:=Q } (start N vs) H) :
  bV P w K mg base CX (k+1) f (PySem.W.fnOf name qual params body scope dV kV doc pm an cdv ct) ps sp:=by
 refine⟨len,fun A outer s H args us vs Q E hr e0 hb r hsp=>?_⟩;have hl:=len _ _ _ _ hsp;have KX:K.In s.heap:=e0.mod.Px.keeps fun b o e=>(e0.bs b o e).1;have lim:s.heap.NoLimit:=e0.mod.nolimit.keeps fun b o e=>(e0.bs b o e).1
 have hkind:∀y∈ps.zip us,scope.names.lookup y.1=some .local\/(scope.names.lookup y.1=some .cell/\((cellsFrom (s.heap.objs.size+1) scope.names []).lookup y.1).isSome=true):=fun⟨n,v⟩ hy=>by
  rcases S.par n (List.of_mem_zip hy).1 with q | q
  ·exact .inl q
  ·exact .inr ⟨q,PySem.W.cellsFrom_some _ _ _ (.inl q)⟩
 refine codeAny_call_function hr.depth (KX _ _ lk) rfl S.co S.gen rfl (PySem.W.codeRec_of KX hcd) (hb _ _ _ _ ?_);refine wpAny_newFunctionEnv_cells S.kind hkind fun env he s1 x=>?_;subst he;refine⟨lim.keeps x.toInCall.keep,codeAny_func ?_⟩;obtain⟨t,ht,hq⟩:=hbody A outer s H vs Q E (hr.deeper _) hsp;have I:Inv (fK CX P w K mg base N qual scope f cdv A outer s H E) [] (start N vs) H s1:=vH S hr.hd e0 hl r x;refine dX (ht [] s1 (start N vs) H _ I hq) (fun fl s' hs=>?_) fun e s' hs=>hs
 have fin:∀{σ':St} {H':Hp} {v:V} {u:Value},Inv (fK CX P w K mg base N qual scope f cdv A outer s H E) [] σ' H' s'->RelV v u->Q v H'->CE outer P w H s Q u s':=
  fun {σ' H' v u} J rv q=>⟨v,H',J.os,J.bare,J.base,J.hok,rv,q⟩
 cases fl with
 | ret u=>
  obtain⟨v,σ',H',J,rv,q⟩:=hs;exact fin J rv q
 | next=>
  obtain⟨σ',H',J,q⟩:=hs;exact fin (v:=V.non) (u:=Value.none) J rfl q
 | brk=>
  obtain⟨_,_,_,q⟩:=hs;exact False.elim q
 | cont=>
  obtain⟨_,_,_,q⟩:=hs;exact False.elim q
section
variable {X:Cx} {x:Str} {p pos:Pos} {e:Expr} {es:List Expr} {t:TA} {id T:String} {r:List V->Hp->VK->Prop}
def Ui (r:List V->Hp->VK->Prop) (t:TA):TE:=fun σ H Q=>t σ H fun vs H1=>r vs H1 Q
theorem KZ (hc:cV X (.builtin id) r) (hg:Gl X x) (hm:X.mg x=none) (hv:bootBuiltins x=some (.builtin id)) (ha:PA X (e::es) t) (hn:x ≠ "__name__" := by decide) (hdb:(x==("__debug__" : Str))=false:=by decide)
  (he:starEach (e::es) X.env=(false,eval e X.env)::starEach es X.env:=by rfl) (hpl:(backTo pos (starEach es X.env)).any (·.1)=false:=by rfl):PE X (.Call (.Name x p) (e::es) [] pos) (Ui r t):=by
 refine .mk ?_;intro pins s σ H Q I h;refine qi (gW I hg hm hv ?_ hn hdb);exact PyProof.Rows.callWith_builtin1 (cH (ha pos pins s σ H _ I h) fun us s1 ⟨vs,H1,I1,r1,q1⟩=>hc pins s1 σ H1 vs us Q I1 r1 q1) he hpl
theorem Hw (hc:cV X (.type T) r) (hg:Gl X x) (hm:X.mg x=none) (hv:bootBuiltins x=some (.type T)) (ha:PA X (e::es) t) (hn:x ≠ "__name__" := by decide) (hdb:(x==("__debug__" : Str))=false:=by decide)
  (he:starEach (e::es) X.env=(false,eval e X.env)::starEach es X.env:=by rfl) (hpl:(backTo pos (starEach es X.env)).any (·.1)=false:=by rfl):PE X (.Call (.Name x p) (e::es) [] pos) (Ui r t):=by
 refine .mk ?_;intro pins s σ H Q I h;refine qi (gW I hg hm hv ?_ hn hdb);exact PyProof.Rows.callWith_type1 (cH (ha pos pins s σ H _ I h) fun us s1 ⟨vs,H1,I1,r1,q1⟩=>hc pins s1 σ H1 vs us Q I1 r1 q1) he hpl
end
end L2
namespace HT
open PySem PyProof.Rows
section
open PySem.SeqAt
open PySem.AutoSeq1 (wpAny_loadPart')
open PySem.MeetsSeq PySem.MeetsSeq2 PySem.MeetsSeq3
end
section
variable {prog:Program} {w:World} {A:Around} {E:Value->Shared->Prop} {s:Shared}
theorem Qf {t b:Addr} {vs ws:List Value} {Q:Value->Shared->Prop} (ht:IsTup s.heap t vs.toArray) (hb:IsTup s.heap b ws.toArray) (hv:vs≠[])
  (h1:ws=[]->Q (.ref t) s) (h2:ws≠[]->Q (.ref s.heap.objs.size) { s with heap:=s.heap.push { cls:=.type "tuple",data:=.seq (vs++ws).toArray } })
  (hsz:vs.length+ws.length<=sizeLine):wpAny (model prog w) A (binaryOp .Add (.ref t) (.ref b)) Q E s:=by
 obtain⟨⟨cls,dd,data,sl⟩,ho,hc,n,hd⟩:=id ht;obtain⟨⟨cls2,dd2,data2,sl2⟩,ho2,hc2,n2,hd2⟩:=id hb;simp only at hc hd hc2 hd2;subst hc hd hc2 hd2;have e:vs.toArray++ws.toArray=(vs++ws).toArray:=by simp
 by_cases hw:ws=[]
 ·exact concat_meets ⟨_,ho,rfl⟩ ⟨_,ho2,rfl⟩ noFill_tuple_add seq_tuple_add PySem.F.slot_tuple_add PySem.F.entry_tuple_add (PySem.F.args_tuple_add_2 _ _)
   (tuple_addW1 t b vs.toArray ws.toArray n n2 dd dd2 sl sl2 (by simpa using hv) (by simp[hw])) ⟨ho,ho2,h1 hw⟩
 ·refine concat_meets ⟨_,ho,rfl⟩ ⟨_,ho2,rfl⟩ noFill_tuple_add seq_tuple_add PySem.F.slot_tuple_add PySem.F.entry_tuple_add (PySem.F.args_tuple_add_2 _ _)
   (tuple_addW2 t b vs.toArray ws.toArray n n2 dd dd2 sl sl2 (by simpa using hv) (by simpa using hw) (by rw[fj,fj]; exact hsz)) ⟨ho,ho2,?_⟩
  rw[e];exact h2 hw
def e_ (n d:Nat):Option Int->Nat
 | none=>d
 | some v=>if v<0 then(v+(n:Int)).toNat else min v.toNat n
theorem y_ (n d:Nat):e_ n d none=d:=rfl
theorem qF (n d k:Nat):e_ n d (some (k:Int))=min k n:=by
 show(if(k:Int)<0 then((k:Int)+(n:Int)).toNat else min (k:Int).toNat n)=min k n
 rw[bx (by omega),m8]
theorem RB (n d:Nat) (hd:d<=n) (o:Option Int):e_ n d o<=n:=by
 cases o with
 | none=>exact hd
 | some v=>
  show(if v<0 then(v+(n:Int)).toNat else min v.toNat n)<=n
  by_cases hv:v<0
  ·rw[aR hv]; omega
  ·rw[bx hv]; exact Nat.min_le_right _ _
theorem Gk (v:Int) (n d:Nat):(if v<0 then max (v+(n:Int)) 0 else min v (n:Int))=((e_ n d (some v):Nat):Int):=by
 show(if v<0 then max (v+(n:Int)) 0 else min v (n:Int))=(((if v<0 then(v+(n:Int)).toNat else min v.toNat n):Nat):Int)
 by_cases hv:v<0
 ·simp only[aR hv]; omega
 ·simp only[bx hv]; omega
theorem DW (lo hi:Option Int) (n:Nat):Builtin.Slice.sliceAdjust lo hi 1 (n:Int)=(((e_ n 0 lo:Nat):Int),((e_ n n hi:Nat):Int)):=by
 have h1:¬((1:Int)<0):=by omega
 unfold Builtin.Slice.sliceAdjust;simp only[h1,if_false];refine Prod.ext ?_ ?_
 ·cases lo with
  | none=>rfl
  | some v=>exact Gk v n 0
 ·cases hi with
  | none=>rfl
  | some v=>exact Gk v n n
theorem Cq (i j:Nat):Builtin.Slice.slicePlaces (i:Int) (j:Int) 1=j-i:=by
 unfold Builtin.Slice.slicePlaces;have h1:(1:Int)>0:=by omega
 simp only[h1,if_true,Int.ediv_one];split <;> omega
theorem qP {v:Value} {o:Option Int} {Q:Option Int->Shared->Prop} (p:IsPart v o) (h:Q o s):wpAny (model prog w) A (Builtin.Slice.slicePartIndex v) Q E s:=by
 cases p with
 | none=>exact slicePart_none h
 | int i t=>exact slicePart_int h
theorem i_ {sl:Addr} {vl vu:Value} {lo hi:Option Int} {n:Nat} {Q:Int×Int×Nat->Shared->Prop} (hs:s.heap.IsSliceOf sl vl vu .none) (pl:IsPart vl lo) (pu:IsPart vu hi)
  (h:Q (((e_ n 0 lo:Nat):Int),1,e_ n n hi-e_ n 0 lo) s):wpAny (model prog w) A (Builtin.Slice.sliceApplied (.ref sl) (pure (n:Int))) Q E s:=by
 obtain⟨os,hos,hcs,hds⟩:=id hs;unfold Builtin.Slice.sliceApplied Builtin.Slice.sliceFields;refine aW (aW (gQ hos hds (x:=vl) rfl (aW (gQ hos hds (x:=vu) rfl (aW (gQ hos hds (x:=.none) rfl (cC ?_)))))));refine aW (slicePart_none ?_);show wpAny _ _ (if((1:Int)==0)=true then _ else _) _ _ s
 rw[bx (by decide)]
 refine aW (qP pl (aW (qP pu (aW (cC ?_)))));show wpAny _ _ (match Builtin.Slice.sliceAdjust lo hi 1 (n:Int) with | (lo,hi)=>pure (lo,(1:Int),Builtin.Slice.slicePlaces lo hi 1)) _ _ s
 rw[DW lo hi n];show wpAny _ _ (pure (((e_ n 0 lo:Nat):Int),(1:Int),Builtin.Slice.slicePlaces ((e_ n 0 lo:Nat):Int) ((e_ n n hi:Nat):Int) 1)) _ _ s;rw[Cq];exact cC h
theorem Kz (xs:Array Value) (i k:Nat):((List.range k).filterMap fun(m:Nat)=>xs[((i:Int)+(m:Int)*1).toNat]?).toArray=((xs.toList.drop i).take k).toArray:=by
 have e:(fun(m:Nat)=>xs[((i:Int)+(m:Int)*1).toNat]?)=fun m=>xs[i+m]?:=by
  funext m
  have:((i:Int)+(m:Int)*1).toNat=i+m:=by omega
  rw[this]
 rw[e];have:=pick_run xs i k;rw[List.filterMap_map] at this;have e2:((fun x=>xs[x]?)∘fun x=>i+x)=fun m=>xs[i+m]?:=rfl;rw[e2] at this;rw[this]
theorem nM {t sl:Addr} {items:Array Value} {vl vu:Value} {lo hi:Option Int} {Q:Value->Shared->Prop} (ht:IsTup s.heap t items) (hs:s.heap.IsSliceOf sl vl vu .none) (pl:IsPart vl lo) (pu:IsPart vu hi)
  (hw:¬(e_ items.size 0 lo=0/\e_ items.size items.size hi=items.size))
  (h:Q (.ref s.heap.objs.size) { s with heap:=s.heap.push { cls:=.type "tuple",data:=.seq ((items.toList.drop (e_ items.size 0 lo)).take (e_ items.size items.size hi-e_ items.size 0 lo)).toArray } })
  (hsz:items.size<=sizeLine):wpAny (model prog w) A (getItem (.ref t) (.ref sl)) Q E s:=by
 have F_:sizeOk (.seq ((items.toList.drop (e_ items.size 0 lo)).take (e_ items.size items.size hi-e_ items.size 0 lo)).toArray):=by
  show((items.toList.drop (e_ items.size 0 lo)).take (e_ items.size items.size hi-e_ items.size 0 lo)).toArray.size<=sizeLine;rw[fj,jH,zx,Array.length_toList];omega
 have hj:e_ items.size items.size hi<=items.size:=RB _ _ (bN _) hi;obtain⟨os,hos,hcs,hds⟩:=id hs;have hTs:s.TypeIs (.ref sl) "slice" := ⟨os,hos,hcs⟩;unfold getItem
 try with_reducible refine rH ?_
 first | refine aW (cC ?_) | skip
 refine aW (wpAny_sequenceKey ht.typeIs (by decide) ?_)
 refine aW (Ht (name:=Str.ofString "__getitem__") ht.typeIs PyProof.Rows.slot_tuple_getitem
  (wV PyProof.Rows.slot_tuple_getitem ht.typeIs entry_tuple_getitem ?_ (args_tuple_getitem _ _)))
 show wpAny _ _ (Builtin.Tuple.tupleItemsOf (.ref t) >>= _) _ _ s;refine aW (tupleItemsOf_ ht ?_);refine aW (wpAny_typeOf hTs ?_);rw[aR (by decide)]
 refine aW (i_ hs pl pu ?_)
 have hno:¬((((e_ items.size 0 lo:Nat):Int)==0&&(1:Int)==1&&(e_ items.size items.size hi-e_ items.size 0 lo)==items.size)=true):=by
  intro q;rw[Cd,Cd] at q;have q1:((e_ items.size 0 lo:Nat):Int)=0:=eq_of_beq q.1.1;have q2:e_ items.size items.size hi-e_ items.size 0 lo=items.size:=eq_of_beq q.2;exact hw ⟨by omega,by omega⟩
 show wpAny _ _ (if(((e_ items.size 0 lo:Nat):Int)==0&&(1:Int)==1&&(e_ items.size items.size hi-e_ items.size 0 lo)==items.size)=true then _ else _) _ _ s
 rw[bx hno,Kz]
 first
  | exact aW (m:=Builtin.Tuple.tupleExact _) (oN (cC ⟨_,rfl,cC h⟩) F_)
  | exact aW (m:=Builtin.Tuple.tupleExact _) (oN (aW (cC (cC ⟨_,rfl,cC h⟩))) F_)
  | exact aW (aW (m:=Builtin.Tuple.tupleExact _) (oN (cC (cC ⟨_,rfl,cC h⟩)) F_))
  | exact aW (aW (m:=Builtin.Tuple.tupleExact _) (oN (cC ⟨_,rfl,cC h⟩) F_))
end
end HT
namespace L2
open PySem PySem.Spec PyProof.Rows
abbrev TO:=St->Hp->(Option Int->Hp->Prop)->Prop
structure PO (X:Cx) (e:Option Expr) (t:TO):Prop where
 mk ::
 go :
 ∀(pins:List (Addr×Obj)) (s:Shared) (σ:St) (H:Hp) (Q:Option Int->Hp->Prop),Inv X pins σ H s->t σ H Q ->
  wpAny (model X.prog X.w) X.A (evalPart e X.env) (fun u s'=>∃o H',Inv X pins σ H' s'/\IsPart u o/\Q o H') X.xe s
instance {X:Cx} {e:Option Expr} {t:TO}:CoeFun (PO X e t) (fun _=>
 ∀(pins:List (Addr×Obj)) (s:Shared) (σ:St) (H:Hp) (Q:Option Int->Hp->Prop),Inv X pins σ H s->t σ H Q ->
  wpAny (model X.prog X.w) X.A (evalPart e X.env) (fun u s'=>∃o H',Inv X pins σ H' s'/\IsPart u o/\Q o H') X.xe s):=⟨PO.go⟩
def Eb:TO:=fun _ H Q=>Q none H
def QC (t:TE):TO:=fun σ H Q=>t σ H fun x H1=>∃i,x=.int i/\Q (some i) H1
section
variable {X:Cx} {e:Expr} {te:TE} {lo hi:Option Expr} {tl th:TO} {pos p2:Pos}
theorem fD:PO X none Eb:=by
 refine .mk ?_;intro pins s σ H Q I h;rw[evalPart_none];exact cC ⟨none,H,I,.none,h⟩
theorem dG (h:PE X e te):PO X (some e) (QC te):=by
 refine .mk ?_;intro pins s σ H Q I hw;rw[evalPart_some];refine cH (h pins s σ H _ I hw) fun u s1 qx=>?_;obtain⟨x,H1,I1,r1,q1⟩:=qx;obtain⟨i,rfl,q⟩:=q1;obtain⟨t,rfl⟩:=r1;exact⟨some i,H1,I1,.int i t,q⟩
structure Uw (X:Cx) (r:V->Option Int->Option Int->Hp->VK->Prop):Prop where
 mk ::
 go :
 ∀(pins:List (Addr×Obj)) (s:Shared) (σ:St) (H:Hp) (x:V) (v vl vu:Value) (lo hi:Option Int) (sl:Addr) (Q:VK),Inv X pins σ H s->RelV x v->s.heap.IsSliceOf sl vl vu .none->IsPart vl lo->IsPart vu hi->r x lo hi H Q ->
  ∃T id,typeLookup (.type T) "__getitem__" = pure (some (.builtin id))/\s.TypeIs v T/\wpAny (model X.prog X.w) X.A (getItem v (.ref sl)) (EP X pins σ Q) X.xe s
instance {X:Cx} {r:V->Option Int->Option Int->Hp->VK->Prop}:CoeFun (Uw X r) (fun _=>
 ∀(pins:List (Addr×Obj)) (s:Shared) (σ:St) (H:Hp) (x:V) (v vl vu:Value) (lo hi:Option Int) (sl:Addr) (Q:VK),Inv X pins σ H s->RelV x v->s.heap.IsSliceOf sl vl vu .none->IsPart vl lo->IsPart vu hi->r x lo hi H Q ->
  ∃T id,typeLookup (.type T) "__getitem__" = pure (some (.builtin id))/\s.TypeIs v T/\wpAny (model X.prog X.w) X.A (getItem v (.ref sl)) (EP X pins σ Q) X.xe s):=⟨Uw.go⟩
def tSl (r:V->Option Int->Option Int->Hp->VK->Prop) (te:TE) (tl th:TO):TE:=fun σ H Q=>te σ H fun x H1=>tl σ H1 fun l H2=>th σ H2 fun u H3=>r x l u H3 Q
theorem c7 {r:V->Option Int->Option Int->Hp->VK->Prop} (hr:Uw X r) (he:PE X e te) (hl:PO X lo tl) (hu:PO X hi th):PE X (.Subscript e (.Slice lo hi none p2) pos) (tSl r te tl th):=by
 refine .mk ?_;intro pins s σ H Q I h;refine Subscript_ (cH (he pins s σ H _ I h) fun v s1 qx=>?_);obtain⟨x,H1,I1,r1,q1⟩:=qx;refine wpAny_Slice (cH (hl pins s1 σ H1 _ I1 q1) fun vl s2 ⟨l,H2,I2,pl,q2⟩=>cH (hu pins s2 σ H2 _ I2 q2) fun vu s3 qx=>?_);obtain⟨u,H3,I3,pu,q3⟩:=qx;rw[evalPart_none];refine cC ?_;have I4:Inv X pins σ H3 { s3 with heap:=s3.heap.push { cls:=.type "slice",data:=.fields #[vl,vu,.none] } }:=I3.kept (t':=s3.toks) fun b ob q=>dW _ q
 obtain⟨T,id,hT,ht,hg⟩:=hr pins { s3 with heap:=s3.heap.push { cls:=.type "slice",data:=.fields #[vl,vu,.none] } } σ H3 x v vl vu l u s3.heap.objs.size Q I4 r1 (Heap.IsSliceOf.new ..) pl pu q3
 show wpAny (model X.prog X.w) X.A (subscriptTail e (.Slice lo hi none p2) v (.ref s3.heap.objs.size)) (EP X pins σ Q) X.xe { s3 with heap:=s3.heap.push { cls:=.type "slice",data:=.fields #[vl,vu,.none] } }
 exact tail_any (ops:=[.ref s3.heap.objs.size,v]) ht hT hg (by with_unfolding_all rfl)
def jK (xs:List V) (lo hi:Option Int):List V:=(xs.drop (HT.e_ xs.length 0 lo)).take (HT.e_ xs.length xs.length hi-HT.e_ xs.length 0 lo)
theorem pZ (xs:List V) (lo hi:Option Int):(jK xs lo hi).length<=xs.length:=by
 unfold jK;rw[jH,zx];omega
def Yn (K:PySem.W.Frag):V->Option Int->Option Int->Hp->VK->Prop:=fun x lo hi H Q=>∃a xs,x=.ref a/\cY K H a xs /\
 ¬(HT.e_ xs.length 0 lo=0/\HT.e_ xs.length xs.length hi=xs.length)/\∀p,H p=none->Q (.ref p) (upd H p (.tup (jK xs lo hi)))
theorem Rx:Uw X (Yn X.K):=by
 refine .mk ?_;intro pins s σ H x v vl vu lo hi sl Q I rx hs pl pu h;obtain⟨a,xs,rfl,hx,hw,q⟩:=h;cases rx;obtain⟨its,r,ht,hz⟩:=I.tuple hx;have hlen:its.toArray.size=xs.length:=by rw[fj]; exact r.length.symm
 refine⟨"tuple",_,PyProof.Rows.slot_tuple_getitem.lookup,ht.typeIs,?_⟩;refine HT.nM ht hs pl pu (by rw[hlen]; exact hw) ?_ (by rw[hlen]; exact hz)
 rw[hlen];refine⟨.ref s.heap.objs.size,_,I.laid (t':=s.toks) (o:=.tup (jK xs lo hi)) (fun b ob q=>dW _ q) (bN _) ?_,rfl,q _ (I.hok.fresh (bN _))⟩;exact⟨mZ (pZ xs lo hi) hz,_,(r.drop (HT.e_ xs.length 0 lo)).take (HT.e_ xs.length xs.length hi-HT.e_ xs.length 0 lo),IsTup.new _ _⟩
def V8 (K:PySem.W.Frag):R2:=fun x y H Q=>∃a b xs ys,x=.ref a/\y=.ref b/\cY K H a xs/\cY K H b ys/\xs≠[]/\xs.length+ys.length<=sizeLine /\
 (ys=[]->Q (.ref a) H)/\(ys≠[]->∀p,H p=none->Q (.ref p) (upd H p (.tup (xs++ys))))
theorem Vals.xG {xs:List V} {us:List Value} (r:Vals xs us):us=[]↔xs=[]:=by
 cases r with
 | nil=>simp
 | cons _ _=>simp
theorem OJ:mD X (binaryOp .Add) (V8 X.K):=by
 refine .mk ?_;intro pins s σ H x y v u Q I rx ry h;obtain⟨a,b,xs,ys,rfl,rfl,ha,hb,hx,hz,q1,q2⟩:=h;cases rx;cases ry;obtain⟨its,r1,p1,_⟩:=I.tuple ha;obtain⟨its2,r2,p2,_⟩:=I.tuple hb;refine HT.Qf p1 p2 (fun z=>hx (r1.xG.mp z)) (fun z=>⟨.ref a,H,I,rfl,q1 (r2.xG.mp z)⟩) (fun z=>?_) (by rw[<- r1.length,<- r2.length]; exact hz)
 refine⟨.ref s.heap.objs.size,_,I.laid (t':=s.toks) (o:=.tup (xs++ys)) (fun b ob q=>dW _ q) (bN _) ?_,rfl,q2 (fun w=>z (r2.xG.mpr w)) _ (I.hok.fresh (bN _))⟩;exact⟨by rw[gF]; exact hz,_,r1.append r2,IsTup.new _ _⟩
end
def Lp (n:Nat) (i:Int):Option Nat:=if 0<=i then(if i<n then some i.toNat else none) else if -(n:Int)<=i then some (i+n).toNat else none
def DR {α:Type} (xs:List α) (i:Int):Option α:=(Lp xs.length i).bind fun j=>xs[j]?
theorem FP {n:Nat} {i:Int} {j:Nat} (h:Lp n i=some j):seqIndex? i n=some j/\j<n/\-(n:Int)<=i/\i<n:=by
 unfold Lp at h;by_cases h0:0<=i
 ·rw[aR h0] at h;by_cases h1:i<n
  ·rw[aR h1] at h;have e:i.toNat=j:=Option.some.inj h;exact⟨by rw[seqIndex_of h0 h1,e],by omega,by omega,h1⟩
  ·rw[bx h1] at h; cases h
 ·rw[bx h0] at h;by_cases h1:-(n:Int)<=i
  ·rw[aR h1] at h;have e:(i+n).toNat=j:=Option.some.inj h;exact⟨by rw[seqIndex_neg (by omega) h1,e],by omega,h1,by omega⟩
  ·rw[bx h1] at h; cases h
theorem Gp {α:Type} {xs:List α} {i:Int} {v:α} (h:DR xs i=some v):∃j,seqIndex? i xs.length=some j/\xs[j]?=some v/\j<xs.length/\-(xs.length:Int)<=i/\i<xs.length:=by
 unfold DR at h;cases e:Lp xs.length i with
 | none=>rw[e] at h; cases h
 | some j=>
  rw[e] at h;obtain⟨h1,h2,h3,h4⟩:=FP e;exact⟨j,h1,h,h2,h3,h4⟩
theorem bz {α:Type} {xs:List α} {j:Nat} {v:α} (h:xs[j]?=some v):DR xs (j:Int)=some v:=by
 have hj:j<xs.length:=(iM.mp h).1
 have e:Lp xs.length (j:Int)=some j:=by
  unfold Lp;rw[aR (by omega),aR (by omega)]; simp
 unfold DR; rw[e]; exact h
theorem Be {α:Type} (xs:List α) (v:α):DR (xs++[v]) (-1)=some v:=by
 have hl:(xs++[v]).length=xs.length+1:=by simp
 have e:Lp (xs++[v]).length (-1)=some xs.length:=by
  unfold Lp;rw[hl,bx (by decide),aR (by omega)]
  congr 1
  omega
 unfold DR;rw[e];show(xs++[v])[xs.length]?=some v;simp
def Qm (b:Expr):Prop:=∀o i,subscripted b false o i=operate [o,i] (getItem o i)
structure M3 (X:Cx) (r:R2):Prop where
 mk ::
 go :
 ∀(value slice:Expr) (pins:List (Addr×Obj)) (s:Shared) (σ:St) (H:Hp) (x y:V) (v u:Value) (Q:VK),Inv X pins σ H s->RelV x v->RelV y u->r x y H Q ->
  subscripted slice false v u=operate [v,u] (getItem v u)->wpAny (model X.prog X.w) X.A (subscriptTail value slice v u) (EP X pins σ Q) X.xe s
instance {X:Cx} {r:R2}:CoeFun (M3 X r) (fun _=>
 ∀(value slice:Expr) (pins:List (Addr×Obj)) (s:Shared) (σ:St) (H:Hp) (x y:V) (v u:Value) (Q:VK),Inv X pins σ H s->RelV x v->RelV y u->r x y H Q ->
  subscripted slice false v u=operate [v,u] (getItem v u)->wpAny (model X.prog X.w) X.A (subscriptTail value slice v u) (EP X pins σ Q) X.xe s):=⟨M3.go⟩
def T7 (X:Cx) (id:String) (r:V->List V->Hp->VK->Prop):Prop:=
 ∀(pins:List (Addr×Obj)) (s:Shared) (σ:St) (H:Hp) (x:V) (xs:List V) (v:Value) (us:List Value) (Q:VK),Inv X pins σ H s->RelV x v->Vals xs us->r x xs H Q ->
  wpAny (model X.prog X.w) X.A (call (.builtin id) (v::us)) (EP X pins σ Q) X.xe s
section
variable {X:Cx} {a b:Expr} {ta tb:TE} {pos:Pos}
theorem M3.or {r r':R2} (h:M3 X r) (h':M3 X r'):M3 X (fun x y H Q=>r x y H Q\/r' x y H Q):=by
 refine .mk ?_;intro value slice pins s σ H x y v u Q I rx ry q hs;rcases q with q | q
 ·exact h value slice pins s σ H x y v u Q I rx ry q hs
 ·exact h' value slice pins s σ H x y v u Q I rx ry q hs
theorem bA {r:R2} (hr:M3 X r) (ha:PE X a ta) (hb:PE X b tb) (hs:Qm b):PE X (.Subscript a b pos) (Rk r ta tb):=by
 refine .mk ?_;intro pins s σ H Q I h;exact Subscript_ (Tz ha hb I h fun v u s2 x y H2 I2 rx ry q=>hr a b pins s2 σ H2 x y v u Q I2 rx ry q (hs _ _))
def Ys (K:PySem.W.Frag):R2:=fun x y H Q=>∃p xs i v,x=.ref p/\y=.int i/\dI K H p xs/\DR xs i=some v/\Q v H
def Yr (K:PySem.W.Frag):R2:=fun x y H Q=>∃p xs i v,x=.ref p/\y=.int i/\cY K H p xs/\DR xs i=some v/\Q v H
theorem FJ:M3 X (Ys X.K):=by
 refine .mk ?_;intro value slice pins s σ H x y v u Q I rx ry h hs;obtain⟨p,xs,i,z,rfl,rfl,hq,he,q⟩:=h;cases rx;obtain⟨t,rfl⟩:=ry;obtain⟨its,r,pl,hz⟩:=I.list hq;obtain⟨j,h1,h2,h3,h4,h5⟩:=Gp he;obtain⟨w,ew,Hd⟩:=r.get h2;have hl:=r.length;have hn:=sG;have fin:EP X pins σ Q w s:=⟨z,H,I,Hd,q⟩;by_cases h0:0<=i
 ·have hj:i.toNat=j:=by
   rw[seqIndex_of h0 h5] at h1;exact Option.some.inj h1
  exact item_listR pl.isList h0 (by omega) (by rw[hj]; simpa using ew) fin hs
 ·have hj:(i+(its.toArray.size:Int)).toNat=j:=by
   rw[seqIndex_neg (by omega) h4] at h1
   rw[fj,<- hl];exact Option.some.inj h1
  exact subscriptTail_builtinR (x:=w) pl.isList.typeIs slot_list_getitem.lookup
   (wpAny_getItem_list_neg (Q:=fun r s'=>r=w/\EP X pins σ Q r s') pl.isList (by omega) (by rw[fj] <;> omega) (by omega) (by rw[hj]; simpa using ew) ⟨rfl,fin⟩) hs
theorem S_:M3 X (Yr X.K):=by
 refine .mk ?_;intro value slice pins s σ H x y v u Q I rx ry h hs;obtain⟨p,xs,i,z,rfl,rfl,hq,he,q⟩:=h;cases rx;obtain⟨t,rfl⟩:=ry;obtain⟨its,r,pl,hz⟩:=I.tuple hq;obtain⟨j,h1,h2,h3,h4,h5⟩:=Gp he;obtain⟨w,ew,Hd⟩:=r.get h2;have hl:=r.length;have hn:=sG;have fin:EP X pins σ Q w s:=⟨z,H,I,Hd,q⟩;exact subscriptTail_builtinR (x:=w) pl.typeIs slot_tuple_getitem.lookup
  (getItem_tuple (j:=j) (Q:=fun r s'=>r=w/\EP X pins σ Q r s') pl (by omega) (by omega) (by rw[fj,<- hl]; exact h1) (by simpa using ew) ⟨rfl,fin⟩) hs
theorem CV (its:List Value) (n j:Nat) (u:Value):Obj.mapSeq (·.setIfInBounds j u) { cls:=.type "list",data:=.seq its.toArray n }={ cls:=.type "list",data:=.seq (its.set j u).toArray n }:=by
 simp[Obj.mapSeq]
theorem Inv.lst {pins:List (Addr×Obj)} {σ:St} {H:Hp} {s:Shared} {p:Addr} {xs:List V} (I:Inv X pins σ H s) (h:H p=some (.lst xs)) :
  ∃(its:List Value) (n:Nat),Vals xs its/\s.heap.get? p=some { cls:=.type "list",data:=.seq its.toArray n }/\xs.length<=sizeLine:=by
 obtain⟨z,its,n,r,e⟩:=I.hok p _ h;exact⟨its,n,r,e,z⟩
theorem Inv.SN {pins:List (Addr×Obj)} {σ:St} {H:Hp} {s:Shared} {p:Addr} {xs ys:List V} {its its':List Value} {n n':Nat} {f:Obj->Obj} (I:Inv X pins σ H s) (h:H p=some (.lst xs))
  (ho:s.heap.get? p=some { cls:=.type "list",data:=.seq its.toArray n }) (hf:f { cls:=.type "list",data:=.seq its.toArray n }={ cls:=.type "list",data:=.seq its'.toArray n' }) (r:Vals ys its') (hz:ys.length<=sizeLine) (t:Nat) :
  Inv X pins σ (upd H p (.lst ys)) { s with heap:=s.heap.update p f,toks:=t }:=by
 have e:(s.heap.update p f).get? p=some { cls:=.type "list",data:=.seq its'.toArray n' }:=by
  rw[zE f ho (by rw[hf] <;> rfl),hf]
 refine I.write (x:=p) (e:=p) (by rw[h]; trivial) (.inl rfl) (fun b u hb q=>(qj _ _ (Ne.symm hb)).trans q) ⟨_,e⟩ ?_
 exact⟨hz,its',n',r,e⟩
def VR:V->V->V->Hp->(Hp->Prop)->Prop:=fun o i v H Q=>∃p xs k j,o=.ref p/\i=.int k/\H p=some (.lst xs)/\Lp xs.length k=some j/\Q (upd H p (.lst (xs.set j v)))
theorem set_list:Jj X VR:=by
 refine .mk ?_;intro pins s σ H o i v ov iv u Q I ro ri rv h;obtain⟨p,xs,k,j,rfl,rfl,hp,hj,q⟩:=h;cases ro;obtain⟨t,rfl⟩:=ri;obtain⟨its,n,r,ho,hz⟩:=I.lst hp;obtain⟨h1,h2,h3,h4⟩:=FP hj;have hl:=r.length;have hn:=sG
 have I':Inv X pins σ (upd H p (.lst (xs.set j v))) { s with heap:=s.heap.update p (Obj.mapSeq (·.setIfInBounds j u)) }:=
  I.SN hp ho (CV its n j u) (r.set rv j) (by rw[List.length_set]; exact hz) s.toks
 by_cases h0:0<=k
 ·have hk:k.toNat=j:=by
   rw[seqIndex_of h0 h4] at h1;exact Option.some.inj h1
  exact PySem.W.ki_setAt ho h0 (by omega) (by rw[fj,<- hl]; exact h4) (by rw[hk]; exact⟨_,I',q⟩)
 ·have hk:(k+(its.toArray.size:Int)).toNat=j:=by
   rw[seqIndex_neg (by omega) h3] at h1
   rw[fj,<- hl];exact Option.some.inj h1
  exact PySem.W.ki_setBack ho (by omega) (by rw[fj,<- hl]; exact h3) (by omega) (by rw[hk]; exact⟨_,I',q⟩)
theorem wO (lo hi:Option Int) (n:Nat):(sliceBounds lo hi none n).1=((HT.e_ n 0 lo:Nat):Int)/\(sliceBounds lo hi none n).2.1=((HT.e_ n n hi:Nat):Int)/\(sliceBounds lo hi none n).2.2=1:=by
 refine⟨?_,?_,rfl⟩
 ·cases lo with
  | none=>simp[sliceBounds,HT.e_]
  | some i=>
   simp only[sliceBounds,HT.e_,Option.getD_none,show(1:Int)>0 by decide,if_true]
   by_cases h:i<0
   ·simp only[h,if_true] <;> omega
   ·simp only[h,if_false] <;> omega
 ·cases hi with
  | none=>simp[sliceBounds,HT.e_]
  | some i=>
   simp only[sliceBounds,HT.e_,Option.getD_none,show(1:Int)>0 by decide,if_true]
   by_cases h:i<0
   ·simp only[h,if_true] <;> omega
   ·simp only[h,if_false] <;> omega
theorem ur (its:List Value) (lo hi:Option Int):slicePick its.toArray lo hi none=((its.drop (HT.e_ its.length 0 lo)).take (HT.e_ its.length its.length hi-HT.e_ its.length 0 lo)).toArray:=by
 obtain⟨h1,h2,h3⟩:=wO lo hi its.toArray.size;unfold slicePick;rw[h1,h2,h3];simp only[sliceRange_one,pick_run,fj] <;> rfl
def Yo (K:PySem.W.Frag):V->Option Int->Option Int->Hp->VK->Prop:=fun x lo hi H Q=>∃a xs,x=.ref a/\dI K H a xs/\∀p,H p=none->Q (.ref p) (upd H p (.lst (jK xs lo hi)))
theorem mL:Uw X (Yo X.K):=by
 refine .mk ?_;intro pins s σ H x v vl vu lo hi sl Q I rx hs pl pu h;obtain⟨a,xs,rfl,hx,q⟩:=h;cases rx;obtain⟨its,r,ht,hz⟩:=I.list hx;have hlen:=r.length;refine⟨"list",_,slot_list_getitem.lookup,ht.isList.typeIs,?_⟩;refine wpAny_getItem_list_slice ht.isList hs pl pu .none (by simp) ?_ (by rw[fj] <;> omega)
 rw[ur,<- hlen];refine⟨.ref s.heap.objs.size,_,I.laid (t':=s.toks) (o:=.lst (jK xs lo hi)) (fun b ob q=>dW _ q) (bN _) ?_,rfl,q _ (I.hok.fresh (bN _))⟩;exact⟨mZ (pZ xs lo hi) hz,_,0,(r.drop (HT.e_ xs.length 0 lo)).take (HT.e_ xs.length xs.length hi-HT.e_ xs.length 0 lo),jk _ rfl⟩
theorem yc:cV X (.builtin "len") (fun xs H Q=>∃p ys,xs=[.ref p]/\(dI X.K H p ys\/cY X.K H p ys)/\Q (.int ys.length) H):=by
 refine .mk ?_;intro pins s σ H xs us Q I r h;obtain⟨p,ys,rfl,hq,q⟩:=h;obtain⟨u,rfl,rx⟩:=vals1 r;cases rx;have hn:=sG;rcases hq with hq | hq
 ·obtain⟨its,r',pl,hz⟩:=I.list hq;have hlen:=r'.length;exact Calls.call_len_list pl.isList (by simp only[fj] <;> omega) ⟨.int ys.length,H,I.tok _,⟨s.toks+1,by rw[fj,hlen]⟩,q⟩
 ·obtain⟨its,r',pl,hz⟩:=I.tuple hq;have hlen:=r'.length;exact len_tuple pl (by simp only[fj] <;> omega) ⟨.int ys.length,H,I.tok _,⟨s.toks+1,by rw[fj,hlen]⟩,q⟩
theorem nQ:cV X (.type "list") (fun xs H Q=>∃p ys,xs=[.ref p]/\(dI X.K H p ys\/cY X.K H p ys)/\∀l,H l=none->Q (.ref l) (upd H l (.lst ys))):=by
 refine .mk ?_;intro pins s σ H xs us Q I r h;obtain⟨p,ys,rfl,hq,q⟩:=h;obtain⟨u,rfl,rx⟩:=vals1 r;cases rx;have fin:∀(its:List Value),Vals ys its->ys.length<=sizeLine->∀(h':Heap) (c':Nat),(∀b o',s.heap.get? b=some o'->h'.get? b=some o') ->
   h'.get? s.heap.objs.size=some { cls:=.type "list",dict:=none,data:=.seq its.toArray c',slots:=#[] }->EP X pins σ Q (.ref s.heap.objs.size) { s with heap:=h' }:=fun its r' hz h' c' kp e=>
  ⟨.ref s.heap.objs.size,_,I.laid (t':=s.toks) kp (bN _) (show b8 X.prog X.w _ h' _ (.lst ys) from⟨hz,its,c',r',e⟩),rfl,q _ (I.hok.fresh (bN _))⟩
 rcases hq with hq | hq
 ·obtain⟨its,r',pl,hz⟩:=I.list hq;have hlen:=r'.length;obtain⟨o,ho,hc,n,hd⟩:=pl.isList;exact call_list_seq p (.inl rfl) ho hc hd (fun h' c' kp e=>fin its r' hz h' c' kp e) (by simp only[fj] <;> omega)
 ·obtain⟨its,r',pl,hz⟩:=I.tuple hq;have hlen:=r'.length;obtain⟨o,ho,hc,n,hd⟩:=pl;exact call_list_seq p (.inr rfl) ho hc hd (fun h' c' kp e=>fin its r' hz h' c' kp e) (by simp only[fj] <;> omega)
theorem uH:cV X (.type "tuple") (fun xs H Q=>∃p ys,xs=[.ref p]/\((dI X.K H p ys/\∀l,H l=none->Q (.ref l) (upd H l (.tup ys)))\/(cY X.K H p ys/\Q (.ref p) H))):=by
 refine .mk ?_;intro pins s σ H xs us Q I r h;obtain⟨p,ys,rfl,h⟩:=h;obtain⟨u,rfl,rx⟩:=vals1 r;cases rx;rcases h with⟨hq,q⟩ | ⟨hq,q⟩
 ·obtain⟨its,r',pl,hz⟩:=I.list hq;have hlen:=r'.length;refine call_tuple_list pl.isList (fun h' kp=>?_) (by simp only[fj] <;> omega)
  have I1:Inv X pins σ H { s with heap:=h' }:=I.kept (t':=s.toks) kp
  have I2:Inv X pins σ (upd H h'.objs.size (.tup ys)) { s with heap:=h'.push { cls:=.type "tuple",data:=.seq its.toArray } }:=
   I1.laid (t':=s.toks) (fun b o e=>dW _ e) (bN _) (show b8 X.prog X.w _ _ _ (.tup ys) from⟨hz,its,r',IsTup.new _ _⟩)
  exact⟨.ref h'.objs.size,_,I2,rfl,q _ (I1.hok.fresh (bN _))⟩
 ·obtain⟨its,r',pl,hz⟩:=I.tuple hq;exact call_tuple_same pl ⟨.ref p,H,I,rfl,q⟩
def Xj (K:PySem.W.Frag) (T:String) (x:V) (H:Hp):Prop:=match x with
 | .str _=>T = "str"
 | .int _=>T = "int"
 | .ref p=>(T = "list" /\ ∃xs,dI K H p xs)\/(T = "tuple" /\ ∃o,K.lookup p=some o/\o.cls=.type "tuple" /\ o.dict=none) \/
   (T = "dict" /\ ((∃kvs,H p=some (.dK kvs))\/∃kvs,H p=some (.dT kvs)))\/(T = "set" /\ ∃S n,H p=some (.set S n))
 | _=>False
theorem JG {pins:List (Addr×Obj)} {σ:St} {H:Hp} {s:Shared} {T:String} {x:V} {v:Value} (I:Inv X pins σ H s) (r:RelV x v) (ty:Xj X.K T x H) :
  s.TypeIs v T/\∀a,v=.ref a->∃ob,s.heap.get? a=some ob/\ob.dict=none:=by
 cases x with
 | str z=>
  obtain⟨t,rfl⟩:=r;cases(show T = "str" from ty);exact⟨typeIs_str s z t,fun _ e=>nomatch e⟩
 | int i=>
  obtain⟨t,rfl⟩:=r;cases(show T = "int" from ty);exact⟨typeIs_int s i t,fun _ e=>nomatch e⟩
 | ref p=>
  cases r;rcases ty with⟨rfl,xs,hq⟩ | ⟨rfl,o,hk,hc,hd⟩ | ⟨rfl,hk⟩ | ⟨rfl,S,n,hk⟩
  ·obtain⟨its,_,pl,_⟩:=I.list hq;refine⟨pl.isList.typeIs,fun a e=>?_⟩;cases e;obtain⟨o,n,e,c,hd,_⟩:=pl;exact⟨o,e,hd⟩
  ·refine⟨⟨o,I.kO p o hk,hc⟩,fun a e=>?_⟩;cases e;exact⟨o,I.kO _ o hk,hd⟩
  ·have z:∃o,s.heap.get? p=some o/\o.ExactDict:=by
    rcases hk with⟨kvs,hk⟩ | ⟨kvs,hk⟩
    ·obtain⟨_,_,_,_,o,_,_,e,ex,_⟩:=I.hok p _ hk;exact⟨o,e,ex⟩
    ·obtain⟨_,_,_,_,o,_,_,e,ex,_⟩:=I.hok p _ hk;exact⟨o,e,ex⟩
   obtain⟨o,e,ex⟩:=z;refine⟨⟨o,e,ex.1⟩,fun a e2=>?_⟩;cases e2;exact⟨o,e,ex.2.1⟩
  ·obtain⟨o,_,_,_,e,ex,_⟩:=I.hok p _ hk;refine⟨⟨o,e,ex.1⟩,fun a e2=>?_⟩;cases e2;exact⟨o,e,ex.2.1⟩
 | _=>exact False.elim ty
def Yc (K:PySem.W.Frag) (T:String) (r:V->List V->Hp->VK->Prop) (to:TE) (t:TA):TE:=fun σ H Q=>to σ H fun x H1=>Xj K T x H1/\t σ H1 fun xs H2=>r x xs H2 Q
variable {o e:Expr} {es:List Expr} {to:TE} {t:TA} {name:Str} {apos cpos:Pos} {T id:String} {r:V->List V->Hp->VK->Prop}
theorem Wb (pa:PlainAttrs T) (slot:Slot T name id) (hty:typeOf (.builtin id)=pure (.type "method_descriptor")) (hm:T7 X id r) (ho:PE X o to) (ha:PA X (e::es) t)
  (hbase:attributeBase o name X.env (eval o X.env)=eval o X.env:=by rfl)
  (hfew:((backTo cpos (starEach (e::es) X.env)).all (fun x=>!x.1)&&(backToKw cpos (keywordEach [] X.env)).all (fun x=>x.1.isSome)
   && decide ((e::es).length+([]:List Keyword).length+(if([]:List Keyword).isEmpty then 0 else 1)<30))=true:=by rfl)
  (hline:(apos.endLine==cpos.line)=true:=by rfl) (hs:starEach (e::es) X.env=(false,eval e X.env)::starEach es X.env:=by rfl) (hplain:(backTo cpos (starEach es X.env)).any (·.1)=false:=by rfl) :
  PE X (.Call (.Attribute o name apos) (e::es) [] cpos) (Yc X.K T r to t):=by
 refine .mk ?_;intro pins s σ H Q I h;refine wpAny_Call_method_late hbase hfew hline rfl (cH (ho pins s σ H _ I h) fun v s1 qx=>?_);obtain⟨x,H1,I1,r1,ty,q1⟩:=qx;obtain⟨h1,h2⟩:=JG I1 r1 ty;refine⟨T,id,pa,slot,hty,h1,h2,?_⟩;have hA:=ha cpos pins s1 σ H1 _ I1 q1;rw[hs] at hA ⊢;refine Calls.callWith_builtin (by show(false || (backTo cpos (starEach es X.env)).any (·.1))=false; rw[hplain] <;> rfl) (Calls.evalArgs_plain ?_)
 exact cH hA fun us s2 ⟨vs,H2,I2,r2,q2⟩=>hm pins s2 σ H2 x vs v us Q I2 r1 r2 q2
end
def MtM (X:Cx) (id:String) (r:V->List V->Hp->VK->Prop):Prop:=
 ∀(pins:List (Addr×Obj)) (s:Shared) (σ:St) (H:Hp) (x:V) (xs:List V) (v:Value) (us:List Value) (Q:VK),Inv X pins σ H s->RelV x v->Vals xs us->r x xs H Q ->
  wpAny (model X.prog X.w) X.A (call (.builtin id) (v::us)) (EP X pins σ Q) X.xe s
theorem Vals.un {x:V} {xs:List V} {us:List Value} (h:Vals (x::xs) us):∃u r,us=u::r/\RelV x u/\Vals xs r:=by
 cases h with
 | cons r t=>exact⟨_,_,rfl,r,t⟩
theorem Vals.no {us:List Value} (h:Vals [] us):us=[]:=by
 cases h;rfl
theorem Vals.one {x:V} {us:List Value} (h:Vals [x] us):∃u,us=[u]/\RelV x u:=by
 obtain⟨u,r,rfl,h1,h⟩:=h.un;cases h.no;exact⟨u,rfl,h1⟩
theorem Vals.two {x y:V} {us:List Value} (h:Vals [x,y] us):∃u v,us=[u,v]/\RelV x u/\RelV y v:=by
 obtain⟨u,r,rfl,h1,h⟩:=h.un;obtain⟨v,rfl,h2⟩:=h.one;exact⟨u,v,rfl,h1,h2⟩
theorem Vals.rep {xs:List V} {us:List Value} (h:Vals xs us):∀k:Nat,Vals (List.replicate k xs).flatten (List.replicate k us).flatten
 | 0=>.nil
 | k+1=>by
  rw[Cj,Cj,Kh,Kh];exact Vals.append h (Vals.rep h k)
theorem foldl_rep (its:List Value):∀(k:Nat) (acc:List Value),
  List.foldl (fun x1 x2=>x1++x2) acc.toArray (List.replicate k its.toArray)=(acc++(List.replicate k its).flatten).toArray
 | 0,acc=>by simp
 | k+1,acc=>by
  have e:acc.toArray++its.toArray=(acc++its).toArray:=by simp
  have e2:(acc++its)++(List.replicate k its).flatten=acc++(List.replicate (k+1) its).flatten:=by
   rw[Cj,Kh,Ey]
  rw[<- e2,<- foldl_rep its k (acc++its),<- e,Cj,List.foldl_cons]
section
variable {X:Cx} {pins:List (Addr×Obj)} {σ:St} {H:Hp} {s:Shared} {l b:Addr} {xs ys zs:List V}
theorem Inv.YH {its its':List Value} {n:Nat} {f:Array Value->Array Value} {t':Nat} (I:Inv X pins σ H s) (hH:H l=some (.lst xs))
  (e:s.heap.get? l=some { cls:=.type "list",data:=.seq its.toArray n }) (hf:f its.toArray=its'.toArray) (hv:Vals ys its') (hz:ys.length<=sizeLine) :
  Inv X pins σ (upd H l (.lst ys)) { s with heap:=s.heap.update l (Obj.mapSeq f),toks:=t' }:=by
 have q:=PySem.IsL.update e f;rw[hf] at q;refine I.write (x:=l) (e:=l) (by rw[hH]; exact trivial) (.inl rfl) (fun b' u hb hu=>(qj s.heap (Obj.mapSeq f) (Ne.symm hb)).trans hu) ⟨_,q⟩ ?_
 exact⟨hz,its',_,hv,q⟩
theorem Inv.Pj {its:List Value} {t':Nat} (I:Inv X pins σ H s) (hv:Vals ys its) (hz:ys.length<=sizeLine) :
  Inv X pins σ (upd H s.heap.objs.size (.lst ys)) { s with heap:=s.heap.push { cls:=.type "list",data:=.seq its.toArray },toks:=t' }:=
 I.laid (fun _ _ q=>dW _ q) (bN _) ⟨hz,its,0,hv,jk _ rfl⟩
theorem Inv.fresh (I:Inv X pins σ H s):H s.heap.objs.size=none:=I.hok.fresh (bN _)
theorem Inv.Pg (I:Inv X pins σ H s) (hH:H l=some (.lst xs)):xs.length<=sizeLine/\∃(its:List Value) (n:Nat),Vals xs its/\xs.length=its.length/\s.heap.get? l=some { cls:=.type "list",data:=.seq its.toArray n }:=by
 obtain⟨z,its,n,r,e⟩:=I.hok l _ hH;exact⟨z,its,n,r,r.length,e⟩
theorem La {n:Nat} (h:n<=sizeLine):Builtin.List.listTooLong n=false:=by
 unfold Builtin.List.listTooLong;exact jV (by omega)
end
section
variable {X:Cx}
def Eu:V->List V->Hp->VK->Prop:=fun x vs H Q=>∃l xs y,x=.ref l/\vs=[y]/\H l=some (.lst xs)/\xs.length<sizeLine/\Q .non (upd H l (.lst (xs++[y])))
theorem eG:MtM X "list.append" Eu:=by
 intro pins s σ H x vs v us Q I rx rv h;obtain⟨l,xs,y,rfl,rfl,hH,hz,q⟩:=h;cases rx;obtain⟨u,rfl,ru⟩:=rv.one;obtain⟨z,its,n,r,hl,e⟩:=I.Pg hH;refine call_meets F.slot_list_append ⟨_,e,rfl⟩ F.entry_list_append (F.args_list_append_2 _ _) (PySem.list_append l its.toArray n u (by rw[fj]; omega)) ⟨e,?_⟩
 refine⟨.non,_,I.YH (its':=its++[u]) hH e (by simp) (r.append (.cons ru .nil)) ?_,rfl,q⟩
 rw[gF,List.length_singleton];omega
def Hf:R2:=fun x y H Q=>∃l b xs zs,x=.ref l/\y=.ref b/\H l=some (.lst xs)/\H b=some (.lst zs)/\xs.length+zs.length<=sizeLine/\∀p,H p=none->Q (.ref p) (upd H p (.lst (xs++zs)))
theorem xn:mD X (binaryOp .Add) Hf:=by
 refine .mk ?_;intro pins s σ H x y v u Q I rx ry h;obtain⟨l,b,xs,zs,rfl,rfl,hH,hB,hz,q⟩:=h;cases rx;cases ry;obtain⟨z,its,n,r,hl,e⟩:=I.Pg hH;obtain⟨z2,its2,n2,r2,hl2,e2⟩:=I.Pg hB;refine PySem.P.add_list e e2 ?_ (by rw[fj,fj]; omega)
 have ea:its.toArray++its2.toArray=(its++its2).toArray:=by simp
 rw[ea];exact⟨.ref _,_,I.Pj (t':=s.toks) (r.append r2) (by rw[gF]; omega),rfl,q _ I.fresh⟩
def Yp:R2:=fun x y H Q=>∃l k xs,x=.ref l/\y=.int k/\H l=some (.lst xs)/\-(2 ^ 63)<=k/\k<2 ^ 63/\xs.length*k.toNat<=sizeLine /\
 ∀p,H p=none->Q (.ref p) (upd H p (.lst (List.replicate k.toNat xs).flatten))
theorem len_rep {α:Type} (xs:List α) (k:Nat):(List.replicate k xs).flatten.length=k*xs.length:=by
 induction k with
 | zero=>simp
 | succ k ih=>rw[Cj,Kh,gF,ih,Nat.succ_mul,Nat.add_comm]
theorem R8:mD X (binaryOp .Mult) Yp:=by
 refine .mk ?_;intro pins s σ H x y v u Q I rx ry h;obtain⟨l,k,xs,rfl,rfl,hH,h1,h2,hz,q⟩:=h;cases rx;obtain⟨t,rfl⟩:=ry;obtain⟨z,its,n,r,hl,e⟩:=I.Pg hH;have hlen:its.toArray.size*k.toNat<=sizeLine:=by rw[fj,<- hl]; exact hz
 have Y6:¬its.toArray.size*k.toNat>(2 ^ 63-1) / 8:=by
  have:(sizeLine:Nat)<=(2 ^ 63-1) / 8:=by decide
  omega
 have hfit:¬(!Builtin.List.listFitsIndex k)=true:=by
  rw[fitsIndex_both h1 h2];exact jW
 have Wt:¬Builtin.List.listTooLong (its.toArray.size*k.toNat)=true:=by
  rw[La hlen];exact jW
 have hnew:List.foldl (fun x1 x2=>x1++x2) #[] (List.replicate (if its.toArray.isEmpty=true then 0 else k.toNat) its.toArray)=(List.replicate k.toNat its).flatten.toArray:=by
  have f0:∀m:Nat,List.foldl (fun x1 x2=>x1++x2) #[] (List.replicate m its.toArray)=(List.replicate m its).flatten.toArray:=fun m=>by
   have:=foldl_rep its m [];rw[zT] at this;exact this
  rw[f0];cases its with
  | nil=>simp
  | cons a r'=>rw[bx (by simp)]
 refine wpAny_binaryOp_repeat_ref (T:="list") (U:="int") (by decide) ⟨_,e,rfl⟩ (fun s'=>typeIs_int s' k t) noFill_list_mul F.fills_int_mul F.slot_int_rmul repeat_list F.slot_int_index.lookup
  (call_meets F.slot_int_rmul (typeIs_int s k t) F.entry_int_rmul (F.args_int_rmul_2 _ _) (int___rmul___int_list k t l its.toArray n)
   ⟨e,rfl,⟨_,e,rfl⟩,call_meets F.slot_list_mul ⟨_,e,rfl⟩ F.entry_list_mul (F.args_list_mul_2 _ _) (AutoListH.list___mul___list_int_3 l its.toArray n k t hfit Y6 Wt) ⟨e,?_⟩⟩)
 rw[hnew];exact⟨.ref _,_,I.Pj (t':=s.toks) (r.rep k.toNat) (by rw[len_rep,Nat.mul_comm]; exact hz),rfl,q _ I.fresh⟩
end
section
variable {prog:Program} {w:World} {A:Around} {E:Value->Shared->Prop} {s:Shared}
end
section
variable {X:Cx}
end
end L2
namespace Att
open PySem PySem.W PySem.Calls PyProof.Rows
theorem qm {P:Params} {h:Heap}:∀(ns:List Int) (vs:List Value),WellAll P h vs (ns.map WData.int)->IntsAre vs ns:=by
 intro ns
 induction ns with
 | nil=>
  intro vs w;rw[List.map_nil] at w;cases w;exact .nil
 | cons n ns ih=>
  intro vs w;rw[ux] at w;cases w with
  | cons a b=>
   cases a;exact .cons _ _ (ih _ b)
theorem Ha {l:OpenLaw} {n:Nat} (hn:l.most=some n) {P:Params} {h:Heap} {args:List WData} {vals:List Value}
  (hpre:l.row.toRowW.claim.pre args=true) (hwl:WellAll P h vals args) :
  ∃a vs ns,vals=[Value.ref a]/\args=[WData.list (ns.map WData.int)]/\h.get? a=some { cls:=.type "list",data:=.seq vs.toArray }/\IntsAre vs ns/\ns.length<=n:=by
 have hsh:WShape.hasAll [] args [.list .int]=true:=(pre_splitW hpre).1;have hc:l.pre.holds [] { args:=args }=true:=(pre_splitW hpre).2;obtain⟨d,r,rfl,h1,h2⟩:=hasAllW_cons hsh;obtain rfl:=hasAllW_nil h2;obtain⟨xs,rfl,h3⟩:=hasW_list h1;obtain⟨ns,rfl⟩:=items_int h3
 have hlen:ns.length<=n:=by
  unfold OpenLaw.pre at hc
  have h4:(WTm.not (.lt (.lit (.int (n:Int))) (.len (.arg 0)))).holds [] { args:=[.list (ns.map .int)] }=true:=by
   have h4:=(holds_andW hc).1;rw[hn] at h4;exact h4
  have h5:=condW_of h4 (w_not (w_lt w_lit (w_len_list (w_arg rfl))));rw[dH] at h5;refine Nat.le_of_not_lt fun q=>?_;have q':(n:Int)<((ns.length:Nat):Int):=by omega
  first
   | (rw[jo q'] at h5; exact absurd h5 (by decide))
   | (simp at h5; omega)
 cases hwl with
 | cons w1 w2=>
  cases w2;cases w1 with
  | list ho hall=>exact⟨_,_,ns,rfl,rfl,ho,qm ns _ hall,hlen⟩
theorem Hv (l:OpenLaw) (args:List WData):l.row.toRowW.claim.post args (.bool true) args=true:=
 postW_of (r:=l.row.toRowW) (X:=(true==true))
  (show WShape.has [] (.bool true) .bool=true by first | rfl | decide | simp[WShape.has,WShape.arms,WShape.armsAll])
  (show(WTm.eq .res (.lit (.bool true))).value [] { args:=args,res:=some (.bool true),after:=args }=some (.bool (true==true)) from w_eq_bool (w_res rfl) w_lit) rfl
theorem Bd {l:OpenLaw} {n:Nat} {q:Program} {loose:List Str} {XP:(Str->Option Value)->Heap->Prop} {YP:World->Heap->Prop} {d:DefRec}
  (hn:l.most=some n) (hdf:d.params.defaults=[])
  (call:∀(w:World) (s₀ s₁:Shared) (mg mb:Str->Option Value) (fa:Addr) (o:Obj) (pm cd doc:Value) (a:Addr) (vs:List Value) (ns:List Int),
   Ground q loose [] XP w s₀ mg mb s₁.heap->YP w s₁.heap ->
   s₁.heap.get? fa=some o->o.data=.func (docDef d.name d.params d.body d.scope pm cd doc)->s₁.heap.CodeRec cd d.name->mg d.name=some (.ref fa) ->
   s₁.heap.get? a=some { cls:=.type "list",data:=.seq vs.toArray }->IntsAre vs ns->ns.length<=n->s₁.gens = #[] ->
   codeAny (model l.prog w) callerA (.call (.ref fa) ⟨[.ref a],[]⟩) (fun r s'=>r=.ok (.ret (.bool true))/\OldK s₁.heap s'.heap/\s'.os=s₁.os/\AllBare s'.gens) s₁) :
  WalkO q loose XP YP l.row.toRowW d [] (fun f vs=>PySem.call f vs):=by
 intro w s₀ s₁ mg mb G Y fa o pm cd doc dV kV ho hd hcd hD hmg hg args vals as hpre hlay hrd hwl hlo;obtain rfl:dV=.none:=Dflts.none hD hdf;obtain rfl:kV=.none:=Dflts.noKw hD;obtain⟨a,vs,ns,rfl,rfl,hobj,hints,hlen⟩:=Ha hn hpre hwl;refine enter_call (codeAny_mono (call w s₀ s₁ mg mb fa o pm cd doc a vs ns G Y ho (fd_plain hd) hcd hmg hobj hints hlen hg) fun r s' hq=>?_);obtain⟨rfl,h2,h3,h4⟩:=hq;exact⟨.inl ⟨.bool true,.bool true,[],rfl,fun _=>rfl,.bool true,Hv l _,fun _=>⟨List.Pairwise.nil,fun _ hm=>(nomatch hm)⟩⟩,h2,h3,h4⟩
section
variable {prog:Program} {w:World} {A:Around} {E:Value->Shared->Prop} {s:Shared} {K:Frag}
def ledger (h:Heap) (L d:Addr):List (Addr×Obj):=(List.range h.objs.size).filterMap fun a=>if a=L\/a=d then none else(h.get? a).map fun o=>(a,o)
end
end Att
namespace L2
open PySem PySem.Spec PyProof.Rows
theorem uT:∀{vs:List Value} {ns:List Int},IntsAre vs ns->Vals (ns.map V.int) vs
 | _,_,.nil=>.nil
 | _,_,.cons n t h=>.cons ⟨t,rfl⟩ (uT h)
def Only (H:Hp):Prop:=∀b,H b=none\/∃o xs,H b=some (.yF o (.lst xs))
theorem Lj {P:Program} {w:World} {K:PySem.W.Frag} {mg mb:Str->Option Value} {CX:Gr} {k:Nat} {fa a:Addr} {fd:FuncData} {x:Str} {sp:Sp} {s₁:Shared} {vs:List Value} {ns:List Int}
  (KX:K.In s₁.heap) (hns:s₁.heap.Ns mainGlobals mg) (hb:s₁.heap.Ns builtinsNs mb) (hbb:∀x:Str,x ≠ "__name__" -> mb x=bootBuiltins x) (hlim:s₁.heap.NoLimit) (hg:s₁.gens = #[])
  (ha:s₁.heap.get? a=some { cls:=.type "list",data:=.seq vs.toArray }) (hi:IntsAre vs ns) (hl:ns.length<=sizeLine) (hr:gw k callerA)
  (F:∀base:Heap,K.In base->base.Ns mainGlobals mg->bV P w K mg base CX k fa fd [x] sp) (hbind:∀(s:Shared) (u:Value),BindsTo s fd ⟨[u],[]⟩ [(x,u)])
  (hsp:∀H:Hp,Only H->dI K H a (ns.map V.int)->sp [.ref a] H (fun v _=>v=.bl true) fun _ _ _=>False)
  (Y8:∀H e s',CX [] H s₁ (fun _ _ _=>False) e s'->False) :
  codeAny (model P w) callerA (.call (.ref fa) ⟨[.ref a],[]⟩) (fun r s'=>r=.ok (.ret (.bool true))/\OldK s₁.heap s'.heap/\s'.os=s₁.os/\AllBare s'.gens) s₁:=by
 have rv:=uT hi;have lenV:=hi.length;have core:∀H:Hp,Only H->dI K H a (ns.map V.int)->jF P w H s₁.heap->(∀b,H b≠none->b=a)->(H a≠none->K.lookup a=none) ->
   codeAny (model P w) callerA (.call (.ref fa) ⟨[.ref a],[]⟩) (fun r s'=>r=.ok (.ret (.bool true))/\OldK s₁.heap s'.heap/\s'.os=s₁.os/\AllBare s'.gens) s₁:=by
  intro H hO hS hok hA hK;have Gn:∀{b:Addr} {o:Obj},s₁.heap.get? b=some o->H b=none->(xP s₁.heap H).get? b=some o:=fun e n=>Lz e n
  have Wg:∀{b:Addr} {o:Obj} {es:Array DictEntry} {ep:Nat},s₁.heap.get? b=some o->o.data=.dict es ep->H b=none:=fun {b o es ep} e d=>by
   cases q:H b with
   | none=>rfl
   | some u=>
    have e':b=a:=hA b (by rw[q]; simp)
    subst e';rw[ha] at e; cases e;have d':Data.seq vs.toArray _=Data.dict es ep:=d;cases d'
  have Xp:∀{b:Addr} {m:Str->Option Value},s₁.heap.Ns b m->(xP s₁.heap H).Ns b m:=fun {b m} ⟨o,es,ep,e,d,r⟩=>⟨o,es,ep,Gn e (Wg e d),d,r⟩
  have hKb:K.In (xP s₁.heap H):=fun b o e=>Gn (KX b o e) (by
   cases q:H b with
   | none=>rfl
   | some u=>
    have e':b=a:=hA b (by rw[q]; simp)
    subst e'
    rw[hK (by rw[q]; simp)] at e; cases e)
  have hM:Mod K mg (xP s₁.heap H):=⟨hKb,Xp hns,⟨mb,Xp hb,hbb⟩,let ⟨mc,h1,h2⟩:=hlim; ⟨mc,Xp h1,h2⟩⟩;have e0:Qo P w K mg (xP s₁.heap H) callerA [] s₁ H:=⟨rfl,hM,fun b o e=>O4 e,Nat.le_of_eq (Ik _ _),trivial,fun b hb=>absurd (show b∈([]:List Addr) from hb) (by simp),hok,.of_eq hg⟩
  refine codeAny_mono ((F _ hKb (Xp hns)).run callerA [] s₁ H ⟨[.ref a],[]⟩ [.ref a] [.ref a] _ _ hr e0 (hbind s₁ (.ref a)) (.cons rfl .nil) (hsp H hO hS)) fun r s' h=>?_;cases r with
  | error e=>exact(Y8 H e s' h).elim
  | ok fl=>
   cases fl with
   | next=>exact False.elim h
   | brk=>exact False.elim h
   | cont=>exact False.elim h
   | ret u=>
    obtain⟨v,H',os,bare,un,hok',r',q⟩:=h;have q':v=.bl true:=q;subst q';obtain rfl:u=Value.bool true:=r';refine⟨rfl,OldK.of_keep fun b o e=>?_,os,bare⟩;cases q:H b with
    | none=>exact un.keep b o e q (by intro z; exact absurd (show b∈([]:List Addr) from z) (by simp)) (by simp)
    | some u=>
     rcases hO b with z | ⟨ob,xs,z⟩
     ·rw[q] at z; cases z
     ·have z2:=un.tu b ob _ z;obtain⟨e1,_⟩:=hok b _ z;obtain⟨e2,_⟩:=hok' b _ z2;rw[e] at e1; cases e1;exact e2
 cases hk:K.lookup a with
 | some o=>
  have e:=KX a o hk;rw[ha] at e;cases e;refine core (fun _=>none) (fun _=>.inl rfl) (.inr ⟨_,vs.toArray,_,hk,rfl,rfl,rfl,by rw[fj,lenV]; exact hl,by simpa using rv⟩) (fun b u z=>by have z':(none:Option HO)=some u:=z; cases z') (fun b z=>absurd rfl z) fun z=>absurd rfl z
 | none=>
  refine core (fun b=>if b=a then some (.yF { cls:=.type "list",data:=.seq vs.toArray } (.lst (ns.map V.int))) else none) (fun b=>?_) (.inl (.inr ⟨{ cls:=.type "list",data:=.seq vs.toArray },aR rfl⟩)) (fun b u z=>?_) (fun b z=>?_) fun _=>hk
  ·by_cases hb:b=a
   ·exact .inr ⟨_,_,aR hb⟩
   ·exact .inl (bx hb)
  ·by_cases hb:b=a
   ·have z':=(aR hb).symm.trans z;cases z';subst hb;exact⟨ha,by rw[dH]; exact hl,vs,_,rv,ha⟩
   ·have z':=(bx hb).symm.trans z;cases z'
  ·by_cases hb:b=a
   ·exact hb
   ·exact absurd (bx hb) z
abbrev KOf {K:PySem.W.Frag} {h:Heap} (_:K.In h):PySem.W.Frag:=K
theorem Nt {l:PySem.W.OpenLaw} {n k:Nat} {q:Program} {loose:List Str} {XP:(Str->Option Value)->Heap->Prop} {YP:World->Heap->Prop} {d:DefRec} {K:Params->PySem.W.Frag} {CX:World->Gr} {sp:World->Sp} {x:Str}
  (hn:l.most=some n) (hn2:n<=sizeLine) (hdf:d.params.defaults=[]) (hr:gw k callerA)
  (hY:∀(w:World) (h:Heap),YP w h->(K w.params).In h)
  (F:∀(w:World) (mg:Str->Option Value) (fa:Addr) (h:Heap),(K w.params).In h->h.Ns mainGlobals mg->mg d.name=some (.ref fa) ->
   ∃fd:FuncData,(∀(s:Shared) (u:Value),BindsTo s fd ⟨[u],[]⟩ [(x,u)]) /\
    ∀base:Heap,(K w.params).In base->base.Ns mainGlobals mg->bV l.prog w (K w.params) mg base (CX w) k fa fd [x] (sp w))
  (hsp:∀(w:World) (H:Hp) (a:Addr) (ns:List Int),ns.length<=n->Only H->dI (K w.params) H a (ns.map V.int)->sp w [.ref a] H (fun v _=>v=.bl true) fun _ _ _=>False)
  (Y8:∀(w:World) (H:Hp) (s:Shared) (e:Value) (s':Shared),CX w [] H s (fun _ _ _=>False) e s'->False) :
  PySem.W.WalkO q loose XP YP l.row.toRowW d [] (fun f vs=>PySem.call f vs):=by
 refine Att.Bd hn hdf fun w s₀ s₁ mg mb fa o pm cd doc a vs ns G Y ho hd hcd hmg hobj hints hlen hg=>?_;have KX:=hY w _ Y;obtain⟨fd,hb,hF⟩:=F w mg fa _ KX G.T.g hmg;exact Lj KX G.T.g G.T.b G.T.builtins G.T.nolimit hg hobj hints (mZ hlen hn2) hr hF hb (fun H hO hS=>hsp w H a ns hlen hO hS) fun H e s'=>Y8 w H s₁ e s'
end L2
namespace L2
open PySem PySem.Spec PyProof.Rows
def dU (s:Stmt):Arguments:=match s with
 | .FunctionDef _ a _ _ _ _ _ _ _ _=>a
 | _=>{ posonlyargs:=[],args:=[],vararg:=none,kwonlyargs:=[],kw_defaults:=[],kwarg:=none,defaults:=[] }
def cT (s:Stmt):List Stmt:=match s with
 | .FunctionDef _ _ b _ _ _ _ _ _ _=>b
 | _=>[]
def aM (s:Stmt):Scope:=match s with
 | .FunctionDef _ _ _ _ _ _ sc _ _ _=>sc
 | _=>{ kind:=.function,names:=[],isGenerator:=false,isCoroutine:=false }
abbrev ig:Gr:=fun _ _ _ _ _ _=>False
abbrev E0:XK:=fun _ _ _=>False
theorem K7 {X:Cx}:Passes ig X E0:=fun _ _ _ _ _ _ _ h=>h.elim
structure iY (K:PySem.W.Frag) (x qual:Str) (st:Stmt) (f:Addr) (fd:FuncData):Prop where
 ex:∃(oc:Value) (od:Option Addr) (kV doc pm:Value) (an:Option Addr) (cdv ct:Value) (osl:Array (Option Value)),
  fd=PySem.W.fnOf x qual (dU st) (cT st) (aM st) .none kV doc pm an cdv ct/\K.lookup f=some ⟨oc,od,.func fd,osl⟩/\PySem.W.codeIn K cdv qual=true
 kp:PySem.W.keepIn K (.ref f)=true
section
variable {P:Program} {w:World} {K:PySem.W.Frag} {mg:Str->Option Value} {base:Heap}
theorem iY.ok {x qual:Str} {st:Stmt} {f:Addr} {fd:FuncData} {N ps:List Str} {k:Nat} {sp:Sp} (F:iY K x qual st f fd) (S:bh N ps (aM st)) (len:∀vs H Q E,sp vs H Q E->vs.length=ps.length)
  (hbody:∀(cdv:Value) (A:Around) (outer:List Env) (s:Shared) (H:Hp) (vs:List V) (Q:VK) (E:XK),gw k (A.deeper (envOfC qual (aM st) s.heap.objs.size f cdv))->sp vs H Q E ->
   ∃t,yw (fK ig P w K mg base N qual (aM st) f cdv A outer s H E).Um (cT st) t/\t { nx:=fun _ H'=>Q .non H',rt:=Q } (start N vs) H):bV P w K mg base ig (k+1) f fd ps sp:=by
 obtain⟨oc,od,kV,doc,pm,an,cdv,ct,osl,rfl,lk,hcd⟩:=F.ex;refine Q5 lk hcd S len fun A outer s H vs Q E hr hsp=>?_;obtain⟨t,h,q⟩:=hbody cdv A outer s H vs Q E hr hsp;exact⟨t,h.Um,q⟩
theorem iY.binds {x qual:Str} {st:Stmt} {f:Addr} {fd:FuncData} {ps:List Str} (F:iY K x qual st f fd)
  (h:∀(kV doc pm:Value) (an:Option Addr) (cdv ct:Value) (us:List Value),us.length=ps.length->bindArgs (PySem.W.fnOf x qual (dU st) (cT st) (aM st) .none kV doc pm an cdv ct) ⟨us,[]⟩=pure (ps.zip us)):Binds K fd ps []:=by
 obtain⟨oc,od,kV,doc,pm,an,cdv,ct,osl,rfl,lk,hcd⟩:=F.ex;exact .all (h kV doc pm an cdv ct)
theorem L_ {x qual:Str} {st:Stmt} {f:Addr} {oc:Value} {od an:Option Addr} {osl:Array (Option Value)} {kV doc pm cdv ct:Value} (l:K.lookup f=some ⟨oc,od,.func (PySem.W.fnOf x qual (dU st) (cT st) (aM st) .none kV doc pm an cdv ct),osl⟩)
  (c:PySem.W.codeIn K cdv qual=true) (k:PySem.W.keepIn K (.ref f)=true):iY K x qual st f (PySem.W.fnOf x qual (dU st) (cT st) (aM st) .none kV doc pm an cdv ct):=⟨⟨oc,od,kV,doc,pm,an,cdv,ct,osl,rfl,l,c⟩,k⟩
end
theorem bD {n:Nat} (h:n<=1000):n<sizeLine:=Nat.lt_of_le_of_lt h (by decide)
section
variable {X:Cx}
theorem pv (i:Nat) {x:Str} {pos:Pos} (hN:X.N[i]?=some x:=by rfl) (hv:WT X.env.scope x:=by first | exact Or.inl rfl | exact Or.inr (Or.inl rfl) | exact Or.inr (Or.inr rfl)) (hd:(x==("__debug__" : Str))=false:=by decide)
  (hcd:(x==("__classdict__" : Str))=false:=by decide):PE X (.Name x pos) (um i):=R5 hN hv hd hcd
end
def aJ (H H':Hp):Prop:=∀b o,H b=some o->H' b=some o
theorem aJ.refl (H:Hp):aJ H H:=fun _ _ h=>h
theorem aJ.trans {H H1 H2:Hp} (a:aJ H H1) (b:aJ H1 H2):aJ H H2:=fun c o h=>b c o (a c o h)
theorem aJ.free {H H':Hp} (e:aJ H H') {l:Addr} (h:H' l=Option.none):H l=Option.none:=by
 cases q:H l with
 | none=>rfl
 | some o=>
  rw[e l o q] at h;cases h
section
variable {κ:Type} [DecidableEq κ]
def mH (kvs:List (κ×V)) (k:κ):Option V:=(kvs.find? fun kv=>decide (kv.1=k)).map (·.2)
def putK (kvs:List (κ×V)) (k:κ) (v:V):List (κ×V):=
 if(kvs.any fun kv=>decide (kv.1=k))=true then kvs.map (fun kv=>if kv.1=k then(kv.1,v) else kv) else kvs++[(k,v)]
theorem yL {p:κ×V} {r:List (κ×V)} {k:κ} (e:p.1=k):mH (p::r) k=some p.2:=by simp[mH,List.find?_cons,e]
theorem yM {p:κ×V} {r:List (κ×V)} {k:κ} (e:¬p.1=k):mH (p::r) k=mH r k:=by simp[mH,List.find?_cons,e]
theorem qN (k:κ):∀kvs:List (κ×V),(kvs.any fun kv=>decide (kv.1=k))=(mH kvs k).isSome
 | []=>rfl
 | p::r=>by
  rw[List.any_cons];by_cases e:p.1=k
  ·simp only[yL e,jo e,Bool.true_or,Option.isSome_some]
  ·rw[yM e,jV e,Bool.false_or]; exact qN k r
theorem Ku {kvs:List (κ×V)} {k:κ} (v:V) (h:mH kvs k=none):putK kvs k v=kvs++[(k,v)]:=by
 unfold putK;rw[qN,h];exact bx (by decide)
theorem yt.vD {o:Option V} {u:Option Value} (r:yt o u):o.isSome=u.isSome:=by
 cases o with
 | none=>cases u with
  | none=>rfl
  | some _=>exact(show False from r).elim
 | some _=>cases u with
  | none=>exact(show False from r).elim
  | some _=>rfl
end
section
variable {P:Program} {w:World} {H:Hp} {h:Heap} {a:Addr}
end
section
variable {X:Cx} {pins:List (Addr×Obj)} {σ:St} {H:Hp} {s:Shared} {a:Addr} {y v:V} {u r:Value} {o:Option V} {A:Around} {E:Value->Shared->Prop}
theorem Inv.big (I:Inv X pins σ H s):sysModules<s.heap.objs.size:=by
 have h:mainGlobals<s.heap.objs.size:=(I.mod.glob.keeps I.bk).lt;exact zM (by decide) h
end
section
variable {X:Cx} {pins:List (Addr×Obj)} {σ:St} {H:Hp} {s:Shared} {a:Addr} {kvs:List (Key×V)} {k:Key} {u:Value} {A:Around} {E:Value->Shared->Prop}
end
section
variable {X:Cx} {o i e value:Expr} {pos pos' tpos:Pos} {td ty tv:TE}
end
section
variable {X:Cx} {pos:Pos}
end
structure M1 (X:Cx) (o:Expr) (m:Str) (apos:Pos) (e:Expr) (cpos:Pos):Prop where
 base:attributeBase o m X.env (eval o X.env)=eval o X.env
 few:((backTo cpos (starEach [e] X.env)).all (fun x=>!x.1)&&(backToKw cpos (keywordEach [] X.env)).all (fun x=>x.1.isSome)
  && decide (([e]:List Expr).length+([]:List Keyword).length+(if([]:List Keyword).isEmpty then 0 else 1)<30))=true
 line:(apos.endLine==cpos.line)=true
 trees:backTo cpos (starEach [e] X.env)=[(false,eval e X.env)]
structure M2 (X:Cx) (o:Expr) (m:Str) (apos:Pos) (e f:Expr) (cpos:Pos):Prop where
 base:attributeBase o m X.env (eval o X.env)=eval o X.env
 few:((backTo cpos (starEach [e,f] X.env)).all (fun x=>!x.1)&&(backToKw cpos (keywordEach [] X.env)).all (fun x=>x.1.isSome)
  && decide (([e,f]:List Expr).length+([]:List Keyword).length+(if([]:List Keyword).isEmpty then 0 else 1)<30))=true
 line:(apos.endLine==cpos.line)=true
 trees:backTo cpos (starEach [e,f] X.env)=[(false,eval e X.env),(false,eval f X.env)]
section
variable {X:Cx} {pins:List (Addr×Obj)} {σ:St} {H:Hp} {s:Shared} {a:Addr} {y d:V} {u r:Value} {o:Option V} {A:Around} {E:Value->Shared->Prop}
end
section
variable {X:Cx} {o e f:Expr} {apos cpos:Pos} {td ty tx:TE}
end
section
variable {X:Cx} {pins:List (Addr×Obj)} {σ:St} {H:Hp} {s:Shared} {a:Addr} {kvs:List (Key×V)} {A:Around} {E:Value->Shared->Prop}
end
section
variable {X:Cx} {pins:List (Addr×Obj)} {σ:St} {H:Hp} {s:Shared} {a:Addr} {y:V} {u:Value} {A:Around} {E:Value->Shared->Prop}
end
end L2
set_option maxHeartbeats 4000000
namespace L2
open PySem PySem.Spec PyProof.Rows
def gZ (env:Env) (cs:List (Str×Addr)) (y:Str×NameKind):List (Str×Addr):=
 if y.2==.free then(match env.cells.lookup y.1 with | some c=>(y.1,c)::cs | none=>cs) else cs
def l_ (sc:Scope) (env:Env):List (Str×Addr):=sc.names.foldl (gZ env) []
theorem Am {env:Env}:∀(ns:List (Str×NameKind)) (acc:List (Str×Addr)),(∀y c,acc.lookup y=some c->env.cells.lookup y=some c)->∀y c,(ns.foldl (gZ env) acc).lookup y=some c->env.cells.lookup y=some c
 | [],acc,h,y,c,e=>h y c e
 | n::ns,acc,h,y,c,e=>by
  refine Am ns (gZ env acc n) (fun z d q=>?_) y c e;unfold gZ at q;split at q
  ·split at q
   ·rename_i c' hc';rw[oK] at q;split at q
    ·rename_i hz;have hz':z=n.1:=by simpa using hz
     cases q;rw[hz']; exact hc'
    ·exact h z d q
   ·exact h z d q
  ·exact h z d q
theorem gk {sc:Scope} {env:Env} {y:Str} {c:Addr} (e:(l_ sc env).lookup y=some c):env.cells.lookup y=some c:=
 Am sc.names [] (fun _ _ q=>by simp at q) y c e
theorem Gm {env:Env} {y:Str} {c:Addr} (hc:env.cells.lookup y=some c):∀(ns:List (Str×NameKind)) (acc:List (Str×Addr)),acc.lookup y=some c->(ns.foldl (gZ env) acc).lookup y=some c
 | [],acc,h=>h
 | n::ns,acc,h=>by
  refine Gm hc ns (gZ env acc n) ?_;unfold gZ;split
  ·split
   ·rename_i c' hc';rw[oK];split
    ·rename_i hz;have hz':y=n.1:=by simpa using hz
     rw[<- hz',hc] at hc';exact hc'.symm
    ·exact h
   ·exact h
  ·exact h
theorem Du {env:Env} {y:Str} {c:Addr} (hc:env.cells.lookup y=some c):∀(ns:List (Str×NameKind)) (acc:List (Str×Addr)),(y,NameKind.free)∈ns->(ns.foldl (gZ env) acc).lookup y=some c
 | [],_,h=>by simp at h
 | n::ns,acc,h=>by
  rcases cA.mp h with e | h
  ·subst e;refine Gm hc ns _ ?_;unfold gZ;simp[hc]
  ·exact Du hc ns _ h
theorem pQ {sc:Scope} {env:Env} {x:Str} {k':NameKind} (h:(relabel sc env).names.lookup x=some k'):∃k,(x,k)∈sc.names/\(k'=k\/(k=.free/\k'=.cell)):=by
 have m:=PySem.mem_of_lookup h;unfold relabel at m;obtain⟨⟨n,k⟩,hm,e⟩:=lg.mp m;dsimp only at e;split at e
 ·rename_i hc;injection e with e1 e2
  subst e1;refine⟨k,hm,.inr ⟨?_,e2.symm⟩⟩
  have:(k==NameKind.free)=true:=by
   cases hk:(k==NameKind.free) with
   | true=>rfl
   | false=>rw[hk] at hc; simp at hc
  exact beq_iff_eq.mp this
 ·injection e with e1 e2
  subst e1 e2;exact⟨k,hm,.inl rfl⟩
theorem mY {env:Env} {x:Str} (hf:env.scope.kind=.function) (hk:env.kindOf x=some .cell):∀(ns:List (Str×NameKind)),ns.lookup x=some .free ->
  (ns.map fun(y:Str×NameKind)=>if(y.2==.free&&env.scope.kind==.function&&env.kindOf y.1==some .cell) then(y.1,NameKind.cell) else(y.1,y.2)).lookup x=some .cell
 | [],h=>by simp at h
 | (n,k)::r,h=>by
  have ih:=mY hf hk r;rw[ux];cases hx:x==n with
  | true=>
   have e:x=n:=by simpa using hx
   subst e;simp only[oK,beq_self_eq_true] at h;cases h;dsimp only;rw[aR (by simp[hf,hk])]
   simp[oK]
  | false=>
   simp only[oK,hx] at h;dsimp only;split
   ·simp only[oK,hx]; exact ih h
   ·simp only[oK,hx]; exact ih h
def lX (X:Cx) (N':List Str) (sc:Scope) (fp:List Addr) (s:Shared) (H:Hp):Cx where
 prog:=X.prog
 w:=X.w
 K:=X.K
 mg:=X.mg
 base:=X.base
 A:=X.A
 N:=N'
 s₀:=s
 H₀:=H
 env:=compEnvC sc (l_ sc X.env) s.heap.objs.size X.env
 outer:=X.stack
 stack:=X.stack
 ex:=fp
 fn:=fun _=>false
 calm:=X.calm
 pn:=[]
 xe:=fun _ _=>False
structure vX (X:Cx) (N':List Str) (js:List Nat) (sc:Scope):Prop where
 kind:sc.kind=.function
 fZ:∀y∈sc.names,y.2≠.cell
 names:∀y∈sc.names,y.2=.local->sc.names.lookup y.1=some .local
 clos:closureFor sc X.env=pure (l_ sc X.env)
 all:(sc.names.all fun y=>y.2 != .free || (X.env.cells.lookup y.1).isSome)=true
 len:N'.length=js.length+1
 cap:∀(i j:Nat),js[i]?=some j->N'[i+1]?=X.N[j]?
 Mt:∀y∈N'.tail,X.env.kindOf y=some .cell/\sc.names.lookup y=some .free
def cu (js:List Nat) (σ:St):St:=js.map fun j=>(σ[j]?).join
def gK (js:List Nat) (wi:TI) (te:TE):TE:=fun σ H Q=>wi σ H fun J H1=>∀acc,H1 acc=none->∃W:Nat->Nat->List V->Hp->Prop,(∃m,W 0 m [] (upd H1 acc (.lst [])))/\∀i m ys H2,W i m ys H2 ->
 (J.stop i H2/\Q (.ref acc) H2)\/(J.go i H2/\∀x H3,J.wg i H2 x H3->te (some x::cu js σ) H3 fun y H4=>H4 acc=some (.lst ys)/\ys.length<sizeLine/\∃m',m'<m/\W (i+1) m' (ys++[y]) (upd H4 acc (.lst (ys++[y]))))
def YL:Key->PyData
 | .inl i=>.int i
 | .inr x=>.str x
mutual
def At (H:Hp):PyData->V->Prop
 | .none,v=>v=.non
 | .bool b,v=>v=.bl b
 | .int i,v=>v=.int i
 | .str x,v=>v=.str x
 | .tuple ds,v=>∃a xs,v=.ref a/\H a=some (.tup xs)/\ak H ds xs
 | .list ds,v=>∃a xs,v=.ref a/\H a=some (.lst xs)/\ak H ds xs
 | .dict kvs,v=>∃a es,v=.ref a/\H a=some (.dK es)/\yD H kvs es
def ak (H:Hp):List PyData->List V->Prop
 | [],xs=>xs=[]
 | d::ds,xs=>∃x r,xs=x::r/\At H d x/\ak H ds r
def yD (H:Hp):List (PyData×PyData)->List (Key×V)->Prop
 | [],es=>es=[]
 | (k,d)::r,es=>∃q v t,es=(q,v)::t/\k=YL q/\At H d v/\yD H r t
end
mutual
theorem At.mono {H H':Hp} (m:aJ H H'):∀(d:PyData) (v:V),At H d v->At H' d v
 | .none,_,h=>by unfold At at h ⊢; exact h
 | .bool _,_,h=>by unfold At at h ⊢; exact h
 | .int _,_,h=>by unfold At at h ⊢; exact h
 | .str _,_,h=>by unfold At at h ⊢; exact h
 | .tuple ds,v,h=>by
  unfold At at h ⊢;obtain⟨a,xs,e,h1,h2⟩:=h;exact⟨a,xs,e,m _ _ h1,ak.mono m ds xs h2⟩
 | .list ds,v,h=>by
  unfold At at h ⊢;obtain⟨a,xs,e,h1,h2⟩:=h;exact⟨a,xs,e,m _ _ h1,ak.mono m ds xs h2⟩
 | .dict kvs,v,h=>by
  unfold At at h ⊢;obtain⟨a,es,e,h1,h2⟩:=h;exact⟨a,es,e,m _ _ h1,yD.mono m kvs es h2⟩
theorem ak.mono {H H':Hp} (m:aJ H H'):∀(ds:List PyData) (xs:List V),ak H ds xs->ak H' ds xs
 | [],_,h=>by unfold ak at h ⊢; exact h
 | d::ds,xs,h=>by
  unfold ak at h ⊢;obtain⟨x,r,e,h1,h2⟩:=h;exact⟨x,r,e,At.mono m d x h1,ak.mono m ds r h2⟩
theorem yD.mono {H H':Hp} (m:aJ H H'):∀(kvs:List (PyData×PyData)) (es:List (Key×V)),yD H kvs es->yD H' kvs es
 | [],_,h=>by unfold yD at h ⊢; exact h
 | (k,d)::r,es,h=>by
  unfold yD at h ⊢;obtain⟨q,v,t,e,e',h1,h2⟩:=h;exact⟨q,v,t,e,e',At.mono m d v h1,yD.mono m r t h2⟩
end
theorem ak.length {H:Hp}:∀{ds:List PyData} {xs:List V},ak H ds xs->xs.length=ds.length
 | [],xs,h=>by unfold ak at h; rw[h]; rfl
 | d::ds,xs,h=>by
  unfold ak at h;obtain⟨x,r,e,_,h2⟩:=h;rw[e,lR,lR,ak.length h2]
theorem ak.get {H:Hp}:∀{ds:List PyData} {xs:List V} {i:Nat} {x:V},ak H ds xs->xs[i]?=some x->∃d,ds[i]?=some d/\At H d x
 | [],xs,i,x,h,e=>by unfold ak at h; rw[h] at e; simp at e
 | d::ds,xs,i,x,h,e=>by
  unfold ak at h;obtain⟨y,r,e1,h1,h2⟩:=h;subst e1;cases i with
  | zero=>simp at e; subst e; exact⟨d,rfl,h1⟩
  | succ i=>
   obtain⟨d',q1,q2⟩:=ak.get (i:=i) (x:=x) h2 (by simpa using e)
   exact⟨d',by simpa using q1,q2⟩
theorem ak.getD {H:Hp}:∀{ds:List PyData} {xs:List V} {i:Nat} {d:PyData},ak H ds xs->ds[i]?=some d->∃x,xs[i]?=some x/\At H d x
 | [],xs,i,d,h,e=>by simp at e
 | d'::ds,xs,i,d,h,e=>by
  unfold ak at h;obtain⟨y,r,e1,h1,h2⟩:=h;subst e1;cases i with
  | zero=>simp at e; subst e; exact⟨y,rfl,h1⟩
  | succ i=>
   obtain⟨x,q1,q2⟩:=ak.getD (i:=i) (d:=d) h2 (by simpa using e)
   exact⟨x,by simpa using q1,q2⟩
theorem ak.append {H:Hp}:∀{ds es:List PyData} {xs ys:List V},ak H ds xs->ak H es ys->ak H (ds++es) (xs++ys)
 | [],es,xs,ys,h,q=>by unfold ak at h; subst h; exact q
 | d::ds,es,xs,ys,h,q=>by
  unfold ak at h;obtain⟨x,r,e,h1,h2⟩:=h;subst e;show ak H (d::(ds++es)) (x::(r++ys));unfold ak;exact⟨x,r++ys,rfl,h1,ak.append h2 q⟩
theorem ak.take {H:Hp}:∀{ds:List PyData} {xs:List V} (n:Nat),ak H ds xs->ak H (ds.take n) (xs.take n)
 | ds,xs,0,h=>by simp[ak]
 | [],xs,n+1,h=>by unfold ak at h; subst h; simp[ak]
 | d::ds,xs,n+1,h=>by
  unfold ak at h;obtain⟨x,r,e,h1,h2⟩:=h;subst e;show ak H (d::ds.take n) (x::r.take n);unfold ak;exact⟨x,_,rfl,h1,ak.take n h2⟩
theorem ak.nil {H:Hp}:ak H [] []:=by unfold ak; rfl
theorem ak.cons {H:Hp} {d:PyData} {ds:List PyData} {x:V} {xs:List V} (h1:At H d x) (h2:ak H ds xs):ak H (d::ds) (x::xs):=by
 unfold ak; exact⟨x,xs,rfl,h1,h2⟩
theorem At.tup {H:Hp} {a:Addr} {xs:List V} {ds:List PyData} (h:H a=some (.tup xs)) (q:ak H ds xs):At H (.tuple ds) (.ref a):=by
 unfold At; exact⟨a,xs,rfl,h,q⟩
theorem At.lst {H:Hp} {a:Addr} {xs:List V} {ds:List PyData} (h:H a=some (.lst xs)) (q:ak H ds xs):At H (.list ds) (.ref a):=by
 unfold At; exact⟨a,xs,rfl,h,q⟩
theorem At.int {H:Hp} (i:Int):At H (.int i) (.int i):=by unfold At; rfl
theorem At.str {H:Hp} (x:Str):At H (.str x) (.str x):=by unfold At; rfl
theorem At.bool {H:Hp} (b:Bool):At H (.bool b) (.bl b):=by unfold At; rfl
theorem At.non {H:Hp}:At H .none .non:=by unfold At; rfl
theorem aL {H:Hp} {p:Addr} (h:H p=none) (o:HO):aJ H (upd H p o):=fun b u q=>by rw[aV (bU q h)]; exact q
def M9:PyData->String
 | .none=>"NoneType"
 | .bool _=>"bool"
 | .int _=>"int"
 | .str _=>"str"
 | .tuple _=>"tuple"
 | .list _=>"list"
 | .dict _=>"dict"
theorem At.ty {K:PySem.W.Frag} {H:Hp} {d:PyData} {v:V} (h:At H d v):nU K H v (.type (M9 d)):=by
 cases d with
 | none=>unfold At at h; subst h; exact .non
 | bool b=>unfold At at h; subst h; exact .bl b
 | int i=>unfold At at h; subst h; exact .int i
 | str x=>unfold At at h; subst h; exact .str x
 | tuple ds=>unfold At at h; obtain⟨a,xs,e,h1,_⟩:=h; subst e; exact .tup h1
 | list ds=>unfold At at h; obtain⟨a,xs,e,h1,_⟩:=h; subst e; exact .lst h1
 | dict ds=>unfold At at h; obtain⟨a,xs,e,h1,_⟩:=h; subst e; exact .dK h1
def isInt:PyData->Bool
 | .int _=>true
 | .bool _=>true
 | _=>false
def isTup:PyData->Bool
 | .tuple _=>true
 | _=>false
def isBool:PyData->Bool
 | .bool _=>true
 | _=>false
def isStr:PyData->Bool
 | .str _=>true
 | _=>false
theorem Pu (K:PySem.W.Frag) (d:PyData):PySem.W.kitOne K (.type (M9 d)) (.type "int")=some (isInt d):=by cases d <;> kernel_rfl
theorem Fy (K:PySem.W.Frag) (d:PyData):PySem.W.kitOne K (.type (M9 d)) (.type "tuple")=some (isTup d):=by cases d <;> kernel_rfl
theorem Ln (K:PySem.W.Frag) (d:PyData):PySem.W.kitOne K (.type (M9 d)) (.type "bool")=some (isBool d):=by cases d <;> kernel_rfl
theorem Pr (K:PySem.W.Frag) (d:PyData):PySem.W.kitOne K (.type (M9 d)) (.type "str")=some (isStr d):=by cases d <;> kernel_rfl
section
variable {X:Cx}
def B_ (T:String) (f:PyData->Bool):List V->Hp->VK->Prop:=fun vs H Q=>∃v d,vs=[v,.ty T]/\At H d v/\Q (.bl (f d)) H
theorem sO {T:String} {f:PyData->Bool} (hf:∀K d,PySem.W.kitOne K (.type (M9 d)) (.type T)=some (f d)):cV X (.builtin "isinstance") (B_ T f):=by
 refine .mk ?_;intro pins s σ H vs us Q I r h;obtain⟨v,d,rfl,hv,q⟩:=h;obtain⟨u,t,rfl,ru,rt⟩:=r.two;cases(show t=Value.type T from rt);exact Ii I ru (hv.ty (K:=X.K)) (hf X.K d) fun tk=>⟨.bl (f d),H,I.tok tk,rfl,q⟩
theorem Py:cV X (.builtin "isinstance") (B_ "int" isInt):=sO Pu
theorem FQ:cV X (.builtin "isinstance") (B_ "tuple" isTup):=sO Fy
theorem Lq:cV X (.builtin "isinstance") (B_ "bool" isBool):=sO Ln
theorem xO:cV X (.builtin "isinstance") (B_ "str" isStr):=sO Pr
theorem D_:∀{bs:List Bool} {us:List Value},Vals (bs.map V.bl) us->us=bs.map Value.bool
 | [],_,.nil=>rfl
 | b::bs,_,.cons r t=>by
  cases(show _=Value.bool b from r);rw[D_ t]; rfl
theorem range_all (bs:List Bool):(List.range bs.length).all (fun i=>bs.getD i false)=bs.all id:=by
 rw[Hj,rK,rK];constructor
 ·intro h b hb;obtain⟨i,hi,rfl⟩:=List.mem_iff_getElem.mp hb;have:=h i (rJ.mpr hi);simpa[iy,hi] using this
 ·intro h i hi;have hi':=rJ.mp hi;have:=h bs[i] (Hl hi');simpa[iy,hi'] using this
theorem range_any (bs:List Bool):(List.range bs.length).any (fun i=>bs.getD i false)=bs.any id:=by
 rw[Hj,List.any_eq_true,List.any_eq_true];constructor
 ·rintro⟨i,hi,h⟩;have hi':=rJ.mp hi;exact⟨bs[i],Hl hi',by simpa[iy,hi'] using h⟩
 ·rintro⟨b,hb,h⟩;obtain⟨i,hi,rfl⟩:=List.mem_iff_getElem.mp hb;exact⟨i,rJ.mpr hi,by simpa[iy,hi] using h⟩
theorem Jc (hc:X.calm=true):cV X (.builtin "all") (fun vs H Q=>∃(p:Addr) (bs:List Bool),vs=[.ref p]/\H p=some (.lst (bs.map V.bl))/\Q (.bl (bs.all id)) H):=by
 refine .mk ?_;intro pins s σ H vs us Q I r h;obtain⟨p,bs,rfl,hp,q⟩:=h;obtain⟨u,rfl,ru⟩:=r.one;cases ru;obtain⟨z,its,n,rv,e⟩:=I.hok p _ hp;have e2:=D_ rv;subst e2;have hl:s.heap.IsList p (bs.map Value.bool).toArray:=⟨_,e,rfl,n,rfl⟩;have lt:p<s.heap.objs.size:=eX e;refine call_all_walk (Ce hl ?_);refine⟨_,_,_,_,_,_,fun i=>bs.getD i false,rfl,Walks.list (A:=X.A.in1) (I.ok.hd hc) _ p (dY lt) _,⟨⟨_,jk _ rfl,rfl,rfl⟩,hl.push _⟩,fun i v s' Q' E' hv hq=>?_,fun h' tk hk=>?_⟩
 ·have hv':(bs.map Value.bool).toArray[i]?=some v:=hv
  have:v=.bool (bs.getD i false):=by
   simp only[List.getElem?_toArray,h_] at hv';cases q:bs[i]? with
   | none=>rw[q] at hv'; simp at hv'
   | some b=>rw[q] at hv'; simp at hv'; simp[iy,q,<- hv']
  rw[this];exact Cg hq
 ·have e3:(List.range (bs.map Value.bool).toArray.size).all (fun i=>bs.getD i false)=bs.all id:=by
   rw[fj,dH]; exact range_all bs
  refine⟨.bl (bs.all id),H,I.kept (t':=tk) (fun b o eb=>?_),by rw[<- e3]; rfl,q⟩
  exact hk b o (by simpa using dY (eX eb)) (dW _ eb)
theorem zZ:∀(ns:List Int),preSum (fun i=>ns.getD i 0) ns.length=ns.sum:=by
 have key:∀(ns:List Int) (k:Nat),k<=ns.length->preSum (fun i=>ns.getD i 0) k=(ns.take k).sum:=by
  intro ns k
  induction k with
  | zero=>intro _; rfl
  | succ k ih=>
   intro hk
   have e:ns.take (k+1)=ns.take k++[ns.getD k 0]:=by
    rw[zr,gO (by omega)]
    simp[iy,gO (show k<ns.length by omega)]
   show preSum _ k+ns.getD k 0=_;rw[ih (by omega),e,List.sum_append]
   simp
 intro ns;rw[key ns ns.length (bN _),qe]
theorem FW {ns:List Int} {its:List Value} (r:Vals (ns.map V.int) its) {i:Nat} {v:Value} (h:its.toArray[i]?=some v):∃t,v=.int (ns.getD i 0) t:=by
 have h':its[i]?=some v:=by simpa using h
 have hi:i<its.length:=(iM.mp h').1;have hl:=r.length;rw[dH] at hl;obtain⟨u,hu,ru⟩:=r.get (i:=i) (x:=V.int (ns[i]'(by omega))) (by rw[h_,gO (by omega)]; rfl)
 rw[h'] at hu;cases hu;obtain⟨t,e⟩:=ru;exact⟨t,by rw[e,iy,gO (by omega)]; rfl⟩
theorem kZ (hc:X.calm=true):cV X (.builtin "sum") (fun vs H Q=>∃(p:Addr) (ns:List Int),vs=[.ref p]/\(H p=some (.lst (ns.map V.int))\/H p=some (.tup (ns.map V.int)))/\Q (.int ns.sum) H):=by
 refine .mk ?_;intro pins s σ H vs us Q I r h;obtain⟨p,ns,rfl,hp,q⟩:=h;obtain⟨u,rfl,ru⟩:=r.one;cases ru
 have fin:∀{h':Heap} {tk:Nat} {t':Tok} {o:Obj},(∀b o',b∉[s.heap.objs.size]->(s.heap.push o).get? b=some o'->h'.get? b=some o')->EP X pins σ Q (.int (preSum (fun i=>ns.getD i 0) ns.length) t') { s with heap:=h',toks:=tk }:=fun {h' tk t' o} hk=>
  ⟨.int ns.sum,H,I.kept (t':=tk) (fun b o' eb=>hk b o' (by simpa using dY (eX eb)) (dW _ eb)),⟨t',by rw[zZ]⟩,q⟩
 rcases hp with hp | hp
 ·obtain⟨z,its,n,rv,e⟩:=I.hok p _ hp;have hl:s.heap.IsList p its.toArray:=⟨_,e,rfl,n,rfl⟩;have lt:p<s.heap.objs.size:=eX e;have hlen:=rv.length;rw[dH] at hlen;refine call_sum_walkG (Ce hl ?_);refine⟨_,_,_,_,_,_,fun i=>ns.getD i 0,rfl,Walks.list (A:=X.A.in1) (I.ok.hd hc) _ p (dY lt) _,⟨⟨_,jk _ rfl,rfl,rfl⟩,hl.push _⟩,fun b hb=>?_,fun i v hv=>FW rv hv,fun h' tk t' hk=>?_⟩
  ·show b<(s.heap.push _).objs.size;rw[iK];rcases cA.mp hb with rfl | hb
   ·exact Kg _
   ·rw[fX.mp hb]; exact Hn lt
  ·rw[fj,<- hlen]; exact fin hk
 ·obtain⟨z,its,rv,ht⟩:=I.hok p _ hp;have ht':s.heap.IsTuple p its.toArray:=ht;have lt:p<s.heap.objs.size:=by obtain⟨o,e,_⟩:=ht; exact eX e
  have hlen:=rv.length;rw[dH] at hlen;refine call_sum_walkG (Hq ht' ?_);refine⟨_,_,_,_,_,_,fun i=>ns.getD i 0,rfl,Walks.tuple (A:=X.A.in1) (I.ok.hd hc) _ p (dY lt) _,⟨⟨_,jk _ rfl,rfl,rfl⟩,?_⟩,fun b hb=>?_,fun i v hv=>FW rv hv,fun h' tk t' hk=>?_⟩
  ·obtain⟨o,e,c⟩:=ht';exact⟨o,dW _ e,c⟩
  ·show b<(s.heap.push _).objs.size;rw[iK];rcases cA.mp hb with rfl | hb
   ·exact Kg _
   ·rw[fX.mp hb]; exact Hn lt
  ·rw[fj,<- hlen]; exact fin hk
theorem pC:cV X (.type "int") (fun vs H Q=>∃(b:Bool),vs=[.bl b]/\Q (.int (if b then 1 else 0)) H):=by
 refine .mk ?_;intro pins s σ H vs us Q I r h;obtain⟨b,rfl,q⟩:=h;obtain⟨u,rfl,ru⟩:=r.one;cases(show u=Value.bool b from ru);exact call_int_bool ⟨.int (if b then 1 else 0),H,I.tok _,⟨_,rfl⟩,q⟩
end
mutual
theorem jc {P:Program} {w:World} {H:Hp} {h:Heap} (ok:jF P w H h):∀(d:PyData) (v:V) (u:Value),At H d v->RelV v u->d.hasDict=false->∃as,Reads h u d as
 | .none,v,u,a,r,_=>by unfold At at a; subst a; cases r; exact⟨_,.none⟩
 | .bool b,v,u,a,r,_=>by unfold At at a; subst a; cases r; exact⟨_,.bool b⟩
 | .int i,v,u,a,r,_=>by unfold At at a; subst a; obtain⟨t,rfl⟩:=r; exact⟨_,.int i t⟩
 | .str x,v,u,a,r,_=>by unfold At at a; subst a; obtain⟨t,rfl⟩:=r; exact⟨_,.str x t⟩
 | .tuple ds,v,u,a,r,nd=>by
  unfold At at a;obtain⟨p,xs,e,hp,ha⟩:=a;subst e;cases r;obtain⟨_,its,rv,o,e1,e2,n,e3⟩:=ok p _ hp;obtain⟨as,ra⟩:=oG ok ds xs its ha rv (by simpa[PyData.hasDict] using nd)
  exact⟨_,.tuple e1 e2 e3 (by simpa using ra)⟩
 | .list ds,v,u,a,r,nd=>by
  unfold At at a;obtain⟨p,xs,e,hp,ha⟩:=a;subst e;cases r;obtain⟨_,its,n,rv,e1⟩:=ok p _ hp;obtain⟨as,ra⟩:=oG ok ds xs its ha rv (by simpa[PyData.hasDict] using nd)
  exact⟨_,.list e1 rfl rfl (by simpa using ra)⟩
 | .dict kvs,v,u,a,r,nd=>by simp[PyData.hasDict] at nd
theorem oG {P:Program} {w:World} {H:Hp} {h:Heap} (ok:jF P w H h):∀(ds:List PyData) (xs:List V) (us:List Value),ak H ds xs->Vals xs us->PyData.hasDictAll ds=false->∃as,ReadsAll h us ds as
 | [],xs,us,a,r,_=>by unfold ak at a; subst a; cases r; exact⟨_,.nil⟩
 | d::ds,xs,us,a,r,nd=>by
  unfold ak at a;obtain⟨x,t,e,h1,h2⟩:=a;subst e;have nd':d.hasDict=false/\PyData.hasDictAll ds=false:=by simpa[PyData.hasDictAll] using nd
  cases r with
  | cons r1 r2=>
   obtain⟨as,q1⟩:=jc ok d x _ h1 r1 nd'.1;obtain⟨bs,q2⟩:=oG ok ds t _ h2 r2 nd'.2;exact⟨_,.cons q1 q2⟩
end
structure aa9 (d:PyData):Prop where
 can:d.showable=true
 nod:d.hasDict=false
 len:d.shown.length<=sizeLine
 dep:d.depth<=60
section
variable {X:Cx}
def Gi (mg:Str->Option Value) (x:Str) (i:Int):Prop:=∃t,mg x=some (.int i t)
theorem R3 {x:Str} {i:Int} {pos:Pos} (h:Gi X.mg x i) (hg:Gl X x:=by rfl) (hd:(x==("__debug__" : Str))=false:=by decide):PE X (.Name x pos) (tC (.int i)):=by
 obtain⟨t,ht⟩:=h;exact eE hg ht ⟨t,rfl⟩ hd
structure Ct (P:Program) (w:World) (K:PySem.W.Frag) (mg:Str->Option Value) (base:Heap) (k:Nat) (x:Str) (ps:List Str) (sp:Sp) where
 f:Addr
 fd:FuncData
 G:bV P w K mg base ig k f fd ps sp
 kp:PySem.W.keepIn K (.ref f)=true
 b:Binds K fd ps []
 m:mg x=some (.ref f)
def Ct.mono {P:Program} {w:World} {K:PySem.W.Frag} {mg:Str->Option Value} {base:Heap} {j k:Nat} {x:Str} {ps:List Str} {sp:Sp} (c:Ct P w K mg base j x ps sp) (h:j<=k):Ct P w K mg base k x ps sp:={ c with G:=c.G.mono h }
theorem Wc {k:Nat} {x:Str} {ps:List Str} {sp:Sp} {e:Expr} {es:List Expr} {t:TA} {p pos:Pos} (c:Ct X.prog X.w X.K X.mg X.base k x ps sp) (hr:gw k X.A) (ha:PA X (e::es) t) (hg:Gl X x:=by rfl)
  (hdb:(x==("__debug__" : Str))=false:=by decide) (he:starEach (e::es) X.env=(false,eval e X.env)::starEach es X.env:=by rfl) (hpl:(backTo pos (starEach es X.env)).any (·.1)=false:=by rfl) :
  PE X (.Call (.Name x p) (e::es) [] pos) (lB sp [] E0 t):=xj c.G hr hg c.m c.kp c.b .nil K7 ha hdb he hpl
end
theorem N6 {v:V} {σ:St} {H:Hp} {Q:VK}:um 0 (some v::σ) H Q=Q v H:=rfl
theorem N5 {i:Nat} {o:Option V} {σ:St} {H:Hp} {Q:VK}:um (i+1) (o::σ) H Q=um i σ H Q:=rfl
theorem N_ {v:V} {o:Option V} {σ:St}:(o::σ).set 0 (some v)=some v::σ:=rfl
theorem N8 {i:Nat} {v:V} {o:Option V} {σ:St}:(o::σ).set (i+1) (some v)=o::σ.set i (some v):=rfl
theorem Ka {t:TG} {u:MN} {v:V} {r:List V} {σ:St} {H:Hp} {Q:St->Hp->Prop}:gY t u (v::r) σ H Q=t v σ H fun σ' H'=>u r σ' H' Q:=rfl
theorem Oa {σ:St} {H:Hp} {Q:St->Hp->Prop}:uF [] σ H Q=Q σ H:=rfl
theorem cM {b:Bool} {A B:Prop} (h1:b=true->A) (h2:b=false->B):if b=true then A else B:=by
 cases b
 ·rw[bx (by decide)]; exact h2 rfl
 ·rw[aR rfl]; exact h1 rfl
theorem RN {i j:Int} {H:Hp} {Q:VK}:V5 (.int i) (.int j) H Q=Q (.bl (decide (i=j))) H:=by
 unfold V5 Hb; simp
theorem RK {i j:Int} {H:Hp} {Q:VK}:V2 (.int i) (.int j) H Q=Q (.bl (!decide (i=j))) H:=by
 unfold V2 Hb; simp
theorem RM {i j:Str} {H:Hp} {Q:VK}:V5 (.str i) (.str j) H Q=Q (.bl (decide (i=j))) H:=by
 unfold V5 Hb; simp
theorem RJ {i j:Str} {H:Hp} {Q:VK}:V2 (.str i) (.str j) H Q=Q (.bl (!decide (i=j))) H:=by
 unfold V2 Hb; simp
theorem Ob {i:Int} {P:Int->Prop}:(∃k,[V.int i]=[V.int k]/\P k)=P i:=by
 simp
theorem Oc {i:Bool} {P:Bool->Prop}:(∃k,[V.bl i]=[V.bl k]/\P k)=P i:=by
 simp
theorem Kc {i j:Int} {P:Int->Int->Prop}:(∃a b,[V.int i,V.int j]=[V.int a,V.int b]/\P a b)=P i j:=by
 refine propext ⟨?_,fun h=>⟨i,j,rfl,h⟩⟩;rintro⟨a,b,e,h⟩;cases e;exact h
theorem N7 {b:Bool} {P:Bool->Prop}:(∃k,V.bl b=V.bl k/\P k)=P b:=by
 simp
theorem RL {i:Int} {P:Int->Prop}:(∃k,V.int i=V.int k/\P k)=P i:=by
 simp
theorem VN {i j:Int} {P:Int->Int->Prop}:(∃a b,V.int i=V.int a/\V.int j=V.int b/\P a b)=P i j:=by
 simp
theorem pY {α β:Type} {g:β->α->β} {f:α->β->Sem (ForInStep β)}:∀(l:List α) (c:β),(∀x∈l,∀c,f x c=pure (.yield (g c x)))->forIn l c f=(pure (l.foldl g c):Sem β)
 | [],c,_=>rfl
 | x::l,c,h=>by
  rw[Hk,h x jd c,pure_bind];exact pY l (g c x) fun y hy=>h y (jr _ hy)
theorem jB {sc:Scope} {env:Env} (h:(sc.names.all fun y=>y.2 != .free || (env.cells.lookup y.1).isSome)=true):closureFor sc env=pure (l_ sc env):=by
 unfold closureFor l_;dsimp only;rw[pY (g:=gZ env) sc.names [] (fun y hy c=>?_)]
 ·rfl
 obtain⟨n,k⟩:=y;have a:=rK.mp h _ hy;dsimp only;unfold gZ;dsimp only;cases hk:(k==NameKind.free) with
 | false=>simp
 | true=>
  have hk':k=.free:=beq_iff_eq.mp hk;subst hk';have a':(env.cells.lookup n).isSome=true:=by simpa using a
  obtain⟨c',hc'⟩:=Ck.mp a';simp[cellOf,hc']
theorem nD {sc:Scope} (h:(sc.names.all fun y=>y.2 != .local || sc.names.lookup y.1==some .local)=true):∀y∈sc.names,y.2=.local->sc.names.lookup y.1=some .local:=fun y hy e=>by
 have a:=rK.mp h y hy;rw[e] at a;simpa using a
theorem vX.mk0 {X:Cx} {x:Str} {sc:Scope} (k:sc.kind=.function:=by rfl) (n:(sc.names.all fun y=>y.2 != .cell&&y.2 != .free)=true:=by decide +kernel) (l:(sc.names.all fun y=>y.2 != .local || sc.names.lookup y.1==some .local)=true:=by decide +kernel):vX X [x] [] sc:=by
 have n':∀y∈sc.names,y.2≠.cell/\y.2≠.free:=fun y hy=>by have:=rK.mp n y hy; simpa using this
 have al:(sc.names.all fun y=>y.2 != .free || (X.env.cells.lookup y.1).isSome)=true:=rK.mpr fun y hy=>by simp[(n' y hy).2]
 exact⟨k,fun y hy=>(n' y hy).1,nD l,jB al,al,rfl,fun i j h=>by simp at h,fun y h=>by simp at h⟩
theorem vX.mk1 {X:Cx} {x y:Str} {sc:Scope} {j:Nat} (hj:X.N[j]?=some y:=by rfl) (k:sc.kind=.function:=by rfl) (n:(sc.names.all fun y=>y.2 != .cell)=true:=by decide +kernel)
  (l:(sc.names.all fun y=>y.2 != .local || sc.names.lookup y.1==some .local)=true:=by decide +kernel) (al:(sc.names.all fun y=>y.2 != .free || (X.env.cells.lookup y.1).isSome)=true:=by rfl)
  (k1:X.env.kindOf y=some .cell:=by rfl) (k2:sc.names.lookup y=some .free:=by rfl):vX X [x,y] [j] sc:=by
 have n':∀y∈sc.names,y.2≠.cell:=fun y hy=>by have:=rK.mp n y hy; simpa using this
 refine⟨k,n',nD l,jB al,al,rfl,fun i j' h=>?_,fun z h=>?_⟩
 ·cases i with
  | zero=>simp at h; subst h; exact hj.symm
  | succ i=>simp at h
 ·have e:z=y:=by simpa using h
  subst e; exact⟨k1,k2⟩
theorem vX.mk2 {X:Cx} {x y z:Str} {sc:Scope} {j j2:Nat} (hj:X.N[j]?=some y:=by rfl) (hj2:X.N[j2]?=some z:=by rfl) (k:sc.kind=.function:=by rfl) (n:(sc.names.all fun y=>y.2 != .cell)=true:=by decide +kernel)
  (l:(sc.names.all fun y=>y.2 != .local || sc.names.lookup y.1==some .local)=true:=by decide +kernel) (al:(sc.names.all fun y=>y.2 != .free || (X.env.cells.lookup y.1).isSome)=true:=by rfl)
  (k1:X.env.kindOf y=some .cell:=by rfl) (k2:sc.names.lookup y=some .free:=by rfl) (k3:X.env.kindOf z=some .cell:=by rfl) (k4:sc.names.lookup z=some .free:=by rfl):vX X [x,y,z] [j,j2] sc:=by
 have n':∀y∈sc.names,y.2≠.cell:=fun y hy=>by have:=rK.mp n y hy; simpa using this
 refine⟨k,n',nD l,jB al,al,rfl,fun i j' h=>?_,fun v h=>?_⟩
 ·match i,h with
  | 0,h=>simp at h; subst h; exact hj.symm
  | 1,h=>simp at h; subst h; exact hj2.symm
  | i+2,h=>simp at h
 ·have e:v=y\/v=z:=by simpa using h
  rcases e with e | e
  ·subst e; exact⟨k1,k2⟩
  ·subst e; exact⟨k3,k4⟩
def bK:Expr->Bool
 | .Starred _ _=>false
 | _=>true
theorem bZ {env:Env} {e:Expr} {es:List Expr} (h:bK e=true):starEach (e::es) env=(false,eval e env)::starEach es env:=by
 cases e <;> first | rfl | exact absurd h (by simp[bK])
theorem b_ {env:Env} {pos:Pos}:∀{es:List Expr},es.all bK=true->(backTo pos (starEach es env)).any (·.1)=false
 | [],_=>rfl
 | e::es,h=>by
  have h':bK e=true/\es.all bK=true:=by simpa using h
  rw[bZ h'.1];show(false || (backTo pos (starEach es env)).any (·.1))=false;rw[b_ h'.2]; rfl
section
variable {X:Cx} {x:Str} {p pos:Pos} {e:Expr} {es:List Expr} {te:TE} {t:TA} {id T:String} {r:List V->Hp->VK->Prop}
theorem aa (ha:PE X e te) (hr:PA X es t) (h:bK e=true:=by rfl):PA X (e::es) (Ec te t):=Ox ha hr (bZ h)
theorem pf {k:Nat} {ps:List Str} {sp:Sp} (c:Ct X.prog X.w X.K X.mg X.base k x ps sp) (hr:gw k X.A) (ha:PA X (e::es) t) (hg:Gl X x:=by rfl) (hdb:(x==("__debug__" : Str))=false:=by decide) (h1:bK e=true:=by rfl) (h2:es.all bK=true:=by rfl) :
  PE X (.Call (.Name x p) (e::es) [] pos) (lB sp [] E0 t):=Wc c hr ha hg hdb (bZ h1) (b_ h2)
theorem pb (hc:cV X (.builtin id) r) (hm:X.mg x=none) (hv:bootBuiltins x=some (.builtin id)) (ha:PA X (e::es) t) (hg:Gl X x:=by rfl) (hn:x ≠ "__name__" := by decide) (hdb:(x==("__debug__" : Str))=false:=by decide)
  (h1:bK e=true:=by rfl) (h2:es.all bK=true:=by rfl):PE X (.Call (.Name x p) (e::es) [] pos) (Ui r t):=KZ hc hg hm hv ha hn hdb (bZ h1) (b_ h2)
theorem pt (hc:cV X (.type T) r) (hm:X.mg x=none) (hv:bootBuiltins x=some (.type T)) (ha:PA X (e::es) t) (hg:Gl X x:=by rfl) (hn:x ≠ "__name__" := by decide) (hdb:(x==("__debug__" : Str))=false:=by decide)
  (h1:bK e=true:=by rfl) (h2:es.all bK=true:=by rfl):PE X (.Call (.Name x p) (e::es) [] pos) (Ui r t):=Hw hc hg hm hv ha hn hdb (bZ h1) (b_ h2)
end
end L2
namespace HT
open PySem PyProof.Rows
section
variable {prog:Program} {w:World} {A:Around} {E:Value->Shared->Prop} {s:Shared}
theorem nO {t sl:Addr} {items:Array Value} {vl vu:Value} {lo hi:Option Int} {Q:Value->Shared->Prop} (ht:IsTup s.heap t items) (hs:s.heap.IsSliceOf sl vl vu .none) (pl:IsPart vl lo) (pu:IsPart vu hi)
  (hw1:e_ items.size 0 lo=0) (hw2:e_ items.size items.size hi=items.size) (h:Q (.ref t) s):wpAny (model prog w) A (getItem (.ref t) (.ref sl)) Q E s:=by
 obtain⟨os,hos,hcs,hds⟩:=id hs;have tyS:s.TypeIs (.ref sl) "slice" := ⟨os,hos,hcs⟩;unfold getItem
 try with_reducible refine rH ?_
 first | refine aW (cC ?_) | skip
 refine aW (wpAny_sequenceKey ht.typeIs (by decide) ?_)
 refine aW (Ht (name:=Str.ofString "__getitem__") ht.typeIs PyProof.Rows.slot_tuple_getitem (wV PyProof.Rows.slot_tuple_getitem ht.typeIs entry_tuple_getitem ?_ (args_tuple_getitem _ _)));show wpAny _ _ (Builtin.Tuple.tupleItemsOf (.ref t) >>= _) _ _ s;refine aW (tupleItemsOf_ ht ?_);refine aW (wpAny_typeOf tyS ?_);rw[aR (by decide)]
 refine aW (i_ hs pl pu ?_)
 have yes:(((e_ items.size 0 lo:Nat):Int)==0&&(1:Int)==1&&(e_ items.size items.size hi-e_ items.size 0 lo)==items.size)=true:=by
  rw[hw1,hw2]; simp
 show wpAny _ _ (if(((e_ items.size 0 lo:Nat):Int)==0&&(1:Int)==1&&(e_ items.size items.size hi-e_ items.size 0 lo)==items.size)=true then _ else _) _ _ s
 rw[aR yes]
 have ex:∀{R:Bool->Shared->Prop},R true s->wpAny (model prog w) A.in1 (Builtin.Tuple.tupleIsExact (.ref t)) R E s:=fun {R} q=>by
  unfold Builtin.Tuple.tupleIsExact;refine aW (wpAny_typeOf ht.typeIs (cC ?_));rw[beq_self_eq_true];exact q
 refine aW (ex ?_);rw[aR rfl];exact aW (uw (cC ⟨_,rfl,cC h⟩))
end
end HT
namespace L2
open PySem PySem.Spec PyProof.Rows
theorem aY:bootBuiltins "isinstance" = some (.builtin "isinstance"):=by decide +kernel
theorem tZ:bootBuiltins "len" = some (.builtin "len"):=by decide +kernel
theorem Tw:bootBuiltins "all" = some (.builtin "all"):=by decide +kernel
theorem Tv:bootBuiltins "any" = some (.builtin "any"):=by decide +kernel
theorem yh:bootBuiltins "sum" = some (.builtin "sum"):=by decide +kernel
theorem MJ:bootBuiltins "abs" = some (.builtin "abs"):=by decide +kernel
theorem g_:bootBuiltins "min" = some (.builtin "min"):=by decide +kernel
theorem gJ:bootBuiltins "max" = some (.builtin "max"):=by decide +kernel
theorem yj:bootBuiltins "int" = some (.type "int"):=by decide +kernel
theorem DQ:bootBuiltins "str" = some (.type "str"):=by decide +kernel
theorem Qh:bootBuiltins "bool" = some (.type "bool"):=by decide +kernel
theorem jE:bootBuiltins "list" = some (.type "list"):=by decide +kernel
theorem cJ:bootBuiltins "tuple" = some (.type "tuple"):=by decide +kernel
theorem MF:bootBuiltins "range" = some (.type "range"):=by decide +kernel
theorem nR:bootBuiltins "enumerate" = some (.type "enumerate"):=by decide +kernel
theorem Mz:bootBuiltins "zip" = some (.type "zip"):=by decide +kernel
section
variable {X:Cx}
theorem pty {x:Str} {T:String} {pos:Pos} (hg:Gl X x) (hm:X.mg x=none) (hv:bootBuiltins x=some (.type T)) (hn:x ≠ "__name__" := by decide) (hd:(x==("__debug__" : Str))=false:=by decide):PE X (.Name x pos) (tC (.ty T)):=
 Ow (v:=.ty T) hg hm hv rfl hn hd
theorem Bh.of {T:String} {g:PyData->Bool} {v:V} {d:PyData} {H:Hp} {Q:VK} (h:At H d v) (q:Q (.bl (g d)) H):B_ T g [v,.ty T] H Q:=⟨v,d,rfl,h,q⟩
def Yq (K:PySem.W.Frag):List V->Hp->VK->Prop:=fun vs H Q=>∃(p:Addr) (ys:List V),vs=[.ref p]/\(dI K H p ys\/cY K H p ys)/\Q (.int ys.length) H
theorem ji {K:PySem.W.Frag} (hK:X.K=K):cV X (.builtin "len") (Yq K):=by
 subst hK;exact yc
def Ym:V->Option Int->Option Int->Hp->VK->Prop:=fun x lo hi H Q=>∃(a:Addr) (xs:List V),x=.ref a/\H a=some (.tup xs)/\∀p H',aJ H H'->H' p=some (.tup (jK xs lo hi))->Q (.ref p) H'
theorem ir:Uw X Ym:=by
 refine .mk ?_;intro pins s σ H x v vl vu lo hi sl Q I rx hs pl pu h;obtain⟨a,xs,e,hx,q⟩:=h;by_cases hw:HT.e_ xs.length 0 lo=0/\HT.e_ xs.length xs.length hi=xs.length
 ·subst e;cases rx;obtain⟨its,r,ht,hz⟩:=I.tuple (cY.of (K:=X.K) hx);have hlen:its.toArray.size=xs.length:=by rw[fj]; exact r.length.symm
  refine⟨"tuple",_,PyProof.Rows.slot_tuple_getitem.lookup,ht.typeIs,?_⟩;refine HT.nO ht hs pl pu (by rw[hlen]; exact hw.1) (by rw[hlen]; exact hw.2) ⟨.ref a,H,I,rfl,q a H (aJ.refl H) ?_⟩
  rw[hx];unfold jK;rw[hw.1,hw.2,List.drop_zero,Nat.sub_zero,qe]
 ·exact Rx pins s σ H x v vl vu lo hi sl Q I rx hs pl pu ⟨a,xs,e,cY.of hx,hw,fun p hp=>q p _ (aL hp _) az⟩
def V7:R2:=fun x y H Q=>∃(a b:Addr) (xs ys:List V),x=.ref a/\y=.ref b/\H a=some (.tup xs)/\H b=some (.tup ys)/\xs.length+ys.length<=sizeLine/\∀p H',aJ H H'->H' p=some (.tup (xs++ys))->Q (.ref p) H'
theorem kJ:mD X (binaryOp .Add) V7:=by
 refine .mk ?_;intro pins s σ H x y v u Q I rx ry h;obtain⟨a,b,xs,ys,e1,e2,ha,hb,hz,q⟩:=h;by_cases hx:xs=[]
 ·subst hx e1 e2;cases rx;cases ry;obtain⟨its,r1,p1,_⟩:=I.tuple (cY.of (K:=X.K) ha);obtain⟨its2,r2,p2,_⟩:=I.tuple (cY.of (K:=X.K) hb);cases r1;obtain⟨⟨cls,dd,data,sl⟩,ho,hc,n,hd⟩:=id p1;obtain⟨⟨cls2,dd2,data2,sl2⟩,ho2,hc2,n2,hd2⟩:=id p2;simp only at hc hd hc2 hd2;subst hc hd hc2 hd2;exact concat_meets ⟨_,ho,rfl⟩ ⟨_,ho2,rfl⟩ noFill_tuple_add seq_tuple_add PySem.F.slot_tuple_add PySem.F.entry_tuple_add (PySem.F.args_tuple_add_2 _ _) (tuple_addW0 a b _ _ n n2 dd dd2 sl sl2 (by rfl)) ⟨ho,ho2,⟨.ref b,H,I,rfl,q b H (aJ.refl H) hb⟩⟩
 ·refine OJ pins s σ H x y v u Q I rx ry ⟨a,b,xs,ys,e1,e2,cY.of ha,cY.of hb,hx,hz,fun z=>?_,fun _ p hp=>q p _ (aL hp _) az⟩;subst z;exact q a H (aJ.refl H) (by rw[ha,m7])
def zm:R2:=fun x y H Q=>∃(p:Addr) (xs:List V) (i:Int) (v:V),x=.ref p/\y=.int i/\(H p=some (.lst xs)\/H p=some (.tup xs))/\DR xs i=some v/\Q v H
theorem aZ:M3 X zm:=by
 have h:=(FJ (X:=X)).or S_;refine .mk ?_;intro a b pins s σ H x y v u Q I rx ry q;obtain⟨p,xs,i,z,e1,e2,hp,ha,q⟩:=q;intro hs;refine h a b pins s σ H x y v u Q I rx ry ?_ hs;rcases hp with hp | hp
 ·exact .inl ⟨p,xs,i,z,e1,e2,dI.of hp,ha,q⟩
 ·exact .inr ⟨p,xs,i,z,e1,e2,cY.of hp,ha,q⟩
theorem Ix.tup {a:Addr} {xs:List V} {i:Int} {v:V} {H:Hp} {Q:VK} (h:H a=some (.tup xs)) (e:DR xs i=some v) (q:Q v H):zm (.ref a) (.int i) H Q:=⟨a,xs,i,v,rfl,rfl,.inr h,e,q⟩
theorem Ix.lst {a:Addr} {xs:List V} {i:Int} {v:V} {H:Hp} {Q:VK} (h:H a=some (.lst xs)) (e:DR xs i=some v) (q:Q v H):zm (.ref a) (.int i) H Q:=⟨a,xs,i,v,rfl,rfl,.inl h,e,q⟩
theorem xV {js:List Nat} {ta:TA} {te:TE} {σ:St} {H:Hp} {Q:VK} {n:Nat} (hl:∀R:List V->Hp->Prop,R [.int n] H->ta σ H R) (hn:n<=1000000)
  (h:∀acc,H acc=none->∃Pv:Nat->List V->Hp->Prop,Pv 0 [] (upd H acc (.lst [])) /\
   (∀i ys H',i<n->Pv i ys H'->te (some (.int (0+(i:Nat)))::cu js σ) H' fun y dR=>dR acc=some (.lst ys)/\ys.length<sizeLine/\Pv (i+1) (ys++[y]) (upd dR acc (.lst (ys++[y])))) /\
   ∀ys H',Pv n ys H'->Q (.ref acc) H'):gK js (vJ ta) te σ H Q:=by
 refine hl _ ⟨n,rfl,by omega,by omega,fun acc hacc=>?_⟩
 obtain⟨Pv,h0,hs,hd⟩:=h acc hacc;have en:((n:Int)).toNat=n:=m8 n;rw[en];refine⟨fun i m ys H'=>m=n-i/\i<=n/\Pv i ys H',⟨n,rfl,gD _,h0⟩,?_⟩;rintro i m ys H2 ⟨rfl,hi,p⟩;by_cases hlt:i<n
 ·refine .inr ⟨hlt,fun x H3 y=>?_⟩;obtain⟨e,y⟩:=y;subst e y;have Qx:=hs i ys _ hlt p
  have fe:(fun(y:V) (dR:Hp)=>dR acc=some (.lst ys)/\ys.length<sizeLine/\Pv (i+1) (ys++[y]) (upd dR acc (.lst (ys++[y]))))=fun y H4=>H4 acc=some (.lst ys)/\ys.length<sizeLine/\∃m',m'<n-i/\(m'=n-(i+1)/\i+1<=n/\Pv (i+1) (ys++[y]) (upd H4 acc (.lst (ys++[y])))):=by
   funext y dR
   refine propext ⟨fun⟨a,b,c⟩=>⟨a,b,_,by omega,rfl,hlt,c⟩,fun⟨a,b,m',_,_,_,c⟩=>⟨a,b,c⟩⟩
  rw[fe] at Qx;exact Qx
 ·have e:i=n:=by omega
  subst e;exact .inl ⟨bN _,hd ys _ p⟩
theorem cO:cV X (.type "tuple") (fun vs H Q=>∃(p:Addr) (ys:List V),vs=[.ref p]/\H p=some (.lst ys)/\∀l,H l=none->Q (.ref l) (upd H l (.tup ys))):=by
 refine .mk ?_;intro pins s σ H vs us Q I r h;obtain⟨p,ys,e,hp,q⟩:=h;exact uH pins s σ H vs us Q I r ⟨p,ys,e,.inl ⟨dI.of hp,q⟩⟩
theorem pq:cV X (.type "list") (fun vs H Q=>∃(p:Addr) (ys:List V),vs=[.ref p]/\H p=some (.tup ys)/\∀l,H l=none->Q (.ref l) (upd H l (.lst ys))):=by
 refine .mk ?_;intro pins s σ H vs us Q I r h;obtain⟨p,ys,e,hp,q⟩:=h;exact nQ pins s σ H vs us Q I r ⟨p,ys,e,.inr (cY.of hp),q⟩
theorem Mg {ta:TA} {g:TG} {tb:TS} {D:Ends} {σ:St} {H:Hp} {n:Nat} (hl:∀R:List V->Hp->Prop,R [.int n] H->ta σ H R) (hn:n<=1000000) (Pv:Nat->St->Hp->Prop) (h0:Pv 0 σ H)
  (hs:∀i σ H,i<n->Pv i σ H->g (.int (0+(i:Nat))) σ H fun σ2 H2=>tb { D with nx:=Pv (i+1),ct:=Pv (i+1),bk:=D.nx } σ2 H2) (hd:∀σ H,Pv n σ H->D.nx σ H):uo (vJ ta) g tb D σ H:=by
 refine hl _ ⟨n,rfl,by omega,by omega,?_⟩
 rw[m8];exact vN Pv h0 hs hd
def QJ (t:TA):TE:=fun σ H Q=>t σ H fun xs H1=>xs.length<=sizeLine/\∀p H',H1 p=none->aJ H1 H'->H' p=some (.lst xs)->Q (.ref p) H'
def Qz (t:TA):TE:=fun σ H Q=>t σ H fun xs H1=>xs.length<=sizeLine/\∀p H',H1 p=none->aJ H1 H'->H' p=some (.tup xs)->Q (.ref p) H'
theorem bH {es:List Expr} {t:TA} {pos:Pos} (h:PA X es t):PE X (.List es pos) (QJ t):=by
 refine .mk ?_;intro pins s σ H Q I hq;refine wpAny_List_spliced (cH (h pos pins s σ H _ I hq) fun us s1 ⟨xs,H1,I1,r,z,q⟩=>⟨by rw[<- r.length]; exact z,?_⟩)
 have fr:H1 s1.heap.objs.size=none:=I1.hok.fresh (bN _);exact⟨.ref s1.heap.objs.size,upd H1 s1.heap.objs.size (.lst xs),I1.laid (t':=s1.toks) (fun b u e=>dW _ e) (bN _) ⟨z,us,0,r,jk _ rfl⟩,rfl,q _ _ fr (aL fr _) az⟩
theorem bf {es:List Expr} {t:TA} {x1} {pos:Pos} (h:PA X es t):PE X (.Tuple es x1 pos) (Qz t):=by
 refine .mk ?_;intro pins s σ H Q I hq;refine wpAny_Tuple_spliced (cH (h pos pins s σ H _ I hq) fun us s1 ⟨xs,H1,I1,r,z,q⟩=>⟨by rw[<- r.length]; exact z,?_⟩)
 have fr:H1 s1.heap.objs.size=none:=I1.hok.fresh (bN _);exact⟨.ref s1.heap.objs.size,upd H1 s1.heap.objs.size (.tup xs),I1.laid (t':=s1.toks) (fun b u e=>dW _ e) (bN _) ⟨z,us,r,⟨_,jk _ rfl,rfl,_,rfl⟩⟩,rfl,q _ _ fr (aL fr _) az⟩
def hid (a:Addr) (H:Hp):Hp:=fun b=>if b=a then none else H b
theorem bF {a b:Addr} {H:Hp} (h:b≠a):hid a H b=H b:=bx h
theorem j4 {a:Addr} {H:Hp}:hid a H a=none:=aR rfl
theorem j0 {a b:Addr} {H:Hp} {o:HO} (h:hid a H b=some o):b≠a/\H b=some o:=by
 by_cases e:b=a
 ·subst e; rw[j4] at h; cases h
 ·exact⟨e,by rw[bF e] at h; exact h⟩
theorem eY {a:Addr} {H:Hp} {o:HO}:hid a (upd H a o)=hid a H:=by
 funext b
 by_cases e:b=a
 ·subst e; rw[j4,j4]
 ·rw[bF e,bF e,aV e]
theorem bM {a p:Addr} {H:Hp} {o:HO} (h:p≠a):hid a (upd H p o)=upd (hid a H) p o:=by
 funext b
 by_cases e:b=a
 ·subst e; rw[j4,aV (Ne.symm h),j4]
 ·rw[bF e];by_cases e':b=p
  ·subst e'; rw[az,az]
  ·rw[aV e',aV e',bF e]
theorem cG {a:Addr} {H:Hp}:aJ (hid a H) H:=fun b o h=>(j0 h).2
def SX (a:Addr) (H H':Hp):Prop:=aJ (hid a H) (hid a H')
theorem SX.refl (a:Addr) (H:Hp):SX a H H:=aJ.refl _
theorem SX.trans {a:Addr} {H H1 H2:Hp} (x:SX a H H1) (y:SX a H1 H2):SX a H H2:=aJ.trans x y
theorem SX.of {a:Addr} {H H':Hp} (s:aJ H H'):SX a H H':=fun b o h=>by
 obtain⟨n,e⟩:=j0 h;rw[bF n]; exact s _ _ e
theorem SX.upd {a:Addr} {H:Hp} {o:HO}:SX a H (upd H a o):=by unfold SX; rw[eY]; exact aJ.refl _
theorem SX.get {a b:Addr} {H H':Hp} {o:HO} (s:SX a H H') (n:b≠a) (h:H b=some o):H' b=some o:=by
 have:=s b o (by rw[bF n]; exact h)
 exact(j0 this).2
def Tp (H:Hp) (a:Addr) (n:Nat):Prop:=∃x y z:Int,H a=some (.lst [.int x,.int y,.int z])/\0<=x/\0<=y/\y<4611686018427387904/\0<=z/\z<=n
theorem Tp.mono {H:Hp} {a:Addr} {n m:Nat} (h:Tp H a n) (l:n<=m):Tp H a m:=by
 obtain⟨x,y,z,e,h1,h2,h3,h4,h5⟩:=h;exact⟨x,y,z,e,h1,h2,h3,h4,by omega⟩
theorem Tp.same {H H':Hp} {a:Addr} {n:Nat} (h:Tp H a n) (s:aJ H H'):Tp H' a n:=by
 obtain⟨x,y,z,e,r⟩:=h;exact⟨x,y,z,s _ _ e,r⟩
theorem Tp.ne {H:Hp} {a b:Addr} {n:Nat} (h:Tp H a n) (e:H b=none):b≠a:=by
 obtain⟨x,y,z,q,_⟩:=h;intro z; subst z; rw[e] at q; cases q
theorem aJ.hid {a:Addr} {H H':Hp} (s:aJ H H'):aJ (L2.hid a H) (L2.hid a H'):=fun b o h=>by
 obtain⟨n,e⟩:=j0 h;rw[bF n]; exact s _ _ e
theorem SX.d_ {a p:Addr} {H H':Hp} {o:HO} (s:SX a H H') (hp:H p=none) (pa:p≠a):SX a H (L2.upd H' p o):=fun b u h=>by
 obtain⟨n,e⟩:=j0 h;rw[bM pa,aV (bU e hp)];exact s b u h
theorem Tp.d_ {H:Hp} {a p:Addr} {n:Nat} {o:HO} (t:Tp H a n) (pa:p≠a):Tp (L2.upd H p o) a n:=by
 obtain⟨x,y,z,e,r⟩:=t;exact⟨x,y,z,by rw[aV (Ne.symm pa)]; exact e,r⟩
def Nh (K:PySem.W.Frag) (H:Hp) (p:Addr) (xs:List V):Prop:=(∃o,H p=some (.yF o (.lst xs))) \/
 ∃(o:Obj) (its:Array Value) (n:Nat),K.lookup p=some o/\o.cls=.type "list" /\ o.dict=none/\o.data=.seq its n/\its.size<=sizeLine/\Vals xs its.toList
theorem Nh.sq {K:PySem.W.Frag} {H:Hp} {p:Addr} {xs:List V} (h:Nh K H p xs):dI K H p xs:=by
 rcases h with⟨o,h⟩ | h
 ·exact .inl (.inr ⟨o,h⟩)
 ·exact .inr h
theorem Nh.of {K:PySem.W.Frag} {H:Hp} {p:Addr} {xs:List V} (h:dI K H p xs) (o:Only H):Nh K H p xs:=by
 rcases h with(h | h) | h
 ·rcases o p with e | ⟨ob,ys,e⟩
  ·rw[e] at h; cases h
  ·rw[e] at h; cases h
 ·exact .inl h
 ·exact .inr h
theorem Nh.same {K:PySem.W.Frag} {H H':Hp} {p:Addr} {xs:List V} (h:Nh K H p xs) (s:aJ H H'):Nh K H' p xs:=by
 rcases h with⟨o,h⟩ | h
 ·exact .inl ⟨o,s _ _ h⟩
 ·exact .inr h
end
mutual
def fine (b:Nat):PyData->Bool
 | .none=>true
 | .bool _=>true
 | .int i=>decide (i.natAbs<=b)
 | .str x=>decide (x.length<=40)&&x.cps.toList.all fun c=>decide (c<4294967296)
 | .tuple ds=>xR b ds
 | .list ds=>xR b ds
 | .dict _=>false
def xR (b:Nat):List PyData->Bool
 | []=>true
 | d::ds=>fine b d&&xR b ds
end
mutual
def Wk:PyData->Nat
 | .tuple ds=>qG ds+3
 | .list ds=>qG ds+3
 | .dict _=>500
 | .none=>500
 | .bool _=>500
 | .int _=>500
 | .str _=>500
def qG:List PyData->Nat
 | []=>0
 | d::ds=>Wk d+2+qG ds
end
structure adQ (b D M:Nat) (d:PyData):Prop where
 f:fine b d=true
 dp:d.depth<=D
 m:Wk d<=M
structure XX (b D M:Nat) (ds:List PyData):Prop where
 f:∀d∈ds,fine b d=true
 dp:∀d∈ds,d.depth<=D
 m:qG ds<=M
section
variable {X:Cx}
end
theorem lY {xs:List V} {i:Int} (h:0<=i):jK xs none (some i)=xs.take i.toNat:=by
 obtain⟨j,rfl⟩:∃j:Nat,i=j:=⟨i.toNat,by omega⟩
 unfold jK;rw[HT.y_,HT.qF,List.drop_zero,Nat.sub_zero,m8];by_cases q:j<=xs.length
 ·rw[Nat.min_eq_left q]
 ·rw[Ex (by omega),qe,Ko (by omega)]
theorem nP {xs:List V} {i:Int} (h:0<=i):jK xs (some i) none=xs.drop i.toNat:=by
 obtain⟨j,rfl⟩:∃j:Nat,i=j:=⟨i.toNat,by omega⟩
 unfold jK;rw[HT.y_,HT.qF,m8];by_cases q:j<=xs.length
 ·rw[Nat.min_eq_left q,Ko (by rw[zx]; omega)]
 ·rw[Ex (by omega),Ke,List.take_nil,Kl (by omega)]
section
variable {X:Cx}
def wK:Value->Str
 | .str t _=>t
 | _=>""
theorem Cu (hu:X.A.units+64<cLine):mD X (compareOp .NotEq) (fun x y H Q=>∃d e,At H d x/\At H e y/\d.hasDict=false/\e.hasDict=false/\d.canLay0=true/\e.canLay0=true/\d.depth<=60/\Q (.bl (!PyData.eqv d e)) H):=by
 refine .mk ?_;intro pins s σ H x y v u Q I rx ry h;obtain⟨d,e,hd,he,n1,n2,c1,c2,dp,q⟩:=h;obtain⟨as,r1⟩:=jc I.hok _ _ _ hd rx n1;obtain⟨bs,r2⟩:=jc I.hok _ _ _ he ry n2;exact SeqAt.compareNe_reads r1 r2 c1 c2 (by have:=Nat.min_le_left d.depth e.depth; omega) (bG I q rfl)
theorem Cv (hu:X.A.units+64<cLine):mD X (compareOp .Eq) (fun x y H Q=>∃d e,At H d x/\At H e y/\d.hasDict=false/\e.hasDict=false/\d.canLay0=true/\e.canLay0=true/\d.depth<=60/\Q (.bl (PyData.eqv d e)) H):=by
 refine .mk ?_;intro pins s σ H x y v u Q I rx ry h;obtain⟨d,e,hd,he,n1,n2,c1,c2,dp,q⟩:=h;obtain⟨as,r1⟩:=jc I.hok _ _ _ hd rx n1;obtain⟨bs,r2⟩:=jc I.hok _ _ _ he ry n2;exact SeqAt.compareEq_reads r1 r2 c1 c2 (by have:=Nat.min_le_left d.depth e.depth; omega) (bG I q rfl)
end
def FK (g:TG) (tb:TS) (D:Ends) (σ:St) (vs:List V) (H1:Hp):Prop:=∃j:Int,vs=[.int j]/\-(2 ^ 62)<=j/\j<2 ^ 62/\∃W:Nat->Nat->St->Hp->Prop,(∃m,W 0 m σ H1)/\∀i m σ H,W i m σ H ->
 ((Ju 0 j.toNat).stop i H/\D.nx σ H)\/((Ju 0 j.toNat).go i H/\∃N:St->Hp->Prop,(∀σ' H',N σ' H'->∃m',m'<m/\W (i+1) m' σ' H')/\∀x H',(Ju 0 j.toNat).wg i H x H'->g x σ H' fun σ2 H2=>tb { D with nx:=N,ct:=N,bk:=D.nx } σ2 H2)
theorem mK {ta:TA} {g:TG} {tb:TS} {D:Ends} {σ:St} {H:Hp}:uo (vJ ta) g tb D σ H=ta σ H (FK g tb D σ):=rfl
theorem FK.of {g:TG} {tb:TS} {D:Ends} {σ:St} {H:Hp} {n:Nat} {i:Int} (ei:i=n) (hn:n<=1000000) (Pv:Nat->St->Hp->Prop) (h0:Pv 0 σ H)
  (hs:∀i σ H,i<n->Pv i σ H->g (.int (0+(i:Nat))) σ H fun σ2 H2=>tb { D with nx:=Pv (i+1),ct:=Pv (i+1),bk:=D.nx } σ2 H2) (hd:∀σ H,Pv n σ H->D.nx σ H):FK g tb D σ [.int i] H:=by
 subst ei;refine⟨n,rfl,by omega,by omega,?_⟩
 rw[m8];exact vN Pv h0 hs hd
def TK (K:PySem.W.Frag) (g:TG) (tb:TS) (D:Ends) (σ:St) (x:V) (H1:Hp):Prop:=∃a,x=.ref a/\(∃xs,cY K H1 a xs)/\∃W:Nat->Nat->St->Hp->Prop,(∃m,W 0 m σ H1)/\∀i m σ H,W i m σ H ->
 ((Ra K a).stop i H/\D.nx σ H)\/((Ra K a).go i H/\∃N:St->Hp->Prop,(∀σ' H',N σ' H'->∃m',m'<m/\W (i+1) m' σ' H')/\∀x H',(Ra K a).wg i H x H'->g x σ H' fun σ2 H2=>tb { D with nx:=N,ct:=N,bk:=D.nx } σ2 H2)
theorem yP {K:PySem.W.Frag} {tl:TE} {g:TG} {tb:TS} {D:Ends} {σ:St} {H:Hp}:uo (uE K tl) g tb D σ H=tl σ H (TK K g tb D σ):=rfl
theorem TK.of {K:PySem.W.Frag} {g:TG} {tb:TS} {D:Ends} {σ:St} {H:Hp} {a:Addr} {xs:List V} (ha:H a=some (.tup xs)) (Pv:Nat->St->Hp->Prop) (h0:Pv 0 σ H) (hl:∀i σ H',i<=xs.length->Pv i σ H'->H' a=some (.tup xs))
  (hs:∀i x σ H,xs[i]?=some x->Pv i σ H->g x σ H fun σ2 H2=>tb { D with nx:=Pv (i+1),ct:=Pv (i+1),bk:=D.nx } σ2 H2) (hd:∀σ H,Pv xs.length σ H->D.nx σ H):TK K g tb D σ (.ref a) H:=
 ⟨a,rfl,⟨xs,cY.of ha⟩,Pz (xs:=xs) Pv h0 (fun i σ H' hi p=>cY.of (hl i σ H' hi p)) hs hd⟩
def CK (js:List Nat) (te:TE) (σ:St) (Q:VK) (vs:List V) (H1:Hp):Prop:=∃j:Int,vs=[.int j]/\-(2 ^ 62)<=j/\j<2 ^ 62/\∀acc,H1 acc=none->∃W:Nat->Nat->List V->Hp->Prop,(∃m,W 0 m [] (upd H1 acc (.lst [])))/\∀i m ys H2,W i m ys H2 ->
 ((Ju 0 j.toNat).stop i H2/\Q (.ref acc) H2)\/((Ju 0 j.toNat).go i H2/\∀x H3,(Ju 0 j.toNat).wg i H2 x H3->te (some x::cu js σ) H3 fun y H4=>H4 acc=some (.lst ys)/\ys.length<sizeLine/\∃m',m'<m/\W (i+1) m' (ys++[y]) (upd H4 acc (.lst (ys++[y]))))
theorem GP {js:List Nat} {ta:TA} {te:TE} {σ:St} {H:Hp} {Q:VK}:gK js (vJ ta) te σ H Q=ta σ H (CK js te σ Q):=rfl
theorem CK.of {js:List Nat} {te:TE} {σ:St} {H:Hp} {Q:VK} {n:Nat} {i:Int} (ei:i=n) (hn:n<=1000000)
  (h:∀acc,H acc=none->∃Pv:Nat->List V->Hp->Prop,Pv 0 [] (upd H acc (.lst [])) /\
   (∀i ys H',i<n->Pv i ys H'->te (some (.int (0+(i:Nat)))::cu js σ) H' fun y dR=>dR acc=some (.lst ys)/\ys.length<sizeLine/\Pv (i+1) (ys++[y]) (upd dR acc (.lst (ys++[y])))) /\
   ∀ys H',Pv n ys H'->Q (.ref acc) H'):CK js te σ Q [.int i] H:=by
 subst ei;have:=xV (ta:=fun _ H R=>R [.int n] H) (σ:=σ) (H:=H) (Q:=Q) (js:=js) (te:=te) (n:=n) (fun R hR=>hR) hn h;exact this
def Gs (mg:Str->Option Value) (x:Str) (i:Str):Prop:=∃t,mg x=some (.str i t)
theorem Cr {X:Cx} {x:Str} {i:Str} {pos:Pos} (h:Gs X.mg x i) (hg:Gl X x:=by rfl) (hd:(x==("__debug__" : Str))=false:=by decide):PE X (.Name x pos) (tC (.str i)):=by
 obtain⟨t,ht⟩:=h;exact eE hg ht ⟨t,rfl⟩ hd
def dh (b:Int):List Int->Int
 | []=>b
 | x::r=>dh (if x>b then x else b) r
section
variable {prog:Program} {w:World} {A:Around} {R:Result->Shared->Prop} {It:Addr} {fp wr:List Addr} {n:Nat} {Pv:Nat->Value->Prop} {St:Nat->Heap->Prop}
theorem Le {ns:List Int} (W:Walks prog w A.in1 It fp wr n Pv St) (hn:n=ns.length) (hv:∀i v,Pv i v->∃t,v=.int (ns.getD i 0) t) (C:Addr) (nf:C∉fp) (d:Value):∀(m j:Nat) (z:Shared) (best:Int) (tb:Tok) (c:Nat),ns.length-j=m->j<=ns.length->St j z.heap ->
  z.heap.get? C=some ⟨.type "list",none,.seq #[.int best tb,.int best tb] c,#[]⟩ ->
  (∀t h' tk,(∀b o,b∉wr->b≠C->z.heap.get? b=some o->h'.get? b=some o)->R (.ok (.ret (.int (dh best (ns.drop j)) t))) { z with heap:=h',toks:=tk }) ->
  codeAny (model prog w) A (.builtin "max.loop" ⟨[.ref It,.none,.ref C],[("default",d)]⟩) R z:=by
 subst hn;have nw:C∉wr:=fun q=>nf (W.sub _ q);have nm:(toString "max" ++ toString ".loop" : String) = "max.loop" := by decide
 intro m
 induction m with
 | zero=>
  intro j z best tb c hm hj st hC fin;have e:j=ns.length:=by omega
  subst e;refine codeAny_builtin PySem.F.entry_max_loop ?_;rw[Around.under_plainId PySem.F.plain_max_loop _];show wpAny _ A.in1 (seqItems? (.ref C) >>= _) _ _ z;refine aW (qd hC rfl ?_);show wpAny _ A.in1 (tryCatch (pyNext (.ref It)) _ >>= _) _ _ z;refine aW (zQ (W.done z _ _ st fun h' tk kp=>?_));refine aW (wpAny_updateSeq (kp C _ nw hC) rfl (aW (Ca (cC ?_))));rw[Ke] at fin;exact fin tb _ tk fun b o h1 h2 h3=>(qj _ _ (Ne.symm h2)).trans (kp b o h1 h3)
 | succ m ih=>
  intro j z best tb c hm hj st hC fin;have lt:j<ns.length:=by omega
  refine codeAny_builtin PySem.F.entry_max_loop ?_;rw[Around.under_plainId PySem.F.plain_max_loop _];show wpAny _ A.in1 (seqItems? (.ref C) >>= _) _ _ z;refine aW (qd hC rfl ?_);show wpAny _ A.in1 (tryCatch (pyNext (.ref It)) _ >>= _) _ _ z;refine aW (zQ (W.item j z _ _ lt st fun v h' tk hP st' kp=>?_));obtain⟨t,rfl⟩:=hv j v hP;have hC':=kp C _ nw hC;show wpAny _ A.in1 (tryCatch (holding [_,_] (richCompare .Gt _ (.int best tb) >>= _)) _ >>= _) _ _ _;refine aW (zQ (rH (aW (richCompare_gives (op:=.Gt) (typeIs_int _ _ t) (typeIs_int _ _ tb) PySem.F.slot_int_gt PySem.F.entry_int_gt (PySem.F.args_int_gt_2 _ _) (gives_int_gt _ _ t tb) (fun x=>nomatch x) ?_))))
  refine aW (rH (Cg (aW (Ca (cC ?_)))))
  have dr:ns.drop j=ns.getD j 0::ns.drop (j+1):=by
   rw[Kq lt,iy,gO lt]; rfl
  rw[dr] at fin;by_cases hb:ns.getD j 0>best
  ·have e1:dh best (ns.getD j 0::ns.drop (j+1))=dh (ns.getD j 0) (ns.drop (j+1)):=by rw[dh,aR hb]
   rw[e1] at fin;rw[jo hb];simp only[if_true];refine aW (wpAny_updateSeq hC' rfl (aW (Ca ?_)));rw[nm];refine cC ⟨plainId_quiet PySem.F.plain_max_loop _,ih (j+1) _ _ t _ (by omega) lt (W.frame _ _ _ st' fun b hb o e=>?_) (zE _ hC' rfl) fun t2 h2 tk2 k2=>?_⟩
   ·exact(qj _ _ (fun q:C=b=>nf (by rw[q]; exact hb))).trans e
   ·exact fin t2 h2 tk2 fun b o h1 h3 e=>k2 b o h1 h3 ((qj _ _ (Ne.symm h3)).trans (kp b o h1 e))
  ·have e1:dh best (ns.getD j 0::ns.drop (j+1))=dh best (ns.drop (j+1)):=by rw[dh,bx hb]
   rw[e1] at fin;rw[jV hb];simp only[Ci,if_false];refine aW (Ca ?_);rw[nm];refine cC ⟨plainId_quiet PySem.F.plain_max_loop _,ih (j+1) _ best tb c (by omega) lt st' hC' fun t2 h2 tk2 k2=>?_⟩
   exact fin t2 h2 tk2 fun b o h1 h3 e=>k2 b o h1 h3 (kp b o h1 e)
theorem HW {ns:List Int} (W:Walks prog w A.in1 It fp wr n Pv St) (hn:n=ns.length) (hv:∀i v,Pv i v->∃t,v=.int (ns.getD i 0) t) (C:Addr) (nf:C∉fp) (d:Value) (z:Shared) (c:Nat) (st:St 0 z.heap)
  (hC:z.heap.get? C=some ⟨.type "list",none,.seq #[] c,#[]⟩)
  (f0:ns=[]->∀h' tk,(∀b o,b∉wr->b≠C->z.heap.get? b=some o->h'.get? b=some o)->R (.ok (.ret d)) { z with heap:=h',toks:=tk })
  (f1:∀x r,ns=x::r->∀t h' tk,(∀b o,b∉wr->b≠C->z.heap.get? b=some o->h'.get? b=some o)->R (.ok (.ret (.int (dh x r) t))) { z with heap:=h',toks:=tk }) :
  codeAny (model prog w) A (.builtin "max.loop" ⟨[.ref It,.none,.ref C],[("default",d)]⟩) R z:=by
 have nw:C∉wr:=fun q=>nf (W.sub _ q);have nm:(toString "max" ++ toString ".loop" : String) = "max.loop" := by decide
 refine codeAny_builtin PySem.F.entry_max_loop ?_;rw[Around.under_plainId PySem.F.plain_max_loop _];show wpAny _ A.in1 (seqItems? (.ref C) >>= _) _ _ z;refine aW (qd hC rfl ?_);show wpAny _ A.in1 (tryCatch (pyNext (.ref It)) _ >>= _) _ _ z;cases ns with
 | nil=>
  subst hn;refine aW (zQ (W.done z _ _ st fun h' tk kp=>?_));show wpAny _ A.in1 (rule _ >>= _) _ _ _;exact aW (uw (cC (f0 rfl h' tk fun b o h1 _ e=>kp b o h1 e)))
 | cons x r=>
  refine aW (zQ (W.item 0 z _ _ (by rw[hn]; exact Nat.succ_pos _) st fun v h' tk hP st' kp=>?_))
  obtain⟨t,e⟩:=hv 0 v hP;have e:v=.int x t:=e;subst e;have hC':=kp C _ nw hC;show wpAny _ A.in1 (updateSeq C (fun _=>#[Value.int x t,Value.int x t]) >>= _) _ _ _;refine aW (wpAny_updateSeq hC' rfl ?_);rw[nm];refine cC ⟨plainId_quiet PySem.F.plain_max_loop _,Le W hn hv C nf d _ 1 _ x t _ rfl (by simp) (W.frame _ _ _ st' fun b hb o e=>?_) (zE _ hC' rfl) fun t2 h2 tk2 k2=>?_⟩
  ·exact(qj _ _ (fun q:C=b=>nf (by rw[q]; exact hb))).trans e
  ·exact f1 x r rfl t2 h2 tk2 fun b o h1 h3 e=>k2 b o h1 h3 ((qj _ _ (Ne.symm h3)).trans (kp b o h1 e))
end
theorem Jf (a v:Value):argsOk "max" ⟨[a],[("default",v)]⟩:=by unfold argsOk; kernel_rfl
section
variable {prog:Program} {w:World} {A:Around} {E:Value->Shared->Prop} {s:Shared}
theorem I_ {l:Addr} {its:List Value} {ns:List Int} {d:Value} {Q:Value->Shared->Prop} (hh:A.handled=none) (hl:s.heap.IsList l its.toArray) (hi:∀i v,its[i]?=some v->∃t,v=Value.int (ns.getD i 0) t) (hlen:its.length=ns.length)
  (h0:ns=[]->∀h' tk,(∀b o,s.heap.get? b=some o->h'.get? b=some o)->Q d { s with heap:=h',toks:=tk })
  (h1:∀b r,ns=b::r->∀t h' tk,(∀b o,s.heap.get? b=some o->h'.get? b=some o)->Q (Value.int (dh b r) t) { s with heap:=h',toks:=tk }) :
  wpAny (model prog w) A (call (.builtin "max") [.ref l] [("default",d)]) Q E s:=by
 have nm:(toString "max" ++ toString ".loop" : String) = "max.loop" := by decide
 have lt:l<s.heap.objs.size:=by obtain⟨_,e,_⟩:=hl; exact eX e
 refine kmk_tree PySem.F.kind_max PySem.F.plain_max PySem.F.entry_max (Jf _ _) ?_;show wpAny _ A.in1 (Builtin.Builtins.bindParams "max" ["key","default"] 0 ⟨[],[("default",d)]⟩ >>= _) _ _ s;refine aW (oH (show Builtin.Builtins.bindParams "max" ["key","default"] 0 ⟨[],[("default",d)]⟩=pure [none,some d] from rfl) ?_);refine aW (cC ?_);refine aW (Ce hl ?_);refine aW (oN ?_);rw[nm];have W:=Walks.list (prog:=prog) (w:=w) (A:=A.in1) hh s.heap.objs.size l (dY lt) its.toArray;generalize eh:s.heap.push { cls:=.type "list_iterator",data:=.fields #[.ref l,.int 0 0] }=h1';have sz:h1'.objs.size=s.heap.objs.size+1:=by rw[<- eh,iK]
 have k1:∀b o,s.heap.get? b=some o->h1'.get? b=some o:=fun b o e=>by rw[<- eh]; exact dW _ e
 have hit:h1'.IsListIter s.heap.objs.size l 0:=by rw[<- eh]; exact⟨_,jk _ rfl,rfl,rfl⟩
 have hl1:h1'.IsList l its.toArray:=by rw[<- eh]; exact hl.push _
 have nf:h1'.objs.size∉[s.heap.objs.size,l]:=fun q=>by
  rcases cA.mp q with e | q
  ·rw[sz] at e; exact Nat.succ_ne_self _ e
  ·have e:=fX.mp q; rw[sz] at e; rw[<- e] at lt; exact oJ _ (zM (Kg _) lt)
 have ol:∀{h':Heap},(∀b o,b∉[s.heap.objs.size]->b≠h1'.objs.size->(h1'.push { cls:=.type "list",data:=.seq #[] 0 }).get? b=some o->h'.get? b=some o)->∀b o,s.heap.get? b=some o->h'.get? b=some o:=fun k b o e=>by
  have lb:=eX e;refine k b o (fun q=>?_) (fun q=>?_) (dW _ (k1 b o e))
  ·rw[fX.mp q] at lb; exact oJ _ lb
  ·rw[q,sz] at lb; exact oJ _ (zM (Kg _) lb)
 refine cC ⟨plainId_quiet PySem.F.plain_max_loop _,HW (ns:=ns) W (by rw[fj,hlen]) (fun i v e=>hi i v (by simpa using e)) h1'.objs.size nf d _ _ ?_ (jk _ rfl) (fun e h' tk k=>h0 e h' tk (ol k)) (fun x r e t h' tk k=>h1 x r e t h' tk (ol k))⟩
 exact W.frame _ _ _ (show h1'.IsListIter s.heap.objs.size l 0/\h1'.IsList l its.toArray from⟨hit,hl1⟩) fun b _ o e=>dW _ e
end
section
variable {X:Cx}
def QH (t:TA) (te:TE):TE:=fun σ H Q=>t σ H fun vs H1=>te σ H1 fun y H2=>∃(p:Addr) (ns:List Int),vs=[.ref p]/\H2 p=some (.lst (ns.map V.int))/\(ns=[]->Q y H2)/\∀b r,ns=b::r->Q (.int (dh b r)) H2
theorem mG {ns:List Int}:∀{us:List Value},Vals (ns.map V.int) us->∀i v,us[i]?=some v->∃t,v=Value.int (ns.getD i 0) t:=by
 induction ns with
 | nil=>intro us r i v e; cases r; simp at e
 | cons n ns ih=>
  intro us r i v e;cases r with
  | cons r1 r2=>
   cases i with
   | zero=>
    obtain⟨t,rfl⟩:=(r1:∃t,_=Value.int n t);simp at e;exact⟨t,e.symm⟩
   | succ i=>simpa using ih r2 i v (by simpa using e)
theorem xg {e e2:Expr} {t:TA} {te:TE} {p pos Pq:Pos} (hc:X.calm=true) (hm:X.mg "max" = none) (ha:PA X [e] t) (hk:PE X e2 te) (hg:Gl X "max" := by rfl) (h1:bK e=true:=by rfl) :
  PE X (.Call (.Name "max" p) [e] [⟨some "default",e2,Pq⟩] pos) (QH t te):=by
 refine .mk ?_;intro pins s σ H Q I h;refine qi (gW I hg hm gJ ?_ (by decide) (by decide))
 refine callWith_kw ?_ ?_ ?_ ?_ ?_
 ·refine cH (ha pos pins s σ H _ I h) fun us s1 qx=>?_;obtain⟨vs,H1,I1,r,q⟩:=qx;refine cH ((Oq hk RX:PK X [⟨some "default",e2,Pq⟩] _) pos pins s1 σ H1 (fun ys H2=>∃y,ys=[y]/\(∃(p:Addr) (ns:List Int),vs=[.ref p]/\H2 p=some (.lst (ns.map V.int))/\(ns=[]->Q y H2)/\∀b r,ns=b::r->Q (.int (dh b r)) H2)) I1 ?_) fun ws s2 ⟨zs,H2,I2,rz,q2⟩=>?_
  ·show te σ H1 (fun x H2=>∃y,[x]=[y]/\_)
   have fe:(fun(x:V) (H2:Hp)=>∃y,[x]=[y]/\(∃(p:Addr) (ns:List Int),vs=[.ref p]/\H2 p=some (.lst (ns.map V.int))/\(ns=[]->Q y H2)/\∀b r,ns=b::r->Q (.int (dh b r)) H2))=fun y H2=>∃(p:Addr) (ns:List Int),vs=[.ref p]/\H2 p=some (.lst (ns.map V.int))/\(ns=[]->Q y H2)/\∀b r,ns=b::r->Q (.int (dh b r)) H2:=by
    funext x H2
    refine propext ⟨?_,fun z=>⟨x,rfl,z⟩⟩;rintro⟨y,ey,z⟩;cases ey;exact z
   rw[fe];exact q
  ·obtain⟨y,rfl,l,ns,rfl,hl,q0,q1⟩:=q2;obtain⟨u,rfl,ru⟩:=r.one;cases ru;obtain⟨v,rfl,rv⟩:=rz.one;obtain⟨_,its,n,rvs,eo⟩:=I2.hok l _ hl;have hlen:=rvs.length;rw[dH] at hlen;refine I_ (ns:=ns) (I2.ok.hd hc) (show s2.heap.IsList l its.toArray from⟨_,eo,rfl,n,rfl⟩) (mG rvs) hlen.symm (fun e h' tk k=>⟨y,H2,I2.kept (t':=tk) k,rv,q0 e⟩) (fun b r e t h' tk k=>⟨.int (dh b r),H2,I2.kept (t':=tk) k,⟨t,rfl⟩,q1 b r e⟩)
 ·rw[bZ h1]; rfl
 ·exact b_ (es:=[e]) (by simp[h1])
 ·rfl
 ·rfl
end
def dN (t:Str):Nat:=if(("come" : Str)==t)=true then 0 else if(("done" : Str)==t)=true then 1 else 2
def Jz:List V:=[.str "come",.str "done",.str "wait"]
def VP (K:PySem.W.Frag):V->List V->Hp->VK->Prop:=fun x xs H Q=>∃(p:Addr) (t:Str),x=.ref p/\cY K H p Jz/\xs=[.str t]/\t∈(["come","done","wait"]:List Str)/\Q (.int (dN t)) H
def RP:V->List V->Hp->VK->Prop:=fun x xs H Q=>∃(p:Addr) (t:Str),x=.ref p/\H p=some (.lst Jz)/\xs=[.str t]/\t∈(["come","done","wait"]:List Str)/\Q (.int (dN t)) H
theorem lG {x y z:V} {us:List Value} (h:Vals [x,y,z] us):∃u v q,us=[u,v,q]/\RelV x u/\RelV y v/\RelV z q:=by
 obtain⟨u,r,rfl,h1,h⟩:=h.un;obtain⟨v,q,rfl,h2,h3⟩:=h.two;exact⟨u,v,q,rfl,h1,h2,h3⟩
theorem FN {t:Str} (h:t∈(["come","done","wait"]:List Str)) (h0:(("come" : Str)==t)=false) (h1:(("done" : Str)==t)=false):(("wait" : Str)==t)=true:=by
 simp only[cA,jJ,or_false] at h;rcases h with rfl | rfl | rfl
 ·revert h0; decide +kernel
 ·revert h1; decide +kernel
 ·decide +kernel
section
variable {X:Cx}
theorem yN {prog:Program} {w:World} {A:Around} {E:Value->Shared->Prop} {s:Shared} {p:Addr} {a b c t:Str} {k0 k1 k2 k3:Tok} {Q:Value->Shared->Prop} (ht:IsTup s.heap p #[.str a k0,.str b k1,.str c k2]) (hl:(a==t)=false->(b==t)=false->(c==t)=true)
  (q:∀tk,Q (Value.int (if(a==t)=true then 0 else if(b==t)=true then 1 else 2) tk) { s with toks:=s.toks+1 }):wpAny (model prog w) A (call (.builtin "tuple.index") [.ref p,.str t k3]) Q E s:=by
 refine wV PySem.F.slot_tuple_index ht.typeIs PySem.F.entry_tuple_index ?_ (PySem.F.args_tuple_index_2 _ _);show wpAny _ A.in1 (Builtin.Tuple.tupleItemsOf (.ref p) >>= _) _ _ s;refine aW (tupleItemsOf_ ht ?_);show wpAny _ _ ((pure 0:Sem Nat) >>= _) _ _ s;refine aW (cC ?_);show wpAny _ _ ((pure 3:Sem Nat) >>= _) _ _ s;refine aW (cC ?_);show wpAny _ _ (forIn [0:3] _ _ >>= _) _ _ s;rw[Std.Legacy.Range.forIn_eq_forIn_range'];have e:List.range' [0:3].start [0:3].size [0:3].step=[0,1,2]:=rfl;rw[e,Hk]
 have mk:∀(i:Int) {R:PySem.Fin->Shared->Prop},(∀tk,R (.done (.ret (.int i tk))) { s with toks:=s.toks+1 })->wpAny (model prog w) A.in1 (retInt i) R E s:=fun i {R} h=>by
  unfold retInt;refine aW (wpAny_mkInt (cC (h _)))
 have eq:∀(z:Str) (k:Tok),SeqAt.EqAt A.in1 s (.str z k) (.str t k3) (z==t):=fun z k=>SeqAt.EqAt.str_str z k t k3;cases e0:(a==t) with
 | true=>
  rw[e0] at q;refine aW (aW (aW (eq a k0 _ _ _ _ ?_)));rw[e0,aR rfl];refine aW (mk 0 fun tk=>cC (cC (cC ⟨_,rfl,q tk⟩)))
 | false=>
  rw[e0] at q;refine aW (aW (aW (eq a k0 _ _ _ _ ?_)));rw[e0,bx (by decide)]
  refine cC ?_;show wpAny _ _ (forIn [1,2] _ _) _ _ s;rw[Hk];cases e1:(b==t) with
  | true=>
   rw[e1] at q;refine aW (aW (eq b k1 _ _ _ _ ?_));rw[e1,aR rfl];refine aW (mk 1 fun tk=>cC (cC (cC ⟨_,rfl,q tk⟩)))
  | false=>
   rw[e1] at q;refine aW (aW (eq b k1 _ _ _ _ ?_));rw[e1,bx (by decide)]
   refine cC ?_;show wpAny _ _ (forIn [2] _ _) _ _ s;rw[Hk];refine aW (aW (eq c k2 _ _ _ _ ?_));rw[hl e0 e1,aR rfl];refine aW (mk 2 fun tk=>cC (cC (cC ⟨_,rfl,q tk⟩)))
theorem HX {K:PySem.W.Frag} (hK:X.K=K):T7 X "tuple.index" (VP K):=by
 subst hK;intro pins s σ H x xs v us Q I rx rv h;obtain⟨p,t,rfl,hp,rfl,ht,q⟩:=h;cases rx;obtain⟨u,rfl,tk,rfl⟩:=rv.one;obtain⟨its,r,pt,_⟩:=I.tuple hp;obtain⟨u0,u1,u2,rfl,⟨k0,rfl⟩,⟨k1,rfl⟩,⟨k2,rfl⟩⟩:=lG r;refine yN pt (FN ht) fun tk'=>⟨.int (dN t),H,I.tok _,⟨tk',?_⟩,q⟩;unfold dN;split
 ·rfl
 ·split <;> rfl
theorem HY:T7 X "list.index" RP:=by
 intro pins s σ H x xs v us Q I rx rv h;obtain⟨p,t,rfl,hp,rfl,ht,q⟩:=h;cases rx;obtain⟨u,rfl,tk,rfl⟩:=rv.one;obtain⟨_,its,n,r,e⟩:=I.hok p _ hp;obtain⟨u0,u1,u2,rfl,⟨k0,rfl⟩,⟨k1,rfl⟩,⟨k2,rfl⟩⟩:=lG r
 have ee:∀y,y ∈ #[Value.str "come" k0,Value.str "done" k1,Value.str "wait" k2]->SeqAt.EqAt X.A.in1 s y (.str t tk) (wK y==t):=fun y hy=>by
  simp only[List.mem_toArray,cA,jJ,or_false] at hy;rcases hy with rfl | rfl | rfl <;> exact SeqAt.EqAt.str_str _ _ _ _
 have fin:∀j:Nat,dN t=j->(∃x H',Inv X pins σ H' { s with toks:=s.toks+1 }/\RelV x (.int (j:Int) s.toks)/\Q x H'):=fun j ej=>⟨.int j,H,I.tok _,⟨_,rfl⟩,by rw[<- ej]; exact q⟩
 cases e0:(("come" : Str)==t) with
 | true=>
  refine call_meets PySem.F.slot_list_index ⟨_,e,rfl⟩ PySem.F.entry_list_index (PySem.F.args_list_index_2 _ _) (SeqAt.list_indexAt p #[.str "come" k0,.str "done" k1,.str "wait" k2] n none #[] (.str t tk) (fun y=>wK y==t) 0 (by show 0<3; decide) (by decide) e0 (fun m hm h=>by omega)) ⟨e,ee,?_⟩
  exact fin 0 (by unfold dN; rw[aR e0])
 | false=>
  cases e1:(("done" : Str)==t) with
  | true=>
   refine call_meets PySem.F.slot_list_index ⟨_,e,rfl⟩ PySem.F.entry_list_index (PySem.F.args_list_index_2 _ _) (SeqAt.list_indexAt p #[.str "come" k0,.str "done" k1,.str "wait" k2] n none #[] (.str t tk) (fun y=>wK y==t) 1 (by show 1<3; decide) (by decide) e1 (fun m hm h=>by
    have:m=0:=by omega
    subst this; exact e0)) ⟨e,ee,?_⟩
   exact fin 1 (by unfold dN; rw[bx (by rw[e0]; decide),aR e1])
  | false=>
   refine call_meets PySem.F.slot_list_index ⟨_,e,rfl⟩ PySem.F.entry_list_index (PySem.F.args_list_index_2 _ _) (SeqAt.list_indexAt p #[.str "come" k0,.str "done" k1,.str "wait" k2] n none #[] (.str t tk) (fun y=>wK y==t) 2 (by show 2<3; decide) (by decide) (FN ht e0 e1) (fun m hm h=>by
    have:m=0\/m=1:=by omega
    rcases this with rfl | rfl
    ·exact e0
    ·exact e1)) ⟨e,ee,?_⟩
   exact fin 2 (by unfold dN; rw[bx (by rw[e0]; decide),bx (by rw[e1]; decide)])
def GT2 (K:PySem.W.Frag) (mg:Str->Option Value) (x:Str) (W:List V):Prop:=∃a,mg x=some (.ref a)/\(∃o,K.lookup a=some o/\o.cls=.type "tuple" /\ o.dict=none)/\∀H,cY K H a W
def Rn (K:PySem.W.Frag) (W:List V):TE:=fun _ H Q=>∀a,(∃o,K.lookup a=some o/\o.cls=.type "tuple" /\ o.dict=none)->(∀H',cY K H' a W)->Q (.ref a) H
theorem Fg {K:PySem.W.Frag} {x:Str} {W:List V} {pos:Pos} (hK:X.K=K) (h:GT2 K X.mg x W) (hg:Gl X x:=by rfl) (hd:(x==("__debug__" : Str))=false:=by decide):PE X (.Name x pos) (Rn K W):=by
 obtain⟨a,ha,ho,hs⟩:=h;refine .mk ?_;intro pins s σ H Q I q;exact eE (v:=.ref a) hg ha rfl hd pins s σ H Q I (q a ho hs)
end
section
variable {X:Cx} {pos:Pos}
def QD (i j l:Nat) (ta:TA):TS:=fun D σ H=>ta σ H fun vs H1=>∃v w z,vs=[v,w,z]/\D.nx (((σ.set l (some z)).set j (some w)).set i (some v)) H1
theorem Om {i j l:Nat} {x y z:Str} {a b c:Expr} {ta:TA} {px py pz pt:Pos} {kt k2 RV} (hc:X.calm=true) (hN:X.N.Nodup) (hi:X.N[i]?=some x) (hj:X.N[j]?=some y) (hl:X.N[l]?=some z)
  (hx:X.env.scope.names.lookup x=some .local) (hy:X.env.scope.names.lookup y=some .local) (hz:X.env.scope.names.lookup z=some .local) (ha:PA X [a,b,c] ta)
  (hw:swappedStores [.Tuple [.Name x px,.Name y py,.Name z pz] kt pt] (.Tuple [a,b,c] k2 RV) X.env=pure (some [x,y,z]))
  (hs:swapsWithSole [.Tuple [.Name x px,.Name y py,.Name z pz] kt pt] (.Tuple [a,b,c] k2 RV) pos.line X.env=pure false:=by rfl) :
  PS X (.Assign [.Tuple [.Name x px,.Name y py,.Name z pz] kt pt] (.Tuple [a,b,c] k2 RV) pos) (QD i j l ta):=by
 refine .mk ?_;intro pins s σ H D I h;rw[exec_Assign_arm,hs];refine aW (uy (aW (cC ?_)));rw[bx (by decide)]
 refine aW (Tuple_ (cH (ha _ pins s σ H _ I h) fun us s1 qx=>?_));obtain⟨vs,H1,I1,r1,v,w,t,e1,q1⟩:=qx;subst e1;obtain⟨u1,u2,u3,rfl,rv,Hd,rt⟩:=lG r1;refine oN ?_ (by show 3<=sizeLine; decide)
 have I2:Inv X pins σ H1 { s1 with heap:=s1.heap.push { cls:=.type "tuple",data:=.seq [u1,u2,u3].toArray } }:=I1.kept (t':=s1.toks) fun b o e=>dW _ e
 rw[hw];refine aW (cC ?_);show wpAny (model X.prog X.w) X.A (do rule "assign.swapped-stores"; let items <- unpackItems (.ref s1.heap.objs.size) 3 none; assignInOrder [fun v=>bindName X.env z v,fun v=>bindName X.env y v,fun v=>bindName X.env x v] items.reverse; pure Flow.next) _ _ _
 refine aW (uw (aW (unpackItems_tuple (items:=#[u1,u2,u3]) (I.ok.hd hc) (IsTup.new s1.heap _) fun h' hx'=>?_)));have I3:=I2.kept (h':=h') (t':=s1.toks) fun b o e=>hx' b o (dY (eX e)) e;show wpAny _ _ (assignInOrder [fun v=>bindName X.env z v,fun v=>bindName X.env y v,fun v=>bindName X.env x v] [u3,u2,u1] >>= fun _=>pure Flow.next) _ _ _;refine aW (assignInOrder_cons (Hh (eU I3 hN hl (.inl hz) rt (fun s2 I4=>?_) (.inr hz))));refine assignInOrder_cons (Hh (eU I4 hN hj (.inl hy) Hd (fun s3 I5=>?_) (.inr hy)));exact assignInOrder_cons (Hh (eU I5 hN hi (.inl hx) rv (fun s4 I6=>assignInOrder_nil (cC ⟨_,H1,I6,q1⟩)) (.inr hx)))
end
theorem Inv.Ea {X:Cx} {pins:List (Addr×Obj)} {σ:St} {H:Hp} {s:Shared} {h':Heap} {t':Nat} {e it:Addr} (I:Inv X pins σ H s) (k:∀b o,b≠e->b≠it->s.heap.get? b=some o->h'.get? b=some o) (fe:fO X pins H e) (fi:fO X pins H it) :
  Inv X pins σ H { s with heap:=h',toks:=t' }:=by
 have k2:∀b o,b∉[e,it]->s.heap.get? b=some o->h'.get? b=some o:=fun b o hb q=>k b o (fun z=>hb (by simp[z])) (fun z=>hb (by simp[z])) q
 have fp:∀b∈[e,it],fO X pins H b:=fun b hb=>by
  rcases cA.mp hb with z | z
  ·rw[z]; exact fe
  ·rw[fX.mp z]; exact fi
 have ni:∀b u,H b=some u->b∉[e,it]:=fun b u q hb=>by rw[(fp b hb).1] at q; cases q
 refine I.step (g':=s.gens) (d':=s.drawn) (ch:=[e,it]) (fun b hb=>?_) (fun b o _ _ hc q _=>k2 b o hc q) (fun b o _ _ hc q _=>⟨o.slots,k2 b o hc q⟩) (fun _ _ _ _ n=>n) (fun b o hc q=>⟨o,k2 b o hc q⟩) (fun _ _ q=>q) (fun _ _ _ q=>q)
  (fun b ps q=>⟨#[],by rw[q]; simp⟩) (fun m hm=>?_) (fun b u q=>?_) I.bare
 ·obtain⟨_,f1,_,f3,f4,f5⟩:=fp b hb;exact⟨f3,f1,f4,f5⟩
 ·obtain⟨o,es,ep,ho,r⟩:=hm;refine⟨o,es,ep,k2 _ o (fun hb=>(fp _ hb).2.1 rfl) ho,r⟩
 ·refine(I.hok b u q).stay (fun c v hc z=>k2 c v ?_ z) (fun _ z=>z) fun _ _ z=>z;rcases hc with z | z
  ·rw[z]; exact ni b u q
  ·exact ni c _ z
def Uz (K:PySem.W.Frag) (a:Addr):It:=
 ⟨fun i H=>∃xs x,dI K H a xs/\xs[i]?=some x,fun i H x H'=>∃p y,H p=none/\x=.ref p/\H'=upd H p (.tup [.int i,y])/\∀xs,dI K H a xs->xs[i]?=some y,fun i H=>∃xs,dI K H a xs/\xs.length<=i⟩
theorem GJ {P:Program} {w:World} {K:PySem.W.Frag} {elts:List Expr} {x1} {tp:Pos} (a e it:Addr) (hne:e≠it):Turn P w K (.Tuple elts x1 tp) (Uz K a) [e,it] e (fun i h=>(∃old,IsEnum h e it (i:Nat) old)/\h.IsListIter it a i) where
 mem:=by simp
 obj:=fun i h st b hb=>by
  obtain⟨⟨old,he⟩,o,ho,c,d⟩:=st;rcases cA.mp hb with z | z
  ·rw[z]; exact⟨_,he,fun v q=>by cases q⟩
  ·rw[fX.mp z]; exact⟨o,ho,fun v q=>by rw[d] at q; cases q⟩
 keep:=fun i h h' st k=>by
  obtain⟨⟨old,he⟩,hi⟩:=st;exact⟨⟨old,k e (by simp) _ he⟩,hi.at fun o q=>k it (by simp) o q⟩
 item:=by
  intro X hP hw hK hc i pins s σ H E I hf st hg;subst hP hw hK;obtain⟨⟨old,he⟩,hi⟩:=st;obtain⟨xs,x,hq,hx⟩:=hg;obtain⟨its,rv,p,hz⟩:=I.list hq;obtain⟨u,hu,ru⟩:=rv.get hx;have fe:=hf e (by simp)
  have fi:=hf it (by simp)
  refine wpAny_pyNext_enum_item he hi p.isList (x:=u) (by simpa using hu) hne fun h' eo hi' ht hsz kk=>?_
  have fr:H s.heap.objs.size=none:=I.hok.fresh (bN _)
  have I1:Inv X pins σ (upd H s.heap.objs.size (.tup [.int i,x])) { s with heap:=s.heap.push { cls:=.type "tuple",data:=.seq #[.int i s.toks,u] },toks:=s.toks }:=
   I.laid (t':=s.toks) (fun b v q=>dW _ q) (bN _) ⟨(by show 2<=sizeLine; decide),[.int i s.toks,u],.cons ⟨_,rfl⟩ (.cons ru .nil),⟨_,jk _ rfl,rfl,_,rfl⟩⟩
  have ee:e<s.heap.objs.size:=eX he;have ei:it<s.heap.objs.size:=by obtain⟨o,ho,_⟩:=hi; exact eX ho
  have Di:fO X pins (upd H s.heap.objs.size (.tup [.int i,x])) e:=⟨by rw[aV (dY ee)]; exact fe.1,fe.2⟩
  have Wz:fO X pins (upd H s.heap.objs.size (.tup [.int i,x])) it:=⟨by rw[aV (dY ei)]; exact fi.1,fi.2⟩
  have I2:Inv X pins σ (upd H s.heap.objs.size (.tup [.int i,x])) { s with heap:=h',toks:=s.toks+1 }:=I1.Ea (t':=s.toks+1) (fun b o h1 h2 q=>by
   by_cases z:b=s.heap.objs.size
   ·subst z;rw[jk _ rfl] at q;cases q;exact ht
   ·rcases Heap.get?_push_cases q with w | w
    ·exact absurd w.1 z
    ·exact kk b o h1 h2 w) Di Wz
  refine⟨_,rfl,wpAny_letOwnedTupleGo_enum eo fun h'' en sb=>⟨.ref s.heap.objs.size,_,I2.turned (it:=e) (t':=s.toks+1) (fun b o hb q=>sb.extBut b o hb q) Di.1 Di.2.1 Di.2.2.2.1 Di.2.2.2.2.1 Di.2.2.2.2.2,rfl,⟨_,x,fr,rfl,rfl,fun ys hy=>by rw[I.sE hy hq]; exact hx⟩,⟨⟨_,en⟩,?_⟩,fun b hb=>?_⟩⟩
  ·exact hi'.at fun o q=>sb.extBut it o (Ne.symm hne) q
  ·rcases cA.mp hb with z | z
   ·rw[z]; exact Di.1
   ·rw[fX.mp z]; exact Wz.1
 done:=by
  intro X hP hw hK hc i pins s σ H E I hf st hg;subst hP hw hK;obtain⟨⟨old,he⟩,hi⟩:=st;obtain⟨xs,hq,hx⟩:=hg;obtain⟨its,rv,p,hz⟩:=I.list hq;have hl:=rv.length;obtain⟨f0,f1,f2,f3,f4,f5⟩:=hf it (by simp)
  exact wpAny_pyNext_enum_end (I.ok.hd hc) he hi p.isList (by simp; omega) fun h' eb=>⟨rfl,I.turned (t':=s.toks) (fun b o hb q=>eb b o hb q) f0 f1 f3 f4 f5⟩
 self:=fun _ _ _ _ _ st h=>by
  obtain⟨⟨old,he⟩,_⟩:=st;exact Ez he h
section
variable {X:Cx}
def Ly (K:PySem.W.Frag) (ta:TA):TI:=fun σ H R=>ta σ H fun vs H1=>∃a,vs=[.ref a]/\(∃xs,dI K H1 a xs)/\R (Uz K a) H1
theorem Ff {K:PySem.W.Frag} {e:Expr} {elts:List Expr} {x1} {tp p pos:Pos} {ta:TA} (hK:X.K=K) (hm:X.mg "enumerate" = none) (ha:PA X [e] ta) (hg:Gl X "enumerate" := by rfl) (h1:bK e=true:=by rfl) :
  PI X (.Tuple elts x1 tp) (.Call (.Name "enumerate" p) [e] [] pos) (Ly K ta):=by
 subst hK;refine .mk ?_;intro pins s σ H R I h;refine qi (gW I hg hm nR ?_ (by decide) (by decide))
 refine PyProof.Rows.callWith_type1 (cH (ha pos pins s σ H _ I h) fun us s1 ⟨vs,H1,I1,r1,q1⟩=>?_) (bZ h1) (b_ (es:=[]) rfl);obtain⟨a,rfl,⟨xs,hq⟩,q⟩:=q1;obtain⟨u,rfl,ru⟩:=r1.one;cases ru;obtain⟨its,rv,pl,hz⟩:=I1.list hq;refine call_enumerate_list pl.isList fun h' he hi hsz kk=>?_;have I2:Inv X pins σ H1 { s1 with heap:=h' }:=I1.kept (t':=s1.toks) kk
 have f1:H1 (s1.heap.objs.size+1)=none:=I1.hok.fresh (Nat.le_succ _);have f0:H1 s1.heap.objs.size=none:=I1.hok.fresh (bN _);refine Ez he ⟨s1.heap.objs.size+1,_,_,Uz X.K a,H1,rfl,I2,GJ a (s1.heap.objs.size+1) s1.heap.objs.size (Nat.succ_ne_self _),⟨⟨_,he⟩,hi⟩,fun b hb=>?_,q⟩;rcases cA.mp hb with z | z
 ·rw[z]; exact I1.qt (Nat.le_succ _) f1
 ·rw[fX.mp z]; exact I1.qt (bN _) f0
def EK (K:PySem.W.Frag) (g:TG) (tb:TS) (D:Ends) (σ:St) (vs:List V) (H1:Hp):Prop:=∃a,vs=[.ref a]/\(∃xs,dI K H1 a xs)/\∃W:Nat->Nat->St->Hp->Prop,(∃m,W 0 m σ H1)/\∀i m σ H,W i m σ H ->
 ((Uz K a).stop i H/\D.nx σ H)\/((Uz K a).go i H/\∃N:St->Hp->Prop,(∀σ' H',N σ' H'->∃m',m'<m/\W (i+1) m' σ' H')/\∀x H',(Uz K a).wg i H x H'->g x σ H' fun σ2 H2=>tb { D with nx:=N,ct:=N,bk:=D.nx } σ2 H2)
theorem GK {K:PySem.W.Frag} {ta:TA} {g:TG} {tb:TS} {D:Ends} {σ:St} {H:Hp}:uo (Ly K ta) g tb D σ H=ta σ H (EK K g tb D σ):=rfl
theorem EK.of {K:PySem.W.Frag} {g:TG} {tb:TS} {D:Ends} {σ:St} {H:Hp} {a:Addr} {xs:List V} (ha:H a=some (.lst xs)) (Pv:Nat->St->Hp->Prop) (h0:Pv 0 σ H) (hl:∀i σ H',i<=xs.length->Pv i σ H'->H' a=some (.lst xs))
  (hs:∀i x σ H p,xs[i]?=some x->Pv i σ H->H p=none->g (.ref p) σ (upd H p (.tup [.int (i:Nat),x])) fun σ2 H2=>tb { D with nx:=Pv (i+1),ct:=Pv (i+1),bk:=D.nx } σ2 H2) (hd:∀σ H,Pv xs.length σ H->D.nx σ H):EK K g tb D σ [.ref a] H:=by
 refine⟨a,rfl,⟨xs,dI.of ha⟩,fun i m σ H=>m=xs.length-i/\i<=xs.length/\Pv i σ H,⟨_,rfl,gD _,h0⟩,?_⟩;rintro i m σ H ⟨rfl,hi,p⟩;have q:dI K H a xs:=dI.of (hl i σ H hi p);by_cases hlt:i<xs.length
 ·refine .inr ⟨⟨xs,xs[i],q,gO hlt⟩,Pv (i+1),fun σ' H' p'=>⟨xs.length-(i+1),by omega,rfl,hlt,p'⟩,fun x H' y=>?_⟩
  obtain⟨t,z,ht,rfl,rfl,hz⟩:=y;exact hs i z σ H t (hz xs q) p ht
 ·have e:i=xs.length:=by omega
  subst e;exact .inl ⟨⟨xs,q,bN _⟩,hd σ H p⟩
end
theorem vC:∀(l:List Int) (b x:Int),dh b (l++[x])=if x>dh b l then x else dh b l
 | [],b,x=>rfl
 | y::l,b,x=>by
  show dh (if y>b then y else b) (l++[x])=_
  rw[vC l]; rfl
theorem Gq (val:Nat->Int):∀k,val (argBest (fun i j=>decide (val i>val j)) k)=dh (val 0) ((List.range k).map fun i=>val (i+1))
 | 0=>rfl
 | k+1=>by
  have ih:=Gq val k;rw[zU,lQ];show val (if decide (val (k+1)>val (argBest _ k))=true then k+1 else argBest _ k)=dh (val 0) (_++[val (k+1)])
  rw[vC,<- ih];by_cases h:val (k+1)>val (argBest (fun i j=>decide (val i>val j)) k)
  ·rw[aR (jo h),aR h]
  ·rw[bx (by rw[jV h]; decide),bx h]
def pairOf:Value->Int×Tok
 | .int i t=>(i,t)
 | _=>(0,0)
theorem sS:∀{ns:List Int} {us:List Value},Vals (ns.map V.int) us->us.toArray=intItems (us.map pairOf).toArray/\us.map (fun u=>(pairOf u).1)=ns
 | [],_,.nil=>⟨by simp[intItems],rfl⟩
 | n::ns,_,.cons r t=>by
  obtain⟨tk,rfl⟩:=(r:∃tk,_=Value.int n tk);obtain⟨h1,h2⟩:=sS t;refine⟨?_,by rw[ux,h2]; rfl⟩
  have h1':=lO Array.toList h1;unfold intItems at h1' ⊢
  apply Array.ext'
  simp at h1' ⊢;exact⟨⟨rfl,rfl⟩,h1'⟩
section
variable {X:Cx}
theorem IW (hc:X.calm=true):cV X (.builtin "max") (fun vs H Q=>∃(p:Addr) (b:Int) (r:List Int),vs=[.ref p]/\H p=some (.lst ((b::r).map V.int))/\Q (.int (dh b r)) H):=by
 refine .mk ?_;intro pins s σ H vs us Q I r h;obtain⟨p,b,rs,rfl,hp,q⟩:=h;obtain⟨u,rfl,ru⟩:=r.one;cases ru;obtain⟨_,its,n,rv,e⟩:=I.hok p _ hp;obtain⟨e1,e2⟩:=sS rv;have hl:s.heap.IsList p (intItems (its.map pairOf).toArray):=by rw[<- e1]; exact⟨_,e,rfl,n,rfl⟩
 have hlen:=rv.length;rw[dH] at hlen
 have na:∀i,numAt (its.map pairOf).toArray i=(b::rs).getD i 0:=fun i=>by
  unfold numAt;rw[<- e2,iy];simp;rfl
 refine max_intList (I.ok.hd hc) hl (by simp; rw[<- hlen]; simp) fun v h' tk hv k=>?_
 obtain⟨t,rfl⟩:=intItems_at hv;refine⟨.int (dh b rs),H,I.kept (t':=tk) k,⟨t,?_⟩,q⟩;have:=Gq (numAt (its.map pairOf).toArray) ((its.map pairOf).toArray.size-1);rw[this]
 congr 1
 have sz:(its.map pairOf).toArray.size-1=rs.length:=by simp; rw[<- hlen]; simp
 rw[sz,na 0];show dh b _=_
 congr 1
 apply Kf
 ·simp
 ·intro i h1 h2;simp at h1 h2;rw[List.getElem_map,Ho,na (i+1)];simp[iy,h2]
theorem Ja:cV X (.type "list") (fun vs H Q=>∃(p:Addr) (ys:List V),vs=[.ref p]/\H p=some (.lst ys)/\∀l,H l=none->Q (.ref l) (upd H l (.lst ys))):=by
 refine .mk ?_;intro pins s σ H vs us Q I r h;obtain⟨p,ys,e,hp,q⟩:=h;exact nQ pins s σ H vs us Q I r ⟨p,ys,e,.inl (dI.of hp),q⟩
theorem jx {K:PySem.W.Frag} {o e:Expr} {es:List Expr} {to:TE} {t:TA} {name:Str} {apos cpos:Pos} {T id:String} {r:V->List V->Hp->VK->Prop} (hK:X.K=K) (pa:PlainAttrs T) (slot:Slot T name id) (hty:typeOf (.builtin id)=pure (.type "method_descriptor")) (hm:T7 X id r) (ho:PE X o to) (ha:PA X (e::es) t)
  (hbase:attributeBase o name X.env (eval o X.env)=eval o X.env:=by rfl)
  (hfew:((backTo cpos (starEach (e::es) X.env)).all (fun x=>!x.1)&&(backToKw cpos (keywordEach [] X.env)).all (fun x=>x.1.isSome)&&decide ((e::es).length+([]:List Keyword).length+(if([]:List Keyword).isEmpty then 0 else 1)<30))=true:=by rfl)
  (hline:(apos.endLine==cpos.line)=true:=by rfl) (hs:starEach (e::es) X.env=(false,eval e X.env)::starEach es X.env:=by rfl) (hplain:(backTo cpos (starEach es X.env)).any (·.1)=false:=by rfl):PE X (.Call (.Attribute o name apos) (e::es) [] cpos) (Yc K T r to t):=by
 subst hK;exact Wb pa slot hty hm ho ha hbase hfew hline hs hplain
end
theorem Bt:isSubtype (.type "range_iterator") (.type "reversed")=pure false:=by rw[isSubtype_type]; kernel_rfl
section
variable {prog:Program} {w:World} {A:Around} {E:Value->Shared->Prop} {s:Shared}
def rE (n:Int):Obj:={ cls:=.type "range_iterator",data:=.fields #[rawInt (n-1),rawInt n,rawInt (-1)] }
theorem tV {r:Addr} {n:Int} {t u v:Tok} {Q:Value->Shared->Prop} (hr:IsRange s.heap r 0 n 1 t u v) (h0:0<=n) (h1:n<2 ^ 62) (h:Q (.ref s.heap.objs.size) { s with heap:=s.heap.push (rE n) }) :
  wpAny (model prog w) A (call (.builtin "range.__reversed__") [.ref r]) Q E s:=by
 have hT:s.TypeIs (.ref r) "range" := ⟨_,hr,rfl⟩;refine wV PySem.F.slot_range_reversed hT PySem.F.entry_range_reversed ?_ (PySem.F.args_range_reversed_1 _);unfold Builtin.«range.__reversed__»;refine aW (oH (a:=Value.ref r) rfl ?_)
 have rf:∀{R:Int×Int×Int->Shared->Prop},R (0,n,1) s->wpAny (model prog w) A.in1 (Builtin.Range.rangeFields (.ref r)) R E s:=fun {R} hR=>by
  unfold Builtin.Range.rangeFields;refine aW (gQ hr rfl (x:=.int 0 t) rfl (aW (oH (a:=some (0:Int)) rfl ?_)));refine aW (gQ hr rfl (x:=.int n u) rfl (aW (oH (a:=some n) rfl ?_)));exact aW (gQ hr rfl (x:=.int 1 v) rfl (aW (oH (a:=some (1:Int)) rfl (cC hR))))
 refine aW (rf ?_);dsimp only;have sz:Builtin.Range.rangeSize 0 n 1=n:=by rw[rangeSize_one]; split <;> omega
 rw[sz]
 have sm:(Builtin.Range.rangeFitsLong 0&&Builtin.Range.rangeFitsLong n&&Builtin.Range.rangeFitsLong 1&&Builtin.Range.rangeFitsLong (-1)&&Builtin.Range.rangeFitsLong (0-1)&&Builtin.Range.rangeFitsLong n)=true:=by
  have:Builtin.Range.rangeFitsLong n=true:=by simp only[Builtin.Range.rangeFitsLong,Cd,decide_eq_true_eq]; omega
  rw[this]; decide
 rw[sm];simp only[Hg,Ci,if_false,if_true];have e1:(0+(n-1)*1:Int)=n-1:=by omega
 rw[e1];exact aW (oN (cC ⟨_,rfl,h⟩))
theorem tQ {r:Addr} {n:Int} {t u v:Tok} {Q:Value->Shared->Prop} (hr:IsRange s.heap r 0 n 1 t u v) (h0:0<=n) (h1:n<2 ^ 62) (h:Q (.ref s.heap.objs.size) { s with heap:=s.heap.push (rE n) }) :
  codeAny (model prog w) A (.call (.builtin "reversed.__new__") ⟨[.type "reversed",.ref r],[]⟩) (wants Q E) s:=by
 have hT:s.TypeIs (.ref r) "range" := ⟨_,hr,rfl⟩;refine codeAny_of_tree ?_;show wpAny _ A.in1 (do checkBuiltinCall "reversed.__new__" ⟨[.type "reversed",.ref r],[]⟩; again (.builtin "reversed.__new__" ⟨[.type "reversed",.ref r],[]⟩)) _ _ s
 refine aW (oH (F.newCall_reversed_1 (.ref r)) (cC ⟨plainId_quiet F.plain_reversed_new _,codeAny_builtin F.entry_reversed_new ?_⟩));rw[Around.under_plainId F.plain_reversed_new _];unfold Builtin.«reversed.__new__»;refine aW (oH (newClass_reversed (.ref r)) ?_); (try dsimp only)
 refine aW (oH (a:=()) rfl (aW (oH (a:=()) rfl ?_)));refine aW (zX hT PySem.F.slot_range_reversed.lookup ?_); (try dsimp only)
 refine aW (oH (PySem.F.slot_range_reversed.bind _) ?_); (try dsimp only)
 rw[bx (show ¬((Value.builtin "range.__reversed__" == Value.none)=true) from jW)];refine aW (uw (aW (m:=runValue (.call (.builtin "range.__reversed__") ⟨[.ref r],[]⟩)) (show wpAny _ _ (call (.builtin "range.__reversed__") [.ref r]) _ _ _ from tV hr h0 h1 ?_)))
 first
  | exact cC h
  | exact aW (cC (cC h))
theorem tU {r:Addr} {n:Int} {t u v:Tok} {Q:Value->Shared->Prop} (hr:IsRange s.heap r 0 n 1 t u v) (h0:0<=n) (h1:n<2 ^ 62) (h:Q (.ref s.heap.objs.size) { s with heap:=s.heap.push (rE n) }) :
  wpAny (model prog w) A (call (.type "reversed") [.ref r]) Q E s:=by
 refine callType_other (U:="range_iterator") (Q₁:=fun obj z=>obj=.ref s.heap.objs.size/\z={ s with heap:=s.heap.push (rE n) }) (by decide +kernel) F.create_reversed ⟨_,_,F.mro_reversed⟩ F.made_reversed Bt (F.typeCall_reversed_1 _) (tQ hr h0 h1 ⟨rfl,rfl⟩) ?_
 rintro obj z ⟨rfl,rfl⟩;exact⟨⟨_,jk _ rfl,rfl⟩,h⟩
end
def Uy (n:Nat):It:=⟨fun i _=>i<n,fun i H x H'=>H'=H/\x=.int ((n:Int)-1-i),fun i _=>n<=i⟩
theorem JH {P:Program} {w:World} {K:PySem.W.Frag} {tg:Expr} (it:Addr) (n:Nat):Turn P w K tg (Uy n) [it] it (fun i h=>IsRangeIter h it ((n:Int)-1+(i:Nat)*(-1)) ((n:Int)-(i:Nat)) (-1)) where
 mem:=by simp
 obj:=fun i h st b hb=>by
  rw[fX.mp hb]
  exact⟨_,st,fun v z=>by
   have z':Data.fields _=Data.cell v:=z
   cases z'⟩
 keep:=fun i h h' st k=>k it (by simp) _ st
 item:=by
  intro X hP hw hK hc i pins s σ H E I hf st hg;subst hP hw hK;obtain⟨f0,f1,f2,f3,f4,f5⟩:=hf it (by simp)
  have W:=Walks.range (prog:=X.prog) (w:=X.w) (I.ok.hd hc) it ((n:Int)-1) (-1) n;refine W.item i s _ _ hg st fun v h' tk hv st' kk=>?_;obtain⟨t,rfl⟩:=hv;have I1:Inv X pins σ H { s with heap:=h',toks:=tk }:=I.turned (fun b o hb e=>kk b o (by simpa using hb) e) f0 f1 f3 f4 f5
  refine⟨_,rfl,Ga (s:={ s with heap:=h',toks:=tk }) (n:="range_iterator") st' rfl rfl (by decide) ⟨.int ((n:Int)-1-i),H,I1,⟨t,?_⟩,⟨rfl,rfl⟩,st',fun b hb=>(hf b hb).1⟩⟩
  congr 1
  omega
 done:=by
  intro X hP hw hK hc i pins s σ H E I hf st hg;subst hP hw hK;obtain⟨f0,f1,f2,f3,f4,f5⟩:=hf it (by simp)
  exact wpAny_pyNext_range_end (I.ok.hd hc) st (by have:n<=i:=hg; omega) fun h' eb=>⟨rfl,I.turned (t':=s.toks) (fun b o hb e=>eb b o hb e) f0 f1 f3 f4 f5⟩
 self:=fun _ _ _ _ _ st h=>Kp st h
section
variable {X:Cx}
theorem Bc:bootBuiltins "reversed" = some (.type "reversed"):=by decide +kernel
def Wr (ta:TA):TI:=fun σ H R=>ta σ H fun vs H1=>∃n:Nat,vs=[.int n]/\n<=1000000/\R (Uy n) H1
theorem R1 {tg a:Expr} {p p2 pos pos2:Pos} {ta:TA} (hm:X.mg "reversed" = none) (hm2:X.mg "range" = none) (ha:PA X [a] ta) (hg:Gl X "reversed" := by rfl) (hg2:Gl X "range" := by rfl) (h1:bK a=true:=by rfl) :
  PI X tg (.Call (.Name "reversed" p) [.Call (.Name "range" p2) [a] [] pos2] [] pos) (Wr ta):=by
 refine .mk ?_;intro pins s σ H R I h;refine qi (gW I hg hm Bc ?_ (by decide) (by decide))
 refine PyProof.Rows.callWith_type1 ?_ (bZ rfl) (b_ (es:=[]) rfl);rw[bZ (e:=.Call (.Name "range" p2) [a] [] pos2) rfl];show wpAny _ _ (spliced ((false,eval (.Call (.Name "range" p2) [a] [] pos2) X.env)::backTo pos (starEach [] X.env))) _ _ s;refine Calls.spliced_cons ?_;refine qi (gW I hg2 hm2 MF ?_ (by decide) (by decide))
 refine PyProof.Rows.callWith_type1 (cH (ha pos2 pins s σ H _ I h) fun us s1 ⟨vs,H1,I1,r1,n,e,hn,q⟩=>?_) (bZ h1) (b_ (es:=[]) rfl);subst e;obtain⟨u,rfl,t,rfl⟩:=r1.one;refine call_range_1 ?_;refine Calls.spliced_nil ?_;refine tU (IsRange.new ..) (by omega) (by omega) ?_
 have k2:∀b o,s1.heap.get? b=some o->((s1.heap.push { cls:=.type "range",data:=.fields #[.int 0 s1.toks,.int (n:Int) t,.int 1 (s1.toks+1)] }).push (rE n)).get? b=some o:=fun b o e=>dW _ (dW _ e);have I2:=I1.kept (t':=s1.toks+1+1) k2;generalize hh:s1.heap.push { cls:=.type "range",data:=.fields #[.int 0 s1.toks,.int (n:Int) t,.int 1 (s1.toks+1)] }=h1' at I2 ⊢;have sz:s1.heap.objs.size<=h1'.objs.size:=by rw[<- hh,iK]; exact Nat.le_succ _
 have st:IsRangeIter (h1'.push (rE n)) h1'.objs.size ((n:Int)-1+((0:Nat):Int)*(-1)) ((n:Int)-((0:Nat):Int)) (-1):=by
  have e1:(n:Int)-1+((0:Nat):Int)*(-1)=(n:Int)-1:=by simp
  have e2:(n:Int)-((0:Nat):Int)=n:=by simp
  rw[e1,e2];exact jk _ rfl
 refine Kp (s:={ s1 with heap:=h1'.push (rE n),toks:=s1.toks+1+1 }) (by exact st) ⟨h1'.objs.size,[h1'.objs.size],_,Uy n,H1,rfl,I2,JH _ n,st,fun b hb=>?_,q⟩
 rw[fX.mp hb];exact I1.qt sz (I1.hok.fresh sz)
def XN (g:TG) (tb:TS) (D:Ends) (σ:St) (vs:List V) (H1:Hp):Prop:=∃n:Nat,vs=[.int n]/\n<=1000000/\∃W:Nat->Nat->St->Hp->Prop,(∃m,W 0 m σ H1)/\∀i m σ H,W i m σ H ->
 ((Uy n).stop i H/\D.nx σ H)\/((Uy n).go i H/\∃N:St->Hp->Prop,(∀σ' H',N σ' H'->∃m',m'<m/\W (i+1) m' σ' H')/\∀x H',(Uy n).wg i H x H'->g x σ H' fun σ2 H2=>tb { D with nx:=N,ct:=N,bk:=D.nx } σ2 H2)
theorem JQ {ta:TA} {g:TG} {tb:TS} {D:Ends} {σ:St} {H:Hp}:uo (Wr ta) g tb D σ H=ta σ H (XN g tb D σ):=rfl
theorem XN.of {g:TG} {tb:TS} {D:Ends} {σ:St} {H:Hp} {n:Nat} {i:Int} (ei:i=n) (hn:n<=1000000) (Pv:Nat->St->Hp->Prop) (h0:Pv 0 σ H)
  (hs:∀i σ H,i<n->Pv i σ H->g (.int ((n:Int)-1-(i:Nat))) σ H fun σ2 H2=>tb { D with nx:=Pv (i+1),ct:=Pv (i+1),bk:=D.nx } σ2 H2) (hd:∀σ H,Pv n σ H->D.nx σ H):XN g tb D σ [.int i] H:=by
 subst ei;refine⟨n,rfl,hn,fun i m σ H=>m=n-i/\i<=n/\Pv i σ H,⟨n,rfl,gD _,h0⟩,?_⟩;rintro i m σ H ⟨rfl,hi,p⟩;by_cases hlt:i<n
 ·refine .inr ⟨hlt,Pv (i+1),fun σ' H' p'=>⟨n-(i+1),by omega,rfl,hlt,p'⟩,fun x H' y=>?_⟩
  obtain⟨e1,e2⟩:=y;subst e1 e2;exact hs i σ _ hlt p
 ·have e:i=n:=by omega
  subst e;exact .inl ⟨bN _,hd σ H p⟩
end
structure DX (K:PySem.W.Frag) (x qual:Str) (st:Stmt) (f:Addr) (fd:FuncData) (T:Addr) (i:Int) (t:Tok):Prop where
 ex:∃(oc:Value) (od:Option Addr) (kV doc pm:Value) (an:Option Addr) (cdv ct:Value) (osl:Array (Option Value)),
  fd=PySem.W.fnOf x qual (dU st) (cT st) (aM st) (.ref T) kV doc pm an cdv ct/\K.lookup f=some ⟨oc,od,.func fd,osl⟩/\PySem.W.codeIn K cdv qual=true
 kp:PySem.W.keepIn K (.ref f)=true
 df:∃o n,K.lookup T=some o/\o.data=.seq #[.int i t] n
section
variable {P:Program} {w:World} {K:PySem.W.Frag} {mg:Str->Option Value} {base:Heap}
theorem DX.ok {x qual:Str} {st:Stmt} {f T:Addr} {i:Int} {t:Tok} {fd:FuncData} {N ps:List Str} {k:Nat} {sp:Sp} (F:DX K x qual st f fd T i t) (S:bh N ps (aM st)) (len:∀vs H Q E,sp vs H Q E->vs.length=ps.length)
  (hb:∀(cdv:Value) (A:Around) (outer:List Env) (s:Shared) (H:Hp) (vs:List V) (Q:VK) (E:XK),gw k (A.deeper (envOfC qual (aM st) s.heap.objs.size f cdv))->sp vs H Q E ->
   ∃t,yw (fK ig P w K mg base N qual (aM st) f cdv A outer s H E).Um (cT st) t/\t { nx:=fun _ H'=>Q .non H',rt:=Q } (start N vs) H):bV P w K mg base ig (k+1) f fd ps sp:=by
 obtain⟨oc,od,kV,doc,pm,an,cdv,ct,osl,rfl,lk,hcd⟩:=F.ex;exact Q5 lk hcd S len fun A outer s H vs Q E hr hsp=>let ⟨t,h,q⟩:=hb cdv A outer s H vs Q E hr hsp; ⟨t,h.Um,q⟩
theorem DX.binds {x qual:Str} {st:Stmt} {f T:Addr} {i:Int} {t:Tok} {fd:FuncData} {ps:List Str} {ds:List Value} (F:DX K x qual st f fd T i t)
  (h:∀(kV doc pm:Value) (an:Option Addr) (cdv ct:Value) (us:List Value),(us++ds).length=ps.length->∃k,bindArgs (PySem.W.fnOf x qual (dU st) (cT st) (aM st) (.ref T) kV doc pm an cdv ct) ⟨us,[]⟩=seqItems? (.ref T) >>= k/\k (some #[.int i t])=pure (ps.zip (us++ds))):Binds K fd ps ds:=by
 obtain⟨oc,od,kV,doc,pm,an,cdv,ct,osl,rfl,lk,hcd⟩:=F.ex;obtain⟨o,n,ho,hd⟩:=F.df;intro s us KX hl;obtain⟨k,h1,h2⟩:=h kV doc pm an cdv ct us hl;exact BindsTo.of_defaults rfl (KX _ _ ho) hd h1 h2
end
structure Qp (P:Program) (w:World) (K:PySem.W.Frag) (mg:Str->Option Value) (base:Heap) (k:Nat) (x:Str) (ps:List Str) (i:Int) (sp:Sp) where
 f:Addr
 fd:FuncData
 t:Tok
 G:bV P w K mg base ig k f fd ps sp
 kp:PySem.W.keepIn K (.ref f)=true
 b:Binds K fd ps []
 bd:Binds K fd ps [.int i t]
 m:mg x=some (.ref f)
def Qp.mono {P:Program} {w:World} {K:PySem.W.Frag} {mg:Str->Option Value} {base:Heap} {j k:Nat} {x:Str} {ps:List Str} {i:Int} {sp:Sp} (c:Qp P w K mg base j x ps i sp) (h:j<=k):Qp P w K mg base k x ps i sp:={ c with G:=c.G.mono h }
section
variable {X:Cx} {x:Str} {p pos:Pos} {e:Expr} {es:List Expr} {t:TA}
theorem pfd {k:Nat} {ps:List Str} {i:Int} {sp:Sp} (c:Qp X.prog X.w X.K X.mg X.base k x ps i sp) (hr:gw k X.A) (ha:PA X (e::es) t) (hg:Gl X x:=by rfl) (hdb:(x==("__debug__" : Str))=false:=by decide) (h1:bK e=true:=by rfl) (h2:es.all bK=true:=by rfl) :
  PE X (.Call (.Name x p) (e::es) [] pos) (lB sp [.int i] E0 t):=xj c.G hr hg c.m c.kp c.bd (.cons ⟨_,rfl⟩ .nil) K7 ha hdb (bZ h1) (b_ h2)
theorem pfa {k:Nat} {ps:List Str} {i:Int} {sp:Sp} (c:Qp X.prog X.w X.K X.mg X.base k x ps i sp) (hr:gw k X.A) (ha:PA X (e::es) t) (hg:Gl X x:=by rfl) (hdb:(x==("__debug__" : Str))=false:=by decide) (h1:bK e=true:=by rfl) (h2:es.all bK=true:=by rfl) :
  PE X (.Call (.Name x p) (e::es) [] pos) (lB sp [] E0 t):=xj c.G hr hg c.m c.kp c.b .nil K7 ha hdb (bZ h1) (b_ h2)
end
section
variable {X:Cx}
end
def LK (K:PySem.W.Frag) (g:TG) (tb:TS) (D:Ends) (σ:St) (x:V) (H1:Hp):Prop:=∃a,x=.ref a/\(∃xs,dI K H1 a xs)/\∃W:Nat->Nat->St->Hp->Prop,(∃m,W 0 m σ H1)/\∀i m σ H,W i m σ H ->
 ((Rb K a).stop i H/\D.nx σ H)\/((Rb K a).go i H/\∃N:St->Hp->Prop,(∀σ' H',N σ' H'->∃m',m'<m/\W (i+1) m' σ' H')/\∀x H',(Rb K a).wg i H x H'->g x σ H' fun σ2 H2=>tb { D with nx:=N,ct:=N,bk:=D.nx } σ2 H2)
theorem JR {K:PySem.W.Frag} {tl:TE} {g:TG} {tb:TS} {D:Ends} {σ:St} {H:Hp}:uo (sU K tl) g tb D σ H=tl σ H (LK K g tb D σ):=rfl
theorem LK.of {K:PySem.W.Frag} {g:TG} {tb:TS} {D:Ends} {σ:St} {H:Hp} {a:Addr} {xs:List V} (ha:H a=some (.lst xs)) (Pv:Nat->St->Hp->Prop) (h0:Pv 0 σ H) (hl:∀i σ H',i<=xs.length->Pv i σ H'->H' a=some (.lst xs))
  (hs:∀i x σ H,xs[i]?=some x->Pv i σ H->g x σ H fun σ2 H2=>tb { D with nx:=Pv (i+1),ct:=Pv (i+1),bk:=D.nx } σ2 H2) (hd:∀σ H,Pv xs.length σ H->D.nx σ H):LK K g tb D σ (.ref a) H:=
 ⟨a,rfl,⟨xs,dI.of ha⟩,Mf (xs:=xs) Pv h0 (fun i σ H' hi p=>dI.of (hl i σ H' hi p)) hs hd⟩
end L2
namespace L2
open PySem
mutual
def rZ:PyData->Bool
 | .tuple ds=>bL ds
 | .list _=>false
 | .dict _=>false
 | .none=>true
 | .bool _=>true
 | .int _=>true
 | .str _=>true
def bL:List PyData->Bool
 | []=>true
 | d::ds=>rZ d&&bL ds
end
theorem dZ:∀{ds:List PyData},bL ds=true↔∀d∈ds,rZ d=true
 | []=>by simp[bL]
 | d::ds=>by
  have ih:=dZ (ds:=ds);simp only[bL,Cd,ih,cA,forall_eq_or_imp]
mutual
theorem At.nJ {G:Hp} {p:Addr} {xs:List V} (hp:G p=some (.lst xs)):∀(d:PyData) (v:V),rZ d=true->At G d v->At (hid p G) d v
 | .none,_,_,h=>by unfold At at h ⊢; exact h
 | .bool _,_,_,h=>by unfold At at h ⊢; exact h
 | .int _,_,_,h=>by unfold At at h ⊢; exact h
 | .str _,_,_,h=>by unfold At at h ⊢; exact h
 | .tuple ds,v,n,h=>by
  unfold At at h ⊢;obtain⟨a,ys,e,h1,h2⟩:=h;refine⟨a,ys,e,?_,ak.nJ hp ds ys (by simpa[rZ] using n) h2⟩
  rw[bF (fun z=>by subst z; rw[hp] at h1; cases h1)]; exact h1
 | .list _,_,n,_=>by simp[rZ] at n
 | .dict _,_,n,_=>by simp[rZ] at n
theorem ak.nJ {G:Hp} {p:Addr} {xs:List V} (hp:G p=some (.lst xs)):∀(ds:List PyData) (ys:List V),bL ds=true->ak G ds ys->ak (hid p G) ds ys
 | [],_,_,h=>by unfold ak at h ⊢; exact h
 | d::ds,ys,n,h=>by
  unfold ak at h ⊢;obtain⟨x,r,e,h1,h2⟩:=h;have n':rZ d=true/\bL ds=true:=by simpa[bL] using n
  exact⟨x,r,e,At.nJ hp d x n'.1 h1,ak.nJ hp ds r n'.2 h2⟩
end
theorem wJ:∀l:List Int,(∀c∈l,0<=c)->0<=l.sum
 | [],_=>by simp
 | x::l,h=>by rw[List.sum_cons]; have:=wJ l fun c hc=>h c (jr _ hc); have:=h x jd; omega
theorem kW:∀ws:List Int,PyData.hasDictAll (ws.map .int)=false/\PyData.canLayAll0 (ws.map .int)=true/\PyData.depthAll (ws.map .int)=0
 | []=>⟨rfl,rfl,rfl⟩
 | w::ws=>by
  obtain⟨h1,h2,h3⟩:=kW ws;refine⟨?_,?_,?_⟩
  ·show(PyData.hasDict (.int w) || PyData.hasDictAll (ws.map .int))=false;rw[h1]; rfl
  ·show(PyData.canLay0 (.int w)&&PyData.canLayAll0 (ws.map .int))=true;rw[h2]; rfl
  ·show max (PyData.depth (.int w)) (PyData.depthAll (ws.map .int))=0;rw[h3]; rfl
theorem Pb {xs ys:List V} {p q:Addr} {H:Hp} {Q:VK} (e:H p=some (.lst xs)) (e2:H q=some (.tup ys)) (z:xs.length+ys.length<=sizeLine) (k:∀r H',aJ H H'->H' r=some (.lst (xs++ys))->Q (.ref r) H') :
  ∃p_2 ys',[V.ref q]=[V.ref p_2]/\H p_2=some (.tup ys')/\∀l,H l=none->Hf (.ref p) (.ref l) (upd H l (.lst ys')) Q:=by
 refine⟨q,ys,rfl,e2,fun l hl=>?_⟩;have s1:=aL hl (HO.lst ys);refine⟨p,l,xs,ys,rfl,rfl,s1 _ _ e,az,z,fun r hr=>?_⟩;exact k r _ (s1.trans (aL hr _)) az
theorem take_snoc {α:Type} {l:List α} {i:Nat} {c:α} (h:l[i]?=some c):l.take (i+1)=l.take i++[c]:=by
 obtain⟨hi,e⟩:=iM.mp h;rw[List.take_succ_eq_append_getElem hi,e]
theorem SX.same {p:Addr} {H H':Hp} (hp:H p=none) (s:SX p H H'):aJ H H':=fun b o h=>by
 have hb:b≠p:=fun z=>by rw[z,hp] at h; cases h
 exact s.get hb h
theorem vB {ts:List Str} {i:Int} (h0:0<=i) (h1:i<ts.length):∃t,t∈ts/\DR (ts.map V.str) i=some (.str t):=by
 have hi:i.toNat<ts.length:=by omega
 refine⟨ts[i.toNat],Hl hi,?_⟩;have:=bz (xs:=ts.map V.str) (j:=i.toNat) (v:=.str ts[i.toNat]) (by rw[h_,gO hi]; rfl)
 rwa [show((i.toNat:Nat):Int)=i by omega] at this
theorem fY {ts:List Int} {i:Int} (h0:0<=i) (h1:i<ts.length):∃t,t∈ts/\DR (ts.map V.int) i=some (.int t):=by
 have hi:i.toNat<ts.length:=by omega
 refine⟨ts[i.toNat],Hl hi,?_⟩;have:=bz (xs:=ts.map V.int) (j:=i.toNat) (v:=.int ts[i.toNat]) (by rw[h_,gO hi]; rfl)
 rwa [show((i.toNat:Nat):Int)=i by omega] at this
def mJ (a b:TS):TS:=JN a b
theorem J6 (i:Nat) {e:TE} {b:TS}:JN (yQ e (dF i)) b=mJ (yQ e (dF i)) b:=rfl
theorem VD {c:TT} {x y b:TS}:JN (Nz c x y) b=mJ (Nz c x y) b:=rfl
theorem mJ.of {a b:TS} {D:Ends} {σ:St} {H:Hp} (R:St->Hp->Prop) (hR:∀σ' H',R σ' H'->b D σ' H') (h:∀N:St->Hp->Prop,(∀σ' H',R σ' H'->N σ' H')->a { D with nx:=N } σ H):mJ a b D σ H:=h _ hR
theorem Pk {α:Type} {l:List α} (h:l.length=5):∃a b c d e,l=[a,b,c,d,e]:=by
 match l,h with
 | [a,b,c,d,e],_=>exact⟨a,b,c,d,e,rfl⟩
theorem aJ.d_ {H H':Hp} {p:Addr} {o:HO} (s:aJ H H') (hp:H p=none):aJ H (upd H' p o):=fun b u h=>by rw[aV (bU h hp)]; exact s _ _ h
def vG:PyData->Bool
 | .list _=>true
 | _=>false
theorem Fz (K:PySem.W.Frag) (d:PyData):PySem.W.kitOne K (.type (M9 d)) (.type "list")=some (vG d):=by cases d <;> kernel_rfl
theorem FT {X:Cx}:cV X (.builtin "isinstance") (B_ "list" vG):=sO Fz
theorem jy {ds:List PyData} (h:bL ds=true) {i:Nat} {d:PyData} (e:ds[i]?=some d):rZ d=true:=dZ.mp h d (m9 e)
theorem P_ {K:PySem.W.Frag} {js:List Nat} {a:Addr} {xs:List V} {es:List PyData} {tl te:TE} {σ:St} {H:Hp} {Q:VK} (hl:∀R:VK,R (.ref a) H->tl σ H R) (ha:H a=some (.lst xs)) (hn:es.length=xs.length) (hz:es.length<=sizeLine) (hL:bL es=true)
  (step:∀(i:Nat) x e H',xs[i]?=some x->es[i]?=some e->aJ H H'->∀R:VK,(∀v dR,aJ H' dR->At dR e v->R v dR)->te (some x::cu js σ) H' R)
  (fin:∀acc ys H',aJ H H'->H acc=none->H' acc=some (.lst ys)->ak (hid acc H') es ys->Q (.ref acc) H'):gK js (sU K tl) te σ H Q:=by
 refine hl _ ⟨a,rfl,⟨xs,dI.of ha⟩,fun acc hacc=>?_⟩;refine⟨fun i m ys H2=>m=es.length-i/\i<=es.length/\ak (hid acc H2) (es.take i) ys/\aJ H H2/\H2 acc=some (.lst ys),⟨_,rfl,gD _,ak.nil,aL hacc _,az⟩,?_⟩;rintro i m ys H2 ⟨rfl,hi,hA,sm,hy⟩;have ht:dI K H2 a xs:=dI.of (sm _ _ ha);by_cases hlt:i<es.length
 ·refine .inr ⟨⟨xs,xs[i]'(by omega),ht,gO (by omega)⟩,fun x H3 y=>?_⟩
  obtain⟨e,y⟩:=y;subst e;have e1:es[i]?=some es[i]:=gO hlt;refine step i x _ _ (y xs ht) e1 sm _ fun v H4 s4 a4=>⟨s4 _ _ hy,?_,es.length-(i+1),by omega,rfl,hlt,?_,?_,az⟩
  ·rw[hA.length,jH]; omega
  ·rw[eY,zr,e1];exact ak.append (hA.mono (aJ.hid s4)) (ak.cons (At.nJ (s4 _ _ hy) _ _ (jy hL e1) a4) ak.nil)
  ·refine fun b o q=>?_;have nb:b≠acc:=bU q hacc;rw[aV nb];exact s4 _ _ (sm _ _ q)
 ·have e:i=es.length:=by omega
  subst e;rw[qe] at hA;exact .inl ⟨⟨xs,ht,by omega⟩,fin _ _ _ sm hacc hy hA⟩
end L2
namespace L2
open PySem PySem.Spec PyProof.Rows
section
variable {X:Cx}
end
structure jL (X:Cx) (nt:Nat) (N':List Str) (js:List Nat) (sc:Scope):Prop where
 kind:sc.kind=.function
 fZ:∀y∈sc.names,y.2≠.cell
 names:∀y∈sc.names,y.2=.local->sc.names.lookup y.1=some .local
 clos:closureFor sc X.env=pure (l_ sc X.env)
 all:(sc.names.all fun y=>y.2 != .free || (X.env.cells.lookup y.1).isSome)=true
 len:N'.length=nt+js.length
 cap:∀(i j:Nat),js[i]?=some j->N'[nt+i]?=X.N[j]?
 Mt:∀y∈N'.drop nt,X.env.kindOf y=some .cell/\sc.names.lookup y=some .free
theorem tR:∀(names:List (Str×NameKind)) (h:Heap) (acc:List (Str×Addr)) (x:Str) (c:Addr),(cellsFrom h.objs.size names acc).lookup x=some c->((pushCells h names).IsCell c none/\h.objs.size<=c)\/(acc.lookup x=some c/\(x,NameKind.cell)∉names)
 | [],h,acc,x,c,e=>.inr ⟨e,by simp⟩
 | (name,kind)::r,h,acc,x,c,e=>by
  unfold cellsFrom at e;unfold pushCells;split at e
  ·rename_i hk;have hk':kind=.cell:=by simpa using hk
   rw[aR hk];have:=tR r (h.push { cls:=.type "cell",data:=.cell none }) ((name,h.objs.size)::acc) x c (by rw[iK]; exact e)
   rw[iK] at this;rcases this with⟨z,z'⟩ | ⟨z,z'⟩
   ·exact .inl ⟨z,by omega⟩
   ·rw[oK] at z;cases hx:x==name with
    | true=>
     rw[hx] at z;cases z;refine .inl ⟨?_,bN _⟩;exact⟨_,pushCells_keeps r _ _ _ (jk _ rfl),rfl⟩
    | false=>
     rw[hx] at z;refine .inr ⟨z,fun m=>?_⟩;rcases cA.mp m with q | q
     ·have:x=name:=(Prod.mk.inj q).1;simp[this] at hx
     ·exact z' q
  ·rename_i hk;rw[bx hk];rcases tR r h acc x c e with z | ⟨z,z'⟩
   ·exact .inl z
   ·refine .inr ⟨z,fun m=>?_⟩;rcases cA.mp m with q | q
    ·exact hk (by rw[<- (Prod.mk.inj q).2]; rfl)
    ·exact z' q
theorem Dw:∀(names:List (Str×NameKind)) (n:Nat) (acc:List (Str×Addr)),(∀x y c,acc.lookup x=some c->acc.lookup y=some c->x=y)->(∀x c,acc.lookup x=some c->c<n) ->
  (∀x y c,(cellsFrom n names acc).lookup x=some c->(cellsFrom n names acc).lookup y=some c->x=y)/\True
 | [],n,acc,h,_=>⟨h,trivial⟩
 | (name,kind)::r,n,acc,h,hb=>by
  unfold cellsFrom;split
  ·refine Dw r (n+1) ((name,n)::acc) (fun x y c e1 e2=>?_) (fun x c e=>?_)
   ·rw[oK] at e1 e2;cases hx:x==name with
    | true=>
     rw[hx] at e1;cases e1;cases hy:y==name with
     | true=>rw[beq_iff_eq.mp hx,beq_iff_eq.mp hy]
     | false=>rw[hy] at e2; exact absurd (hb _ _ e2) (oJ _)
    | false=>
     rw[hx] at e1;cases hy:y==name with
     | true=>rw[hy] at e2; cases e2; exact absurd (hb _ _ e1) (oJ _)
     | false=>rw[hy] at e2; exact h x y c e1 e2
   ·rw[oK] at e;cases hx:x==name with
    | true=>rw[hx] at e; cases e; exact Kg _
    | false=>rw[hx] at e; exact Hn (hb _ _ e)
  ·exact Dw r n acc h hb
theorem Dy {x:Str}:∀(names:List (Str×NameKind)) (n:Nat) (acc:List (Str×Addr)),((x,NameKind.cell)∈names\/(acc.lookup x).isSome=true)->((cellsFrom n names acc).lookup x).isSome=true
 | [],n,acc,h=>by
  rcases h with h | h
  ·simp at h
  ·exact h
 | (name,kind)::r,n,acc,h=>by
  unfold cellsFrom;split
  ·rename_i hk;refine Dy r (n+1) _ ?_;rcases h with h | h
   ·rcases cA.mp h with q | q
    ·refine .inr ?_;rw[oK,(Prod.mk.inj q).1];simp
    ·exact .inl q
   ·refine .inr ?_;rw[oK];split
    ·rfl
    ·exact h
  ·rename_i hk;refine Dy r n acc ?_;rcases h with h | h
   ·rcases cA.mp h with q | q
    ·exact absurd (by rw[<- (Prod.mk.inj q).2]; rfl) hk
    ·exact .inl q
   ·exact .inr h
theorem xZ {x:Str} {c:Addr}:∀(names:List (Str×NameKind)) (n:Nat) (acc:List (Str×Addr)),(x,NameKind.cell)∉names->acc.lookup x=some c->(cellsFrom n names acc).lookup x=some c
 | [],n,acc,_,e=>e
 | (name,kind)::r,n,acc,h,e=>by
  unfold cellsFrom;split
  ·rename_i hk;refine xZ r (n+1) _ (fun m=>h (jr _ m)) ?_;rw[oK];cases hx:x==name with
   | true=>
    have hk':kind=.cell:=by simpa using hk
    exact absurd (by rw[beq_iff_eq.mp hx,hk']; exact jd) h
   | false=>exact e
  ·exact xZ r n acc (fun m=>h (jr _ m)) e
theorem ug {M:Model} {A:Around} {E:Value->Shared->Prop} {s:Shared} {scope:Scope} {globals:Addr} {cl:List (Str×Addr)} {qual:Str} {env:Env} {Q:Env->Shared->Prop}
  (hQ:Q { scope,locals:=s.heap.objs.size,globals,cells:=cellsFrom (s.heap.objs.size+1) scope.names cl,qual,func:=none,code:=env.code,frame:=env.frame,builtins:=env.builtins } { s with heap:=pushCells (s.heap.push { cls:=.type "dict",data:=.dict #[] }) scope.names }) :
  wpAny M A (newFunctionEnv scope globals cl [] qual none .none (some env)) Q E s:=by
 simp only[newFunctionEnv,Option.isSome_some,if_true];refine aW (wpAny_alloc ?_);refine aW (wpAny_layCells _ (fun name kind cells=>by cases hkc:kind==NameKind.cell <;> simp[hkc]) _ _ _ _ ?_)
 rw[show({ s with heap:=s.heap.push { cls:=.type "dict",data:=.dict #[] } }:Shared).heap.objs.size=s.heap.objs.size+1 from iK ..]
 simp only[List.forIn_nil];exact aW (cC (cC hQ))
def xU (X:Cx) (N':List Str) (sc:Scope) (fp:List Addr) (s:Shared) (H:Hp):Cx where
 prog:=X.prog
 w:=X.w
 K:=X.K
 mg:=X.mg
 base:=X.base
 A:=X.A
 N:=N'
 s₀:=s
 H₀:=H
 env:=compEnvC sc (cellsFrom (s.heap.objs.size+1) sc.names (l_ sc X.env)) s.heap.objs.size X.env
 outer:=X.stack
 stack:=X.stack
 ex:=fp
 fn:=fun y=>sc.names.lookup y==some .cell
 calm:=X.calm
 pn:=[]
 xe:=fun _ _=>False
structure M6 (X:Cx) (nt:Nat) (N':List Str) (js:List Nat) (sc:Scope):Prop where
 kind:sc.kind=.function
 cells:∀y∈sc.names,y.2=.cell->sc.names.lookup y.1=some .cell
 names:∀y∈sc.names,y.2=.local->sc.names.lookup y.1=some .local
 clos:closureFor sc X.env=pure (l_ sc X.env)
 all:(sc.names.all fun y=>y.2 != .free || (X.env.cells.lookup y.1).isSome)=true
 len:N'.length=nt+js.length
 cap:∀(i j:Nat),js[i]?=some j->N'[nt+i]?=X.N[j]?
 Mt:∀y∈N'.drop nt,X.env.kindOf y=some .cell/\sc.names.lookup y=some .free
theorem vI {X:Cx} {pins:List (Addr×Obj)} {σ:St} {H:Hp} {s:Shared} {fp:List Addr} {N':List Str} {js:List Nat} {sc:Scope} {nt:Nat} {h1:Heap} {tk:Nat} (I:Inv X pins σ H s) (hf:∀b∈fp,fO X pins H b) (hlt:∀b∈fp,b<s.heap.objs.size)
  (S:M6 X nt N' js sc) (x_:∀{x:Str} {c:Addr},(cellsFrom (s.heap.objs.size+1) sc.names (l_ sc X.env)).lookup x=some c->(h1.IsCell c none/\s.heap.objs.size<c)\/((l_ sc X.env).lookup x=some c/\(x,NameKind.cell)∉sc.names)) (hn:h1.Ns s.heap.objs.size fun _=>none) (hk:∀b o,s.heap.get? b=some o->h1.get? b=some o):Inv (xU X N' sc fp s H) [] (List.replicate nt none++cu js σ) H { s with heap:=h1,toks:=tk }:=by
 have old:∀x c,(l_ sc X.env).lookup x=some c->c<s.heap.objs.size+1:=fun x c e=>by
  obtain⟨v,o,ho,_⟩:=I.cell x c (gk e);exact Hn (eX ho)
 refine⟨⟨I.ok.mod,S.kind,I.ok.glob,I.ok.blt,bN _,fun x y c e1 e2=>(Dw sc.names _ _ (fun x y c e1 e2=>I.ok.inj x y c (gk e1) (gk e2)) old).1 x y c e1 e2,fun x hx=>?_,fun x c hf' e=>(by
   rcases x_ e with z | ⟨_,z⟩
   ·exact lq z.2
   ·exact absurd (PySem.mem_of_lookup (show sc.names.lookup x=some .cell from by simpa using(show(sc.names.lookup x==some NameKind.cell)=true from hf'))) z),I.ok.hd,I.ok.frames,.inl rfl,fun b hb=>⟨dY (hlt b hb),fun x c e=>(by
   rcases x_ e with z | ⟨z,_⟩
   ·exact zN (zM (hlt b hb) z.2)
   ·exact(hf b hb).2.2.2.2.1 x c (gk z))⟩,I.bs,
  mZ I.ok.Jt I.sz,fun b o e hb=>?_,fun b hb z=>?_,I.stack,I.qz⟩,rfl,I.bare,Un.kept hk,⟨fun _=>none,hn,fun i x v e1 e2 e3=>?_⟩,fun x c e=>?_,I.hok.fresh (bN _),fun x c e=>(by
   rcases x_ e with z | ⟨z,_⟩
   ·exact I.hok.fresh (lq z.2)
   ·exact I.iD x c (gk z)),fun p hp=>absurd (show p∈([]:List (Addr×Obj)) from hp) (by simp),I.hok.kept hk,?_⟩
 ·refine Ck.mp (Dy sc.names _ _ ?_);have hx':(relabel sc X.env).names.lookup x=some .cell\/(relabel sc X.env).names.lookup x=some .free:=hx
  have key:(x,NameKind.cell)∈sc.names\/(x,NameKind.free)∈sc.names:=by
   rcases hx' with q | q
   ·obtain⟨k,hm,e | ⟨e,_⟩⟩:=pQ q
    ·rw[<- e] at hm; exact .inl hm
    ·refine .inr ?_; rw[<- e]; exact hm
   ·refine .inr ?_;obtain⟨k,hm,e | ⟨e,_⟩⟩:=pQ q
    ·rw[e]; exact hm
    ·rw[<- e]; exact hm
  rcases key with key | key
  ·exact .inl key
  have a:=rK.mp S.all _ key;have a':(X.env.cells.lookup x).isSome=true:=by simpa using a
  obtain⟨c,hc⟩:=Ck.mp a';exact .inr (Ck.mpr ⟨c,Du hc sc.names [] key⟩)
 ·rcases(hf b hb).2.2.2.1 with z | z
  ·exact I.ok.Af b o e z
  ·exact absurd (jq (eX e) (mZ I.ok.Jt z)) (oJ _)
 ·rcases cA.mp (I.Bu b z) with q | q
  ·exact(hf b hb).2.1 q
  ·exact(hf b hb).2.2.1 q
 ·by_cases hlt:i<nt
  ·rw[Kr (by rw[zH]; exact hlt),Oh,aR hlt] at e2
   cases e2
  ·obtain⟨i',rfl⟩:∃i',i=nt+i':=⟨i-nt,by omega⟩
   rw[Oj (by rw[zH]; omega),zH,Nat.add_sub_cancel_left] at e2
   have e2':(cu js σ)[i']?=some (some v):=e2;unfold cu at e2';rw[h_] at e2';cases hj:js[i']? with
   | none=>rw[hj] at e2'; simp at e2'
   | some j=>
    rw[hj] at e2';have e4:(σ[j]?).join=some v:=by simpa using e2'
    have e5:σ[j]?=some (some v):=by
     cases q:σ[j]? with
     | none=>rw[q] at e4; simp at e4
     | some z=>rw[q] at e4; simp at e4; rw[e4]
    have e6:X.N[j]?=some x:=by rw[<- S.cap i' j hj]; exact e1
    have mem:x∈N'.drop nt:=by
     have e1':N'[nt+i']?=some x:=e1;exact m9 (i:=i') (by rw[List.getElem?_drop]; exact e1')
    obtain⟨k1,k2⟩:=S.Mt x mem;obtain⟨m,_,hl⟩:=I.loc;obtain⟨u,r,l⟩:=hl j x v e6 e5 (.inr (.inl k1));refine⟨u,r,.inr ⟨.inl (mY I.ok.kind k1 sc.names k2),?_⟩⟩;rcases l with⟨z,_⟩ | ⟨_,c,hc,hcell⟩
    ·rw[k1] at z; cases z
    ·obtain⟨o,ho,hd⟩:=hcell;exact⟨c,xZ sc.names _ _ (fun z=>by have:=S.cells _ z rfl; rw[k2] at this; cases this) (Du hc sc.names [] (PySem.mem_of_lookup k2)),o,hk c o ho,hd⟩
 ·rcases x_ e with z | ⟨z,_⟩
  ·exact⟨none,z.1⟩
  ·obtain⟨v,o,ho,hd⟩:=I.cell x c (gk z);exact⟨v,o,hk c o ho,hd⟩
 ·show(List.replicate nt none++cu js σ).length=N'.length;rw[S.len]; simp[cu]
theorem xY:∀{names:List (Str×NameKind)} {n:Nat} {acc:List (Str×Addr)},(∀y∈names,y.2≠.cell)->cellsFrom n names acc=acc
 | [],_,_,_=>rfl
 | (name,kind)::r,n,acc,h=>by
  unfold cellsFrom;rw[bx (fun z=>h _ jd (by simpa using z))]
  exact xY fun y hy=>h y (jr _ hy)
theorem tL {X:Cx} {N':List Str} {sc:Scope} {fp:List Addr} {s:Shared} {H:Hp} (h:∀y∈sc.names,y.2≠.cell):lX X N' sc fp s H=xU X N' sc fp s H:=by
 have e:(fun _:Str=>false)=fun y=>sc.names.lookup y==some .cell:=funext fun y=>by
  cases z:sc.names.lookup y==some NameKind.cell with
  | false=>rfl
  | true=>exact absurd rfl (h _ (PySem.mem_of_lookup (by simpa using z)))
 unfold lX xU;rw[xY h,e]
theorem jL.toD {X:Cx} {nt:Nat} {N':List Str} {js:List Nat} {sc:Scope} (S:jL X nt N' js sc):M6 X nt N' js sc:=⟨S.kind,fun y hy e=>absurd e (S.fZ y hy),S.names,S.clos,S.all,S.len,S.cap,S.Mt⟩
theorem Ij {X:Cx} {pins:List (Addr×Obj)} {σ:St} {H:Hp} {s:Shared} {fp:List Addr} {N':List Str} {js:List Nat} {sc:Scope} {nt:Nat} {h1:Heap} {tk:Nat} (I:Inv X pins σ H s) (hf:∀b∈fp,fO X pins H b) (hlt:∀b∈fp,b<s.heap.objs.size)
  (S:jL X nt N' js sc) (hn:h1.Ns s.heap.objs.size fun _=>none) (hk:∀b o,s.heap.get? b=some o->h1.get? b=some o):Inv (lX X N' sc fp s H) [] (List.replicate nt none++cu js σ) H { s with heap:=h1,toks:=tk }:=by
 rw[tL S.fZ];exact vI I hf hlt S.toD (fun {x c} e=>by rw[xY S.fZ] at e; exact .inr ⟨e,fun z=>S.fZ _ z rfl⟩) hn hk
structure yx (X:Cx) (ifs:List Expr) (t:TT):Prop where
 mk ::
 go:∀(pins:List (Addr×Obj)) (s:Shared) (σ:St) (H:Hp) (Q:Bool->Hp->Prop),Inv X pins σ H s->t σ H Q->wpAny (model X.prog X.w) X.A (forIn ifs true fun c r=>if r=true then do let ok <- isTrue c X.env (eval c X.env); pure (ForInStep.yield ok) else pure (ForInStep.yield r)) (TP X pins σ Q) X.xe s
instance {X:Cx} {ifs:List Expr} {t:TT}:CoeFun (yx X ifs t) (fun _=>
 ∀(pins:List (Addr×Obj)) (s:Shared) (σ:St) (H:Hp) (Q:Bool->Hp->Prop),Inv X pins σ H s->t σ H Q->wpAny (model X.prog X.w) X.A (forIn ifs true fun c r=>if r=true then do let ok <- isTrue c X.env (eval c X.env); pure (ForInStep.yield ok) else pure (ForInStep.yield r)) (TP X pins σ Q) X.xe s):=⟨yx.go⟩
def wI:TT:=fun _ H Q=>Q true H
theorem nH {X:Cx}:yx X [] wI:=.mk fun pins s σ H Q I h=>wpAny_tests_nil ⟨H,I,h⟩
theorem qI {X:Cx} {c:Expr} {t:TT} (h:PT X c t):yx X [c] t:=.mk fun pins s σ H Q I q=>wpAny_tests_one (h pins s σ H Q I q)
def eO (nt:Nat) (js:List Nat) (wi:TI) (g:TG) (tc:TT) (te:TE):TE:=fun σ H Q=>wi σ H fun J H1=>∀acc,H1 acc=none->∃W:Nat->Nat->List V->Hp->Prop,(∃m,W 0 m [] (upd H1 acc (.lst [])))/\∀i m ys H2,W i m ys H2 ->
 (J.stop i H2/\Q (.ref acc) H2)\/(J.go i H2/\∀x H3,J.wg i H2 x H3->g x (List.replicate nt none++cu js σ) H3 fun σ' H'=>(σ'.drop nt=cu js σ/\σ'.length=(List.replicate nt (none:Option V)++cu js σ).length)/\tc σ' H' fun b dR=>
  if b=true then te σ' dR fun y H4=>H4 acc=some (.lst ys)/\ys.length<sizeLine/\∃m',m'<m/\W (i+1) m' (ys++[y]) (upd H4 acc (.lst (ys++[y]))) else ∃m',m'<m/\W (i+1) m' ys dR)
theorem xW {prog:Program} {w:World} {A:Around} {R:Result->Shared->Prop} {s:Shared} {elt target iter:Expr} {ifs:List Expr} {sc:Scope} {pos:Pos} {it acc:Value} {env:Env} (Iv:Nat->Shared->Prop)
  (turn:∀n s,Iv n s->wpAny (model prog w) A (pyNext it) (fun r s1=>match r with
   | none=>R (.ok .next) s1
   | some v=>wpAny (model prog w) A (letOwnedTupleGo target it v) (fun _ s2=>wpAny (model prog w) A (assign target env v) (fun _ s3=>
     wpAny (model prog w) A (forIn ifs true fun c r=>if r=true then do let ok <- isTrue c env (eval c env); pure (ForInStep.yield ok) else pure (ForInStep.yield r)) (fun ok Yi=>
     if ok=true then wpAny (model prog w) A (eval elt env) (fun x s4=>
     wpAny (model prog w) A (call (.builtin "list.append") [acc,x]) (fun _ s5=>∃m,m<n/\Iv m s5) (fun _ _=>False) s4) (fun _ _=>False) Yi else ∃m,m<n/\Iv m Yi) (fun _ _=>False) s3) (fun _ _=>False) s2) (fun _ _=>False) s1) (fun _ _=>False) s)
  (n:Nat) (h:Iv n s):codeAny (model prog w) A (.compLoop (.ListComp elt [⟨target,iter,ifs,0⟩] sc pos) 0 it acc env) R s:=by
 refine codeAny_loop rfl Iv (fun n s hI=>?_) n h;show wpAny _ _ ((compTurn (.ListComp elt [⟨target,iter,ifs,0⟩] sc pos) 0 it acc env).onRaise (fun x=>do noteFrame x env; theTreesLotGoes x)) _ _ s
 refine wpAny_noted ?_;rw[compTurn_list];refine aW (uy (aW (dX (turn n s hI) (fun r s1 q1=>?_) fun _ _ f=>f.elim)));cases r with
 | none=>exact cC q1
 | some v=>
  refine aW (dX q1 (fun _ s2 q2=>?_) fun _ _ f=>f.elim);refine aW (dX q2 (fun _ s3 q3=>aW (dX q3 (fun ok Yi q3'=>?_) fun _ _ f=>f.elim)) fun _ _ f=>f.elim);cases ok with
  | false=>exact cC ⟨rfl,q3'⟩
  | true=>exact aW (aW (dX q3' (fun x s4 q4=>aW (dX q4 (fun _ s5 q5=>cC (cC ⟨rfl,q5⟩)) fun _ _ f=>f.elim)) fun _ _ f=>f.elim))
theorem tM {X:Cx} {elt iter:Expr} {tg:Expr} {ifs:List Expr} {g:TG} {tc:TT} {nt:Nat} {pos:Pos} {sc:Scope} {wi:TI} {te:TE} {N':List Str} {js:List Nat} {use:Option (Value->Sem Unit)} {Qc:Value->Shared->Prop} {pins:List (Addr×Obj)} {s:Shared} {σ:St} {H:Hp} {Q:VK} {kp:Pos} (hc:X.calm=true) (hi:PI X tg iter wi) (S:M6 X nt N' js sc)
  (hgt:∀fp s H,PG (xU X N' sc fp s H) tg g) (hif:∀fp s H,yx (xU X N' sc fp s H) ifs tc) (he:∀fp s H,PE (xU X N' sc fp s H) elt te) (hs:∀x,foldedSetIterable iter X.env x=pure x) (I:Inv X pins σ H s) (h:eO nt js wi g tc te σ H Q)
  (fin:∀(acc C:Addr) (H':Hp) (s':Shared),Inv X pins σ H' s'->fO X pins H' C->(∃m,s'.heap.Ns C m)->Q (.ref acc) H'->compPost (model X.prog X.w) X.A X.xe use Qc (.ref acc) C (.ok .next) s') :
  wpAny (model X.prog X.w) X.A (comprehension (.ListComp elt [⟨tg,iter,ifs,0⟩] sc pos) sc X.env kp (newList []) false (eval iter X.env) use) Qc X.xe s:=by
 refine wpAny_comprehension_free (use:=use) rfl hs S.clos S.kind S.names ?_;refine cH (hi pins s σ H _ I h) fun v s1 q1=>cH q1 fun itv s2 q2=>?_;obtain⟨it,fp,tn,J,H2,e,I2,T,st2,f2,q3⟩:=q2;subst e;refine oN ?_;obtain⟨W,⟨m0,w0⟩,turn⟩:=q3 s2.heap.objs.size I2.fresh;have I3:=I2.Pj (ys:=[]) (its:=[]) (t':=s2.toks) .nil (gD _)
 have Wm:∀b∈fp,b<s2.heap.objs.size:=fun b hb=>by
  obtain⟨o,ho,_⟩:=T.obj 0 _ st2 b hb;exact eX ho
 generalize e3:({ s2 with heap:=s2.heap.push { cls:=.type "list",data:=.seq ([]:List Value).toArray },toks:=s2.toks }:Shared)=s3 at I3
 have e3':({ s2 with heap:=s2.heap.push { cls:=.type "list",dict:=none,data:=.seq ([]:List Value).toArray } }:Shared)=s3:=e3
 have Ye:s3.heap.objs.size=s2.heap.objs.size+1:=by rw[<- e3]; exact iK ..
 have st3:tn 0 s3.heap:=T.keep 0 _ _ st2 fun b hb o ho=>by rw[<- e3]; exact dW _ ho
 have Wl:∀b∈fp,b<s3.heap.objs.size:=fun b hb=>by rw[Ye]; exact Hn (Wm b hb)
 have f3:∀b∈fp,fO X pins (upd H2 s2.heap.objs.size (.lst [])) b:=fun b hb=>⟨by rw[aV (dY (Wm b hb))]; exact(f2 b hb).1,(f2 b hb).2⟩
 generalize hH3:upd H2 s2.heap.objs.size (.lst [])=H3 at I3 f3 w0;refine ug ?_;generalize Zg:pushCells (s3.heap.push { cls:=.type "dict",data:=.dict #[] }) sc.names=h1;have hk:∀b o,s3.heap.get? b=some o->h1.get? b=some o:=fun b o q=>by rw[<- Zg]; exact pushCells_keeps _ _ b o (dW _ q)
 have hns':h1.Ns s3.heap.objs.size fun _=>none:=by rw[<- Zg]; exact(Heap.Ns.new s3.heap (.type "dict")).keeps (pushCells_keeps _ _)
 have I4:Inv (xU X N' sc fp s3 H3) [] (List.replicate nt none++cu js σ) H3 { s3 with heap:=h1,toks:=s3.toks }:=vI I3 f3 Wl S (fun {x c} e=>by
  have:=tR sc.names (s3.heap.push { cls:=.type "dict",data:=.dict #[] }) (l_ sc X.env) x c (by rw[iK]; exact e)
  rw[Zg,iK] at this
  exact this) hns' hk
 have Vx:tn 0 h1:=T.keep 0 _ _ st3 fun b hb o ho=>hk b o ho;have stat:∀{H':Hp},(∀b∈fp,H' b=none)->∀b∈fp,fO (xU X N' sc fp s3 H3) [] H' b:=fun hn b hb=>⟨hn b hb,dY (Wl b hb),I4.ok.Dq b hb,.inl hb,(I4.ok.WM b hb).2,fun p hp=>absurd (show p∈([]:List (Addr×Obj)) from hp) (by simp)⟩
 have out:∀{σ':St} {H':Hp} {s':Shared},Inv (xU X N' sc fp s3 H3) [] σ' H' s'->Q (.ref s2.heap.objs.size) H'->compPost (model X.prog X.w) X.A X.xe use Qc (.ref s2.heap.objs.size) s3.heap.objs.size (.ok .next) s':=by
  intro σ' H' s' I' q';obtain⟨m,hn,_⟩:=id I'.loc;have I5:Inv X pins σ H' s':=I3.call' I'.os I'.base I'.hok I'.bare fun b hb=>⟨(f3 b hb).2.2.2.1,(f3 b hb).2.1,(f3 b hb).2.2.2.2.1,(f3 b hb).2.2.2.2.2⟩;exact fin _ _ H' s' I5 (I3.qt (bN _) I'.free) ⟨m,hn⟩ q'
 have loop:∀s4:Shared,s4={ s3 with heap:=h1,toks:=s3.toks }->codeAny (model X.prog X.w) X.A (.compLoop (.ListComp elt [⟨tg,iter,ifs,0⟩] sc pos) 0 (.ref it) (.ref s2.heap.objs.size) (compEnvC sc (cellsFrom (s3.heap.objs.size+1) sc.names (l_ sc X.env)) s3.heap.objs.size X.env))
   (compPost (model X.prog X.w) X.A X.xe use Qc (.ref s2.heap.objs.size) s3.heap.objs.size) s4:=by
  rintro s4 rfl;refine xW (fun n s'=>∃i ys H',Inv (xU X N' sc fp s3 H3) [] (List.replicate nt none++cu js σ) H' s'/\tn i s'.heap/\(∀b∈fp,H' b=none)/\W i n ys H') ?_ m0 ⟨0,[],H3,I4,Vx,fun b hb=>(f3 b hb).1,w0⟩;rintro n s5 ⟨i,ys,H5,I5,NK,Th,w5⟩;rcases turn i n ys H5 w5 with⟨stop,qn⟩ | ⟨go,step⟩
  ·refine cH (T.done (xU X N' sc fp s3 H3) rfl rfl rfl hc i [] s5 _ H5 (fun _ _=>False) I5 (stat Th) NK stop) fun r s6 qx=>?_;obtain⟨hr,I6⟩:=qx;subst hr;exact out I6 qn
  ·refine cH (T.item (xU X N' sc fp s3 H3) rfl rfl rfl hc i [] s5 _ H5 (fun _ _=>False) I5 (stat Th) NK go) fun r s6 qx=>?_;obtain⟨u,hr,q6⟩:=qx;subst hr;refine cH q6 fun _ s7 qx=>?_;obtain⟨y,H7,I7,r7,y7,NB,Y_⟩:=qx;have Z1:=I7.pinned (stat Y_) (T.obj _ _ NB);refine cH (hgt fp s3 H3 _ s7 _ H7 y u _ Z1 r7 (step y _ y7)) fun _ s8 qx=>?_;obtain⟨σ8,H8,I8,hsh,q8⟩:=qx;refine cH (hif fp s3 H3 _ s8 _ _ _ I8 q8) fun b s8' qx=>?_;obtain⟨H8',X4,Xo⟩:=qx
   have wk:∀k v,(List.replicate nt none++cu js σ)[k]?=some (some v)->σ8[k]?=some (some v):=fun k v e=>by
    by_cases hlt:k<nt
    ·rw[Kr (by rw[zH]; exact hlt),Oh,aR hlt] at e
     cases e
    ·rw[Oj (by rw[zH]; omega),zH,<- hsh.1,List.getElem?_drop] at e
     rw[show nt+(k-nt)=k by omega] at e
     exact e
   cases b with
   | true=>
    rw[aR rfl] at Xo ⊢;refine cH (he fp s3 H3 _ s8' _ _ _ X4 Xo) fun z s9 qx=>?_;obtain⟨vz,H9,I9,r9,ha,hz,m',hm,w9⟩:=qx;refine cH (eG (X:=xU X N' sc fp s3 H3) _ s9 _ H9 (.ref s2.heap.objs.size) [vz] (.ref s2.heap.objs.size) [z] (fun _ H'=>H'=upd H9 s2.heap.objs.size (.lst (ys++[vz]))) I9 rfl (.cons r9 .nil) ⟨_,ys,vz,rfl,rfl,ha,hz,rfl⟩) fun _ uv qx=>?_;obtain⟨_,qy,W9,_,e10⟩:=qx;subst e10;refine⟨m',hm,i+1,ys++[vz],_,(W9.gA).weak hsh.2.symm wk,T.keep _ _ _ NB fun b hb o e=>(W9.pin (b,o) (gM _ (gM _ (cI hb e)))).1,fun b hb=>?_,w9⟩;obtain⟨o,e,d⟩:=T.obj _ _ NB b hb;exact(W9.pin (b,o) (gM _ (gM _ (cI hb e)))).2.1
   | false=>
    rw[bx (by decide)] at Xo ⊢
    obtain⟨m',hm,w9⟩:=Xo;refine⟨m',hm,i+1,ys,_,(X4.gA).weak hsh.2.symm wk,T.keep _ _ _ NB fun b hb o e=>(X4.pin (b,o) (gM _ (gM _ (cI hb e)))).1,fun b hb=>?_,w9⟩;obtain⟨o,e,d⟩:=T.obj _ _ NB b hb;exact(X4.pin (b,o) (gM _ (gM _ (cI hb e)))).2.1
 exact codeAny_compStart_list (loop _ rfl) (T.self X.A 0 _ _ _ Vx (loop _ rfl))
theorem Kw {X:Cx} {elt iter:Expr} {tg:Expr} {ifs:List Expr} {g:TG} {tc:TT} {nt:Nat} {y:Str} {py pos spos:Pos} {sc:Scope} {wi:TI} {te:TE} {N':List Str} {js:List Nat} {i:Nat} (hN:X.N.Nodup) (hi':X.N[i]?=some y) (hy:Loc X.env.scope y) (hc:X.calm=true) (hi:PI X tg iter wi) (S:M6 X nt N' js sc)
  (hgt:∀fp s H,PG (xU X N' sc fp s H) tg g) (hif:∀fp s H,yx (xU X N' sc fp s H) ifs tc) (he:∀fp s H,PE (xU X N' sc fp s H) elt te) (hs:∀x,foldedSetIterable iter X.env x=pure x:=by intro _; rfl) (hw:swapsWith (.ListComp elt [⟨tg,iter,ifs,0⟩] sc pos) (some (.Name y py)) spos.line X.env=pure true:=by rfl)
  (hf:X.fn y=true\/X.env.scope.names.lookup y=some .local:=by first | exact .inl rfl | exact .inr rfl | assumption) :
  PS X (.Assign [.Name y py] (.ListComp elt [⟨tg,iter,ifs,0⟩] sc pos) spos) (yQ (eO nt js wi g tc te) (dF i)):=by
 refine .mk ?_;intro pins s σ H D I h;rw[exec_Assign_Name_used _ _ _ _ hw];refine aW (uy (aW ?_));refine aW (tM hc hi S hgt hif he hs I h fun acc C H' s' I5 fc ⟨m,hn⟩ q=>?_)
 have ho:∀b∈[C],∃o,s'.heap.get? b=some o/\∀v,o.data≠.cell v:=fun b hb=>by
  rw[fX.mp hb];obtain⟨o,es,n,e,ed,_⟩:=hn;exact⟨o,e,fun v z=>by rw[ed] at z; cases z⟩
 have I6:=I5.pinned (fp:=[C]) (fun b hb=>by rw[fX.mp hb]; exact fc) ho
 have hg:PG X (.Name y py) (dF i):=aA hN hi' hy hf;show wpAny _ _ (assign (.Name y py) X.env (.ref acc)) (fun _ s''=>∃m,s''.heap.Ns C m/\∀h',Heap.SameBut C s''.heap h'->_) _ s';refine cH (hg _ s' _ H' (.ref acc) (.ref acc) _ I6 rfl q) fun _ s7 qx=>?_;obtain⟨σ7,H7,I7,q7⟩:=qx
 have pc:∀o,s'.heap.get? C=some o->s7.heap.get? C=some o/\H7 C=none:=fun o e=>by
  have:=I7.pin (C,o) (gM _ (gM _ (cI (by simp) e)))
  exact⟨this.1,this.2.1⟩
 refine⟨m,hn.at fun o e=>(pc o e).1,fun h' sb=>cC (cC ⟨σ7,H7,?_,q7⟩)⟩
 have fr:H7 C=none:=by
  obtain⟨o,es,n,e,ed,_⟩:=hn;exact(pc o e).2
 exact I7.gA.turned (it:=C) (t':=s7.toks) (fun b o hb e=>sb.extBut b o hb e) fr fc.2.1 fc.2.2.2.1 fc.2.2.2.2.1 fc.2.2.2.2.2
theorem KR {X:Cx} {elt iter tg:Expr} {ifs:List Expr} {g:TG} {tc:TT} {nt:Nat} {pos:Pos} {sc:Scope} {wi:TI} {te:TE} {N':List Str} {js:List Nat} (hc:X.calm=true) (hi:PI X tg iter wi) (S:M6 X nt N' js sc)
  (hgt:∀fp s H,PG (xU X N' sc fp s H) tg g) (hif:∀fp s H,yx (xU X N' sc fp s H) ifs tc) (he:∀fp s H,PE (xU X N' sc fp s H) elt te) (hs:∀x,foldedSetIterable iter X.env x=pure x:=by intro _; rfl):PE X (.ListComp elt [⟨tg,iter,ifs,0⟩] sc pos) (eO nt js wi g tc te):=by
 refine .mk ?_;intro pins s σ H Q I h;rw[eval_ListComp];refine tM (use:=none) hc hi S hgt hif he hs I h fun acc C H' s' I5 fc ⟨m,hn⟩ q=>?_;refine⟨m,hn,fun h' sb=>?_⟩;exact⟨.ref acc,H',I5.turned (it:=C) (t':=s'.toks) (fun b o hb q=>sb.extBut b o hb q) fc.1 fc.2.1 fc.2.2.2.1 fc.2.2.2.2.1 fc.2.2.2.2.2,rfl,q⟩
theorem rP {X:Cx} {elt iter:Expr} {tg:Expr} {ifs:List Expr} {g:TG} {tc:TT} {nt:Nat} {y:Str} {py pos spos:Pos} {sc:Scope} {wi:TI} {te:TE} {N':List Str} {js:List Nat} {i:Nat} (hN:X.N.Nodup) (hi':X.N[i]?=some y) (hy:Loc X.env.scope y) (hc:X.calm=true) (hi:PI X tg iter wi) (S:jL X nt N' js sc)
  (hgt:∀fp s H,PG (lX X N' sc fp s H) tg g) (hif:∀fp s H,yx (lX X N' sc fp s H) ifs tc) (he:∀fp s H,PE (lX X N' sc fp s H) elt te) (hs:∀x,foldedSetIterable iter X.env x=pure x:=by intro _; rfl) (hw:swapsWith (.ListComp elt [⟨tg,iter,ifs,0⟩] sc pos) (some (.Name y py)) spos.line X.env=pure true:=by rfl)
  (hf:X.fn y=true\/X.env.scope.names.lookup y=some .local:=by first | exact .inl rfl | exact .inr rfl | assumption) :
  PS X (.Assign [.Name y py] (.ListComp elt [⟨tg,iter,ifs,0⟩] sc pos) spos) (yQ (eO nt js wi g tc te) (dF i)):=Kw hN hi' hy hc hi S.toD (fun fp s H=>tL S.fZ▸hgt fp s H) (fun fp s H=>tL S.fZ▸hif fp s H) (fun fp s H=>tL S.fZ▸he fp s H) hs hw hf
theorem jf {X:Cx} {elt iter tg:Expr} {ifs:List Expr} {g:TG} {tc:TT} {nt:Nat} {pos:Pos} {sc:Scope} {wi:TI} {te:TE} {N':List Str} {js:List Nat} (hc:X.calm=true) (hi:PI X tg iter wi) (S:jL X nt N' js sc)
  (hgt:∀fp s H,PG (lX X N' sc fp s H) tg g) (hif:∀fp s H,yx (lX X N' sc fp s H) ifs tc) (he:∀fp s H,PE (lX X N' sc fp s H) elt te) (hs:∀x,foldedSetIterable iter X.env x=pure x:=by intro _; rfl):PE X (.ListComp elt [⟨tg,iter,ifs,0⟩] sc pos) (eO nt js wi g tc te):=KR hc hi S.toD (fun fp s H=>tL S.fZ▸hgt fp s H) (fun fp s H=>tL S.fZ▸hif fp s H) (fun fp s H=>tL S.fZ▸he fp s H) hs
theorem vX.toG {X:Cx} {N':List Str} {js:List Nat} {sc:Scope} (S:vX X N' js sc):jL X 1 N' js sc:=⟨S.kind,S.fZ,S.names,S.clos,S.all,by rw[S.len,Nat.add_comm],fun i j h=>by rw[Nat.add_comm]; exact S.cap i j h,fun y h=>S.Mt y (by rw[<- List.drop_one]; exact h)⟩
theorem Ed {js:List Nat} {wi:TI} {te:TE}:gK js wi te=eO 1 js wi (dF 0) wI te:=by
 funext σ H Q
 have e:∀(x:V) (H3:Hp) (K1:VK) (K2:Hp->Prop),te (some x::cu js σ) H3 K1=dF 0 x (List.replicate 1 none++cu js σ) H3 fun σ' H'=>(σ'.drop 1=cu js σ/\σ'.length=(List.replicate 1 (none:Option V)++cu js σ).length)/\wI σ' H' fun b dR=>if b=true then te σ' dR K1 else K2 dR:=fun x H3 K1 K2=>propext ⟨fun h=>⟨⟨rfl,rfl⟩,h⟩,fun h=>h.2⟩
 unfold gK eO;refine lO (wi σ H) (funext fun J=>funext fun H1=>?_);refine propext ⟨fun h acc ha=>?_,fun h acc ha=>?_⟩
 ·obtain⟨W,h0,hs⟩:=h acc ha;refine⟨W,h0,fun i m ys H2 w=>(hs i m ys H2 w).imp id fun z=>⟨z.1,fun x H3 y=>?_⟩⟩;have:=z.2 x H3 y;rw[e x H3 _ fun dR=>∃m',m'<m/\W (i+1) m' ys dR] at this;exact this
 ·obtain⟨W,h0,hs⟩:=h acc ha;refine⟨W,h0,fun i m ys H2 w=>(hs i m ys H2 w).imp id fun z=>⟨z.1,fun x H3 y=>?_⟩⟩;rw[e x H3 _ fun dR=>∃m',m'<m/\W (i+1) m' ys dR];exact z.2 x H3 y
theorem jw {X:Cx} {elt iter:Expr} {x:Str} {px pos:Pos} {sc:Scope} {wi:TI} {te:TE} {N':List Str} {js:List Nat} (hc:X.calm=true) (hi:PI X (.Name x px) iter wi) (S:vX X N' js sc) (h0:N'[0]?=some x) (nd:N'.Nodup)
  (hx:sc.names.lookup x=some .local) (he:∀fp s H,PE (lX X N' sc fp s H) elt te) (hs:∀x,foldedSetIterable iter X.env x=pure x:=by intro _; rfl):PE X (.ListComp elt [⟨.Name x px,iter,[],0⟩] sc pos) (gK js wi te):=by
 rw[Ed];exact jf hc hi S.toG (fun _ _ _=>aA nd h0 (.inl (fC hx)) (.inr (fC hx))) (fun _ _ _=>nH) he hs
theorem wY {X:Cx} {elt iter:Expr} {x y:Str} {px py pos spos:Pos} {sc:Scope} {wi:TI} {te:TE} {N':List Str} {js:List Nat} {i:Nat} (hN:X.N.Nodup) (hi':X.N[i]?=some y) (hy:Loc X.env.scope y) (hc:X.calm=true) (hi:PI X (.Name x px) iter wi) (S:vX X N' js sc) (h0:N'[0]?=some x) (nd:N'.Nodup)
  (hx:sc.names.lookup x=some .local) (he:∀fp s H,PE (lX X N' sc fp s H) elt te) (hs:∀x,foldedSetIterable iter X.env x=pure x:=by intro _; rfl) (hw:swapsWith (.ListComp elt [⟨.Name x px,iter,[],0⟩] sc pos) (some (.Name y py)) spos.line X.env=pure true:=by rfl)
  (hf:X.fn y=true\/X.env.scope.names.lookup y=some .local:=by first | exact .inl rfl | exact .inr rfl | assumption) :
  PS X (.Assign [.Name y py] (.ListComp elt [⟨.Name x px,iter,[],0⟩] sc pos) spos) (yQ (gK js wi te) (dF i)):=by
 rw[Ed];exact rP hN hi' hy hc hi S.toG (fun _ _ _=>aA nd h0 (.inl (fC hx)) (.inr (fC hx))) (fun _ _ _=>nH) he hs hw hf
theorem jL.of {X:Cx} {nt:Nat} {N':List Str} {js:List Nat} {sc:Scope} (k:sc.kind=.function:=by rfl) (n:(sc.names.all fun y=>y.2 != .cell)=true:=by decide +kernel)
  (l:(sc.names.all fun y=>y.2 != .local || sc.names.lookup y.1==some .local)=true:=by decide +kernel) (al:(sc.names.all fun y=>y.2 != .free || (X.env.cells.lookup y.1).isSome)=true:=by rfl)
  (ln:N'.length=nt+js.length:=by rfl) (cp:(N'.drop nt).map some=js.map (fun j=>X.N[j]?):=by rfl) (ck:((N'.drop nt).all fun y=>X.env.kindOf y==some .cell&&sc.names.lookup y==some .free)=true:=by rfl):jL X nt N' js sc:=by
 have n':∀y∈sc.names,y.2≠.cell:=fun y hy=>by have:=rK.mp n y hy; simpa using this
 refine⟨k,n',nD l,jB al,al,ln,fun i j h=>?_,fun y h=>?_⟩
 ·have:=lO (fun l=>l[i]?) cp;simp only[h_,List.getElem?_drop,h,Option.map_some] at this;cases e:N'[nt+i]? with
  | none=>rw[e] at this; cases this
  | some y=>rw[e] at this; exact Option.some.inj this
 ·have:=rK.mp ck y h;simpa using this
def W5 (K:PySem.W.Frag) (js:List Nat) (te:TE) (σ:St) (Q:VK) (x:V) (H1:Hp):Prop:=gK js (sU K fun _ H R=>R x H) te σ H1 Q
theorem uW {K:PySem.W.Frag} {js:List Nat} {tl te:TE} {σ:St} {H:Hp} {Q:VK}:gK js (sU K tl) te σ H Q=tl σ H (W5 K js te σ Q):=rfl
theorem W5.of {K:PySem.W.Frag} {js:List Nat} {a:Addr} {xs:List V} {es:List PyData} {te:TE} {σ:St} {H:Hp} {Q:VK} (ha:H a=some (.lst xs)) (hn:es.length=xs.length) (hz:es.length<=sizeLine) (hL:bL es=true)
  (step:∀(i:Nat) x e H',xs[i]?=some x->es[i]?=some e->aJ H H'->∀R:VK,(∀v dR,aJ H' dR->At dR e v->R v dR)->te (some x::cu js σ) H' R)
  (fin:∀acc ys H',aJ H H'->H acc=none->H' acc=some (.lst ys)->ak (hid acc H') es ys->Q (.ref acc) H'):W5 K js te σ Q (.ref a) H:=P_ (fun R h=>h) ha hn hz hL step fin
theorem PQ {K:PySem.W.Frag} {js:List Nat} {a:Addr} {xs:List V} {es:List PyData} {tl te:TE} {σ:St} {H:Hp} {Q:VK} (hl:∀R:VK,R (.ref a) H->tl σ H R) (ha:H a=some (.tup xs)) (hn:es.length=xs.length) (hz:es.length<=sizeLine) (hL:bL es=true)
  (step:∀(i:Nat) x e H',xs[i]?=some x->es[i]?=some e->aJ H H'->∀R:VK,(∀v dR,aJ H' dR->At dR e v->R v dR)->te (some x::cu js σ) H' R)
  (fin:∀acc ys H',aJ H H'->H acc=none->H' acc=some (.lst ys)->ak (hid acc H') es ys->Q (.ref acc) H'):gK js (uE K tl) te σ H Q:=by
 refine hl _ ⟨a,rfl,⟨xs,cY.of ha⟩,fun acc hacc=>?_⟩;refine⟨fun i m ys H2=>m=es.length-i/\i<=es.length/\ak (hid acc H2) (es.take i) ys/\aJ H H2/\H2 acc=some (.lst ys),⟨_,rfl,gD _,ak.nil,aL hacc _,az⟩,?_⟩;rintro i m ys H2 ⟨rfl,hi,hA,sm,hy⟩;have ht:cY K H2 a xs:=cY.of (sm _ _ ha);by_cases hlt:i<es.length
 ·refine .inr ⟨⟨xs,xs[i]'(by omega),ht,gO (by omega)⟩,fun x H3 y=>?_⟩
  obtain⟨e,y⟩:=y;subst e;have e1:es[i]?=some es[i]:=gO hlt;refine step i x _ _ (y xs ht) e1 sm _ fun v H4 s4 a4=>⟨s4 _ _ hy,?_,es.length-(i+1),by omega,rfl,hlt,?_,?_,az⟩
  ·rw[hA.length,jH]; omega
  ·rw[eY,zr,e1];exact ak.append (hA.mono (aJ.hid s4)) (ak.cons (At.nJ (s4 _ _ hy) _ _ (jy hL e1) a4) ak.nil)
  ·refine fun b o q=>?_;have nb:b≠acc:=bU q hacc;rw[aV nb];exact s4 _ _ (sm _ _ q)
 ·have e:i=es.length:=by omega
  subst e;rw[qe] at hA;exact .inl ⟨⟨xs,ht,by omega⟩,fin _ _ _ sm hacc hy hA⟩
theorem o9 (kp:Nat->Bool) (f:Nat->V) (i:Nat):((List.range (i+1)).filter kp).map f=((List.range i).filter kp).map f++(if kp i=true then[f i] else[]):=by
 rw[zU,List.filter_append,lQ];cases h:kp i <;> simp[h]
theorem Al (kp:Nat->Bool) (f:Nat->V) (i:Nat):(((List.range i).filter kp).map f).length<=i:=by
 rw[dH];exact mZ (List.length_filter_le _ _) (by rw[Hm]; exact bN _)
theorem tO {js:List Nat} {J:It} {tc:TT} {te:TE} {σ:St} {H:Hp} {Q:VK} {acc:Addr} {n:Nat} (xv:Nat->V) (kp:Nat->Bool) (f:Nat->V) (hn:n<=1000) (hacc:H acc=none)
  (go:∀i H',i<n->aJ H H'->J.go i H') (yl:∀i H' x dR,i<n->aJ H H'->J.wg i H' x dR->x=xv i/\dR=H') (st:∀H',aJ H H'->J.stop n H')
  (test:∀i H',i<n->aJ H H'->∀R:Bool->Hp->Prop,R (kp i) H'->tc (some (xv i)::cu js σ) H' R)
  (val:∀i H',i<n->kp i=true->aJ H H'->∀R:VK,R (f i) H'->te (some (xv i)::cu js σ) H' R)
  (fin:∀H',aJ H H'->H' acc=some (.lst (((List.range n).filter kp).map f))->Q (.ref acc) H') :
  ∃W:Nat->Nat->List V->Hp->Prop,(∃m,W 0 m [] (upd H acc (.lst [])))/\∀i m ys H2,W i m ys H2 ->
   (J.stop i H2/\Q (.ref acc) H2)\/(J.go i H2/\∀x H3,J.wg i H2 x H3->dF 0 x (List.replicate 1 none++cu js σ) H3 fun σ' H'=>(σ'.drop 1=cu js σ/\σ'.length=(List.replicate 1 (none:Option V)++cu js σ).length)/\tc σ' H' fun b dR=>
    if b=true then te σ' dR fun y H4=>H4 acc=some (.lst ys)/\ys.length<sizeLine/\∃m',m'<m/\W (i+1) m' (ys++[y]) (upd H4 acc (.lst (ys++[y]))) else ∃m',m'<m/\W (i+1) m' ys dR):=by
 refine⟨fun i m ys H2=>m=n-i/\i<=n/\ys=((List.range i).filter kp).map f/\aJ H H2/\H2 acc=some (.lst ys),⟨_,rfl,gD _,rfl,aL hacc _,az⟩,?_⟩;rintro i m ys H2 ⟨rfl,hi,rfl,sm,hy⟩;by_cases hlt:i<n
 ·refine .inr ⟨go i H2 hlt sm,fun x H3 y=>?_⟩;obtain⟨rfl,rfl⟩:=yl i H2 x H3 hlt sm y;refine⟨⟨rfl,by simp⟩,?_⟩
  refine test i _ hlt sm _ ?_;have hs:=o9 kp f i;cases h:kp i with
  | true=>
   rw[aR rfl];rw[h,aR rfl] at hs;refine val i _ hlt h sm _ ⟨hy,bD (by have:=Al kp f i; omega),n-(i+1),by omega,rfl,hlt,hs.symm,sm.d_ hacc,az⟩
  | false=>
   rw[bx (by decide)]
   rw[h,bx (by decide),m7] at hs
   exact⟨n-(i+1),by omega,rfl,hlt,hs.symm,sm,hy⟩
 ·have e:i=n:=by omega
  subst e;exact .inl ⟨st _ sm,fin _ sm hy⟩
theorem Gj {K:PySem.W.Frag} {js:List Nat} {a:Addr} {xs:List V} {tl:TE} {tc:TT} {te:TE} {σ:St} {H:Hp} {Q:VK} (kp:Nat->Bool) (f:Nat->V) (hl:∀R:VK,R (.ref a) H->tl σ H R) (ha:H a=some (.lst xs)) (hn:xs.length<=1000)
  (test:∀i x H',xs[i]?=some x->aJ H H'->∀R:Bool->Hp->Prop,R (kp i) H'->tc (some x::cu js σ) H' R)
  (val:∀i x H',xs[i]?=some x->kp i=true->aJ H H'->∀R:VK,R (f i) H'->te (some x::cu js σ) H' R)
  (fin:∀acc H',aJ H H'->H acc=none->H' acc=some (.lst (((List.range xs.length).filter kp).map f))->Q (.ref acc) H'):eO 1 js (sU K tl) (dF 0) tc te σ H Q:=by
 refine hl _ ⟨a,rfl,⟨xs,dI.of ha⟩,fun acc hacc=>?_⟩;have ht:∀H',aJ H H'->dI K H' a xs:=fun H' s=>dI.of (s _ _ ha);have gx:∀i,i<xs.length->xs[i]?=some (xs.getD i .non):=fun i hi=>by rw[iy,gO hi]; rfl
 exact tO (n:=xs.length) (fun i=>xs.getD i .non) kp f hn hacc (fun i H' hi s=>⟨xs,_,ht H' s,gx i hi⟩) (fun i H' x dR hi s y=>by
   obtain⟨e,y⟩:=y;have:=y xs (ht H' s);rw[gx i hi] at this
   exact⟨(Option.some.inj this).symm,e⟩) (fun H' s=>⟨xs,ht H' s,bN _⟩)
  (fun i H' hi s R hR=>test i _ H' (gx i hi) s R hR) (fun i H' hi hk s R hR=>val i _ H' (gx i hi) hk s R hR) fun H' s h=>fin acc H' s hacc h
theorem Qa {js:List Nat} {ta:TA} {tc:TT} {te:TE} {σ:St} {H:Hp} {Q:VK} {n:Nat} (kp:Nat->Bool) (f:Nat->V) (hl:∀R:List V->Hp->Prop,R [.int n] H->ta σ H R) (hn:n<=1000)
  (test:∀i H',i<n->aJ H H'->∀R:Bool->Hp->Prop,R (kp i) H'->tc (some (.int (0+(i:Nat)))::cu js σ) H' R)
  (val:∀i H',i<n->kp i=true->aJ H H'->∀R:VK,R (f i) H'->te (some (.int (0+(i:Nat)))::cu js σ) H' R)
  (fin:∀acc H',aJ H H'->H acc=none->H' acc=some (.lst (((List.range n).filter kp).map f))->Q (.ref acc) H'):eO 1 js (vJ ta) (dF 0) tc te σ H Q:=by
 refine hl _ ⟨n,rfl,by omega,by omega,fun acc hacc=>?_⟩
 have en:((n:Int)).toNat=n:=m8 n;rw[en];exact tO (n:=n) (fun i=>.int (0+(i:Nat))) kp f hn hacc (fun i H' hi s=>hi) (fun i H' x dR hi s y=>⟨y.2,y.1⟩) (fun H' s=>bN _) test val fun H' s h=>fin acc H' s hacc h
section
variable {prog:Program} {w:World} {A:Around} {E:Value->Shared->Prop} {s:Shared}
theorem _root_.PySem.Heap.ExtBut.trans' {b:Addr} {h h1 h2:Heap} (x:Heap.ExtBut b h h1) (y:∀c o,h1.get? c=some o->h2.get? c=some o):Heap.ExtBut b h h2:=fun c o n e=>y c o (x c o n e)
theorem GR {α:Type} {Q:α->Shared->Prop} (hh:A.handled=none) (q:∀h' x,(∀c o,s.heap.get? c=some o->h'.get? c=some o)->(∃o,h'.get? x=some o/\o.cls=.type "StopIteration")->E (.ref x) { s with heap:=h' }) :
  wpAny (model prog w) A (Builtin.SmallTypes.stopIteration (α:=α)) Q E s:=by
 unfold Builtin.SmallTypes.stopIteration;refine aW ?_;simp only[newExc,newTuple];refine aW (oN ?_ (by size_fits)); refine aW (m:=firstArgMember _ _) (oH (a:=Value.none) (by rfl) ?_)
 refine oN ?_ (by size_fits); simp only[raiseNew]
 refine aW (wpAny_handled ?_); rw[hh];refine aW (cC (wpAny_throw ?_)); refine q _ _ (fun c o e=>?_) ⟨_,jk _ rfl,rfl⟩;exact dW _ (dW _ e)
theorem Ss {it t:Addr} {i:Nat} {its:Array Value} {u:Value} {Q:Value->Shared->Prop} (hi:s.heap.IsTupleIter it t i) (ht:s.heap.IsTuple t its) (hu:its[i]?=some u)
  (q:∀h',h'.IsTupleIter it t (i+1)->Heap.SameBut it s.heap h'->Q u { s with heap:=h' }):wpAny (model prog w) A (Builtin.SmallTypes.nextOf (.ref it)) Q E s:=by
 obtain⟨oi,gi,ci,di⟩:=id hi;obtain⟨ot,gt,_,nt,dt⟩:=ht;have ty:=hi.typeIs;have nn:¬((Value.ref t==Value.none)=true):=fun z=>Bool.noConfusion (show false=true from z);unfold Builtin.SmallTypes.nextOf;refine aW (Ht (name:=Str.ofString "__next__") ty F.slot_tuple_iterator_next (wV F.slot_tuple_iterator_next ty F.entry_tuple_iterator_next ?_ (F.args_tuple_iterator_next_1 _)));show wpAny _ _ (field (.ref it) 0 >>= _) _ _ s; refine aW (gQ gi di (x:=.ref t) rfl ?_);show wpAny _ _ (if(Value.ref t==Value.none)=true then _ else _) _ _ s; rw[bx nn]
 show wpAny _ _ (field (.ref it) 1 >>= _) _ _ s; refine aW (gQ gi di (x:=.int i 0) rfl ?_);show wpAny _ _ (seqItems? (.ref t) >>= _) _ _ s; refine aW (qd gt dt ?_);simp only[m8,hu];have fin:∀h',(∃o,h'.get? it=some o/\o.cls=.type "tuple_iterator" /\ o.data=.fields #[.ref t,.int ((i+1:Nat):Int) 0])->Heap.SameBut it s.heap h'->Q u { s with heap:=h' }:=fun h' z sb=>q h' z sb
 refine aW (Hi gi di (by simp) (cC ⟨u,rfl,cC (fin _ ?_ (Heap.SameBut.update ..))⟩))
 refine⟨_,zE _ gi (Obj.isFreed_of_fields (Obj.data_mapFields di _)),(Obj.cls_mapFields ..).trans ci,?_⟩;rw[Obj.data_mapFields di];simp[rawInt]
theorem O5 {it t:Addr} {i:Nat} {its:Array Value} {Q:Value->Shared->Prop} (hh:A.handled=none) (hi:s.heap.IsTupleIter it t i) (ht:s.heap.IsTuple t its) (hu:its[i]?=none)
  (q:∀h' x,Heap.ExtBut it s.heap h'->(∃o,h'.get? x=some o/\o.cls=.type "StopIteration")->E (.ref x) { s with heap:=h' }):wpAny (model prog w) A (Builtin.SmallTypes.nextOf (.ref it)) Q E s:=by
 obtain⟨oi,gi,ci,di⟩:=id hi;obtain⟨ot,gt,_,nt,dt⟩:=ht;have ty:=hi.typeIs;have nn:¬((Value.ref t==Value.none)=true):=fun z=>Bool.noConfusion (show false=true from z);unfold Builtin.SmallTypes.nextOf;refine aW (Ht (name:=Str.ofString "__next__") ty F.slot_tuple_iterator_next (wV F.slot_tuple_iterator_next ty F.entry_tuple_iterator_next ?_ (F.args_tuple_iterator_next_1 _)));show wpAny _ _ (field (.ref it) 0 >>= _) _ _ s; refine aW (gQ gi di (x:=.ref t) rfl ?_);show wpAny _ _ (if(Value.ref t==Value.none)=true then _ else _) _ _ s; rw[bx nn]
 show wpAny _ _ (field (.ref it) 1 >>= _) _ _ s; refine aW (gQ gi di (x:=.int i 0) rfl ?_);show wpAny _ _ (seqItems? (.ref t) >>= _) _ _ s; refine aW (qd gt dt ?_);simp only[m8,hu];refine aW (uw (aW (Hi gi di (by simp) ?_)))
 exact GR (A:=A.in1) hh fun h' x k z=>q h' x ((Heap.SameBut.update ..).extBut.trans' k) z
end
theorem o_ {prog:Program} {w:World} {A:Around} (hh:A.handled=none) {it t:Addr} (ne:t≠it) (its:Array Value):Draws prog w A it [it,t] its.size (fun i v=>its[i]?=some v) (fun i h=>h.IsTupleIter it t i/\h.IsTuple t its) where
 live:=fun i h z=>let ⟨⟨o,e,_⟩,_⟩:=z; ⟨o,e⟩
 frame:=fun i h h' z k=>⟨z.1.at fun o e=>k it jd o e,z.2.at fun o e=>k t (jr _ jd) o e⟩
 item:=fun i s Q E hi z q=>by
  refine Ss z.1 z.2 (u:=its[i]) (Array.getElem?_eq_getElem hi) fun h' z' sb=>?_;exact q _ h' s.toks (Array.getElem?_eq_getElem hi) ⟨z',z.2.extBut sb.extBut ne⟩ sb
 done:=fun s Q E z q=>O5 hh z.1 z.2 (by simp) q
abbrev tiH (h:Heap) (t:Addr):Heap:=h.push { cls:=.type "tuple_iterator",data:=.fields #[.ref t,.int 0 0] }
abbrev Zf (h:Heap) (t:Addr):Heap:=(tiH h t).push { cls:=.type "enumerate",data:=.fields #[.none,.bool false,.ref h.objs.size,rawInt 0,.none,.none] }
set_option maxHeartbeats 1000000 in
theorem Lf (t:Addr) (its:Array Value) (n:Nat) (dc:Option Addr) (sl:Array (Option Value)) :
  Meets (Builtin.«enumerate.__new__» ⟨[.type "enumerate",.ref t],[]⟩) (fun _ R s=>s.heap.get? t=some ⟨.type "tuple",dc,.seq its n,sl⟩/\R (.ok (.ret (.ref (tiH s.heap t).objs.size))) { s with heap:=Zf s.heap t }):=
 .of_wp fun prog w A R s z=>by
  obtain⟨hp,g,d,tk,os⟩:=s;obtain⟨ht,z⟩:=z;have sub:=sub_enumerate;have hT:Heap.IsTuple (Shared.heap ⟨hp,g,d,tk,os⟩) t its:=⟨_,ht,rfl,n,rfl⟩
  wp_walk using AutoSeq1.wpAny_loadPart' ht
  refine wpAny_stack_any fun st=>cC ?_;split
  ·rename_i c _ _ _ _ _;cases(c==Value.type "enumerate") <;> (wp_walk using AutoSeq1.wpAny_loadPart' ht,Hq hT; exact⟨_,rfl,z⟩)
  ·wp_walk using AutoSeq1.wpAny_loadPart' ht,Hq hT; exact⟨_,rfl,z⟩
theorem Dz {prog:Program} {w:World} {A:Around} {E:Value->Shared->Prop} {s:Shared} {t:Addr} {its:Array Value} {Q:Value->Shared->Prop} (hT:s.heap.IsTuple t its)
  (q:∀h',IsEnum h' (s.heap.objs.size+1) s.heap.objs.size 0 .none->h'.IsTupleIter s.heap.objs.size t 0->(∀b o,s.heap.get? b=some o->h'.get? b=some o)->Q (.ref (s.heap.objs.size+1)) { s with heap:=h' }) :
  wpAny (model prog w) A (call (.type "enumerate") [.ref t]) Q E s:=by
 obtain⟨⟨c,dc,dt,sl⟩,ht,hc,n,hd⟩:=hT;cases(show c=.type "tuple" from hc);cases(show dt=.seq its n from hd);have sz:(tiH s.heap t).objs.size=s.heap.objs.size+1:=iK ..;have g1:(Zf s.heap t).get? (tiH s.heap t).objs.size=some _:=jk _ rfl;have g0:(Zf s.heap t).get? s.heap.objs.size=some _:=dW _ (jk _ rfl);refine callType_new F.called_enumerate (by decide) (F.typeCall_enumerate_1 _) (F.newCall_enumerate_1 _) (fun x=>F.args_object_init_2 x _) F.entry_enumerate_new (Lf t its n dc sl) ⟨ht,?_⟩
 show _/\_;rw[sz] at g1 ⊢;exact⟨⟨_,g1,rfl⟩,q _ g1 ⟨_,g0,rfl,rfl⟩ fun b o e=>dW _ (dW _ e)⟩
def Ua (K:PySem.W.Frag) (a:Addr):It:=
 ⟨fun i H=>∃xs x,cY K H a xs/\xs[i]?=some x,fun i H x H'=>∃p y,H p=none/\x=.ref p/\H'=upd H p (.tup [.int i,y])/\∀xs,cY K H a xs->xs[i]?=some y,fun i H=>∃xs,cY K H a xs/\xs.length=i⟩
theorem Bp {P:Program} {w:World} {K:PySem.W.Frag} {elts:List Expr} {x1} {tp:Pos} (a e it:Addr) (hne:e≠it):Turn P w K (.Tuple elts x1 tp) (Ua K a) [e,it] e (fun i h=>(∃old,IsEnum h e it (i:Nat) old)/\h.IsTupleIter it a i) where
 mem:=by simp
 obj:=fun i h st b hb=>by
  obtain⟨⟨old,he⟩,o,ho,c,d⟩:=st;rcases cA.mp hb with z | z
  ·rw[z]; exact⟨_,he,fun v q=>by cases q⟩
  ·rw[fX.mp z]; exact⟨o,ho,fun v q=>by rw[d] at q; cases q⟩
 keep:=fun i h h' st k=>by
  obtain⟨⟨old,he⟩,hi⟩:=st;exact⟨⟨old,k e (by simp) _ he⟩,hi.at fun o q=>k it (by simp) o q⟩
 item:=by
  intro X hP hw hK hc i pins s σ H E I hf st hg;subst hP hw hK;obtain⟨⟨old,he⟩,hi⟩:=st;obtain⟨xs,x,hq,hx⟩:=hg;obtain⟨its,rv,p,hz⟩:=I.tuple hq;obtain⟨u,hu,ru⟩:=rv.get hx;have fe:=hf e (by simp)
  have fi:=hf it (by simp)
  have pT:s.heap.IsTuple a its.toArray:=p
  have nea:e≠a:=fun z=>by
   obtain⟨o,g,c,_⟩:=pT;rw[<- z,he] at g;cases g;exact absurd (show Value.type "enumerate" = Value.type "tuple" from c) (by decide)
  have YD:a≠it:=fun z=>by
   obtain⟨o,g,c,_⟩:=pT;obtain⟨o',g',c',_⟩:=hi;rw[z,g'] at g;cases g;rw[c'] at c;exact absurd c (by decide)
  have hlt:i<its.toArray.size:=by have:=(iM.mp hu).1; simpa using this
  refine wpAny_pyNext_enum_itemD (o_ (A:=X.A.in1) (show X.A.in1.handled=none from I.ok.hd hc) YD its.toArray) he (show _/\_ from⟨hi,pT⟩) hlt hne (fun z=>by rcases cA.mp z with y | y; exact hne y; exact nea (fX.mp y)) fun u' h' tk hu' eo hi' ht hsz kk=>?_
  have eu:u'=u:=by
   have:its[i]?=some u':=by simpa using hu'
   rw[hu] at this; exact(Option.some.inj this).symm
  subst eu;have fr:H s.heap.objs.size=none:=I.hok.fresh (bN _)
  have I1:Inv X pins σ (upd H s.heap.objs.size (.tup [.int i,x])) { s with heap:=s.heap.push { cls:=.type "tuple",data:=.seq #[.int i tk,u'] },toks:=tk }:=
   I.laid (t':=tk) (fun b v z=>dW _ z) (bN _) ⟨(by show 2<=sizeLine; decide),[.int i tk,u'],.cons ⟨_,rfl⟩ (.cons ru .nil),⟨_,jk _ rfl,rfl,_,rfl⟩⟩
  have le:e<s.heap.objs.size:=eX he;have li:it<s.heap.objs.size:=by obtain⟨o,ho,_⟩:=hi; exact eX ho
  have Di:fO X pins (upd H s.heap.objs.size (.tup [.int i,x])) e:=⟨by rw[aV (dY le)]; exact fe.1,fe.2⟩
  have Wz:fO X pins (upd H s.heap.objs.size (.tup [.int i,x])) it:=⟨by rw[aV (dY li)]; exact fi.1,fi.2⟩
  have I2:Inv X pins σ (upd H s.heap.objs.size (.tup [.int i,x])) { s with heap:=h',toks:=tk+1 }:=I1.Ea (t':=tk+1) (fun b o z1 z2 z=>by
   by_cases y:b=s.heap.objs.size
   ·subst y;rw[jk _ rfl] at z;cases z;exact ht
   ·rcases Heap.get?_push_cases z with v | v
    ·exact absurd v.1 y
    ·exact kk b o z1 z2 v) Di Wz
  refine⟨_,rfl,wpAny_letOwnedTupleGo_enum eo fun h2 en sb=>⟨.ref s.heap.objs.size,_,I2.turned (it:=e) (t':=tk+1) (fun b o hb z=>sb.extBut b o hb z) Di.1 Di.2.1 Di.2.2.2.1 Di.2.2.2.2.1 Di.2.2.2.2.2,rfl,⟨_,x,fr,rfl,rfl,fun ys hy=>by rw[I.nY hy hq]; exact hx⟩,⟨⟨_,en⟩,?_⟩,fun b hb=>?_⟩⟩
  ·exact hi'.1.at fun o z=>sb.extBut it o (Ne.symm hne) z
  ·rcases cA.mp hb with z | z
   ·rw[z]; exact Di.1
   ·rw[fX.mp z]; exact Wz.1
 done:=by
  intro X hP hw hK hc i pins s σ H E I hf st hg;subst hP hw hK;obtain⟨⟨old,he⟩,hi⟩:=st;obtain⟨xs,hq,hx⟩:=hg;obtain⟨its,rv,p,hz⟩:=I.tuple hq;have hl:=rv.length;have pT:s.heap.IsTuple a its.toArray:=p;obtain⟨f0,f1,f2,f3,f4,f5⟩:=hf it (by simp)
  have YD:a≠it:=fun z=>by
   obtain⟨o,g,c,_⟩:=pT;obtain⟨o',g',c',_⟩:=hi;rw[z,g'] at g;cases g;rw[c'] at c;exact absurd c (by decide)
  have D:=o_ (prog:=X.prog) (w:=X.w) (A:=X.A.in1) (show X.A.in1.handled=none from I.ok.hd hc) YD its.toArray;refine wpAny_pyNext_enum_endD D he (show _/\_ from⟨?_,pT⟩) fun h' eb=>⟨rfl,I.turned (t':=s.toks) (fun b o hb z=>eb b o hb z) f0 f1 f3 f4 f5⟩;have e:its.toArray.size=i:=by simp; omega
  rw[e]; exact hi
 self:=fun _ _ _ _ _ st h=>by
  obtain⟨⟨old,he⟩,_⟩:=st;exact Ez he h
section
variable {X:Cx}
def Lx (K:PySem.W.Frag) (ta:TA):TI:=fun σ H R=>ta σ H fun vs H1=>∃a,vs=[.ref a]/\(∃xs,cY K H1 a xs)/\R (Ua K a) H1
theorem KC {K:PySem.W.Frag} {e:Expr} {elts:List Expr} {x1} {tp p pos:Pos} {ta:TA} (hK:X.K=K) (hm:X.mg "enumerate" = none) (ha:PA X [e] ta) (hg:Gl X "enumerate" := by rfl) (h1:bK e=true:=by rfl) :
  PI X (.Tuple elts x1 tp) (.Call (.Name "enumerate" p) [e] [] pos) (Lx K ta):=by
 subst hK;refine .mk ?_;intro pins s σ H R I h;refine qi (gW I hg hm nR ?_ (by decide) (by decide))
 refine PyProof.Rows.callWith_type1 (cH (ha pos pins s σ H _ I h) fun us s1 ⟨vs,H1,I1,r1,q1⟩=>?_) (bZ h1) (b_ (es:=[]) rfl);obtain⟨a,rfl,⟨xs,hq⟩,q⟩:=q1;obtain⟨u,rfl,ru⟩:=r1.one;cases ru;obtain⟨its,rv,pl,hz⟩:=I1.tuple hq;refine Dz (show s1.heap.IsTuple a its.toArray from pl) fun h' he hi kk=>?_;have I2:Inv X pins σ H1 { s1 with heap:=h' }:=I1.kept (t':=s1.toks) kk
 have f1:H1 (s1.heap.objs.size+1)=none:=I1.hok.fresh (Nat.le_succ _);have f0:H1 s1.heap.objs.size=none:=I1.hok.fresh (bN _);refine Ez he ⟨s1.heap.objs.size+1,_,_,Ua X.K a,H1,rfl,I2,Bp a (s1.heap.objs.size+1) s1.heap.objs.size (Nat.succ_ne_self _),⟨⟨_,he⟩,hi⟩,fun b hb=>?_,q⟩;rcases cA.mp hb with z | z
 ·rw[z]; exact I1.qt (Nat.le_succ _) f1
 ·rw[fX.mp z]; exact I1.qt (bN _) f0
end
end L2
namespace L2
open PySem PySem.Spec PyProof.Rows
structure Uu (z TI TO i1 i2:Addr) (f1 f2:List Addr):Prop where
 a1:TI≠z
 a2:TO≠z
 a3:TI≠TO
 a4:i1≠z
 a5:i2≠z
 a6:TO≠i1
 a7:TO≠i2
 a8:i1≠i2
 b1:z∉f1
 b2:z∉f2
 b3:TO∉f1
 b4:TO∉f2
 b5:i1∉f2
 b6:i2∉f1
section
variable {prog:Program} {w:World} {A:Around} {E:Value->Shared->Prop} {s:Shared}
theorem GX {b:Addr} {h h':Heap} {f:List Addr} (sb:Heap.SameBut b h h') (hb:b∉f):∀c∈f,∀o,h.get? c=some o->h'.get? c=some o:=fun c hc o e=>sb.extBut c o (fun z=>hb (z▸hc)) e
theorem Jv {z TI TO i1 i2:Addr} {f1 f2:List Addr} {n1 n2 k:Nat} {P1 P2:Nat->Value->Prop} {S1 S2:Nat->Heap->Prop} {a b:Value} {Q:Value->Shared->Prop} (Z:Uu z TI TO i1 i2 f1 f2) (D1:Draws prog w A i1 f1 n1 P1 S1) (D2:Draws prog w A i2 f2 n2 P2 S2)
  (hz:IsZip s.heap z TI TO .none) (hi:IsPair s.heap TI (.ref i1) (.ref i2)) (ho:IsPair s.heap TO a b) (s1:S1 k s.heap) (s2:S2 k s.heap) (k1:k<n1) (k2:k<n2)
  (q:∀x y h' tk,P1 k x->P2 k y->IsZip h' z TI TO (rawInt s.heap.objs.size)->IsPair h' TO x y->S1 (k+1) h'->S2 (k+1) h'->IsPair h' s.heap.objs.size x y->h'.objs.size=s.heap.objs.size+1->(∀c o,c≠z->c≠TO->c≠i1->c≠i2->s.heap.get? c=some o->h'.get? c=some o)->Q (.ref s.heap.objs.size) { s with heap:=h',toks:=tk }) :
  wpAny (model prog w) A (Builtin.«zip.__next__» ⟨[.ref z],[]⟩) (fun fin s'=>∃v,fin=.done (.ret v)/\Q v s') E s:=by
 show wpAny _ _ (field (.ref z) 2 >>= _) _ _ _; refine aW (gQ hz rfl (x:=.bool false) rfl ?_);show wpAny _ _ (field (.ref z) 3 >>= _) _ _ _; refine aW (gQ hz rfl (x:=.ref TI) rfl (aW (qd hi rfl ?_)));show wpAny _ _ (Builtin.SmallTypes.ownedTupleIsFree (.ref z) >>= _) _ _ _; unfold Builtin.SmallTypes.ownedTupleIsFree;refine aW (aW (gQ hz rfl (x:=.none) rfl (cC ?_))); simp only[if_true];refine aW (uw (aW (gQ hz rfl (x:=.ref TO) rfl (aW (Hr hz (by simp) fun hA zA sA=>?_)))))
 replace zA:IsZip hA z TI TO .ellipsis:=zA
 refine aW ?_; simp only[List.zipIdx_cons,List.zipIdx_nil,Hk,List.forIn_nil];refine aW (aW (zP ?_)); show wpAny _ _ (Builtin.SmallTypes.nextOf (.ref i1) >>= _) _ _ _;refine aW (D1.item k _ _ _ k1 (D1.frame _ _ _ s1 (GX sA Z.b1)) fun x hB tB pB stb sB=>cC ?_);have oB:IsPair hB TO a b:=sB.extBut _ _ Z.a6 (sA.extBut _ _ Z.a2 ho);have uB:S2 k hB:=D2.frame _ _ _ (D2.frame _ _ _ s2 (GX sA Z.b2)) (GX sB Z.b5);refine aW (qd oB rfl (aW (wpAny_updateSeq_pair oB fun hC oC sC=>?_)))
 replace oC:IsPair hC TO x b:=oC
 refine aW (Ca (cC (aW (aW (zP ?_))))); show wpAny _ _ (Builtin.SmallTypes.nextOf (.ref i2) >>= _) _ _ _;refine aW (D2.item k _ _ _ k2 (D2.frame _ _ _ uB (GX sC Z.b4)) fun y hD tD pD std sD=>cC ?_);have oD:IsPair hD TO x b:=sD.extBut _ _ Z.a7 oC;refine aW (qd oD rfl (aW (wpAny_updateSeq_pair oD fun hF oF sF=>?_)))
 replace oF:IsPair hF TO x y:=oF
 refine aW (Ca (cC (cC (aW (qd oF rfl (aW (wpAny_newTuple ?_)))))));have zF:IsZip hF z TI TO .ellipsis:=sF.extBut _ _ Z.a2.symm (sD.extBut _ _ Z.a5.symm (sC.extBut _ _ Z.a2.symm (sB.extBut _ _ Z.a4.symm zA)));have size:hF.objs.size=s.heap.objs.size:=by rw[sF.1,sD.1,sC.1,sB.1,sA.1]
 have lz:z<hF.objs.size:=eX zF;show wpAny _ _ (Builtin.SmallTypes.ownedTupleHandOut (.ref z) (.ref hF.objs.size) >>= _) _ _ _; unfold Builtin.SmallTypes.ownedTupleHandOut;have zG:IsZip (hF.push { cls:=.type "tuple",data:=.seq #[x,y] }) z TI TO .ellipsis:=dW _ zF;refine aW (aW (Hr zG (by simp) fun hI zI sI=>?_))
 replace zI:IsZip hI z TI TO (rawInt hF.objs.size):=zI
 refine Hr zI (by simp) fun hJ zJ sJ=>cC ⟨_,rfl,?_⟩
 replace zJ:IsZip hJ z TI TO (rawInt hF.objs.size):=zJ
 have up:∀c o,c≠z->hF.get? c=some o->hJ.get? c=some o:=fun c o n e=>sJ.extBut _ _ n (sI.extBut _ _ n (dW _ e));have tJ:IsPair hJ hF.objs.size x y:=sJ.extBut _ _ (zN lz) (sI.extBut _ _ (zN lz) (jk _ rfl));have szJ:hJ.objs.size=hF.objs.size+1:=by rw[sJ.1,sI.1,iK]
 have kB:∀c o,c≠z->c≠TO->c≠i1->c≠i2->s.heap.get? c=some o->hF.get? c=some o:=fun c o n1 n2 n3 n4 e=>sF.extBut _ _ n2 (sD.extBut _ _ n4 (sC.extBut _ _ n2 (sB.extBut _ _ n3 (sA.extBut _ _ n1 e))));have u1:S1 (k+1) hF:=D1.frame _ _ _ (D1.frame _ _ _ (D1.frame _ _ _ stb (GX sC Z.b3)) (GX sD Z.b6)) (GX sF Z.b3);have u2:S2 (k+1) hF:=D2.frame _ _ _ std (GX sF Z.b4);show Q (.ref hF.objs.size) _;rw[size] at zJ tJ szJ ⊢;exact q x y hJ tD pB pD zJ (up _ _ Z.a2 oF) (D1.frame _ _ _ u1 fun c hc o e=>up c o (fun z'=>Z.b1 (z'▸hc)) e) (D2.frame _ _ _ u2 fun c hc o e=>up c o (fun z'=>Z.b2 (z'▸hc)) e) tJ szJ fun c o n1 n2 n3 n4 e=>up c o n1 (kB c o n1 n2 n3 n4 e)
theorem Gu {z TI TO i1 i2:Addr} {f1 f2:List Addr} {n1 n2 k:Nat} {P1 P2:Nat->Value->Prop} {S1 S2:Nat->Heap->Prop} {a b:Value} {Q:Fin->Shared->Prop} (Z:Uu z TI TO i1 i2 f1 f2) (D1:Draws prog w A i1 f1 n1 P1 S1) (D2:Draws prog w A i2 f2 n2 P2 S2)
  (hz:IsZip s.heap z TI TO .none) (hi:IsPair s.heap TI (.ref i1) (.ref i2)) (ho:IsPair s.heap TO a b) (s1:S1 k s.heap) (s2:S2 k s.heap) (kk:k=n1\/(k<n1/\k=n2))
  (q:∀h' e,(∀c o,c≠z->c≠TO->c≠i1->c≠i2->s.heap.get? c=some o->h'.get? c=some o)->(∃o,h'.get? e=some o/\o.cls=.type "StopIteration")->∀tk,E (.ref e) { s with heap:=h',toks:=tk }) :
  wpAny (model prog w) A (Builtin.«zip.__next__» ⟨[.ref z],[]⟩) Q E s:=by
 show wpAny _ _ (field (.ref z) 2 >>= _) _ _ _; refine aW (gQ hz rfl (x:=.bool false) rfl ?_);show wpAny _ _ (field (.ref z) 3 >>= _) _ _ _; refine aW (gQ hz rfl (x:=.ref TI) rfl (aW (qd hi rfl ?_)));show wpAny _ _ (Builtin.SmallTypes.ownedTupleIsFree (.ref z) >>= _) _ _ _; unfold Builtin.SmallTypes.ownedTupleIsFree;refine aW (aW (gQ hz rfl (x:=.none) rfl (cC ?_))); simp only[if_true];refine aW (uw (aW (gQ hz rfl (x:=.ref TO) rfl (aW (Hr hz (by simp) fun hA zA sA=>?_)))))
 replace zA:IsZip hA z TI TO .ellipsis:=zA
 refine aW ?_; simp only[List.zipIdx_cons,List.zipIdx_nil,Hk,List.forIn_nil];refine aW (aW (zP ?_)); show wpAny _ _ (Builtin.SmallTypes.nextOf (.ref i1) >>= _) _ _ _;rcases kk with e1 | ⟨k1,e2⟩
 ·have s1':=s1;rw[e1] at s1';refine aW (D1.done _ _ _ (D1.frame _ _ _ s1' (GX sA Z.b1)) fun hB x sB hx=>?_);obtain⟨ox,gx,cx⟩:=hx;have zB:IsZip hB z TI TO .ellipsis:=sB _ _ Z.a4.symm zA;have nx:x≠z:=fun y=>by subst y; rw[zB] at gx; cases gx; exact absurd (show Value.type "zip" = Value.type "StopIteration" from cx) (by decide)
  refine Hr zB (by simp) fun hC _ sC=>q hC x (fun c o m1 _ m3 _ e=>sC.extBut _ _ m1 (sB _ _ m3 (sA.extBut _ _ m1 e))) ⟨ox,sC.extBut _ _ nx gx,cx⟩ _
 ·refine aW (D1.item k _ _ _ k1 (D1.frame _ _ _ s1 (GX sA Z.b1)) fun x hB tB pB stb sB=>cC ?_);have oB:IsPair hB TO a b:=sB.extBut _ _ Z.a6 (sA.extBut _ _ Z.a2 ho);have uB:S2 k hB:=D2.frame _ _ _ (D2.frame _ _ _ s2 (GX sA Z.b2)) (GX sB Z.b5);refine aW (qd oB rfl (aW (wpAny_updateSeq_pair oB fun hC oC sC=>?_)));refine aW (Ca (cC (aW (aW (zP ?_))))); show wpAny _ _ (Builtin.SmallTypes.nextOf (.ref i2) >>= _) _ _ _;have uC:S2 n2 hC:=by rw[<- e2]; exact D2.frame _ _ _ uB (GX sC Z.b4)
  refine aW (D2.done _ _ _ uC fun hD v sD hx=>?_);obtain⟨ox,gx,cx⟩:=hx;have zD:IsZip hD z TI TO .ellipsis:=sD _ _ Z.a5.symm (sC.extBut _ _ Z.a2.symm (sB.extBut _ _ Z.a4.symm zA));have nx:v≠z:=fun y=>by subst y; rw[zD] at gx; cases gx; exact absurd (show Value.type "zip" = Value.type "StopIteration" from cx) (by decide)
  refine Hr zD (by simp) fun hF _ sF=>q hF v (fun c o m1 m2 m3 m4 e=>sF.extBut _ _ m1 (sD _ _ m4 (sC.extBut _ _ m2 (sB.extBut _ _ m3 (sA.extBut _ _ m1 e))))) ⟨ox,sF.extBut _ _ nx gx,cx⟩ _
theorem Rc {z TI TO i1 i2:Addr} {f1 f2:List Addr} {n1 n2 k:Nat} {P1 P2:Nat->Value->Prop} {S1 S2:Nat->Heap->Prop} {a b:Value} {Q:Option Value->Shared->Prop} (Z:Uu z TI TO i1 i2 f1 f2) (D1:Draws prog w A.in1 i1 f1 n1 P1 S1) (D2:Draws prog w A.in1 i2 f2 n2 P2 S2)
  (hz:IsZip s.heap z TI TO .none) (hi:IsPair s.heap TI (.ref i1) (.ref i2)) (ho:IsPair s.heap TO a b) (s1:S1 k s.heap) (s2:S2 k s.heap) (k1:k<n1) (k2:k<n2)
  (q:∀x y h' tk,P1 k x->P2 k y->IsZip h' z TI TO (rawInt s.heap.objs.size)->IsPair h' TO x y->S1 (k+1) h'->S2 (k+1) h'->IsPair h' s.heap.objs.size x y->h'.objs.size=s.heap.objs.size+1->(∀c o,c≠z->c≠TO->c≠i1->c≠i2->s.heap.get? c=some o->h'.get? c=some o)->Q (some (.ref s.heap.objs.size)) { s with heap:=h',toks:=tk }) :
  wpAny (model prog w) A (pyNext (.ref z)) Q E s:=by
 have ty:s.TypeIs (.ref z) "zip" := ⟨_,hz,rfl⟩;unfold pyNext;refine aW (wpAny_attempt (Ht (name:=Str.ofString "__next__") ty F.slot_zip_next (wV F.slot_zip_next ty F.entry_zip_next ?_ (F.args_zip_next_1 _))));exact Jv Z D1 D2 hz hi ho s1 s2 k1 k2 fun x y h' tk p1 p2 v1 v2 v3 v4 v5 v6 v7=>cC (q x y h' tk p1 p2 v1 v2 v3 v4 v5 v6 v7)
theorem Np {z TI TO i1 i2:Addr} {f1 f2:List Addr} {n1 n2 k:Nat} {P1 P2:Nat->Value->Prop} {S1 S2:Nat->Heap->Prop} {a b:Value} {Q:Option Value->Shared->Prop} (Z:Uu z TI TO i1 i2 f1 f2) (D1:Draws prog w A.in1 i1 f1 n1 P1 S1) (D2:Draws prog w A.in1 i2 f2 n2 P2 S2)
  (hz:IsZip s.heap z TI TO .none) (hi:IsPair s.heap TI (.ref i1) (.ref i2)) (ho:IsPair s.heap TO a b) (s1:S1 k s.heap) (s2:S2 k s.heap) (kk:k=n1\/(k<n1/\k=n2))
  (q:∀h' tk,(∀c o,c≠z->c≠TO->c≠i1->c≠i2->s.heap.get? c=some o->h'.get? c=some o)->Q none { s with heap:=h',toks:=tk }):wpAny (model prog w) A (pyNext (.ref z)) Q E s:=by
 have ty:s.TypeIs (.ref z) "zip" := ⟨_,hz,rfl⟩;unfold pyNext;refine aW (wpAny_attempt (Ht (name:=Str.ofString "__next__") ty F.slot_zip_next (wV F.slot_zip_next ty F.entry_zip_next ?_ (F.args_zip_next_1 _))));refine Gu Z D1 D2 hz hi ho s1 s2 kk fun h' e k hx tk=>?_;obtain⟨o,g,c⟩:=hx;exact aW (wpAny_isInstance (T:="StopIteration") (b:=true) ⟨o,g,c⟩ isSubtype_stop (cC (q _ tk k)))
end
abbrev Xf (h:Heap) (t1 t2:Addr):Heap:=tiH (tiH h t1) t2
abbrev Xe (h:Heap) (t1 t2:Addr):Heap:=(Xf h t1 t2).push { cls:=.type "tuple",data:=.seq #[.ref h.objs.size,.ref (tiH h t1).objs.size] }
abbrev Xd (h:Heap) (t1 t2:Addr):Heap:=(Xe h t1 t2).push { cls:=.type "tuple",data:=.seq #[.none,.none] }
abbrev Ri (h:Heap) (t1 t2:Addr):Heap:=(Xd h t1 t2).push { cls:=.type "zip",data:=.fields #[.none,.bool false,.bool false,.ref (Xf h t1 t2).objs.size,.ref (Xe h t1 t2).objs.size] }
theorem O9 (t1 t2:Addr) (xs ys:Array Value):Meets (Builtin.«zip.__new__» ⟨[.type "zip",.ref t1,.ref t2],[]⟩) (fun _ R s=>s.heap.IsTuple t1 xs/\s.heap.IsTuple t2 ys/\R (.ok (.ret (.ref (Xd s.heap t1 t2).objs.size))) { s with heap:=Ri s.heap t1 t2 }):=
 .of_wp fun prog w A R s z=>by
  obtain⟨hp,g,d,tk,os⟩:=s;obtain⟨hx,hy,z⟩:=z;have sub:=sub_zip;have hX:Heap.IsTuple (Shared.heap ⟨hp,g,d,tk,os⟩) t1 xs:=hx;have hY:Heap.IsTuple (Shared.heap ⟨tiH hp t1,g,d,tk,os⟩) t2 ys:=hy.push _
  wp_walk using Hq hX,Hq hY
  exact⟨_,rfl,z⟩
theorem Iw {prog:Program} {w:World} {A:Around} {E:Value->Shared->Prop} {s:Shared} {t1 t2:Addr} {xs ys:Array Value} {Q:Value->Shared->Prop} (hx:s.heap.IsTuple t1 xs) (hy:s.heap.IsTuple t2 ys)
  (q:∀h',IsZip h' (s.heap.objs.size+4) (s.heap.objs.size+2) (s.heap.objs.size+3) .none->IsPair h' (s.heap.objs.size+2) (.ref s.heap.objs.size) (.ref (s.heap.objs.size+1))->IsPair h' (s.heap.objs.size+3) .none .none ->
   h'.IsTupleIter s.heap.objs.size t1 0->h'.IsTupleIter (s.heap.objs.size+1) t2 0->(∀c o,s.heap.get? c=some o->h'.get? c=some o)->Q (.ref (s.heap.objs.size+4)) { s with heap:=h' }) :
  wpAny (model prog w) A (call (.type "zip") [.ref t1,.ref t2]) Q E s:=by
 have n1:(tiH s.heap t1).objs.size=s.heap.objs.size+1:=iK ..;have n2:(Xf s.heap t1 t2).objs.size=s.heap.objs.size+2:=by rw[iK,n1]
 have n3:(Xe s.heap t1 t2).objs.size=s.heap.objs.size+3:=by rw[iK,n2]
 have n4:(Xd s.heap t1 t2).objs.size=s.heap.objs.size+4:=by rw[iK,n3]
 have up:∀c o,s.heap.get? c=some o->(Ri s.heap t1 t2).get? c=some o:=fun c o e=>dW _ (dW _ (dW _ (dW _ (dW _ e))));have v5:(Ri s.heap t1 t2).get? (Xd s.heap t1 t2).objs.size=some _:=jk _ rfl;have v4:(Ri s.heap t1 t2).get? (Xe s.heap t1 t2).objs.size=some _:=dW _ (jk _ rfl);have v3:(Ri s.heap t1 t2).get? (Xf s.heap t1 t2).objs.size=some _:=dW _ (dW _ (jk _ rfl));have v2:(Ri s.heap t1 t2).get? (tiH s.heap t1).objs.size=some _:=dW _ (dW _ (dW _ (jk _ rfl)));have v1:(Ri s.heap t1 t2).get? s.heap.objs.size=some _:=dW _ (dW _ (dW _ (dW _ (jk _ rfl))));refine callType_new F.called_zip (by decide) (F.typeCall_zip_2 _ _) (F.newCall_zip_2 _ _) (fun x=>F.args_object_init_3 x _ _) F.entry_zip_new (O9 t1 t2 xs ys) ⟨hx,hy,?_⟩
 show _/\_;rw[n2,n3,n4] at v5;rw[n1,n2] at v3;rw[n3] at v4;rw[n1] at v2;rw[n4];exact⟨⟨_,v5,rfl⟩,q _ v5 v3 v4 ⟨_,v1,rfl,rfl⟩ ⟨_,v2,rfl,rfl⟩ up⟩
theorem Inv.wH {X:Cx} {pins:List (Addr×Obj)} {σ:St} {H:Hp} {s:Shared} {h':Heap} {t':Nat} {fp:List Addr} (I:Inv X pins σ H s) (k:∀b o,b∉fp->s.heap.get? b=some o->h'.get? b=some o) (hf:∀b∈fp,fO X pins H b) :
  Inv X pins σ H { s with heap:=h',toks:=t' }:=by
 have ni:∀b u,H b=some u->b∉fp:=fun b u q hb=>by rw[(hf b hb).1] at q; cases q
 refine I.step (g':=s.gens) (d':=s.drawn) (ch:=fp) (fun b hb=>?_) (fun b o _ _ hc q _=>k b o hc q) (fun b o _ _ hc q _=>⟨o.slots,k b o hc q⟩) (fun _ _ _ _ n=>n) (fun b o hc q=>⟨o,k b o hc q⟩) (fun _ _ q=>q) (fun _ _ _ q=>q)
  (fun b ps q=>⟨#[],by rw[q]; simp⟩) (fun m hm=>?_) (fun b u q=>?_) I.bare
 ·obtain⟨_,f1,_,f3,f4,f5⟩:=hf b hb;exact⟨f3,(hf b hb).2.1,f4,f5⟩
 ·obtain⟨o,es,ep,ho,r⟩:=hm;exact⟨o,es,ep,k _ o (fun hb=>(hf _ hb).2.1 rfl) ho,r⟩
 ·refine(I.hok b u q).stay (fun c v hc z=>k c v ?_ z) (fun _ z=>z) fun _ _ z=>z;rcases hc with z | z
  ·rw[z]; exact ni b u q
  ·exact ni c _ z
theorem VB {X:Cx} {pins:List (Addr×Obj)} {σ:St} {H:Hp} {s:Shared} {a b:Addr} {xs:List V} (I:Inv X pins σ H s) (hq:cY X.K H a xs) (hf:fO X pins H b):a≠b:=fun z=>by
 rcases hq with h | ⟨o,its,n,hk,_⟩
 ·rcases h with h | ⟨o,h⟩ <;> (rw[z,hf.1] at h; cases h)
 ·have e:X.base.get? a=some o:=I.ok.mod.Px a o hk;rcases hf.2.2.2.1 with y | y
  ·exact I.ok.Af a o e (z▸y)
  ·have l:=eX e;have m:=I.ok.Jt;rw[z] at l;exact absurd (jq l (mZ m y)) (oJ _)
structure W6 where
 Sq:PySem.W.Frag->Hp->Addr->List V->Prop
 It:Heap->Addr->Addr->Nat->Prop
 Pl:Heap->Addr->Array Value->Prop
 obj:∀{h:Heap} {i a:Addr} {n:Nat},It h i a n->∃o,h.get? i=some o/\∀v,o.data≠.cell v
 keep:∀{h h':Heap} {i a:Addr} {n:Nat},It h i a n->(∀o,h.get? i=some o->h'.get? i=some o)->It h' i a n
 inv:∀{X:Cx} {pins:List (Addr×Obj)} {σ:St} {H:Hp} {s:Shared} {a:Addr} {xs:List V},Inv X pins σ H s->Sq X.K H a xs->∃us:List Value,Vals xs us/\Pl s.heap a us.toArray
 inj:∀{X:Cx} {pins:List (Addr×Obj)} {σ:St} {H:Hp} {s:Shared} {a:Addr} {xs ys:List V},Inv X pins σ H s->Sq X.K H a xs->Sq X.K H a ys->xs=ys
 ne:∀{X:Cx} {pins:List (Addr×Obj)} {σ:St} {H:Hp} {s:Shared} {a b:Addr} {xs:List V},Inv X pins σ H s->Sq X.K H a xs->fO X pins H b->a≠b
 dr:∀{prog:Program} {w:World} {A:Around},A.handled=none->∀{i a:Addr},a≠i->∀us:Array Value,Draws prog w A i [i,a] us.size (fun n v=>us[n]?=some v) (fun n h=>It h i a n/\Pl h a us)
def kT:W6:=⟨fun K=>cY K,fun h i a n=>h.IsTupleIter i a n,fun h a us=>h.IsTuple a us,fun⟨o,g,_,d⟩=>⟨o,g,fun v q=>by rw[d] at q; cases q⟩,fun g k=>g.at k,fun I h=>(I.tuple h).elim fun us p=>⟨us,p.1,p.2.1⟩,fun I h h'=>I.nY h h',fun I h f=>VB I h f,fun hh _ _ n us=>o_ hh n us⟩
def T_ (k1 k2:W6) (K:PySem.W.Frag) (a b:Addr):It:=
 ⟨fun i H=>∃xs ys x y,k1.Sq K H a xs/\k2.Sq K H b ys/\xs[i]?=some x/\ys[i]?=some y,fun i H v H'=>∃p x y,H p=none/\v=.ref p/\H'=upd H p (.tup [x,y])/\(∀xs,k1.Sq K H a xs->xs[i]?=some x)/\∀ys,k2.Sq K H b ys->ys[i]?=some y,
  fun i H=>∃xs ys,k1.Sq K H a xs/\k2.Sq K H b ys/\(i=xs.length\/(i<xs.length/\i=ys.length))⟩
structure ZR (k1 k2:W6) (z TI TO i1 i2 a b:Addr) (i:Nat) (h:Heap):Prop where
 z:IsZip h z TI TO .none
 p:IsPair h TI (.ref i1) (.ref i2)
 o:∃x y,IsPair h TO x y
 l:k1.It h i1 a i
 r:k2.It h i2 b i
abbrev W7:=T_ kT kT
theorem uU (k1 k2:W6) {P:Program} {w:World} {K:PySem.W.Frag} {elts:List Expr} {x1} {tp:Pos} (a b z TI TO i1 i2:Addr) (n1:TI≠z) (n2:TO≠z) (n3:TI≠TO) (n4:i1≠z) (n5:i2≠z) (n6:TO≠i1) (n7:TO≠i2) (n8:i1≠i2) (n9:TI≠i1) (n10:TI≠i2) :
  Turn P w K (.Tuple elts x1 tp) (T_ k1 k2 K a b) [z,TI,TO,i1,i2] z (ZR k1 k2 z TI TO i1 i2 a b) where
 mem:=by simp
 obj:=fun i h st c hc=>by
  obtain⟨g1,g2,⟨x,y,g3⟩,g4,g5⟩:=st;simp only[cA,jJ,or_false] at hc;rcases hc with rfl | rfl | rfl | rfl | rfl
  ·exact⟨_,g1,fun v q=>by cases q⟩
  ·exact⟨_,g2,fun v q=>by cases q⟩
  ·exact⟨_,g3,fun v q=>by cases q⟩
  ·exact k1.obj g4
  ·exact k2.obj g5
 keep:=fun i h h' st k=>by
  obtain⟨g1,g2,⟨x,y,g3⟩,g4,g5⟩:=st;exact⟨k z (by simp) _ g1,k TI (by simp) _ g2,⟨x,y,k TO (by simp) _ g3⟩,k1.keep g4 fun o e=>k i1 (by simp) o e,k2.keep g5 fun o e=>k i2 (by simp) o e⟩
 item:=by
  intro X hP hw hK hc i pins s σ H E I hf st hg;subst hP hw hK;obtain⟨g1,g2,⟨xo,yo,g3⟩,g4,g5⟩:=st;obtain⟨xs,ys,x,y,hx,hy,ex,ey⟩:=hg;obtain⟨us,ru,pu⟩:=k1.inv I hx;obtain⟨vs,rv,pv⟩:=k2.inv I hy;obtain⟨u,hu,ru'⟩:=ru.get ex;obtain⟨v,hv,rv'⟩:=rv.get ey;have ha:∀c∈[z,TI,TO,i1,i2],a≠c:=fun c hc=>k1.ne I hx (hf c hc);have hb:∀c∈[z,TI,TO,i1,i2],b≠c:=fun c hc=>k2.ne I hy (hf c hc);have hh:X.A.in1.handled=none:=I.ok.hd hc;have Z:Uu z TI TO i1 i2 [i1,a] [i2,b]:=⟨n1,n2,n3,n4,n5,n6,n7,n8,by simp; exact⟨n4.symm,(ha z (by simp)).symm⟩,by simp; exact⟨n5.symm,(hb z (by simp)).symm⟩,by simp; exact⟨n6,(ha TO (by simp)).symm⟩,by simp; exact⟨n7,(hb TO (by simp)).symm⟩,by simp; exact⟨n8,(hb i1 (by simp)).symm⟩,by simp; exact⟨n8.symm,(ha i2 (by simp)).symm⟩⟩
  refine Rc Z (k1.dr hh (ha i1 (by simp)) us.toArray) (k2.dr hh (hb i2 (by simp)) vs.toArray) g1 g2 g3 (show _/\_ from⟨g4,pu⟩) (show _/\_ from⟨g5,pv⟩) (by have:=(iM.mp hu).1; simpa using this) (by have:=(iM.mp hv).1; simpa using this)
   fun u' v' h' tk hu' hv' z1 z2 z3 z4 z5 z6 kk=>?_
  have eu:u'=u:=by
   have:us[i]?=some u':=by simpa using hu'
   rw[hu] at this; exact(Option.some.inj this).symm
  have ev:v'=v:=by
   have:vs[i]?=some v':=by simpa using hv'
   rw[hv] at this; exact(Option.some.inj this).symm
  subst eu ev;have fr:H s.heap.objs.size=none:=I.hok.fresh (bN _)
  have I1:Inv X pins σ (upd H s.heap.objs.size (.tup [x,y])) { s with heap:=s.heap.push { cls:=.type "tuple",data:=.seq #[u',v'] },toks:=tk }:=
   I.laid (t':=tk) (fun b v z=>dW _ z) (bN _) ⟨(by show 2<=sizeLine; decide),[u',v'],.cons ru' (.cons rv' .nil),⟨_,jk _ rfl,rfl,_,rfl⟩⟩
  have lt:∀c∈[z,TI,TO,i1,i2],c<s.heap.objs.size:=fun c hc=>by
   simp only[cA,jJ,or_false] at hc;rcases hc with rfl | rfl | rfl | rfl | rfl
   ·exact eX g1
   ·exact eX g2
   ·exact eX g3
   ·obtain⟨o,e,_⟩:=k1.obj g4; exact eX e
   ·obtain⟨o,e,_⟩:=k2.obj g5; exact eX e
  have f1:∀c∈[z,TI,TO,i1,i2],fO X pins (upd H s.heap.objs.size (.tup [x,y])) c:=fun c hc=>⟨by rw[aV (dY (lt c hc))]; exact(hf c hc).1,(hf c hc).2⟩
  have I2:Inv X pins σ (upd H s.heap.objs.size (.tup [x,y])) { s with heap:=h',toks:=tk }:=I1.wH (t':=tk) (fun c o nc e=>by
   have m:∀d∈[z,TI,TO,i1,i2],c≠d:=fun d hd y=>nc (y▸hd);by_cases y:c=s.heap.objs.size
   ·subst y;rw[jk _ rfl] at e;cases e;exact z5
   ·rcases Heap.get?_push_cases e with w | w
    ·exact absurd w.1 y
    ·exact kk c o (m z (by simp)) (m TO (by simp)) (m i1 (by simp)) (m i2 (by simp)) w) f1
  have g2':IsPair h' TI (.ref i1) (.ref i2):=kk _ _ n1 n3 n9 n10 g2;refine⟨_,rfl,wpAny_letOwnedTupleGo_zip z1 fun h2 zz sb=>⟨.ref s.heap.objs.size,_,I2.wH (fp:=[z,TI,TO,i1,i2]) (t':=tk) (fun c o nc e=>sb.extBut c o (fun y=>nc (by simp[y])) e) f1,rfl,⟨_,x,y,fr,rfl,rfl,fun xs' h=>by rw[k1.inj I h hx]; exact ex,fun ys' h=>by rw[k2.inj I h hy]; exact ey⟩,⟨zz,sb.extBut _ _ n1 g2',⟨_,_,sb.extBut _ _ n2 z2⟩,?_,?_⟩,fun c hc=>(f1 c hc).1⟩⟩
  ·exact k1.keep z3.1 fun o e=>sb.extBut i1 o n4 e
  ·exact k2.keep z4.1 fun o e=>sb.extBut i2 o n5 e
 done:=by
  intro X hP hw hK hc i pins s σ H E I hf st hg;subst hP hw hK;obtain⟨g1,g2,⟨xo,yo,g3⟩,g4,g5⟩:=st;obtain⟨xs,ys,hx,hy,hl⟩:=hg;obtain⟨us,ru,pu⟩:=k1.inv I hx;obtain⟨vs,rv,pv⟩:=k2.inv I hy;have ha:∀c∈[z,TI,TO,i1,i2],a≠c:=fun c hc=>k1.ne I hx (hf c hc);have hb:∀c∈[z,TI,TO,i1,i2],b≠c:=fun c hc=>k2.ne I hy (hf c hc);have hh:X.A.in1.handled=none:=I.ok.hd hc;have Z:Uu z TI TO i1 i2 [i1,a] [i2,b]:=⟨n1,n2,n3,n4,n5,n6,n7,n8,by simp; exact⟨n4.symm,(ha z (by simp)).symm⟩,by simp; exact⟨n5.symm,(hb z (by simp)).symm⟩,by simp; exact⟨n6,(ha TO (by simp)).symm⟩,by simp; exact⟨n7,(hb TO (by simp)).symm⟩,by simp; exact⟨n8,(hb i1 (by simp)).symm⟩,by simp; exact⟨n8.symm,(ha i2 (by simp)).symm⟩⟩
  have l1:=ru.length;have l2:=rv.length;refine Np Z (k1.dr hh (ha i1 (by simp)) us.toArray) (k2.dr hh (hb i2 (by simp)) vs.toArray) g1 g2 g3 (show _/\_ from⟨g4,pu⟩) (show _/\_ from⟨g5,pv⟩) (by simp; omega) fun h' tk kk=>⟨rfl,I.wH (fp:=[z,TI,TO,i1,i2]) (t':=tk) (fun c o nc e=>?_) hf⟩
  have m:∀d∈[z,TI,TO,i1,i2],c≠d:=fun d hd y=>nc (y▸hd);exact kk c o (m z (by simp)) (m TO (by simp)) (m i1 (by simp)) (m i2 (by simp)) e
 self:=fun _ _ _ _ _ st h=>wpAny_pyIter_zip st.z h
section
variable {X:Cx}
def Ls (K:PySem.W.Frag) (ta:TA):TI:=fun σ H R=>ta σ H fun vs H1=>∃a b,vs=[.ref a,.ref b]/\(∃xs,cY K H1 a xs)/\(∃ys,cY K H1 b ys)/\R (W7 K a b) H1
theorem Fe {K:PySem.W.Frag} {e e':Expr} {elts:List Expr} {x1} {tp p pos:Pos} {ta:TA} (hK:X.K=K) (hm:X.mg "zip" = none) (ha:PA X [e,e'] ta) (hg:Gl X "zip" := by rfl) (h1:bK e=true:=by rfl) (h2:bK e'=true:=by rfl) :
  PI X (.Tuple elts x1 tp) (.Call (.Name "zip" p) [e,e'] [] pos) (Ls K ta):=by
 subst hK;refine .mk ?_;intro pins s σ H R I h;refine qi (gW I hg hm Mz ?_ (by decide) (by decide))
 refine PyProof.Rows.callWith_type1 (cH (ha pos pins s σ H _ I h) fun us s1 ⟨vs,H1,I1,r1,q1⟩=>?_) (bZ h1) (b_ (es:=[e']) (by simp[h2]))
 obtain⟨a,b,rfl,⟨xs,hx⟩,⟨ys,hy⟩,q⟩:=q1;obtain⟨u,v,rfl,ru,rv⟩:=r1.two;cases ru;cases rv;obtain⟨us,_,pu,_⟩:=I1.tuple hx;obtain⟨ws,_,pw,_⟩:=I1.tuple hy;refine Iw (show s1.heap.IsTuple a us.toArray from pu) (show s1.heap.IsTuple b ws.toArray from pw) fun h' hz hp ho h1 h2 kk=>?_;have I2:Inv X pins σ H1 { s1 with heap:=h' }:=I1.kept (t':=s1.toks) kk
 have fr:∀n,H1 (s1.heap.objs.size+n)=none:=fun n=>I1.hok.fresh (Ew _ _);have fk:∀n,fO X pins H1 (s1.heap.objs.size+n):=fun n=>I1.qt (Ew _ _) (fr n);have ne:∀i j:Nat,i≠j->s1.heap.objs.size+i≠s1.heap.objs.size+j:=fun i j n e=>n (Nat.add_left_cancel e);refine wpAny_pyIter_zip hz ⟨s1.heap.objs.size+4,_,_,W7 X.K a b,H1,rfl,I2,uU kT kT a b (s1.heap.objs.size+4) (s1.heap.objs.size+2) (s1.heap.objs.size+3) s1.heap.objs.size (s1.heap.objs.size+1) (ne _ _ (by decide)) (ne _ _ (by decide)) (ne _ _ (by decide)) (ne 0 _ (by decide)) (ne _ _ (by decide)) (ne _ 0 (by decide)) (ne _ _ (by decide)) (ne 0 _ (by decide)) (ne _ 0 (by decide)) (ne _ _ (by decide)),⟨hz,hp,⟨_,_,ho⟩,h1,h2⟩,fun c hc=>?_,q⟩
 simp only[cA,jJ,or_false] at hc;rcases hc with rfl | rfl | rfl | rfl | rfl
 ·exact fk 4
 ·exact fk 2
 ·exact fk 3
 ·exact fk 0
 ·exact fk 1
end
abbrev two (elt t1 i1 t2 i2:Expr) (sc:Scope) (pos:Pos):Expr:=.ListComp elt [⟨t1,i1,[],0⟩,⟨t2,i2,[],0⟩] sc pos
theorem Nv (elt t1 i1 t2 i2:Expr) (sc:Scope) (pos:Pos) (it acc:Value) (env:Env) :
  compTurn (two elt t1 i1 t2 i2 sc pos) 1 it acc env=(standAt i2.pos >>= fun _=>pyNext it >>= fun r=>match r with
   | none=>pure (.done .next)
   | some v=>letOwnedTupleGo t2 it v >>= fun _=>assign t2 env v >>= fun _=>(eval elt env >>= fun x=>call (.builtin "list.append") [acc,x] >>= fun _=>pure ()) >>= fun _=>again (.compLoop (two elt t1 i1 t2 i2 sc pos) 1 it acc env)):=by rfl
theorem JK (elt t1 i1 t2 i2:Expr) (sc:Scope) (pos:Pos) (it acc:Value) (env:Env) :
  compTurn (two elt t1 i1 t2 i2 sc pos) 0 it acc env=(do
   standAt i1.pos
   match <- pyNext it with
   | none=>pure (.done .next)
   | some v=>
    letOwnedTupleGo t1 it v
    assign t1 env v
    let mut ok:=true
    for c in([]:List Expr) do
     if ok then ok <- isTrue c env (eval c env)
    if ok then
     let x <- eval i2 env
     standAt i2.pos
     let y <- foldedSetIterable i2 env x
     let _ <- runOwn (.compStart (two elt t1 i1 t2 i2 sc pos) 1 (<- holding [y] (pyIter y)) acc env) env
    again (.compLoop (two elt t1 i1 t2 i2 sc pos) 0 it acc env)):=by rfl
section
variable {prog:Program} {w:World} {A:Around} {R:Result->Shared->Prop} {s:Shared} {elt t1 i1 t2 i2:Expr} {sc:Scope} {pos:Pos} {it acc:Value} {env:Env}
theorem Ph (Iv:Nat->Shared->Prop)
  (turn:∀n s,Iv n s->wpAny (model prog w) A (pyNext it) (fun r s1=>match r with
   | none=>R (.ok .next) s1
   | some v=>wpAny (model prog w) A (letOwnedTupleGo t2 it v) (fun _ s2=>wpAny (model prog w) A (assign t2 env v) (fun _ s3=>wpAny (model prog w) A (eval elt env) (fun x s4=>
     wpAny (model prog w) A (call (.builtin "list.append") [acc,x]) (fun _ s5=>∃m,m<n/\Iv m s5) (fun _ _=>False) s4) (fun _ _=>False) s3) (fun _ _=>False) s2) (fun _ _=>False) s1) (fun _ _=>False) s)
  (n:Nat) (h:Iv n s):codeAny (model prog w) A (.compLoop (two elt t1 i1 t2 i2 sc pos) 1 it acc env) R s:=by
 refine codeAny_loop rfl Iv (fun n s hI=>?_) n h;show wpAny _ _ ((compTurn (two elt t1 i1 t2 i2 sc pos) 1 it acc env).onRaise (fun x=>do noteFrame x env; theTreesLotGoes x)) _ _ s
 refine wpAny_noted ?_;rw[Nv];refine aW (uy (aW (dX (turn n s hI) (fun r s1 q1=>?_) fun _ _ f=>f.elim)));cases r with
 | none=>exact cC q1
 | some v=>exact aW (dX q1 (fun _ s2 q2=>aW (dX q2 (fun _ s3 q3=>aW (aW (dX q3 (fun x s4 q4=>aW (dX q4 (fun _ s5 q5=>cC (cC ⟨rfl,q5⟩)) fun _ _ f=>f.elim)) fun _ _ f=>f.elim))) fun _ _ f=>f.elim)) fun _ _ f=>f.elim)
theorem Li (hs:∀x,foldedSetIterable i2 env x=pure x) (Iv:Nat->Shared->Prop)
  (turn:∀n s,Iv n s->wpAny (model prog w) A (pyNext it) (fun r s1=>match r with
   | none=>R (.ok .next) s1
   | some v=>wpAny (model prog w) A (letOwnedTupleGo t1 it v) (fun _ s2=>wpAny (model prog w) A (assign t1 env v) (fun _ s3=>wpAny (model prog w) A (eval i2 env) (fun x s4=>wpAny (model prog w) A (pyIter x) (fun j s5=>
     codeAny (model prog w) A (.compStart (two elt t1 i1 t2 i2 sc pos) 1 j acc env) (fun r s6=>match r with | .ok _=>∃m,m<n/\Iv m s6 | .error _=>False) s5) (fun _ _=>False) s4) (fun _ _=>False) s3) (fun _ _=>False) s2) (fun _ _=>False) s1) (fun _ _=>False) s)
  (n:Nat) (h:Iv n s):codeAny (model prog w) A (.compLoop (two elt t1 i1 t2 i2 sc pos) 0 it acc env) R s:=by
 refine codeAny_loop rfl Iv (fun n s hI=>?_) n h;show wpAny _ _ ((compTurn (two elt t1 i1 t2 i2 sc pos) 0 it acc env).onRaise (fun x=>do noteFrame x env; theTreesLotGoes x)) _ _ s
 refine wpAny_noted ?_;rw[JK];refine aW (uy (aW (dX (turn n s hI) (fun r s1 q1=>?_) fun _ _ f=>f.elim)));cases r with
 | none=>exact cC q1
 | some v=>
  refine aW (dX q1 (fun _ s2 q2=>aW (dX q2 (fun _ s3 q3=>?_) fun _ _ f=>f.elim)) fun _ _ f=>f.elim);refine aW (dX (wpAny_tests_nil (Q:=fun ok s'=>ok=true/\s'=s3) ⟨rfl,rfl⟩) (fun ok s' z=>?_) fun _ _ f=>f);obtain⟨rfl,rfl⟩:=z;simp only[if_true];refine aW (dX q3 (fun x s4 q4=>aW (uy ?_)) fun _ _ f=>f.elim);refine aW (oH (hs x) (aW (rH (dX q4 (fun j s5 q5=>?_) fun _ _ f=>f.elim))));refine aW (wpAny_runOwn ?_);refine codeAny_mono q5 fun r s6 z=>?_;cases r with
  | ok f=>exact cC ⟨rfl,z⟩
  | error e=>exact z.elim
theorem JV (h0:codeAny (model prog w) A (.compLoop (two elt t1 i1 t2 i2 sc pos) 1 it acc env) R s)
  (h:wpAny (model prog w) A (pyIter it) (fun j s'=>codeAny (model prog w) A (.compLoop (two elt t1 i1 t2 i2 sc pos) 1 j acc env) R s') (fun _ _=>False) s):codeAny (model prog w) A (.compStart (two elt t1 i1 t2 i2 sc pos) 1 it acc env) R s:=by
 refine codeAny_of_tree ?_;show wpAny _ _ ((compStart (two elt t1 i1 t2 i2 sc pos) 1 it acc env).onRaise (fun x=>do noteFrame x env; standAt theWindowsPlace)) _ _ s
 refine wpAny_notedAt ?_; unfold compStart;show wpAny _ _ (ask >>= _) _ _ s; refine aW (wpAny_askSetting (wpAny_ite ?_));split
 ·exact aW (cC (cC ⟨rfl,h0⟩))
 ·refine aW (uw ?_); show wpAny _ _ (standAt i2.pos >>= _) _ _ s;exact aW (uy (aW (dX h (fun j s' z=>cC ⟨rfl,z⟩) fun _ _ f=>f.elim)))
end
def Bs (js:List Nat) (wi wj:TI) (te:TE):TE:=fun σ H Q=>wi σ H fun J H1=>∀acc,H1 acc=none->∃W:Nat->Nat->List V->Hp->Prop,(∃m,W 0 m [] (upd H1 acc (.lst [])))/\∀i m ys H2,W i m ys H2 ->
 (J.stop i H2/\Q (.ref acc) H2)\/(J.go i H2/\∀x H3,J.wg i H2 x H3->wj (some x::none::cu js σ) H3 fun L H4=>∃U:Nat->Nat->List V->Hp->Prop,(∃k,U 0 k ys H4)/\∀j k zs H5,U j k zs H5 ->
  (L.stop j H5/\∃m',m'<m/\W (i+1) m' zs H5)\/(L.go j H5/\∀y H6,L.wg j H5 y H6->te (some x::some y::cu js σ) H6 fun v H7=>H7 acc=some (.lst zs)/\zs.length<sizeLine/\∃k',k'<k/\U (j+1) k' (zs++[v]) (upd H7 acc (.lst (zs++[v])))))
theorem Dt {X:Cx} {elt i1 i2:Expr} {x1 x2:Str} {p1 p2 pos:Pos} {sc:Scope} {wi wj:TI} {te:TE} {N':List Str} {js:List Nat} {use:Option (Value->Sem Unit)} {Qc:Value->Shared->Prop} {pins:List (Addr×Obj)} {s:Shared} {σ:St} {H:Hp} {Q:VK} {kp:Pos} (hc:X.calm=true) (hi:PI X (.Name x1 p1) i1 wi) (S:jL X 2 N' js sc)
  (h0:N'[0]?=some x1) (h1':N'[1]?=some x2) (nd:N'.Nodup) (l1:sc.names.lookup x1=some .local) (l2:sc.names.lookup x2=some .local) (hj:∀fp s H,PI (lX X N' sc fp s H) (.Name x2 p2) i2 wj) (he:∀fp s H,PE (lX X N' sc fp s H) elt te) (hs:∀x,foldedSetIterable i1 X.env x=pure x) (hs2:∀fp s H x,foldedSetIterable i2 (lX X N' sc fp s H).env x=pure x) (I:Inv X pins σ H s) (h:Bs js wi wj te σ H Q)
  (fin:∀(acc C:Addr) (H':Hp) (s':Shared),Inv X pins σ H' s'->fO X pins H' C->(∃m,s'.heap.Ns C m)->Q (.ref acc) H'->compPost (model X.prog X.w) X.A X.xe use Qc (.ref acc) C (.ok .next) s') :
  wpAny (model X.prog X.w) X.A (comprehension (two elt (.Name x1 p1) i1 (.Name x2 p2) i2 sc pos) sc X.env kp (newList []) false (eval i1 X.env) use) Qc X.xe s:=by
 refine wpAny_comprehension_free (use:=use) rfl hs S.clos S.kind S.names ?_;refine cH (hi pins s σ H _ I h) fun v s1 q1=>cH q1 fun itv s2 q2=>?_;obtain⟨it,fp,tn,J,H2,e,I2,T,st2,f2,q3⟩:=q2;subst e;refine oN ?_;obtain⟨W,⟨m0,w0⟩,turn⟩:=q3 s2.heap.objs.size I2.fresh;have I3:=I2.Pj (ys:=[]) (its:=[]) (t':=s2.toks) .nil (gD _)
 have Wm:∀b∈fp,b<s2.heap.objs.size:=fun b hb=>by
  obtain⟨o,ho,_⟩:=T.obj 0 _ st2 b hb;exact eX ho
 generalize e3:({ s2 with heap:=s2.heap.push { cls:=.type "list",data:=.seq ([]:List Value).toArray },toks:=s2.toks }:Shared)=s3 at I3
 have e3':({ s2 with heap:=s2.heap.push { cls:=.type "list",dict:=none,data:=.seq ([]:List Value).toArray } }:Shared)=s3:=e3
 have Ye:s3.heap.objs.size=s2.heap.objs.size+1:=by rw[<- e3]; exact iK ..
 have st3:tn 0 s3.heap:=T.keep 0 _ _ st2 fun b hb o ho=>by rw[<- e3]; exact dW _ ho
 have Wl:∀b∈fp,b<s3.heap.objs.size:=fun b hb=>by rw[Ye]; exact Hn (Wm b hb)
 have f3:∀b∈fp,fO X pins (upd H2 s2.heap.objs.size (.lst [])) b:=fun b hb=>⟨by rw[aV (dY (Wm b hb))]; exact(f2 b hb).1,(f2 b hb).2⟩
 generalize hH3:upd H2 s2.heap.objs.size (.lst [])=H3 at I3 f3 w0;refine wpAny_newFunctionEnv S.fZ (by intro y hy; simp at hy) (fun h1 hns hsb=>?_) S.kind
 have hk:∀b o,s3.heap.get? b=some o->h1.get? b=some o:=fun b o q=>hsb.extBut b o (dY (eX q)) (dW _ q);have hns':h1.Ns s3.heap.objs.size fun _=>none:=hns;have I4:Inv (lX X N' sc fp s3 H3) [] (none::none::cu js σ) H3 { s3 with heap:=h1,toks:=s3.toks+([]:List (Str×Value)).length }:=Ij (nt:=2) I3 f3 Wl S hns' hk
 have Vx:tn 0 h1:=T.keep 0 _ _ st3 fun b hb o ho=>hk b o ho;have stat:∀{H':Hp},(∀b∈fp,H' b=none)->∀b∈fp,fO (lX X N' sc fp s3 H3) [] H' b:=fun hn b hb=>⟨hn b hb,dY (Wl b hb),I4.ok.Dq b hb,.inl hb,(I4.ok.WM b hb).2,fun p hp=>absurd (show p∈([]:List (Addr×Obj)) from hp) (by simp)⟩
 have out:∀{σ':St} {H':Hp} {s':Shared},Inv (lX X N' sc fp s3 H3) [] σ' H' s'->Q (.ref s2.heap.objs.size) H'->compPost (model X.prog X.w) X.A X.xe use Qc (.ref s2.heap.objs.size) s3.heap.objs.size (.ok .next) s':=by
  intro σ' H' s' I' q';obtain⟨m,hn,_⟩:=id I'.loc;have I5:Inv X pins σ H' s':=I3.call' I'.os I'.base I'.hok I'.bare fun b hb=>⟨(f3 b hb).2.2.2.1,(f3 b hb).2.1,(f3 b hb).2.2.2.2.1,(f3 b hb).2.2.2.2.2⟩;exact fin _ _ H' s' I5 (I3.qt (bN _) I'.free) ⟨m,hn⟩ q'
 have loop:∀s4:Shared,s4={ s3 with heap:=h1,toks:=s3.toks+([]:List (Str×Value)).length }->codeAny (model X.prog X.w) X.A (.compLoop (two elt (.Name x1 p1) i1 (.Name x2 p2) i2 sc pos) 0 (.ref it) (.ref s2.heap.objs.size) (compEnvC sc (l_ sc X.env) s3.heap.objs.size X.env))
   (compPost (model X.prog X.w) X.A X.xe use Qc (.ref s2.heap.objs.size) s3.heap.objs.size) s4:=by
  rintro s4 rfl;refine Li (hs2 fp s3 H3) (fun n s'=>∃i ys H',Inv (lX X N' sc fp s3 H3) [] (none::none::cu js σ) H' s'/\tn i s'.heap/\(∀b∈fp,H' b=none)/\W i n ys H') ?_ m0 ⟨0,[],H3,I4,Vx,fun b hb=>(f3 b hb).1,w0⟩;rintro n s5 ⟨i,ys,H5,I5,NK,Th,w5⟩;rcases turn i n ys H5 w5 with⟨stop,qn⟩ | ⟨go,step⟩
  ·refine cH (T.done (lX X N' sc fp s3 H3) rfl rfl rfl hc i [] s5 _ H5 (fun _ _=>False) I5 (stat Th) NK stop) fun r s6 qx=>?_;obtain⟨hr,I6⟩:=qx;subst hr;exact out I6 qn
  ·refine cH (T.item (lX X N' sc fp s3 H3) rfl rfl rfl hc i [] s5 _ H5 (fun _ _=>False) I5 (stat Th) NK go) fun r s6 qx=>?_;obtain⟨u,hr,q6⟩:=qx;subst hr;refine cH q6 fun _ s7 qx=>?_;obtain⟨y,H7,I7,r7,y7,NB,Y_⟩:=qx;have Z1:=I7.pinned (stat Y_) (T.obj _ _ NB);have g1:PG (lX X N' sc fp s3 H3) (.Name x1 p1) (dF 0):=aA nd h0 (.inl (fC l1)) (.inr (fC l1));have g2:PG (lX X N' sc fp s3 H3) (.Name x2 p2) (dF 1):=aA nd h1' (.inl (fC l2)) (.inr (fC l2));refine cH (g1 _ s7 _ H7 y u (fun σ' H'=>σ'=some y::none::cu js σ/\H'=H7) Z1 r7 ⟨rfl,rfl⟩) fun _ s8 qx=>?_;obtain⟨σ8,H8,I8,e8,e8'⟩:=qx;subst e8 e8';refine cH (hj fp s3 H3 _ s8 _ _ _ I8 (step y _ y7)) fun v9 s9 q9=>cH q9 fun itv uv RQ=>?_;obtain⟨it2,Zb,tn2,L,qy,e10,W9,T2,Vz,PL,U,⟨k0,u0⟩,Vg⟩:=RQ;subst e10;have JT:∀{H':Hp},(∀b∈Zb,H' b=none)->∀b∈Zb,fO (lX X N' sc fp s3 H3) _ H' b:=fun hn b hb=>⟨hn b hb,(PL b hb).2⟩;have Q0:codeAny (model X.prog X.w) X.A (.compLoop (two elt (.Name x1 p1) i1 (.Name x2 p2) i2 sc pos) 1 (.ref it2) (.ref s2.heap.objs.size) (compEnvC sc (l_ sc X.env) s3.heap.objs.size X.env))
     (fun r s6=>match r with | .ok _=>∃m,m<n/\∃i ys H',Inv (lX X N' sc fp s3 H3) [] (none::none::cu js σ) H' s6/\tn i s6.heap/\(∀b∈fp,H' b=none)/\W i m ys H' | .error _=>False) uv:=by
    refine Ph (fun k s'=>∃j zs H',Inv (lX X N' sc fp s3 H3) _ (some y::none::cu js σ) H' s'/\tn2 j s'.heap/\(∀b∈Zb,H' b=none)/\U j k zs H') ?_ k0 ⟨0,ys,qy,W9,Vz,fun b hb=>(PL b hb).1,u0⟩;rintro k Jk ⟨j,zs,ue,I11,Vy,Wx,w11⟩;rcases Vg j k zs ue w11 with⟨Vu,m',hm,qn2⟩ | ⟨go2,Vw⟩
    ·refine cH (T2.done (lX X N' sc fp s3 H3) rfl rfl rfl hc j _ Jk _ ue (fun _ _=>False) I11 (JT Wx) Vy Vu) fun r s12 qx=>?_;obtain⟨hr,Z4⟩:=qx;subst hr;refine⟨m',hm,i+1,zs,ue,(Z4.gA).weak rfl fun q v e=>?_,T.keep _ _ _ NB fun b hb o e=>(Z4.pin (b,o) (gM _ (gM _ (cI hb e)))).1,fun b hb=>?_,qn2⟩
     ·cases q with
      | zero=>simp at e
      | succ q=>simpa using e
     ·obtain⟨o,e,d⟩:=T.obj _ _ NB b hb;exact(Z4.pin (b,o) (gM _ (gM _ (cI hb e)))).2.1
    ·refine cH (T2.item (lX X N' sc fp s3 H3) rfl rfl rfl hc j _ Jk _ ue (fun _ _=>False) I11 (JT Wx) Vy go2) fun r s12 qx=>?_;obtain⟨u2,hr,q12⟩:=qx;subst hr;refine cH q12 fun _ kI qx=>?_;obtain⟨y2,Nj,I13,r13,y13,Rt,Za⟩:=qx;have Z3:=I13.pinned (JT Za) (T2.obj _ _ Rt);refine cH (g2 _ kI _ Nj y2 u2 (fun σ' H'=>σ'=some y::some y2::cu js σ/\H'=Nj) Z3 r13 ⟨rfl,rfl⟩) fun _ BV qx=>?_;obtain⟨σ14,Z5,I14,Mi,ZJ⟩:=qx;subst Mi ZJ;refine cH (he fp s3 H3 _ BV _ _ _ I14 (Vw y2 _ y13)) fun z zb qx=>?_;obtain⟨vz,M5,I15,r15,ha,hz,k',hk',w15⟩:=qx;refine cH (eG (X:=lX X N' sc fp s3 H3) _ zb _ M5 (.ref s2.heap.objs.size) [vz] (.ref s2.heap.objs.size) [z] (fun _ H'=>H'=upd M5 s2.heap.objs.size (.lst (zs++[vz]))) I15 rfl (.cons r15 .nil) ⟨_,zs,vz,rfl,rfl,ha,hz,rfl⟩) fun _ yE qx=>?_;obtain⟨_,UG,Z2,_,Ng⟩:=qx;subst Ng;refine⟨k',hk',j+1,zs++[vz],_,(Z2.gA).weak rfl fun q v e=>?_,T2.keep _ _ _ Rt fun b hb o e=>(Z2.pin (b,o) (gM _ (gM _ (cI hb e)))).1,fun b hb=>?_,w15⟩
     ·match q,e with
      | 0,e=>simpa using e
      | 1,e=>simp at e
      | q+2,e=>simpa using e
     ·obtain⟨o,e,d⟩:=T2.obj _ _ Rt b hb;exact(Z2.pin (b,o) (gM _ (gM _ (cI hb e)))).2.1
   exact JV Q0 (T2.self X.A 0 _ _ _ Vz Q0)
 exact codeAny_compStart_list (loop _ rfl) (T.self X.A 0 _ _ _ Vx (loop _ rfl))
theorem cF {X:Cx} {K:PySem.W.Frag} {pos:Pos} {es:List Expr} {k:Nat} {t:MN} {n:Nat} (hK:X.K=K) (hc:X.calm=true) (h:T3 X es t)
  (hn:(assignEach es X.env).length=n:=by rfl) (hst:(assignEach es X.env).findIdx? (·.1)=none:=by rfl):PG X (.Tuple es k pos) (Dh K n t):=by
 subst hK;exact R4 hc h hn hst
theorem iC {X:Cx} {K:PySem.W.Frag} {tg l:Expr} {tl:TE} (hK:X.K=K) (hl:PE X l tl):PI X tg l (uE K tl):=by
 subst hK;exact R0 hl
theorem jX {X:Cx} {K:PySem.W.Frag} {tg l:Expr} {tl:TE} (hK:X.K=K) (hl:PE X l tl):PI X tg l (sU K tl):=by
 subst hK;exact Ov hl
theorem KY {X:Cx} {elt i1 i2:Expr} {x1 x2:Str} {p1 p2 pos:Pos} {sc:Scope} {wi wj:TI} {te:TE} {N':List Str} {js:List Nat} (hc:X.calm=true) (hi:PI X (.Name x1 p1) i1 wi) (S:jL X 2 N' js sc)
  (h0:N'[0]?=some x1) (h1':N'[1]?=some x2) (nd:N'.Nodup) (l1:sc.names.lookup x1=some .local) (l2:sc.names.lookup x2=some .local) (hj:∀fp s H,PI (lX X N' sc fp s H) (.Name x2 p2) i2 wj) (he:∀fp s H,PE (lX X N' sc fp s H) elt te) (hs:∀x,foldedSetIterable i1 X.env x=pure x:=by intro _; rfl) (hs2:∀fp s H x,foldedSetIterable i2 (lX X N' sc fp s H).env x=pure x:=by intro _ _ _ _; rfl) :
  PE X (two elt (.Name x1 p1) i1 (.Name x2 p2) i2 sc pos) (Bs js wi wj te):=by
 refine .mk ?_;intro pins s σ H Q I h;rw[eval_ListComp];refine Dt (use:=none) hc hi S h0 h1' nd l1 l2 hj he hs hs2 I h fun acc C H' s' I5 fc ⟨m,hn⟩ q=>?_;refine⟨m,hn,fun h' sb=>?_⟩;exact⟨.ref acc,H',I5.turned (it:=C) (t':=s'.toks) (fun b o hb q=>sb.extBut b o hb q) fc.1 fc.2.1 fc.2.2.2.1 fc.2.2.2.2.1 fc.2.2.2.2.2,rfl,q⟩
theorem lZ {K:PySem.W.Frag} {js:List Nat} {J:It} {te:TE} {σ:St} {H:Hp} {Q:VK} {acc:Addr} {es:List PyData} (xv yv:Nat->V) (hz:es.length<=sizeLine) (hL:bL es=true) (hacc:H acc=none)
  (go:∀i H',i<es.length->aJ H H'->J.go i H') (yl:∀i H' v dR,i<es.length->aJ H H'->J.wg i H' v dR->∃p,H' p=none/\v=.ref p/\dR=upd H' p (.tup [xv i,yv i])) (st:∀H',aJ H H'->J.stop es.length H')
  (val:∀(i:Nat) e H',es[i]?=some e->aJ H H'->∀R:VK,(∀v dR,aJ H' dR->At dR e v->R v dR)->te (some (xv i)::some (yv i)::cu js σ) H' R)
  (fin:∀ys H',aJ H H'->H' acc=some (.lst ys)->ak (hid acc H') es ys->Q (.ref acc) H') :
  ∃W:Nat->Nat->List V->Hp->Prop,(∃m,W 0 m [] (upd H acc (.lst [])))/\∀i m ys H2,W i m ys H2 ->
   (J.stop i H2/\Q (.ref acc) H2)\/(J.go i H2/\∀x H3,J.wg i H2 x H3->Dh K 2 (gY (dF 0) (gY (dF 1) uF)) x (List.replicate 2 none++cu js σ) H3 fun σ' H'=>(σ'.drop 2=cu js σ/\σ'.length=(List.replicate 2 (none:Option V)++cu js σ).length)/\wI σ' H' fun b dR=>
    if b=true then te σ' dR fun y H4=>H4 acc=some (.lst ys)/\ys.length<sizeLine/\∃m',m'<m/\W (i+1) m' (ys++[y]) (upd H4 acc (.lst (ys++[y]))) else ∃m',m'<m/\W (i+1) m' ys dR):=by
 refine⟨fun i m ys H2=>m=es.length-i/\i<=es.length/\ak (hid acc H2) (es.take i) ys/\aJ H H2/\H2 acc=some (.lst ys),⟨_,rfl,gD _,ak.nil,aL hacc _,az⟩,?_⟩;rintro i m ys H2 ⟨rfl,hi,hA,sm,hy⟩;by_cases hlt:i<es.length
 ·refine .inr ⟨go i H2 hlt sm,fun x H3 y=>?_⟩;obtain⟨p,fp,rfl,rfl⟩:=yl i H2 x H3 hlt sm y;refine⟨p,_,rfl,cY.of az,rfl,(show(_=_/\_=_)/\wI _ _ _ from⟨⟨rfl,by simp⟩,?_⟩)⟩
  unfold wI;simp only[if_true];have e1:es[i]?=some es[i]:=gO hlt;have s3:aJ H2 (upd H2 p (.tup [xv i,yv i])):=aL fp _;refine val i _ _ e1 (sm.trans s3) _ fun v H4 s4 a4=>⟨s4 _ _ (s3 _ _ hy),?_,es.length-(i+1),by omega,rfl,hlt,?_,?_,az⟩
  ·rw[hA.length,jH]; omega
  ·rw[eY,zr,e1];exact ak.append (hA.mono (aJ.hid (s3.trans s4))) (ak.cons (At.nJ (s4 _ _ (s3 _ _ hy)) _ _ (jy hL e1) a4) ak.nil)
  ·refine fun b o q=>?_;have nb:b≠acc:=bU q hacc;rw[aV nb];exact s4 _ _ (s3 _ _ (sm _ _ q))
 ·have e:i=es.length:=by omega
  subst e;rw[qe] at hA;exact .inl ⟨st _ sm,fin _ _ sm hy hA⟩
theorem vO {K:PySem.W.Frag} {js:List Nat} {a b:Addr} {xs ys:List V} {es:List PyData} {ta:TA} {te:TE} {σ:St} {H:Hp} {Q:VK} (hl:∀R:List V->Hp->Prop,R [.ref a,.ref b] H->ta σ H R) (ha:H a=some (.tup xs)) (hb:H b=some (.tup ys)) (n1:xs.length=es.length) (n2:ys.length=es.length) (hz:es.length<=sizeLine) (hL:bL es=true)
  (val:∀(i:Nat) x y e H',xs[i]?=some x->ys[i]?=some y->es[i]?=some e->aJ H H'->∀R:VK,(∀v dR,aJ H' dR->At dR e v->R v dR)->te (some x::some y::cu js σ) H' R)
  (fin:∀acc zs H',aJ H H'->H acc=none->H' acc=some (.lst zs)->ak (hid acc H') es zs->Q (.ref acc) H'):eO 2 js (Ls K ta) (Dh K 2 (gY (dF 0) (gY (dF 1) uF))) wI te σ H Q:=by
 refine hl _ ⟨a,b,rfl,⟨xs,cY.of ha⟩,⟨ys,cY.of hb⟩,fun acc hacc=>?_⟩;have gx:∀i,i<es.length->xs[i]?=some (xs.getD i .non):=fun i hi=>by rw[iy,gO (by omega)]; rfl
 have gy:∀i,i<es.length->ys[i]?=some (ys.getD i .non):=fun i hi=>by rw[iy,gO (by omega)]; rfl
 refine lZ (es:=es) (fun i=>xs.getD i .non) (fun i=>ys.getD i .non) hz hL hacc (fun i H' hi s=>⟨xs,ys,_,_,cY.of (s _ _ ha),cY.of (s _ _ hb),gx i hi,gy i hi⟩) (fun i H' v dR hi s y=>?_) (fun H' s=>⟨xs,ys,cY.of (s _ _ ha),cY.of (s _ _ hb),.inl n1.symm⟩) (fun i e H' he s R hR=>?_) fun zs H' s h1 h2=>fin acc zs H' s hacc h1 h2
 ·obtain⟨p,x,y,fp,e1,e2,h1,h2⟩:=y;have q1:=h1 xs (cY.of (s _ _ ha));have q2:=h2 ys (cY.of (s _ _ hb));rw[gx i hi] at q1;rw[gy i hi] at q2;cases q1;cases q2;exact⟨p,fp,e1,e2⟩
 ·have hi:i<es.length:=by
   by_cases z:i<es.length
   ·exact z
   ·rw[Oe (by omega)] at he; cases he
  exact val i _ _ e H' (gx i hi) (gy i hi) he s R hR
theorem Ds {K:PySem.W.Frag} {js:List Nat} {a:Addr} {ys:List V} {es:List PyData} {ta:TA} {te:TE} {σ:St} {H:Hp} {Q:VK} (hl:∀R:List V->Hp->Prop,R [.ref a] H->ta σ H R) (hb:H a=some (.tup ys)) (n2:ys.length=es.length) (hz:es.length<=sizeLine) (hL:bL es=true)
  (val:∀(i:Nat) y e H',ys[i]?=some y->es[i]?=some e->aJ H H'->∀R:VK,(∀v dR,aJ H' dR->At dR e v->R v dR)->te (some (.int (i:Nat))::some y::cu js σ) H' R)
  (fin:∀acc zs H',aJ H H'->H acc=none->H' acc=some (.lst zs)->ak (hid acc H') es zs->Q (.ref acc) H'):eO 2 js (Lx K ta) (Dh K 2 (gY (dF 0) (gY (dF 1) uF))) wI te σ H Q:=by
 refine hl _ ⟨a,rfl,⟨ys,cY.of hb⟩,fun acc hacc=>?_⟩;have gy:∀i,i<es.length->ys[i]?=some (ys.getD i .non):=fun i hi=>by rw[iy,gO (by omega)]; rfl
 refine lZ (es:=es) (fun i=>.int (i:Nat)) (fun i=>ys.getD i .non) hz hL hacc (fun i H' hi s=>⟨ys,_,cY.of (s _ _ hb),gy i hi⟩) (fun i H' v dR hi s y=>?_) (fun H' s=>⟨ys,cY.of (s _ _ hb),n2⟩) (fun i e H' he s R hR=>?_) fun zs H' s h1 h2=>fin acc zs H' s hacc h1 h2
 ·obtain⟨p,y,fp,e1,e2,h2⟩:=y;have q2:=h2 ys (cY.of (s _ _ hb));rw[gy i hi] at q2;cases q2;exact⟨p,fp,e1,e2⟩
 ·have hi:i<es.length:=by
   by_cases z:i<es.length
   ·exact z
   ·rw[Oe (by omega)] at he; cases he
  exact val i _ e H' (gy i hi) he s R hR
theorem Mm {K:PySem.W.Frag} {js:List Nat} {xs:List V} {es:List PyData} {te:TE} {σ:St} {H:Hp} {Q:VK} (hn:es.length=xs.length) (hz:es.length<=sizeLine) (hL:bL es=true)
  (step:∀(i:Nat) x e H',xs[i]?=some x->es[i]?=some e->aJ H H'->∀R:VK,(∀v dR,aJ H' dR->At dR e v->R v dR)->te (some x::cu js σ) H' R)
  (fin:∀acc ys H',aJ H H'->H acc=none->H' acc=some (.lst ys)->ak (hid acc H') es ys->Q (.ref acc) H'):gK js (uE K (Rn K xs)) te σ H Q:=by
 intro a _ ht;refine⟨a,rfl,⟨xs,ht H⟩,fun acc hacc=>?_⟩;refine⟨fun i m ys H2=>m=es.length-i/\i<=es.length/\ak (hid acc H2) (es.take i) ys/\aJ H H2/\H2 acc=some (.lst ys),⟨_,rfl,gD _,ak.nil,aL hacc _,az⟩,?_⟩;rintro i m ys H2 ⟨rfl,hi,hA,sm,hy⟩;by_cases hlt:i<es.length
 ·refine .inr ⟨⟨xs,xs[i]'(by omega),ht _,gO (by omega)⟩,fun x H3 y=>?_⟩
  obtain⟨e,y⟩:=y;subst e;have e1:es[i]?=some es[i]:=gO hlt;refine step i x _ _ (y xs (ht _)) e1 sm _ fun v H4 s4 a4=>⟨s4 _ _ hy,?_,es.length-(i+1),by omega,rfl,hlt,?_,?_,az⟩
  ·rw[hA.length,jH]; omega
  ·rw[eY,zr,e1];exact ak.append (hA.mono (aJ.hid s4)) (ak.cons (At.nJ (s4 _ _ hy) _ _ (jy hL e1) a4) ak.nil)
  ·refine fun b o q=>?_;have nb:b≠acc:=bU q hacc;rw[aV nb];exact s4 _ _ (sm _ _ q)
 ·have e:i=es.length:=by omega
  subst e;rw[qe] at hA;exact .inl ⟨⟨xs,ht _,by omega⟩,fin _ _ _ sm hacc hy hA⟩
theorem Mp {K:PySem.W.Frag} {js:List Nat} {a:Addr} {xs:List V} {tl tm te:TE} {σ:St} {H:Hp} {Q:VK} (tG:List (List PyData)) (hl:∀R:VK,R (.ref a) H->tl σ H R) (ha:H a=some (.tup xs)) (hA:ak H (tG.map PyData.tuple) xs) (hn:tG.flatten.length<=1000)
  (hm:∀x H' (R:VK),R x H'->tm (some x::none::cu js σ) H' R) (he:∀x y H' (R:VK),R y H'->te (some x::some y::cu js σ) H' R)
  (fin:∀acc ys H',aJ H H'->H acc=none->H' acc=some (.lst ys)->ak H tG.flatten ys->Q (.ref acc) H'):Bs js (uE K tl) (uE K tm) te σ H Q:=by
 refine hl _ ⟨a,rfl,⟨xs,cY.of ha⟩,fun acc hacc=>?_⟩;have hlen:xs.length=tG.length:=by rw[hA.length,dH]
 have tl':∀i,(tG.take i).flatten.length<=tG.flatten.length:=fun i=>by
  have:tG.flatten=(tG.take i).flatten++(tG.drop i).flatten:=by rw[<- List.flatten_append,List.take_append_drop]
  rw[this,gF]; omega
 refine⟨fun i m ys H2=>m=tG.length-i/\i<=tG.length/\ak H (tG.take i).flatten ys/\aJ H H2/\H2 acc=some (.lst ys),⟨_,rfl,gD _,ak.nil,aL hacc _,az⟩,?_⟩;rintro i m ys H2 ⟨rfl,hi,Wv,sm,hy⟩;have ht:cY K H2 a xs:=cY.of (sm _ _ ha);by_cases hlt:i<tG.length
 ·refine .inr ⟨⟨xs,xs[i]'(by omega),ht,gO (by omega)⟩,fun x H3 y=>?_⟩
  obtain⟨e,y⟩:=y;subst e;have hx:=y xs ht;have e1:tG[i]?=some tG[i]:=gO hlt;obtain⟨x',hx',ax⟩:=hA.getD (show(tG.map PyData.tuple)[i]?=some (.tuple tG[i]) by rw[h_,e1]; rfl)
  rw[hx] at hx';cases hx';generalize hds:tG[i]=ds at *;unfold At at ax;obtain⟨b,zs,rfl,hb,aB⟩:=ax;have ef:(tG.take (i+1)).flatten=(tG.take i).flatten++ds:=by rw[zr,e1]; simp
  refine hm _ _ _ ⟨b,rfl,⟨zs,cY.of (sm _ _ hb)⟩,?_⟩;refine⟨fun j k ws H5=>k=ds.length-j/\j<=ds.length/\ak H ((tG.take i).flatten++ds.take j) ws/\aJ H H5/\H5 acc=some (.lst ws),⟨_,rfl,gD _,by simpa using Wv,sm,hy⟩,?_⟩
  rintro j k ws H5 ⟨rfl,hj,Xz,Yg,hy5⟩;have YS:cY K H5 b zs:=cY.of (Yg _ _ hb);have hzl:=aB.length;by_cases hjt:j<ds.length
  ·refine .inr ⟨⟨zs,zs[j]'(by omega),YS,gO (by omega)⟩,fun u H6 yu=>?_⟩
   obtain⟨e,yu⟩:=yu;subst e;have hu:=yu zs YS;obtain⟨d,hd,au⟩:=aB.get hu;refine he _ _ _ _ ⟨hy5,bD ?_,ds.length-(j+1),by omega,rfl,hjt,?_,Yg.d_ hacc,az⟩
   ·have:=Xz.length;rw[gF,jH] at this;have t2:=tl' (i+1);rw[ef,gF] at t2;omega
   ·rw[zr,hd,<- Ey];exact Xz.append (ak.cons au ak.nil)
  ·have ej:j=ds.length:=by omega
   subst ej;rw[qe] at Xz;refine .inl ⟨⟨zs,YS,by omega⟩,tG.length-(i+1),by omega,rfl,hlt,by rw[ef]; exact Xz,Yg,hy5⟩
 ·have e:i=tG.length:=by omega
  subst e;rw[qe] at Wv;exact .inl ⟨⟨xs,ht,by omega⟩,fin _ _ _ sm hacc hy Wv⟩
section
variable {X:Cx} {pins:List (Addr×Obj)} {σ:St} {H:Hp} {s:Shared} {A:Around} {E:Value->Shared->Prop} {Q:Value->Shared->Prop} {b:Bool}
theorem Df {x:V} {u t:Value} {tp:Addr} {its:List Value} (I:Inv X pins σ H s) (rx:RelV x u) (ty:nU X.K H x t) (htp:IsTup s.heap tp its.toArray) (e:PySem.W.kitAny X.K t its=some b) (h:∀tk,Q (.bool b) { s with toks:=tk }) :
  wpAny (model X.prog X.w) A (call (.builtin "isinstance") [u,.ref tp]) Q E s:=by
 obtain⟨o,ho,hc,n,hd⟩:=htp;obtain⟨cls,dd,data,sl⟩:=o;cases hc;cases hd;cases ty with
 | non=>cases(show u=Value.none from rx); exact PySem.W.kia_tup PySem.W.kitx_none I.kO True.intro ho e (fun z=>nomatch z) h
 | bl y=>cases(show u=Value.bool y from rx); exact PySem.W.kia_tup PySem.W.kitx_bool I.kO True.intro ho e (fun z=>nomatch z) h
 | int i=>obtain⟨t,q⟩:=(show ∃t,u=Value.int i t from rx); cases q; exact PySem.W.kia_tup PySem.W.kitx_int I.kO True.intro ho e (fun z=>nomatch z) h
 | str y=>obtain⟨t,q⟩:=(show ∃t,u=Value.str y t from rx); cases q; exact PySem.W.kia_tup PySem.W.kitx_str I.kO True.intro ho e (fun z=>nomatch z) h
 | flt y=>obtain⟨t,q⟩:=(show ∃t,u=Value.float y t from rx); cases q; exact PySem.W.kia_tup PySem.W.kitx_float I.kO True.intro ho e (fun z=>nomatch z) h
 | @lst a xs ea=>
  cases(show u=Value.ref a from rx);obtain⟨_,_,n,_,h1⟩:=(show b8 X.prog X.w H s.heap a (.lst xs) from I.hok a _ ea);exact PySem.W.kia_tup PySem.W.kitx_list I.kO ⟨_,h1,rfl⟩ ho e (fun z=>nomatch z) h
 | @yF a ob xs ea=>
  cases(show u=Value.ref a from rx);obtain⟨_,_,_,n,_,h1⟩:=(show b8 X.prog X.w H s.heap a (.yF ob (.lst xs)) from I.hok a _ ea);exact PySem.W.kia_tup PySem.W.kitx_list I.kO ⟨_,h1,rfl⟩ ho e (fun z=>nomatch z) h
 | @tup a xs ea=>
  cases(show u=Value.ref a from rx);obtain⟨_,_,_,p⟩:=(show b8 X.prog X.w H s.heap a (.tup xs) from I.hok a _ ea);obtain⟨o,h1,h2,_⟩:=p;exact PySem.W.kia_tup PySem.W.kitx_tuple I.kO ⟨o,h1,h2⟩ ho e (fun z=>nomatch z) h
 | @dK a kvs ea=>
  cases(show u=Value.ref a from rx);obtain⟨_,_,vs,_,p⟩:=(show b8 X.prog X.w H s.heap a (.dK kvs) from I.hok a _ ea);obtain⟨o,es,ep,h1,h2,_⟩:=p;exact PySem.W.kia_tup PySem.W.kitx_dict I.kO ⟨o,h1,h2.1⟩ ho e (fun z=>nomatch z) h
 | @dT a kvs ea=>
  cases(show u=Value.ref a from rx);obtain⟨_,_,xs,_,o,es,ep,h1,h2,_⟩:=(show b8 X.prog X.w H s.heap a (.dT kvs) from I.hok a _ ea);exact PySem.W.kia_tup PySem.W.kitx_dict I.kO ⟨o,h1,h2.1⟩ ho e (fun z=>nomatch z) h
 | @ins a C dx fs ea cl ha hn htk hm=>
  cases(show u=Value.ref a from rx);obtain⟨mA,O,_⟩:=FZ I.hok ea;obtain⟨od,J,_⟩:=O.look;exact PySem.W.kia_tup (PySem.W.kitx_own (cl.get _) cl.hd ha hn htk hm) I.kO J ho e (fun z=>nomatch z) h
end
section
variable {X:Cx}
theorem SQ (K:PySem.W.Frag) (d:PyData):PySem.W.kitAny K (.type (M9 d)) [.type "list",.type "tuple"]=some (vG d || isTup d):=by
 show(match PySem.W.kitOne K (.type (M9 d)) (.type "list") with | some true=>some true | some false=>(match PySem.W.kitOne K (.type (M9 d)) (.type "tuple") with | some true=>some true | some false=>some false | none=>none) | none=>none)=_
 rw[Fz,Fy];cases vG d <;> cases isTup d <;> rfl
theorem Tc:cV X (.builtin "isinstance") (fun vs H Q=>∃(v:V) (d:PyData) (p:Addr),vs=[v,.ref p]/\At H d v/\H p=some (.tup [.ty "list",.ty "tuple"])/\Q (.bl (vG d || isTup d)) H):=by
 refine .mk ?_;intro pins s σ H vs us Q I r h;obtain⟨v,d,p,rfl,hv,hp,q⟩:=h;obtain⟨u,t,rfl,ru,rt⟩:=r.two;cases(show t=Value.ref p from rt);obtain⟨_,its,ri,ht⟩:=(show b8 X.prog X.w H s.heap p (.tup [.ty "list",.ty "tuple"]) from I.hok p _ hp)
 have e:its=[Value.type "list",Value.type "tuple"]:=by
  obtain⟨a,b,rfl,ra,rb⟩:=ri.two;cases(show a=Value.type "list" from ra);cases(show b=Value.type "tuple" from rb);rfl
 subst e;exact Df I ru (hv.ty (K:=X.K)) ht (SQ X.K d) fun tk=>⟨.bl (vG d || isTup d),H,I.tok tk,rfl,q⟩
end
section
variable {X:Cx}
end
def Wy:V->Option Str
 | .int i=>if i.natAbs.log2<1920 then some (Str.ofString (toString i)) else none
 | .str z=>some z
 | _=>none
def tFv (te:TE):TE:=fun σ H Q=>te σ H fun x H1=>∃z,Wy x=some z/\z.length<=sizeLine/\Q (.str z) H1
abbrev TJ:=Str->St->Hp->(Str->Hp->Prop)->Prop
section
variable {X:Cx}
theorem Wa {e:Expr} {te:TE} {pos:Pos} (he:PE X e te):PE X (.FormattedValue e (-1) none pos) (tFv te):=by
 refine .mk ?_;intro pins s σ H Q I h;refine FormattedValue_plain (cH (he pins s σ H _ I h) fun v s1 qx=>?_);obtain⟨x,H1,I1,r1,z,hz,hl,q⟩:=qx;cases x with
 | int i=>
  obtain⟨t,rfl⟩:=r1;by_cases hd:i.natAbs.log2<1920
  ·have e:z=Str.ofString (toString i):=(Option.some.inj ((aR hd).symm.trans hz)).symm;subst e;exact formatField_int_small hd ⟨.str _,H1,I1.tok _,⟨_,rfl⟩,q⟩
  ·have e:(none:Option Str)=some z:=(bx hd).symm.trans hz;cases e
 | str y=>
  obtain⟨t,rfl⟩:=r1;cases hz;exact formatField_str (fun t' tk=>⟨.str _,H1,I1.tok _,⟨_,rfl⟩,q⟩) hl
 | _=>cases hz
structure PJ (X:Cx) (es:List Expr) (t:TJ):Prop where
 mk ::
 go:∀(acc:Str) (pins:List (Addr×Obj)) (s:Shared) (σ:St) (H:Hp) (R:Str->Hp->Prop),Inv X pins σ H s->t acc σ H R ->
  Joins (model X.prog X.w) X.A X.xe (evalEach es X.env) acc (fun out s'=>∃H',Inv X pins σ H' s'/\R out H') s
def tJ0:TJ:=fun acc _ H R=>R acc H
def tJ1 (te:TE) (t:TJ):TJ:=fun acc σ H R=>te σ H fun x H1=>∃y,x=.str y/\(acc++y).length<=sizeLine/\t (acc++y) σ H1 R
def tJs (t:TJ):TE:=fun σ H Q=>t Str.empty σ H fun out H'=>out.length<=sizeLine/\Q (.str out) H'
theorem Joins.mono {M:Model} {A:Around} {E:Value->Shared->Prop}:∀{ps:List (Sem Value)} {acc:Str} {Q Q':Str->Shared->Prop} {s:Shared},(∀o s',Q o s'->Q' o s')->Joins M A E ps acc Q s->Joins M A E ps acc Q' s
 | [],_,_,_,_,h,j=>h _ _ j
 | _::_,_,_,_,_,h,j=>dX j (fun _ _ ⟨y,t,e,l,r⟩=>⟨y,t,e,l,Joins.mono h r⟩) fun _ _ e=>e
theorem RZ:PJ X [] tJ0:=.mk fun acc pins s σ H R I h=>⟨H,I,h⟩
theorem w6 {e:Expr} {es:List Expr} {te:TE} {t:TJ} (he:PE X e te) (hr:PJ X es t):PJ X (e::es) (tJ1 te t):=by
 refine .mk fun acc pins s σ H R I h=>?_;show wpAny _ _ (eval e X.env) _ _ s;refine cH (he pins s σ H _ I h) fun v s1 qx=>?_;obtain⟨x,H1,I1,r1,y,ex,hl,q⟩:=qx;subst ex;obtain⟨t',rfl⟩:=r1;exact⟨y,t',rfl,hl,hr.go _ pins s1 σ H1 R I1 q⟩
theorem V_ {a b:Expr} {r:List Expr} {t:TJ} {pos:Pos} (h:PJ X (a::b::r) t):PE X (.JoinedStr (a::b::r) pos) (tJs t):=by
 refine .mk fun pins s σ H Q I hw=>?_;refine wpAny_JoinedStr (Joins.mono ?_ (h.go Str.empty pins s σ H _ I hw));rintro o s' ⟨H',I',hl,q⟩;exact⟨hl,.str o,H',I'.tok _,⟨_,rfl⟩,q⟩
def Yb (K:PySem.W.Frag) (ta:TE):TT:=fun σ H Q=>ta σ H fun x H'=>∃k,ZS K x H' k/\Q k H'
end
def tx (l:List Nat):Str:=⟨l.toArray⟩
theorem Bl (l:List Nat):(tx l).length=l.length:=by show l.toArray.size=_; simp
theorem Vf {z:Str} {l:List Nat} (h:z.cps.toList=l):z=tx l:=by subst h; cases z; simp[tx]
def dg (n:Int):List Nat:=(Nat.toDigits 10 n.toNat).map Char.toNat
theorem Rr {n:Int} (h:0<=n):Str.ofString (toString n)=tx (dg n):=by
 obtain⟨m,rfl⟩:=Int.eq_ofNat_of_zero_le h;exact Vf (PySem.W.KIN.signs_num m)
theorem Tu {n:Int} {k:Nat} (hk:0<k) (h1:n<10 ^ k):(dg n).length<=k:=by
 unfold dg;rw[dH];refine(Nat.length_toDigits_le_iff (by decide) hk).mpr ?_
 by_cases h0:0<=n
 ·have:(n.toNat:Int)<((10 ^ k:Nat):Int):=by rw[Int.toNat_of_nonneg h0]; simpa using h1
  exact_mod_cast this
 ·rw[show n.toNat=0 by omega]
  exact Nat.pow_pos (by decide)
theorem Ib {m:Nat} (h:m<=1000000000000):m.log2<1920:=by
 by_cases e:m=0
 ·subst e; decide
 ·rw[Nat.log2_lt e];exact Nat.lt_of_le_of_lt h (jq (show 1000000000000<2 ^ 40 by decide) (Nat.pow_le_pow_right (by decide) (by decide)))
theorem Tj {n:Int} (h0:0<=n) (h1:n<=1000000000000):Wy (.int n)=some (tx (dg n)):=by
 show(if n.natAbs.log2<1920 then some (Str.ofString (toString n)) else none)=_
 rw[aR (Ib (by omega)),Rr h0]
abbrev Uo (h:Heap) (t:Addr):Heap:=h.push { cls:=.type "list_iterator",data:=.fields #[.ref t,.int 0 0] }
abbrev Xc (h:Heap) (t1 t2:Addr):Heap:=Uo (Uo h t1) t2
abbrev Xb (h:Heap) (t1 t2:Addr):Heap:=(Xc h t1 t2).push { cls:=.type "tuple",data:=.seq #[.ref h.objs.size,.ref (Uo h t1).objs.size] }
abbrev Xa (h:Heap) (t1 t2:Addr):Heap:=(Xb h t1 t2).push { cls:=.type "tuple",data:=.seq #[.none,.none] }
abbrev Rh (h:Heap) (t1 t2:Addr):Heap:=(Xa h t1 t2).push { cls:=.type "zip",data:=.fields #[.none,.bool false,.bool false,.ref (Xc h t1 t2).objs.size,.ref (Xb h t1 t2).objs.size] }
theorem O_ (t1 t2:Addr) (xs ys:Array Value):Meets (Builtin.«zip.__new__» ⟨[.type "zip",.ref t1,.ref t2],[]⟩) (fun _ R s=>s.heap.IsList t1 xs/\s.heap.IsList t2 ys/\R (.ok (.ret (.ref (Xa s.heap t1 t2).objs.size))) { s with heap:=Rh s.heap t1 t2 }):=
 .of_wp fun prog w A R s z=>by
  obtain⟨hp,g,d,tk,os⟩:=s;obtain⟨hx,hy,z⟩:=z;have sub:=sub_zip;have hX:Heap.IsList (Shared.heap ⟨hp,g,d,tk,os⟩) t1 xs:=hx;have hY:Heap.IsList (Shared.heap ⟨Uo hp t1,g,d,tk,os⟩) t2 ys:=hy.push _
  wp_walk using Ce hX,Ce hY
  exact⟨_,rfl,z⟩
theorem Iz {prog:Program} {w:World} {A:Around} {E:Value->Shared->Prop} {s:Shared} {t1 t2:Addr} {xs ys:Array Value} {Q:Value->Shared->Prop} (hx:s.heap.IsList t1 xs) (hy:s.heap.IsList t2 ys)
  (q:∀h',IsZip h' (s.heap.objs.size+4) (s.heap.objs.size+2) (s.heap.objs.size+3) .none->IsPair h' (s.heap.objs.size+2) (.ref s.heap.objs.size) (.ref (s.heap.objs.size+1))->IsPair h' (s.heap.objs.size+3) .none .none ->
   h'.IsListIter s.heap.objs.size t1 0->h'.IsListIter (s.heap.objs.size+1) t2 0->(∀c o,s.heap.get? c=some o->h'.get? c=some o)->Q (.ref (s.heap.objs.size+4)) { s with heap:=h' }) :
  wpAny (model prog w) A (call (.type "zip") [.ref t1,.ref t2]) Q E s:=by
 have n1:(Uo s.heap t1).objs.size=s.heap.objs.size+1:=iK ..;have n2:(Xc s.heap t1 t2).objs.size=s.heap.objs.size+2:=by rw[iK,n1]
 have n3:(Xb s.heap t1 t2).objs.size=s.heap.objs.size+3:=by rw[iK,n2]
 have n4:(Xa s.heap t1 t2).objs.size=s.heap.objs.size+4:=by rw[iK,n3]
 have up:∀c o,s.heap.get? c=some o->(Rh s.heap t1 t2).get? c=some o:=fun c o e=>dW _ (dW _ (dW _ (dW _ (dW _ e))));have v5:(Rh s.heap t1 t2).get? (Xa s.heap t1 t2).objs.size=some _:=jk _ rfl;have v4:(Rh s.heap t1 t2).get? (Xb s.heap t1 t2).objs.size=some _:=dW _ (jk _ rfl);have v3:(Rh s.heap t1 t2).get? (Xc s.heap t1 t2).objs.size=some _:=dW _ (dW _ (jk _ rfl));have v2:(Rh s.heap t1 t2).get? (Uo s.heap t1).objs.size=some _:=dW _ (dW _ (dW _ (jk _ rfl)));have v1:(Rh s.heap t1 t2).get? s.heap.objs.size=some _:=dW _ (dW _ (dW _ (dW _ (jk _ rfl))));refine callType_new F.called_zip (by decide) (F.typeCall_zip_2 _ _) (F.newCall_zip_2 _ _) (fun x=>F.args_object_init_3 x _ _) F.entry_zip_new (O_ t1 t2 xs ys) ⟨hx,hy,?_⟩
 show _/\_;rw[n2,n3,n4] at v5;rw[n1,n2] at v3;rw[n3] at v4;rw[n1] at v2;rw[n4];exact⟨⟨_,v5,rfl⟩,q _ v5 v3 v4 ⟨_,v1,rfl,rfl⟩ ⟨_,v2,rfl,rfl⟩ up⟩
theorem Ru {X:Cx} {pins:List (Addr×Obj)} {σ:St} {H:Hp} {s:Shared} {a b:Addr} {xs:List V} (I:Inv X pins σ H s) (hq:dI X.K H a xs) (hf:fO X pins H b):a≠b:=fun z=>by
 rcases hq with h | ⟨o,its,n,hk,_⟩
 ·rcases h with h | ⟨o,h⟩ <;> (rw[z,hf.1] at h; cases h)
 ·have e:X.base.get? a=some o:=I.ok.mod.Px a o hk;rcases hf.2.2.2.1 with y | y
  ·exact I.ok.Af a o e (z▸y)
  ·have l:=eX e;have m:=I.ok.Jt;rw[z] at l;exact absurd (jq l (mZ m y)) (oJ _)
def kL:W6:=⟨fun K=>dI K,fun h i a n=>h.IsListIter i a n,fun h a us=>h.IsList a us,fun⟨o,g,_,d⟩=>⟨o,g,fun v q=>by rw[d] at q; cases q⟩,fun g k=>g.at k,fun I h=>(I.list h).elim fun us p=>⟨us,p.1,p.2.1.isList⟩,fun I h h'=>I.sE h h',fun I h f=>Ru I h f,fun hh i a n us=>Draws.list hh i a n us⟩
abbrev W8:=T_ kL kL
section
variable {X:Cx}
def Lw (K:PySem.W.Frag) (ta:TA):TI:=fun σ H R=>ta σ H fun vs H1=>∃a b,vs=[.ref a,.ref b]/\(∃xs,dI K H1 a xs)/\(∃ys,dI K H1 b ys)/\R (W8 K a b) H1
theorem Ot {K:PySem.W.Frag} {e e':Expr} {elts:List Expr} {x1} {tp p pos:Pos} {ta:TA} (hK:X.K=K) (hm:X.mg "zip" = none) (ha:PA X [e,e'] ta) (hg:Gl X "zip" := by rfl) (h1:bK e=true:=by rfl) (h2:bK e'=true:=by rfl) :
  PI X (.Tuple elts x1 tp) (.Call (.Name "zip" p) [e,e'] [] pos) (Lw K ta):=by
 subst hK;refine .mk ?_;intro pins s σ H R I h;refine qi (gW I hg hm Mz ?_ (by decide) (by decide))
 refine PyProof.Rows.callWith_type1 (cH (ha pos pins s σ H _ I h) fun us s1 ⟨vs,H1,I1,r1,q1⟩=>?_) (bZ h1) (b_ (es:=[e']) (by simp[h2]))
 obtain⟨a,b,rfl,⟨xs,hx⟩,⟨ys,hy⟩,q⟩:=q1;obtain⟨u,v,rfl,ru,rv⟩:=r1.two;cases ru;cases rv;obtain⟨us,_,pu,_⟩:=I1.list hx;obtain⟨ws,_,pw,_⟩:=I1.list hy;refine Iz pu.isList pw.isList fun h' hz hp ho h1 h2 kk=>?_;have I2:Inv X pins σ H1 { s1 with heap:=h' }:=I1.kept (t':=s1.toks) kk
 have fr:∀n,H1 (s1.heap.objs.size+n)=none:=fun n=>I1.hok.fresh (Ew _ _);have fk:∀n,fO X pins H1 (s1.heap.objs.size+n):=fun n=>I1.qt (Ew _ _) (fr n);have ne:∀i j:Nat,i≠j->s1.heap.objs.size+i≠s1.heap.objs.size+j:=fun i j n e=>n (Nat.add_left_cancel e);refine wpAny_pyIter_zip hz ⟨s1.heap.objs.size+4,_,_,W8 X.K a b,H1,rfl,I2,uU kL kL a b (s1.heap.objs.size+4) (s1.heap.objs.size+2) (s1.heap.objs.size+3) s1.heap.objs.size (s1.heap.objs.size+1) (ne _ _ (by decide)) (ne _ _ (by decide)) (ne _ _ (by decide)) (ne 0 _ (by decide)) (ne _ _ (by decide)) (ne _ 0 (by decide)) (ne _ _ (by decide)) (ne 0 _ (by decide)) (ne _ 0 (by decide)) (ne _ _ (by decide)),⟨hz,hp,⟨_,_,ho⟩,h1,h2⟩,fun c hc=>?_,q⟩
 simp only[cA,jJ,or_false] at hc;rcases hc with rfl | rfl | rfl | rfl | rfl
 ·exact fk 4
 ·exact fk 2
 ·exact fk 3
 ·exact fk 0
 ·exact fk 1
end
theorem Iu {K:PySem.W.Frag} {js:List Nat} {a b:Addr} {xs ys:List V} {es:List PyData} {ta:TA} {te:TE} {σ:St} {H:Hp} {Q:VK} (hl:∀R:List V->Hp->Prop,R [.ref a,.ref b] H->ta σ H R) (ha:H a=some (.lst xs)) (hb:H b=some (.lst ys)) (n1:xs.length=es.length) (n2:ys.length=es.length) (hz:es.length<=sizeLine) (hL:bL es=true)
  (val:∀(i:Nat) x y e H',xs[i]?=some x->ys[i]?=some y->es[i]?=some e->aJ H H'->∀R:VK,(∀v dR,aJ H' dR->At dR e v->R v dR)->te (some x::some y::cu js σ) H' R)
  (fin:∀acc zs H',aJ H H'->H acc=none->H' acc=some (.lst zs)->ak (hid acc H') es zs->Q (.ref acc) H'):eO 2 js (Lw K ta) (Dh K 2 (gY (dF 0) (gY (dF 1) uF))) wI te σ H Q:=by
 refine hl _ ⟨a,b,rfl,⟨xs,dI.of ha⟩,⟨ys,dI.of hb⟩,fun acc hacc=>?_⟩;have gx:∀i,i<es.length->xs[i]?=some (xs.getD i .non):=fun i hi=>by rw[iy,gO (by omega)]; rfl
 have gy:∀i,i<es.length->ys[i]?=some (ys.getD i .non):=fun i hi=>by rw[iy,gO (by omega)]; rfl
 refine lZ (es:=es) (fun i=>xs.getD i .non) (fun i=>ys.getD i .non) hz hL hacc (fun i H' hi s=>⟨xs,ys,_,_,dI.of (s _ _ ha),dI.of (s _ _ hb),gx i hi,gy i hi⟩) (fun i H' v dR hi s y=>?_) (fun H' s=>⟨xs,ys,dI.of (s _ _ ha),dI.of (s _ _ hb),.inl n1.symm⟩) (fun i e H' he s R hR=>?_) fun zs H' s h1 h2=>fin acc zs H' s hacc h1 h2
 ·obtain⟨p,x,y,fp,e1,e2,h1,h2⟩:=y;have q1:=h1 xs (dI.of (s _ _ ha));have q2:=h2 ys (dI.of (s _ _ hb));rw[gx i hi] at q1;rw[gy i hi] at q2;cases q1;cases q2;exact⟨p,fp,e1,e2⟩
 ·have hi:i<es.length:=by
   by_cases z:i<es.length
   ·exact z
   ·rw[Oe (by omega)] at he; cases he
  exact val i _ _ e H' (gx i hi) (gy i hi) he s R hR
end L2
namespace L2
open PySem
structure Pl (n:Nat) (d:PyData):Prop where
 hd:d.hasDict=false
 cl:d.canLay0=true
 dp:d.depth<=n
end L2
namespace L2
open PySem PySem.Spec PyProof.Rows
def yC (h:Heap) (e:Addr) (cls:Value) (T:Addr):Prop:=∃oe vs,h.get? e=some oe/\(oe.cls=cls/\oe.dict=none)/\oe.data=.fields vs/\vs[1]?=some (.ref T)/\vs[2]?=some .none
def Jg (h:Heap) (T:Addr):Prop:=∃oT ts,h.get? T=some oT/\oT.data=.fields ts/\ts[3]?=some .none
structure Q_ (fs:List Addr) (h h':Heap) (e T:Addr) (cls:Value):Prop where
 keep:∀b o,b≠e->b∉fs->h.get? b=some o->h'.get? b=some o
 slot:∀b o,b≠e->h.get? b=some o->∃sl,h'.get? b=some { o with slots:=sl }
 fresh:h.objs.size<=T
 ex:yC h' e cls T
 tb:Jg h' T
section
variable {M:Model} {A:Around} {E:Value->Shared->Prop} {s:Shared}
theorem tK (o:Obj) (f:Array Value->Array Value):(Obj.mapFields f o).dict=o.dict:=by
 obtain⟨c,d,dt,sl⟩:=o;cases dt <;> rfl
theorem entryE {base:Heap} {env:Env} {outer:List Env} {L e:Addr} {oe:Obj} {vs:Array Value} {head:Value} {nx:Bool} {Q:Unit->Shared->Prop}
  (fr:A.frames=some (env::outer)) (ff:s.heap.FunFrames base (env::outer)) (fL:env.frame=some L) (he:s.heap.get? e=some oe) (hdn:oe.dict=none) (hd:oe.data=.fields vs) (hz:1<vs.size) (hc:vs[2]?=some .none)
  (q:∀h' T,Q_ (frs (env::outer)) s.heap h' e T oe.cls->Q () { s with heap:=h' }) :
  wpAny M A (do
   let a <- frameOf env
   let pl <- entryPlaceOf L nx
   let b <- EntryCells.newEntry head a .none (rawInt L) .none pl
   setField (.ref e) 1 b) (fun _ s'=>wpAny M A (setFlight (.ref e) none) Q E s') E s:=by
 have ne:e∉frs (env::outer):=fun hm=>by
  obtain⟨_,o,ho,hf⟩:=ff.mem hm;rw[he] at ho;cases ho;exact hf vs hd
 refine aW (wpAny_frameOf_fun fr ff fL fun h1 so=>aW (wpAny_entryPlaceOf fun pl hpl=>?_));obtain⟨sz,sk,ss⟩:=so;unfold EntryCells.newEntry newFields;refine aW (oN ?_ (hpl.sizeOk5 _ _ _ _ _));have e1:h1.get? e=some oe:=(sk e ne).trans he;have pe:=dW (h:=h1) { cls:=.type "traceback",data:=.fields (([head,.ref L,.none,rawInt L,.none]:List Value)++(if pl.isEmpty then List.replicate 6 .none else pl)).toArray } e1
 have nT:h1.objs.size≠e:=zN (eX e1);have pT:=jk h1 (o:={ cls:=.type "traceback",data:=.fields (([head,.ref L,.none,rawInt L,.none]:List Value)++(if pl.isEmpty then List.replicate 6 .none else pl)).toArray }) rfl
 have pk:∀b o,h1.get? b=some o->(h1.push { cls:=.type "traceback",data:=.fields (([head,.ref L,.none,rawInt L,.none]:List Value)++(if pl.isEmpty then List.replicate 6 .none else pl)).toArray }).get? b=some o:=fun b o z=>dW _ z
 refine Hi pe hd hz ?_;generalize h1.push { cls:=.type "traceback",data:=.fields (([head,.ref L,.none,rawInt L,.none]:List Value)++(if pl.isEmpty then List.replicate 6 .none else pl)).toArray }=h2 at pe pT pk ⊢
 have dx:=Obj.data_mapFields hd (·.setIfInBounds 1 (Value.ref h1.objs.size));have Yu:=zE (Obj.mapFields (·.setIfInBounds 1 (Value.ref h1.objs.size))) pe (Obj.isFreed_of_fields dx);have Yv:=(qj h2 (Obj.mapFields (·.setIfInBounds 1 (Value.ref h1.objs.size))) (Ne.symm nT)).trans pT;have Yt:∀b o,b≠e->h1.get? b=some o->(h2.update e (Obj.mapFields (·.setIfInBounds 1 (Value.ref h1.objs.size)))).get? b=some o:=fun b o z y=>(qj h2 _ (Ne.symm z)).trans (pk b o y);have ce:=Obj.cls_mapFields oe (·.setIfInBounds 1 (Value.ref h1.objs.size));generalize h2.update e (Obj.mapFields (·.setIfInBounds 1 (Value.ref h1.objs.size)))=h3 at Yu Yv Yt ⊢;unfold setFlight;have v1:(vs.setIfInBounds 1 (Value.ref h1.objs.size))[1]?=some (.ref h1.objs.size):=by simp[hz]
 refine aW (gQ Yu dx v1 ?_);rw[aR (show(Value.ref h1.objs.size != Value.none)=true by simp)]
 refine Hi Yv rfl (by simp only[fj,gF,lR,zR] <;> omega) ?_
 have d4:=Obj.data_mapFields (o:={ cls:=.type "traceback",data:=.fields (([head,.ref L,.none,rawInt L,.none]:List Value)++(if pl.isEmpty then List.replicate 6 .none else pl)).toArray }) rfl (·.setIfInBounds 3 ((none:Option Addr).elim Value.none fun f=>rawInt f))
 have pT4:=zE (Obj.mapFields (·.setIfInBounds 3 ((none:Option Addr).elim Value.none fun f=>rawInt f))) Yv (Obj.isFreed_of_fields d4);have o4:∀b,b≠h1.objs.size->(h3.update h1.objs.size (Obj.mapFields (·.setIfInBounds 3 ((none:Option Addr).elim Value.none fun f=>rawInt f)))).get? b=h3.get? b:=fun b z=>qj h3 _ (Ne.symm z);refine q _ h1.objs.size ⟨fun b o z y x=>?_,fun b o z x=>?_,Nat.le_of_eq sz.symm,⟨_,_,(o4 e (Ne.symm nT)).trans Yu,⟨ce,(tK oe _).trans hdn⟩,dx,v1,by rw[Array.getElem?_setIfInBounds]; simpa using hc⟩,⟨_,_,pT4,d4,?_⟩⟩
 ·have x1:h1.get? b=some o:=(sk b y).trans x;exact(o4 b (dY (eX x1))).trans (Yt b o z x1)
 ·obtain⟨sl,x1⟩:=ss b o x;exact⟨sl,(o4 b (dY (eX x1))).trans (Yt b _ z x1)⟩
 ·first | (simp; done) | (rcases hpl with rfl | ⟨_,_,_,_,_,_,_,rfl⟩ <;> simp)
theorem Pn {base:Heap} {env:Env} {outer:List Env} {L e:Addr} {oe:Obj} {vs:Array Value} {Q:Unit->Shared->Prop}
  (fr:A.frames=some (env::outer)) (ff:s.heap.FunFrames base (env::outer)) (fL:env.frame=some L) (he:s.heap.get? e=some oe) (hdn:oe.dict=none) (hd:oe.data=.fields vs) (h1:vs[1]?=some .none) (h2:vs[2]?=some .none)
  (q:∀h' T,Q_ (frs (env::outer)) s.heap h' e T oe.cls->Q () { s with heap:=h' }):wpAny M A (leaving env (.ref e)) Q E s:=by
 unfold leaving noteFrame;simp only[fL];refine aW (aW (gQ he hd h1 ?_));rw[bx (by decide)]
 exact entryE fr ff fL he hdn hd (Oi.mp h1).1 h2 q
structure T5 (fs:List Addr) (h h':Heap) (e T0 T:Addr) (cls:Value):Prop where
 keep:∀b o,b≠e->b≠T0->b∉fs->h.get? b=some o->h'.get? b=some o
 slot:∀b o,b≠e->b≠T0->h.get? b=some o->∃sl,h'.get? b=some { o with slots:=sl }
 old:∃o,h'.get? T0=some o
 fresh:h.objs.size<=T
 ex:yC h' e cls T
 tb:Jg h' T
theorem noteE2 {base:Heap} {env:Env} {outer:List Env} {L e T0:Addr} {cls:Value} {Q:Unit->Shared->Prop}
  (fr:A.frames=some (env::outer)) (ff:s.heap.FunFrames base (env::outer)) (fL:env.frame=some L) (he:yC s.heap e cls T0) (hT:Jg s.heap T0) (nT:T0≠e)
  (q:∀h' T,T5 (frs (env::outer)) s.heap h' e T0 T cls->Q () { s with heap:=h' }) :
  wpAny M A (noteFrame (.ref e) env) (fun _ s2=>wpAny M A (setFlight (.ref e) none) Q E s2) E s:=by
 obtain⟨oe,vs,e1,⟨ec,Zh⟩,ed,ev,ev2⟩:=he;obtain⟨oT,ts,t1,td,tv⟩:=hT;subst ec;unfold noteFrame;simp only[fL];refine aW (gQ e1 ed ev ?_);rw[aR (show(Value.ref T0 != Value.none)=true by simp)]
 refine aW (gQ t1 td tv ?_);rw[bx (show ¬((Value.none==rawInt L)=true) by simp[rawInt])]
 have tz:=(Oi.mp tv).1;refine aW (Hi t1 td tz ?_);have dT:=Obj.data_mapFields td (·.setIfInBounds 3 Value.none);have g1:=zE (Obj.mapFields (·.setIfInBounds 3 Value.none)) t1 (Obj.isFreed_of_fields dT);have g2:∀b,b≠T0->(s.heap.update T0 (Obj.mapFields (·.setIfInBounds 3 Value.none))).get? b=s.heap.get? b:=fun b z=>qj _ _ (Ne.symm z);have gz:(s.heap.update T0 (Obj.mapFields (·.setIfInBounds 3 Value.none))).objs.size=s.heap.objs.size:=Heap.size_after_update ..
 have f2:(s.heap.update T0 (Obj.mapFields (·.setIfInBounds 3 Value.none))).FunFrames base (env::outer):=ff.of_keeps fun b o ho hf=>⟨o,(g2 b fun z=>by
  rw[z,t1] at ho;cases ho
  exact hf ts td).trans ho,rfl⟩
 generalize s.heap.update T0 (Obj.mapFields (·.setIfInBounds 3 Value.none))=h2 at g1 g2 gz f2 ⊢;refine entryE (s:={ s with heap:=h2 }) fr f2 fL ((g2 e (Ne.symm nT)).trans e1) Zh ed (Oi.mp ev).1 ev2 fun h' T l=>?_
 have nf:T0∉frs (env::outer):=fun hm=>by
  obtain⟨_,o,ho,hf⟩:=ff.mem hm;rw[t1] at ho;cases ho;exact hf ts td
 exact q h' T ⟨fun b o z y x u=>l.keep b o z x ((g2 b y).trans u),fun b o z y u=>l.slot b o z ((g2 b y).trans u),⟨_,l.keep _ _ nT nf g1⟩,by rw[<- gz]; exact l.fresh,l.ex,l.tb⟩
end
section
variable {P:Program} {w:World} {H H':Hp} {h h':Heap} {a:Addr} {o:HO}
theorem b8.there (x:b8 P w H h a o):∃u,h.get? a=some u:=by
 cases o with
 | lst xs=>obtain⟨_,_,_,_,e⟩:=x; exact⟨_,e⟩
 | tup xs=>obtain⟨_,_,_,ob,e,_⟩:=x; exact⟨_,e⟩
 | dK kvs=>obtain⟨_,_,_,_,o,_,_,e,_⟩:=x; exact⟨_,e⟩
 | dT kvs=>obtain⟨_,_,_,_,o,_,_,e,_⟩:=x; exact⟨_,e⟩
 | set S n=>obtain⟨o,_,_,_,e,_⟩:=x; exact⟨_,e⟩
 | ins C dx fs=>obtain⟨_,_,_,e,_⟩:=x; exact⟨_,e⟩
 | own y=>exact x
 | xd fs=>obtain⟨_,⟨_,_,_,e,_⟩,_⟩:=x; exact⟨_,e⟩
 | Uk lo hi=>obtain⟨_,_,_,e⟩:=x; exact⟨_,e⟩
 | yF ob u=>obtain⟨e,_⟩:=x; exact⟨_,e⟩
 | Qy ps=>exact⟨_,(show h.get? a=some _ from x)⟩
 | met f y=>exact⟨_,(show h.get? a=some _ from x)⟩
 | ext φ=>obtain⟨_,e,_⟩:=x; exact e
theorem jF.none (x:jF P w H h) (e:h.get? a=none):H a=none:=by
 cases q:H a with
 | none=>rfl
 | some u=>
  obtain⟨v,z⟩:=(x a u q).there;rw[e] at z; cases z
def qK (e:Addr) (cls:Value) (T:Addr):HO:=.ext fun h=>yC h e cls T
def uP (T:Addr):HO:=.ext fun h=>Jg h T
def Nm (T:Addr):HO:=.ext fun h=>∃o,h.get? T=some o
theorem K_ {e T:Addr} {cls:Value} (x:yC h e cls T):b8 P w H h e (qK e cls T):=by
 refine⟨x,?_,?_⟩
 ·obtain⟨oe,vs,e1,_⟩:=x; exact⟨_,e1⟩
 ·rintro h1 h2 ⟨oe,vs,e1,r⟩ k;exact⟨oe,vs,k _ e1,r⟩
theorem Fj {T:Addr} (x:Jg h T):b8 P w H h T (uP T):=by
 refine⟨x,?_,?_⟩
 ·obtain⟨oe,vs,e1,_⟩:=x; exact⟨_,e1⟩
 ·rintro h1 h2 ⟨oe,vs,e1,r⟩ k;exact⟨oe,vs,k _ e1,r⟩
theorem QX {T:Addr} (x:∃o,h.get? T=some o):b8 P w H h T (Nm T):=by
 refine⟨x,x,?_⟩;rintro h1 h2 ⟨oe,e1⟩ k;exact⟨oe,k _ e1⟩
theorem qK.at {e T:Addr} {cls:Value} (x:b8 P w H h e (qK e cls T)):yC h e cls T:=x.1
theorem uP.at {T:Addr} (x:b8 P w H h T (uP T)):Jg h T:=x.1
theorem jF.ext (x:jF P w H h) (S:Addr->Prop) (k:∀b u v,H b=some u->¬S b->h.get? b=some v->h'.get? b=some v) (hs:∀b,S b->H b=Option.none\/∃φ,H b=some (.ext φ))
  (o1:∀b,¬S b->H' b=H b) (o2:∀b u,S b->H' b=some u->b8 P w H' h' b u):jF P w H' h':=fun b u e=>by
 by_cases z:S b
 ·exact o2 b u z e
 ·rw[o1 b z] at e;refine(x b u e).stay (fun c v q y=>?_) (fun c q=>?_) (fun c xs q=>?_)
  ·rcases q with q | q
   ·subst q; exact k c u v e z y
   ·exact k c _ v q (fun y'=>(hs c y').elim (fun n=>by rw[n] at q; cases q) fun⟨φ,n⟩=>by rw[n] at q; cases q) y
  ·rw[o1 c fun y'=>(hs c y').elim (fun n=>by rw[n] at q; cases q) fun⟨φ,n⟩=>by rw[n] at q; cases q]; exact q
  ·rw[o1 c fun y'=>(hs c y').elim (fun n=>by rw[n] at q; cases q) fun⟨φ,n⟩=>by rw[n] at q; cases q]; exact q
end
def mF (P:Program) (w:World):Gr:=fun outer H s E e s'=>∃(a T:Addr) (cls:Value) (H':Hp),e=.ref a/\s'.os=s.os/\AllBare s'.gens/\Un (frs outer) [] H H' s.heap s'.heap/\jF P w H' s'.heap /\
 H' a=some (qK a cls T)/\H' T=some (uP T)/\T≠a/\(s.heap.get? a=none/\s.heap.get? T=none)/\E cls none H'
section
variable {P:Program} {w:World} {K:PySem.W.Frag} {mg:Str->Option Value} {base:Heap} {N:List Str} {qual:Str} {scope:Scope} {f:Addr} {cd:Value} {A:Around} {outer:List Env} {s0:Shared} {H0:Hp} {E:XK}
theorem BZ {pins:List (Addr×Obj)} {σ:St} {H:Hp} {s:Shared} {h2:Heap} {e C:Addr} {us:List Value} (I:Inv (fK (mF P w) P w K mg base N qual scope f cd A outer s0 H0 E) pins σ H s)
  (m:Heap.MadeExcOf s.heap h2 e (.ref C) us) (Tf:jF P w H0 s0.heap) (q:∀H',aJ H H'->E (.ref C) none H'):(fK (mF P w) P w K mg base N qual scope f cd A outer s0 H0 E).xe (.ref e) { s with heap:=h2 }:=by
 obtain⟨t,he,_,_⟩:=m.there;have ff:h2.FunFrames base (envOfC qual scope s0.heap.objs.size f cd::outer):=(I.stack:s.heap.FunFrames base (envOfC qual scope s0.heap.objs.size f cd::outer)).of_keeps fun b o ho _=>⟨o,m.keeps b o ho,rfl⟩;have fr:(A.deeper (envOfC qual scope s0.heap.objs.size f cd)).frames=some (envOfC qual scope s0.heap.objs.size f cd::outer):=I.ok.frames;refine Pn (s:={ s with heap:=h2 }) fr ff rfl he rfl rfl rfl rfl fun h3 T l=>?_
 have ne:H e=none:=I.hok.none m.new
 have nT:H T=none:=I.hok.none (by
  cases z:s.heap.get? T with
  | none=>rfl
  | some o=>exact absurd (eX (m.keeps _ _ z)) (Nat.not_lt.mpr l.fresh))
 have Te:T≠e:=fun z=>by
  obtain⟨oe,vs,e1,e2,e3,e4⟩:=l.ex;obtain⟨oT,ts,t1,t2,t3⟩:=l.tb;have:=eX he;have:=l.fresh;have:e<h2.objs.size:=eX he;subst z;exact absurd this (Nat.not_lt.mpr l.fresh)
 have iL:∀b o,s0.heap.get? b=some o->b≠s0.heap.objs.size:=fun b o z=>dY (eX z);have ib:Un (frs outer) [] H0 H s0.heap s.heap:=I.base;have u1:∀b,b≠T->b≠e->upd (upd H e (qK e (.ref C) T)) T (uP T) b=H b:=fun b y z=>by rw[aV y,aV z]
 have nb:∀b o,s.heap.get? b=some o->b≠e:=fun b o z y=>by rw[y,m.new] at z; cases z
 have nbT:∀b o,s.heap.get? b=some o->b≠T:=fun b o z y=>by
  have a1:=eX (m.keeps b o z);have a2:h2.objs.size<=T:=l.fresh;subst y;exact Nat.not_lt.mpr a2 a1
 have nf:∀b,b∉frs outer->b≠s0.heap.objs.size->b∉frs (envOfC qual scope s0.heap.objs.size f cd::outer):=fun b y z hm=>by
  rcases cA.mp (show b∈s0.heap.objs.size::frs outer from hm) with x | x
  ·exact z x
  ·exact y x
 have hu:∀b u,H b=some u->b≠e/\b≠T:=fun b u z=>⟨fun y=>(by rw[y,ne] at z; cases z),fun y=>(by rw[y,nT] at z; cases z)⟩
 refine⟨e,T,.ref C,upd (upd H e (qK e (.ref C) T)) T (uP T),rfl,I.os,I.bare,⟨fun b o z n y _=>?_,fun b o z n y x=>?_,fun b o z n x=>?_,fun b o z x=>?_,fun b xs z=>?_,fun b o u z=>?_,fun b ps z=>?_⟩,?_,?_,az,Te,⟨?_,?_⟩,?_⟩
 ·have g:=ib.keep b o z n y (by simp)
  exact l.keep b o (nb b o g) (nf b y (iL b o z)) (m.keeps b o g)
 ·obtain⟨sl,g⟩:=ib.slot b o z n y x;obtain⟨sl2,g2⟩:=l.slot b _ (nb b _ g) (m.keeps b _ g);exact⟨sl2,g2⟩
 ·obtain⟨o',g⟩:=ib.there b o z x;rw[u1 b (nbT b _ g) (nb b _ g)];exact ib.free b o z n x
 ·obtain⟨o',g⟩:=ib.there b o z x;obtain⟨sl2,g2⟩:=l.slot b _ (nb b _ g) (m.keeps b _ g);exact⟨_,g2⟩
 ·have g:=ib.tups b xs z;rw[u1 b (hu b _ g).2 (hu b _ g).1]; exact g
 ·have g:=ib.tu b o u z;rw[u1 b (hu b _ g).2 (hu b _ g).1]; exact g
 ·obtain⟨more,g⟩:=ib.uh b ps z;exact⟨more,by rw[u1 b (hu b _ g).2 (hu b _ g).1]; exact g⟩
 ·refine(show jF P w H s.heap from I.hok).ext (fun b=>b=e\/b=T) (fun b u v z y x=>?_) (fun b z=>?_) (fun b z=>?_) (fun b u z y=>?_)
  ·have g:=(I.hok b u z).there;refine l.keep b v (fun q=>y (.inl q)) (fun hm=>?_) (m.keeps b v x);have:=I.qz b hm;rw[z] at this; cases this
  ·rcases z with rfl | rfl
   ·exact .inl ne
   ·exact .inl nT
  ·exact u1 b (fun q=>z (.inr q)) fun q=>z (.inl q)
  ·rcases z with rfl | rfl
   ·rw[aV (Ne.symm Te),az] at y;cases y;exact K_ l.ex
   ·rw[az] at y;cases y;exact Fj l.tb
 ·rw[aV (Ne.symm Te),az]
 ·cases z:s0.heap.get? e with
  | none=>rfl
  | some o=>
   obtain⟨o',g⟩:=ib.there e o z (by simp)
   rw[m.new] at g; cases g
 ·cases z:s0.heap.get? T with
  | none=>rfl
  | some o=>
   obtain⟨o',g⟩:=ib.there T o z (by simp)
   exact absurd rfl (nbT T o' g)
 ·exact q _ ((aL ne _).trans (aL (by rw[aV Te]; exact nT) _))
end
def Ve:List Value:=[.type "ValueError",.type "Exception",.type "BaseException",.type "object"]
structure Z6 (K:PySem.W.Frag) (mg:Str->Option Value) (x:Str) (C:Addr):Prop where
 bound:mg x=some (.ref C)
 ok:PySem.W.excIn K C Ve "ValueError.__new__" = true
theorem Z6.obj {K:PySem.W.Frag} {C:Addr} {h:Heap} (X:K.In h) (q:PySem.W.excIn K C Ve "ValueError.__new__" = true) :
  ∃bm N nm qn bs hdct sn sub ab col dd k0 k1 k2 k3 k5 mN,h.get? C=some (excClassObj nm qn C N bs bm hdct sn sub ab col dd k0 k1 k2 k3 k5 "ValueError.__new__")/\h.Ns N mN/\mN "__init__" = none/\OwnTail h Ve bm:=by
 unfold PySem.W.excIn at q;split at q
 ·rename_i dd cd sl ho;split at q
  ·rename_i C' bm k0 k1 k2 k3 n k5 hm hs;simp only[Cd,beq_iff_eq,Bool.not_eq_true'] at q;obtain⟨⟨⟨⟨⟨rfl,rfl⟩,a1⟩,a2⟩,a3⟩,a4⟩:=q;cases cd with
   | mk nm bs mro ns qn hd sn sub ab col del=>
    dsimp only at hm a1 a3 a4;subst hm a1;obtain⟨l⟩:=sl;have e:l=[k0,k1,k2,k3,some (.builtin "ValueError.__new__"),k5]:=hs;subst e;exact⟨bm,ns,nm,qn,bs,hd,sn,sub,ab,col,dd,k0,k1,k2,k3,k5,_,X _ _ ho,.of_isNs (PySem.W.isNs_of_in X a3),PySem.W.nsMap_none_of_in X a3 a4,PySem.W.tail_of_in X a2⟩
  ·cases q
 ·cases q
def JP (E:XK) (C:Addr) (ta:TA):TS:=fun _ σ H=>ta σ H fun vs H1=>vs.length<=sizeLine/\∀H',aJ H1 H'->E (.ref C) none H'
section
variable {P:Program} {w:World} {K:PySem.W.Frag} {mg:Str->Option Value} {base:Heap} {N:List Str} {qual:Str} {scope:Scope} {f:Addr} {cd:Value} {A:Around} {outer:List Env} {s0:Shared} {H0:Hp} {E:XK}
theorem Kv {x:Str} {C:Addr} {e0:Expr} {np cpos pos:Pos} {ta:TA} (c:Z6 K mg x C) (Tf:jF P w H0 s0.heap) (ha:PA (fK (mF P w) P w K mg base N qual scope f cd A outer s0 H0 E) [e0] ta) (hg:Gl (fK (mF P w) P w K mg base N qual scope f cd A outer s0 H0 E) x:=by rfl)
  (hd:(x==("__debug__" : Str))=false:=by decide)
  (he:starEach [e0] (fK (mF P w) P w K mg base N qual scope f cd A outer s0 H0 E).env=[(false,eval e0 (fK (mF P w) P w K mg base N qual scope f cd A outer s0 H0 E).env)]:=by rfl) :
  PS (fK (mF P w) P w K mg base N qual scope f cd A outer s0 H0 E) (.Raise (some (.Call (.Name x np) [e0] [] cpos)) none pos) (JP E C ta):=by
 refine .mk ?_;intro pins s σ H D I h;obtain⟨bm,N1,nm,qn,bs,hdct,sn,sub,ab,col,dd,k0,k1,k2,k3,k5,mN,hC,hN,hni,T⟩:=Z6.obj (show K.In base from I.mod.Px) c.ok;have bk:∀{s:Shared} {H:Hp} {σ:St},Inv (fK (mF P w) P w K mg base N qual scope f cd A outer s0 H0 E) pins σ H s->∀b o,base.get? b=some o->s.heap.get? b=some o:=fun I=>I.bk;refine wpAny_Raise_call_subU (C:=C) (nm:=nm) (q:=qn) (N:=N1) (bs:=bs) (bm:=bm) (hdct:=hdct) (sn:=sn) (sub:=sub) (ab:=ab) (col:=col) (dd:=dd) (k0:=k0) (k1:=k1) (k2:=k2) (k3:=k3) (k5:=k5) (newId:="ValueError.__new__")
  PySem.F.excBase_ValueError (by decide) PySem.F.excBase_ValueError (mN:=mN) (T.hasType PySem.F.excBase_ValueError.hasBase) (I.ok.hd rfl) (by rw[he]; rfl) hni (nG I hg c.bound ⟨rfl,?_⟩ hd)
 have g:=ha cpos pins s σ H _ I h;rw[he] at g ⊢;refine Calls.evalArgs_plain (dX g (fun us s2 z=>?_) fun _ _ y=>y);obtain⟨vs,H2,I2,rv,l2,q2⟩:=z;refine⟨rfl,by rw[<- rv.length]; exact l2,bk I2 _ _ hC,hN.keeps (bk I2),T.keeps (bk I2),fun h' e m=>BZ I2 m Tf q2⟩
end
section
variable {X:Cx} {pins:List (Addr×Obj)} {σ:St} {H:Hp} {s:Shared}
theorem PN {i:Nat} {x:Str} {m:Str->Option Value} {v:Option Value} {h':Heap} {t':Nat} (I:Inv X pins σ H s) (hN:X.N.Nodup) (hi:X.N[i]?=some x) (hs:Heap.SameBut X.env.locals s.heap h') (hn:s.heap.Ns X.env.locals m) (hn':h'.Ns X.env.locals fun y=>if y=x then v else m y)
  (hl:∀(j:Nat) (y:Str) (w:V),X.N[j]?=some y->σ[j]?=some (some w)->WT X.env.scope y->∃u,RelV w u/\Look X.env s.heap m y u):Inv X pins (σ.set i none) H { s with heap:=h',toks:=t' }:=by
 have iz:i<σ.length:=by rw[I.len]; exact(iM.mp hi).1
 obtain⟨oL,_,_,hoL,_⟩:=id hn;have far:∀b o,X.s₀.heap.get? b=some o->h'.get? b=s.heap.get? b:=fun b o e=>hs.2 b (dY (jq (eX e) I.ok.above));refine⟨I.ok,I.os,I.bare,⟨fun b o e n hb hx=>(far b o e).trans (I.base.keep b o e n hb hx),fun b o e n hb hx=>?_,I.base.free,fun b o e hx=>?_,I.base.tups,I.base.tu,I.base.uh⟩,⟨_,hn',fun j y w e1 e2 e3=>?_⟩,fun y c e=>?_,I.free,I.iD,fun p hp=>?_,fun b ob e=>?_,by simpa using I.len⟩
 ·obtain⟨sl,e1⟩:=I.base.slot b o e n hb hx;exact⟨sl,(far b o e).trans e1⟩
 ·obtain⟨o',e1⟩:=I.base.there b o e hx;exact⟨o',(far b o e).trans e1⟩
 ·by_cases hj:j=i
  ·subst hj;rw[Og iz] at e2;cases e2
  ·rw[List.getElem?_set_ne (Ne.symm hj)] at e2;obtain⟨u,r,q⟩:=hl j y w e1 e2 e3;refine⟨u,r,?_⟩;rcases q with⟨k,e⟩ | ⟨k,c,e,z⟩
   ·refine .inl ⟨k,?_⟩;have:y≠x:=fun e=>hj (rY hN e1 (e▸hi));simp[this,e]
   ·exact .inr ⟨k,c,e,z.sameBut hs (I.Qe y c e)⟩
 ·obtain⟨w',z⟩:=I.cell y c e;exact⟨w',z.sameBut hs (I.Qe y c e)⟩
 ·obtain⟨e,n,ne,nf,d⟩:=I.pin p hp;exact⟨(hs.2 p.1 ne).trans e,n,ne,nf,d⟩
 ·refine(I.hok b ob e).stay (fun c w' hc q=>(hs.2 c ?_).trans q) (fun _ q=>q) fun _ _ q=>q;rintro rfl;rcases hc with rfl | hc
  ·rw[I.free] at e; cases e
  ·rw[I.free] at hc; cases hc
theorem name_goes {M:Model} {A:Around} {E:Value->Shared->Prop} {i:Nat} {x:Str} {pos:Pos} {Q:Unit->Shared->Prop} (I:Inv X pins σ H s) (hN:X.N.Nodup) (hi:X.N[i]?=some x) (hx:X.env.scope.names.lookup x=some .local)
  (q:∀s',Inv X pins (σ.set i none) H s'->Q () s'):wpAny M A (do bindName X.env x .none; unbindBehindTheSuite X.env x pos) Q E s:=by
 have hcls:(X.env.scope.kind==.class || (X.env.scope.kind==.module&&X.env.locals != X.env.globals))=false:=by rw[I.ok.kind]; rfl
 refine aW (Hh (eU I hN hi (.inl hx) (v:=.non) (u:=.none) rfl (fun s1 I1=>?_) (.inr hx)));unfold unbindBehindTheSuite;refine zP ?_;unfold unbindName;refine aW (wpAny_point (aW ?_));unfold deleteName;have kl:X.env.kindOf x=some .local:=hx;simp only[kl,hcls];rw[bx (by decide)]
 obtain⟨m,hn,hl⟩:=id I1.loc;refine aW (wpAny_nsDel_keeps hn fun h2 v hn2 hs2=>?_);have iz:i<σ.length:=by rw[I.len]; exact(iM.mp hi).1
 obtain⟨u,_,lk⟩:=hl i x .non hi (by rw[Og iz]) (.inl hx)
 have ms:(m x).isSome=true:=by
  rcases lk with⟨_,e⟩ | ⟨k,_⟩
  ·rw[e]; rfl
  ·rw[kl] at k; rcases k with k | k <;> cases k
 rw[ms];simp only[if_true,Hg,Ci,if_false];refine cC (wpAny_point ?_);have J:=PN (t':=s1.toks) I1 hN hi hs2 hn hn2 hl;rw[List.set_set] at J;exact q _ J
end
section
variable {X:Cx} {pins:List (Addr×Obj)} {σ:St} {H:Hp} {s:Shared}
abbrev Cx.in' (X:Cx) (e:Value):Cx:={ X with A:=X.A.mark (some e),calm:=false }
theorem Inv.inE (I:Inv X pins σ H s) (e:Value):Inv (X.in' e) pins σ H s:=
 ⟨⟨I.ok.mod,I.ok.kind,I.ok.glob,I.ok.blt,I.ok.above,I.ok.inj,I.ok.has,I.ok.cab,(fun z=>nomatch z),I.ok.frames,I.ok.Vv,I.ok.WM,I.ok.bs,I.ok.Jt,I.ok.Af,I.ok.Dq,I.ok.qp,I.ok.Tg⟩,I.os,I.bare,I.base,I.loc,I.cell,I.free,I.iD,I.pin,I.hok,I.len⟩
theorem Inv.Yy {e:Value} (I:Inv (X.in' e) pins σ H s) (ok:X.Ok):Inv X pins σ H s:=⟨ok,I.os,I.bare,I.base,I.loc,I.cell,I.free,I.iD,I.pin,I.hok,I.len⟩
theorem Inv.ext {H':Hp} {h':Heap} (I:Inv X pins σ H s) (S:Addr->Prop) (keep:∀b o,¬S b->b∉frs X.stack->s.heap.get? b=some o->h'.get? b=some o) (slot:∀b o,¬S b->s.heap.get? b=some o->∃sl,h'.get? b=some { o with slots:=sl })
  (there:∀b o,S b->s.heap.get? b=some o->∃o',h'.get? b=some o') (hs:∀b,S b->(H b=none/\s.heap.get? b=none)\/∃φ,H b=some (.ext φ))
  (o1:∀b,¬S b->H' b=H b) (o2:∀b u,S b->H' b=some u->b8 X.prog X.w H' h' b u):Inv X pins σ H' { s with heap:=h' }:=by
 have un:∀b o,s.heap.get? b=some o->H b=none->¬S b:=fun b o e n z=>by
  rcases hs b z with⟨_,q⟩ | ⟨φ,q⟩
  ·rw[e] at q; cases q
  ·rw[n] at q; cases q
 have tr:∀b u,H b=some u->(∀φ,u≠.ext φ)->H' b=some u:=fun b u e n=>by
  rw[o1 b fun z=>(hs b z).elim (fun q=>by rw[q.1] at e; cases e) fun⟨φ,q⟩=>by rw[q] at e; cases e; exact n φ rfl]
  exact e
 refine I.call (ch:=[]) (g':=s.gens) (t':=s.toks) (d':=s.drawn) ⟨fun b o e n hb _=>keep b o (un b o e n) hb e,fun b o e n hb _=>slot b o (un b o e n) e,fun b o e n _=>(by rw[o1 b (un b o e n)]; exact n),fun b o e _=>?_,fun b xs e=>tr b _ e (fun φ z=>by cases z),fun b o u e=>tr b _ e (fun φ z=>by cases z),fun b ps e=>⟨#[],(by rw[tr b _ e (fun φ z=>by cases z)]; simp)⟩⟩ ?_ I.bare fun b z=>nomatch z
 ·by_cases z:S b
  ·exact there b o z e
  ·obtain⟨sl,q⟩:=slot b o z e; exact⟨_,q⟩
 ·refine I.hok.ext S (fun b u v e z q=>?_) (fun b z=>(hs b z).elim (fun q=>.inl q.1) .inr) o1 o2;refine keep b v z (fun hm=>?_) q;have:=I.qz b hm;rw[e] at this; cases this
theorem Io {M:Model} {A:Around} {E:Value->Shared->Prop} {a T:Addr} {cls:Value} {Q:Unit->Shared->Prop} (I:Inv X pins σ H s) (ha:H a=some (qK a cls T)) (hT:H T=some (uP T)) (q:∀s',Inv X pins σ H s'->Q () s') :
  wpAny M A (setFlight (.ref a) none) Q E s:=by
 obtain⟨oe,vs,e1,ec,ed,ev,_⟩:=qK.at (I.hok a _ ha);obtain⟨oT,ts,t1,td,tv⟩:=uP.at (I.hok T _ hT);unfold setFlight;refine aW (gQ e1 ed ev ?_);rw[aR (show(Value.ref T != Value.none)=true by simp)]
 have tz:=(Oi.mp tv).1;refine Hi t1 td tz ?_;have dT:=Obj.data_mapFields td (·.setIfInBounds 3 ((none:Option Addr).elim Value.none fun f=>rawInt f));have g1:=zE (Obj.mapFields (·.setIfInBounds 3 ((none:Option Addr).elim Value.none fun f=>rawInt f))) t1 (Obj.isFreed_of_fields dT);have g2:∀b,b≠T->(s.heap.update T (Obj.mapFields (·.setIfInBounds 3 ((none:Option Addr).elim Value.none fun f=>rawInt f)))).get? b=s.heap.get? b:=fun b z=>qj _ _ (Ne.symm z);refine q _ (I.ext (fun b=>b=T) (fun b o z _ e=>(g2 b z).trans e) (fun b o z e=>⟨o.slots,(g2 b z).trans e⟩) (fun b o z e=>by subst z; exact⟨_,g1⟩) (fun b z=>.inr (by subst z; exact⟨_,hT⟩)) (fun _ _=>rfl) fun b u z e=>?_)
 subst z;rw[hT] at e;cases e;exact Fj ⟨_,_,g1,dT,by simp[tz]⟩
end
def M4 (H:Hp) (a:Addr) (cls:Value):Prop:=∃T,H a=some (qK a cls T)
section
variable {X:Cx} {pins:List (Addr×Obj)} {σ:St} {H1:Hp} {s1 s':Shared}
theorem Ms {e:Value} {E:XK} {D:Ends} {hx n:Str} {CH:Addr} {hp pos:Pos} {b0:Stmt} {body:List Stmt} {ie:Nat} {ts:TS} (I:Inv X pins σ H1 s1) (c:mF X.prog X.w X.stack H1 s1 E e s')
  (hE:∀cls H2,E cls none H2->PySem.W.exmOne X.K cls (.ref CH)=some true/\∀a H3,(aJ H1 H2->aJ H1 H3)->M4 H3 a cls->ts { nx:=fun σ' H'=>D.nx (σ'.set ie none) H',rt:=fun _ _=>False } (σ.set ie (some (.ref a))) H3)
  (hN:X.N.Nodup) (hi:X.N[ie]?=some n) (hl:X.env.scope.names.lookup n=some .local) (hg:Gl X hx) (hm:X.mg hx=some (.ref CH)) (hs:∀e,yw (X.in' e) (b0::body) ts) (hn:∀e s,X.xe e s->False) (st:X.stack=X.env::X.outer) (fL:X.env.frame=some X.env.locals) (hd:(hx==("__debug__" : Str))=false) :
  wpAny (model X.prog X.w) X.A (noteFrame e X.env) (fun _ s2=>wpAny (model X.prog X.w) X.A (setFlight e none) (fun _ s3=>wpAny (model X.prog X.w) X.A (handleBy e X.env [.ExceptHandler (some (.Name hx hp)) (some n) (b0::body) pos]) (SP X pins D) X.xe s3) X.xe s2) X.xe s':=by
 obtain⟨a,T0,cls,H2,rfl,os,bare,un,hok,ha,hT0,n0,⟨Xr,SM⟩,q⟩:=c;have na:H1 a=none:=I.hok.none Xr;have YF:H1 T0=none:=I.hok.none SM;obtain⟨ex,q⟩:=hE cls H2 q;have I2:Inv X pins σ H2 s':=I.call' (ch:=[]) os un hok bare fun b z=>nomatch z
 have ff:s'.heap.FunFrames X.base (X.env::X.outer):=by rw[<- st]; exact I2.stack
 have fr:X.A.frames=some (X.env::X.outer):=by rw[<- st]; exact I2.ok.frames
 refine noteE2 fr ff fL (qK.at (hok a _ ha)) (uP.at (hok T0 _ hT0)) n0 fun h3 T nt=>?_
 have fT:s'.heap.get? T=none:=by
  cases z:s'.heap.get? T with
  | none=>rfl
  | some o=>exact absurd (eX z) (Nat.not_lt.mpr nt.fresh)
 have nT:H2 T=none:=hok.none fT;have Ta:T≠a:=fun z=>by rw[z,ha] at nT; cases nT
 have TT:T≠T0:=fun z=>by rw[z,hT0] at nT; cases nT
 have I3:Inv X pins σ (upd (upd (upd H2 T0 (Nm T0)) a (qK a cls T)) T (uP T)) { s' with heap:=h3 }:=by
  refine I2.ext (fun b=>b=a\/b=T0\/b=T) (fun b o z y x=>nt.keep b o (fun w=>z (.inl w)) (fun w=>z (.inr (.inl w))) (by rw[<- st]; exact y) x) (fun b o z x=>nt.slot b o (fun w=>z (.inl w)) (fun w=>z (.inr (.inl w))) x) (fun b o z x=>?_) (fun b z=>?_) (fun b z=>?_) (fun b u z y=>?_)
  ·rcases z with rfl | rfl | rfl
   ·obtain⟨oe,vs,e1,_⟩:=nt.ex; exact⟨_,e1⟩
   ·exact nt.old
   ·rw[fT] at x; cases x
  ·rcases z with rfl | rfl | rfl
   ·exact .inr ⟨_,ha⟩
   ·exact .inr ⟨_,hT0⟩
   ·exact .inl ⟨nT,fT⟩
  ·rw[aV fun w=>z (.inr (.inr w)),aV fun w=>z (.inl w),aV fun w=>z (.inr (.inl w))]
  ·rcases z with rfl | rfl | rfl
   ·rw[aV (Ne.symm Ta),az] at y; cases y; exact K_ nt.ex
   ·rw[aV (Ne.symm TT),aV n0,az] at y; cases y; exact QX nt.old
   ·rw[az] at y; cases y; exact Fj nt.tb
 have Uq:upd (upd (upd H2 T0 (Nm T0)) a (qK a cls T)) T (uP T) a=some (qK a cls T):=by rw[aV (Ne.symm Ta),az]
 have Xx:upd (upd (upd H2 T0 (Nm T0)) a (qK a cls T)) T (uP T) T=some (uP T):=az
 have sm:aJ H1 H2->aJ H1 (upd (upd (upd H2 T0 (Nm T0)) a (qK a cls T)) T (uP T)):=fun y b o z=>by
  have g:=y b o z;rw[aV (fun w=>by rw[w,nT] at g; cases g),aV (fun w=>by rw[w,na] at z; cases z),aV (fun w=>by rw[w,YF] at z; cases z)]
  exact g
 have q3:=q a _ sm ⟨T,Uq⟩;generalize upd (upd (upd H2 T0 (Nm T0)) a (qK a cls T)) T (uP T)=H3 at I3 Uq Xx q3;generalize ({ s' with heap:=h3 }:Shared)=s3 at I3
 refine wpAny_handleBy_cons (codeAny_handlers_test ?_) (by intro z; cases z)
 refine Calls.Name_function_global I3.ok.kind hg (Calls.loadGlobal_global (by rw[I3.ok.glob]; exact I3.mod.glob.keeps I3.bk) hm ?_) hd
 obtain⟨oe,vs,e1,⟨ec,_⟩,ed,ev⟩:=qK.at (I3.hok a _ Uq);have LT:PySem.W.Looks (model X.prog X.w) s3.heap (typeOf (.ref a)) cls:=ec▸(PySem.W.Looks.ld e1).andThen .now;refine(PySem.W.exm_one I3.kO LT ex).here ?_;refine codeAny_handlers_suite_as (Io I3 Uq Xx fun s4 I4=>?_);refine eU I4 hN hi (.inl hl) (v:=.ref a) rfl (fun s5 I5=>?_) (.inr hl);refine dX (hs (.ref a) pins s5 _ _ _ (I5.inE (.ref a)) q3) (fun fl s6 z=>?_) fun e6 s6 z=>(hn _ _ z).elim;cases fl with
 | next=>
  obtain⟨σ6,H6,I6,q6⟩:=z;exact name_goes (I6.Yy I5.ok) hN hi hl fun s7 I7=>⟨_,H6,I7,q6⟩
 | ret u=>
  obtain⟨v,σ6,H6,I6,rv,q6⟩:=z;exact q6.elim
 | brk=>
  obtain⟨_,_,_,q6⟩:=z;exact False.elim q6
 | cont=>
  obtain⟨_,_,_,q6⟩:=z;exact False.elim q6
end
section
variable {P:Program} {w:World} {K:PySem.W.Frag} {mg:Str->Option Value} {base:Heap}
theorem Ti {CX:Gr} {k:Nat} {f:Addr} {name qual:Str} {params:Arguments} {body:List Stmt} {scope:Scope} {dV kV doc pm cdv ct oc:Value} {an od:Option Addr}
  {osl:Array (Option Value)} {N ps:List Str} {sp:Sp} (lk:K.lookup f=some ⟨oc,od,.func (PySem.W.fnOf name qual params body scope dV kV doc pm an cdv ct),osl⟩) (hcd:PySem.W.codeIn K cdv qual=true) (S:bh N ps scope)
  (len:∀vs H Q E,sp vs H Q E->vs.length=ps.length)
  (hbody:∀(A:Around) (outer:List Env) (s:Shared) (H:Hp) (vs:List V) (Q:VK) (E:XK),jF P w H s.heap->gw k (A.deeper (envOfC qual scope s.heap.objs.size f cdv))->sp vs H Q E ->
   ∃t,yw (fK CX P w K mg base N qual scope f cdv A outer s H E) body t/\t { nx:=fun _ H'=>Q .non H',rt:=Q } (start N vs) H) :
  bV P w K mg base CX (k+1) f (PySem.W.fnOf name qual params body scope dV kV doc pm an cdv ct) ps sp:=by
 refine⟨len,fun A outer s H args us vs Q E hr e0 hb r hsp=>?_⟩;have hl:=len _ _ _ _ hsp;have KX:K.In s.heap:=e0.mod.Px.keeps fun b o e=>(e0.bs b o e).1;have lim:s.heap.NoLimit:=e0.mod.nolimit.keeps fun b o e=>(e0.bs b o e).1
 have hkind:∀y∈ps.zip us,scope.names.lookup y.1=some .local\/(scope.names.lookup y.1=some .cell/\((cellsFrom (s.heap.objs.size+1) scope.names []).lookup y.1).isSome=true):=fun⟨n,v⟩ hy=>by
  rcases S.par n (List.of_mem_zip hy).1 with q | q
  ·exact .inl q
  ·exact .inr ⟨q,PySem.W.cellsFrom_some _ _ _ (.inl q)⟩
 refine codeAny_call_function hr.depth (KX _ _ lk) rfl S.co S.gen rfl (PySem.W.codeRec_of KX hcd) (hb _ _ _ _ ?_);refine wpAny_newFunctionEnv_cells S.kind hkind fun env he s1 x=>?_;subst he;refine⟨lim.keeps x.toInCall.keep,codeAny_func ?_⟩;obtain⟨t,ht,hq⟩:=hbody A outer s H vs Q E e0.hok (hr.deeper _) hsp;have I:Inv (fK CX P w K mg base N qual scope f cdv A outer s H E) [] (start N vs) H s1:=vH S hr.hd e0 hl r x;refine dX (ht [] s1 (start N vs) H _ I hq) (fun fl s' hs=>?_) fun e s' hs=>hs
 have fin:∀{σ':St} {H':Hp} {v:V} {u:Value},Inv (fK CX P w K mg base N qual scope f cdv A outer s H E) [] σ' H' s'->RelV v u->Q v H'->CE outer P w H s Q u s':=
  fun {σ' H' v u} J rv q=>⟨v,H',J.os,J.bare,J.base,J.hok,rv,q⟩
 cases fl with
 | ret u=>
  obtain⟨v,σ',H',J,rv,q⟩:=hs;exact fin J rv q
 | next=>
  obtain⟨σ',H',J,q⟩:=hs;exact fin (v:=V.non) (u:=Value.none) J rfl q
 | brk=>
  obtain⟨_,_,_,q⟩:=hs;exact False.elim q
 | cont=>
  obtain⟨_,_,_,q⟩:=hs;exact False.elim q
theorem iY.okE {x qual:Str} {st:Stmt} {f:Addr} {fd:FuncData} {N ps:List Str} {k:Nat} {sp:Sp} (F:iY K x qual st f fd) (S:bh N ps (aM st)) (len:∀vs H Q E,sp vs H Q E->vs.length=ps.length)
  (hbody:∀(cdv:Value) (A:Around) (outer:List Env) (s:Shared) (H:Hp) (vs:List V) (Q:VK) (E:XK),jF P w H s.heap->gw k (A.deeper (envOfC qual (aM st) s.heap.objs.size f cdv))->sp vs H Q E ->
   ∃t,yw (fK (mF P w) P w K mg base N qual (aM st) f cdv A outer s H E) (cT st) t/\t { nx:=fun _ H'=>Q .non H',rt:=Q } (start N vs) H):bV P w K mg base (mF P w) (k+1) f fd ps sp:=by
 obtain⟨oc,od,kV,doc,pm,an,cdv,ct,osl,rfl,lk,hcd⟩:=F.ex;exact Ti lk hcd S len fun A outer s H vs Q E Tf hr hsp=>hbody cdv A outer s H vs Q E Tf hr hsp
structure Nk (P:Program) (w:World) (K:PySem.W.Frag) (mg:Str->Option Value) (base:Heap) (k:Nat) (x:Str) (ps:List Str) (sp:Sp) where
 f:Addr
 fd:FuncData
 G:bV P w K mg base (mF P w) k f fd ps sp
 kp:PySem.W.keepIn K (.ref f)=true
 b:Binds K fd ps []
 m:mg x=some (.ref f)
def Nk.mono {j k:Nat} {x:Str} {ps:List Str} {sp:Sp} (c:Nk P w K mg base j x ps sp) (h:j<=k):Nk P w K mg base k x ps sp:={ c with G:=c.G.mono h }
end
section
variable {prog:Program} {w:World} {A:Around} {E:Value->Shared->Prop} {s:Shared} {K:PySem.W.Frag} {x D:Addr} {ox:Obj} {od:Option Obj}
structure Uc (K:PySem.W.Frag) (D:Addr):Prop where
 ga:PySem.W.findIn K (.ref D) "__getattribute__" = some (some (.builtin "BaseException.__getattribute__"))
 gt:PySem.W.findIn K (.ref D) "__getattr__" = some none
 fo:PySem.W.findObj K D none "__class__" = some (.bind (.builtin "getset_descriptor.__get__") (.builtin "object.__class__"))
 sb:PySem.W.subIn K (.ref D) (.type "BaseException")=some true
 ob:PySem.W.mroIn K D (.type "object")=some true
theorem Uc.of (ga:PySem.W.findIn K (.ref D) "__getattribute__" = some (some (.builtin "BaseException.__getattribute__"))) (gt:PySem.W.findIn K (.ref D) "__getattr__" = some none) (fi:PySem.W.findIn K (.ref D) "__class__" = some (some (.builtin "object.__class__")))
  (sp:PySem.W.specialIn K (.builtin "object.__class__") "__get__" = some (some (.builtin "getset_descriptor.__get__"))) (tk:PySem.W.takesIn K (.builtin "object.__class__")=some true) (hd:PySem.W.hasDictIn K D=true)
  (sb:PySem.W.subIn K (.ref D) (.type "BaseException")=some true) (ob:PySem.W.mroIn K D (.type "object")=some true):Uc K D/\(PySem.W.clsIn K D).isSome=true:=by
 obtain⟨cd,hc,_⟩:=PySem.W.any_some hd;refine⟨⟨ga,gt,?_,sb,ob⟩,by rw[hc]; rfl⟩
 unfold PySem.W.findObj;rw[hc,Option.bind_some,fi,Option.bind_some];simp[sp,tk]
theorem Ip {Q:Option Value->Shared->Prop} (X:K.In s.heap) (I:PySem.W.InstAt s.heap x ox D none) (F:Uc K D) (q:Q (some (.ref D)) { s with toks:=s.toks+1 }):wpAny (model prog w) A (getAttr? (.ref x) "__class__") Q E s:=by
 obtain⟨hh,g,d,t,os⟩:=s;have L0:=I.type (M:=model prog w);have L1:=PySem.W.looks_findIn (M:=model prog w) X F.ga;have L2:=PySem.W.looks_findIn (M:=model prog w) X F.gt;have L3:=PySem.W.looks_find (M:=model prog w) X I F.fo;have L4:=PySem.W.looks_subIn (M:=model prog w) X F.sb;unfold getAttr? getAttrBy? getAttrBy;refine aW (wpAny_mkText (aW (wpAny_attempt (rH (aW (L0.at (aW (L1.at ?_))))))));have e2:(Value.builtin "BaseException.__getattribute__" == Value.builtin "object.__getattribute__")=false:=by decide +kernel
 have e3:(onTheHeap (Value.ref D)&&Value.builtin "BaseException.__getattribute__" == Value.builtin "object.__getattribute__")=false:=by rw[e2]; rfl
 dsimp only;rw[e3,bx (by decide)]
 unfold getAttrByItsOwn hookBefore;refine aW ?_;rw[aR (by rfl)]
 refine L2.at ?_;have f3:=PySem.F.excAttr_ValueError.ga.bind (.ref x);have e0:(false&&onTheHeap (Value.builtin "BaseException.__getattribute__"))=false:=rfl;unfold callGetattribute boundAndCalled;simp only[e0];rw[bx (by decide)]
 refine aW (wpAny_attempt (rH (aW (oH f3 ?_))));refine wpAny_call (codeAny_call_builtin PySem.F.excAttr_ValueError.ga.plain PySem.F.entry_bexc_ga ?_);show wpAny _ _ (checkBuiltinCall "BaseException.__getattribute__" ⟨[.ref x,.str "__class__" t],[]⟩) _ _ _;have hk:builtinKind "BaseException.__getattribute__" = some .slot:=by decide +kernel
 have hsp:splitId "BaseException.__getattribute__" = some ("BaseException","__getattribute__"):=by decide +kernel
 have hag:=PySem.F.args_bexc_ga (.ref x) (.str "__class__" t);simp only[checkBuiltinCall,hk,hsp];refine aW ?_;unfold isInstance;refine aW (L0.at (L4.at ?_))
 repeat (any_goals (first | assumption | wp_step))
 refine wpAny_loadPart_at I.at_ (cC ?_);rw[I.cls];refine aW (L3.at ?_);dsimp only;show wpAny _ _ (holding [Value.builtin "object.__class__"] (call (.builtin "getset_descriptor.__get__") [.builtin "object.__class__",.ref x,.ref D]) >>= ret) _ _ _;refine aW (rH (wpAny_call (PySem.W.class_get X I F.ob ?_)));refine cC ?_;refine PySem.W.handed_on rfl ?_;exact cC q
theorem yC.inst {h:Heap} {T:Addr} (y:yC h x (.ref D) T):∃ox,PySem.W.InstAt h x ox D none:=by
 obtain⟨oe,vs,e1,⟨ec,dn⟩,ed,_⟩:=y;refine⟨oe,e1,ec,?_,?_⟩
 ·obtain⟨c,dd,dt,sl⟩:=oe;cases ed;rfl
 ·obtain⟨c,dd,dt,sl⟩:=oe;cases dn
  trivial
theorem Lk (F:Uc K D) (hc:(PySem.W.clsIn K D).isSome=true):PySem.W.KitX K (.ref x) (.ref D) (fun h=>∃ox,PySem.W.InstAt h x ox D none) where
 ty:=fun _ _ _ ⟨_,I⟩=>I.type
 it:=fun _ _ X _=>by
  obtain⟨cdD,hcD⟩:=Ck.mp hc;unfold PySem.W.clsIn at hcD;split at hcD
  ·rename_i c' d' cd' sl' ho;intro A' Q' E' s' k q;unfold isType loadHead;exact aW (wpAny_loadPart (k _ _ (X _ _ ho)) (cC q))
  ·cases hcD
 ne:=fun h tp dd its n sl X htp=>by
  obtain⟨cdD,hcD⟩:=Ck.mp hc;refine Bool.eq_false_iff.mpr fun q=>?_;have e:D=tp:=Value.ref.inj (beq_iff_eq.mp q);subst e;unfold PySem.W.clsIn at hcD;split at hcD
  ·rename_i c' d' cd' sl' ho;have z:=(X _ _ ho).symm.trans htp;cases z
  ·cases hcD
 ca:=fun X ⟨_,I⟩ k=>Ip X I F k
end
section
variable {X:Cx}
theorem fJ {K:PySem.W.Frag} (hK:X.K=K):cV X (.builtin "isinstance") (fun vs H Q=>∃(a D:Addr) (c:V) (cv:Value) (b:Bool),vs=[.ref a,c]/\M4 H a (.ref D)/\Uc K D/\(PySem.W.clsIn K D).isSome=true/\RelV c cv/\(∀u,RelV c u->u=cv)/\PySem.W.kitOne K (.ref D) cv=some b/\Q (.bl b) H):=by
 subst hK;refine .mk ?_;intro pins s σ H vs us Q I r h;obtain⟨a,D,c,cv,b,rfl,⟨T,ha⟩,F,hc,rc,un,e,q⟩:=h;obtain⟨u,t,rfl,ru,rt⟩:=r.two;cases(show u=Value.ref a from ru);obtain rfl:=un t rt;exact PySem.W.kia_one (Lk F hc) I.kO (yC.inst (qK.at (I.hok a _ ha))) e (fun z=>nomatch z) fun tk=>⟨.bl b,H,I.tok tk,rfl,q⟩
end
noncomputable instance XJ:DecidableEq PyData:=fun a b=>Classical.propDecidable (a=b)
mutual
def ql:PyData->Bool
 | .int _=>true
 | .tuple ds=>gb ds
 | _=>false
def gb:List PyData->Bool
 | []=>true
 | d::ds=>ql d&&gb ds
end
theorem sr:∀{ds:List PyData},gb ds=true↔∀d∈ds,ql d=true
 | []=>by simp[gb]
 | d::ds=>by
  have ih:=sr (ds:=ds);simp only[gb,Cd,ih,cA,forall_eq_or_imp]
mutual
theorem lW:∀d:PyData,ql d=true->d.canLay0=true/\d.hasDict=false/\rZ d=true
 | .int _,_=>⟨rfl,rfl,rfl⟩
 | .tuple ds,h=>by
  obtain⟨h1,h2,h3⟩:=Fq ds (by simpa[ql] using h)
  exact⟨by simpa[PyData.canLay0] using h1,by simpa[PyData.hasDict] using h2,by simpa[rZ] using h3⟩
 | .none,h=>nomatch h
 | .bool _,h=>nomatch h
 | .str _,h=>nomatch h
 | .list _,h=>nomatch h
 | .dict _,h=>nomatch h
theorem Fq:∀ds:List PyData,gb ds=true->PyData.canLayAll0 ds=true/\PyData.hasDictAll ds=false/\bL ds=true
 | [],_=>⟨rfl,rfl,rfl⟩
 | d::ds,h=>by
  have h':ql d=true/\gb ds=true:=by simpa[gb] using h
  obtain⟨h1,h2,h3⟩:=lW d h'.1;obtain⟨g1,g2,g3⟩:=Fq ds h'.2;exact⟨by simp[PyData.canLayAll0,h1,g1],by simp[PyData.hasDictAll,h2,g2],by simp[bL,h3,g3]⟩
end
mutual
theorem xJ:∀d e:PyData,ql d=true->ql e=true->(PyData.eqv d e=true↔d=e)
 | .int i,.int j,_,_=>by simp[PyData.eqv]
 | .int i,.tuple es,_,_=>by simp[PyData.eqv]
 | .tuple ds,.int j,_,_=>by simp[PyData.eqv]
 | .tuple ds,.tuple es,h,g=>by
  have:=Ag ds es (by simpa[ql] using h) (by simpa[ql] using g)
  simpa[PyData.eqv] using this
 | .none,_,h,_=>nomatch h
 | .bool _,_,h,_=>nomatch h
 | .str _,_,h,_=>nomatch h
 | .list _,_,h,_=>nomatch h
 | .dict _,_,h,_=>nomatch h
 | .int _,.none,_,h=>nomatch h
 | .int _,.bool _,_,h=>nomatch h
 | .int _,.str _,_,h=>nomatch h
 | .int _,.list _,_,h=>nomatch h
 | .int _,.dict _,_,h=>nomatch h
 | .tuple _,.none,_,h=>nomatch h
 | .tuple _,.bool _,_,h=>nomatch h
 | .tuple _,.str _,_,h=>nomatch h
 | .tuple _,.list _,_,h=>nomatch h
 | .tuple _,.dict _,_,h=>nomatch h
theorem Ag:∀ds es:List PyData,gb ds=true->gb es=true->(PyData.eqvAll ds es=true↔ds=es)
 | [],[],_,_=>by simp[PyData.eqvAll]
 | [],_::_,_,_=>by simp[PyData.eqvAll]
 | _::_,[],_,_=>by simp[PyData.eqvAll]
 | d::ds,e::es,h,g=>by
  have h':ql d=true/\gb ds=true:=by simpa[gb] using h
  have g':ql e=true/\gb es=true:=by simpa[gb] using g
  have h1:=xJ d e h'.1 g'.1;have h2:=Ag ds es h'.2 g'.2;simp[PyData.eqvAll,h1,h2]
end
theorem O6 {d e:PyData} (h:ql d=true) (g:ql e=true):PyData.eqv d e=decide (d=e):=by
 by_cases z:d=e
 ·rw[jo z]; exact(xJ d e h g).mpr z
 ·rw[jV z];cases q:PyData.eqv d e with
  | false=>rfl
  | true=>exact absurd ((xJ d e h g).mp q) z
mutual
def sX:PyData->Int
 | .int i=>hashInt i
 | .tuple ds=>reduceHash (Builtin.Tuple.tupleHashOf (gf ds))
 | _=>0
def gf:List PyData->List Int
 | []=>[]
 | d::ds=>sX d::gf ds
end
mutual
def Gd:PyData->Nat
 | .tuple ds=>iR ds+1
 | _=>1
def iR:List PyData->Nat
 | []=>0
 | d::ds=>Gd d+iR ds
end
theorem sW:∀a b:List PyData,gf (a++b)=gf a++gf b
 | [],_=>rfl
 | d::a,b=>by rw[List.cons_append,gf,gf,sW a b]; rfl
theorem tH:∀a b:List PyData,iR (a++b)=iR a+iR b
 | [],_=>by rw[zT,iR,Nat.zero_add]
 | d::a,b=>by rw[List.cons_append,iR,iR,tH a b,Nat.add_assoc]
theorem ph:∀{ds:List PyData} {d:PyData},d∈ds->d.depth<=PyData.depthAll ds
 | x::ds,d,h=>by
  show d.depth<=max x.depth (PyData.depthAll ds);rcases cA.mp h with rfl | h
  ·omega
  ·have:=ph h;omega
def yz (prog:Program) (w:World) (d:PyData):Prop:=∀(A:Around) (E:Value->Shared->Prop) (s:Shared) (v:Value) (as:List Addr) (Q:Int->Shared->Prop),Reads s.heap v d as->A.units+d.depth<cLine ->
 Q (sX d) { s with toks:=s.toks+Gd d }->wpAny (model prog w) A (PySem.pyHash v) Q E s
theorem LC {prog:Program} {w:World} {ds:List PyData} (ih:∀d∈ds,yz prog w d):yz prog w (.tuple ds):=by
 intro A E s v as Q r hu h;cases r with
 | @tuple a o items n _ _ ho hc hd hi=>
 have hT:s.TypeIs (.ref a) "tuple" := ⟨o,ho,hc⟩;have ab_:A.units+(PyData.depthAll ds+1)<cLine:=hu;have hu0:A.units<cLine:=by omega
 unfold pyHash
 first | unfold pyHashByItsType | skip
 first | refine aW (wpAny_cRoomFor_or (.inr hu0) ?_) | skip
 refine aW (zX hT F.slot_tuple_hash.lookup ?_);show wpAny _ _ (if(some (Value.builtin "tuple.__hash__")==some Value.none)=true then _ else _) Q E s
 rw[bx (by rw[beq_builtin_none]; exact jW)]
 refine aW (zX hT F.slot_tuple_hash.lookup ?_);show wpAny _ _ (callSpecialIfBoundUnlessNone? (.ref a) "__hash__" _ >>= _) Q E s;refine aW (wpAny_callSpecialIfBoundUnlessNone?_slot hT F.slot_tuple_hash (wV F.slot_tuple_hash hT F.entry_tuple_hash ?_ (F.args_tuple_hash_1 _)));show wpAny _ _ (Builtin.Tuple.tupleItemsOf (.ref a) >>= _) _ _ s;refine aW (wpAny_tupleItemsOf ho hd ?_);refine aW ?_;rw[<- Array.forIn_toList];refine wpAny_forIn_list _
  (fun rest (b:Array Int) s'=>∃done left bs,ds=done++left/\ReadsAll s.heap rest left bs/\b.toList=gf done/\s'={ s with toks:=s.toks+iR done })
  _ ?_ ?_ _ _ ⟨[],ds,_,rfl,hi,rfl,rfl⟩
 ·rintro x rest b s' ⟨done,left,bs,e,hl,hb,rfl⟩;cases hl with
  | @cons _ _ k ks' as1 bs1 h1 hl'=>
   have hk:k∈ds:=by rw[e]; simp
   refine aW (ih k hk _ _ _ _ _ _ h1 ?_ ?_)
   ·have:=ph hk;show A.units+1+k.depth<cLine;omega
   ·exact cC ⟨done++[k],ks',_,by rw[e]; simp,hl',by rw[sW]; simp[hb,gf],by rw[tH]; simp[iR,Nat.add_assoc]⟩
 ·rintro b s' ⟨done,left,bs,e,hl,hb,rfl⟩;cases hl;rw[m7] at e;subst e;show wpAny _ _ (retInt (Builtin.Tuple.tupleHashOf b.toList)) _ _ _;rw[hb];refine wpAny_ret_mkInt ?_;show wpAny _ _ (if(decide (-(2:Int) ^ 63<=Builtin.Tuple.tupleHashOf (gf ds))&&decide (Builtin.Tuple.tupleHashOf (gf ds)<2 ^ 63))=true then _ else _) Q E _
  unfold sX reduceHash Gd at h;by_cases hr:(decide (-(2:Int) ^ 63<=Builtin.Tuple.tupleHashOf (gf ds))&&decide (Builtin.Tuple.tupleHashOf (gf ds)<2 ^ 63))=true
  ·rw[aR hr];rw[aR hr] at h;exact cC (by simpa[Nat.add_assoc] using h)
  ·rw[bx hr];rw[bx hr] at h;exact aW (uw (cC (by simpa[Nat.add_assoc] using h)))
mutual
theorem vL {prog:Program} {w:World}:∀d:PyData,ql d=true->yz prog w d
 | .int i,_=>by
  intro A E s v as Q r hu h;cases r;exact wpAny_pyHash_int h
 | .tuple ds,h=>LC (sV ds (by simpa[ql] using h))
 | .none,h=>nomatch h
 | .bool _,h=>nomatch h
 | .str _,h=>nomatch h
 | .list _,h=>nomatch h
 | .dict _,h=>nomatch h
theorem sV {prog:Program} {w:World}:∀ds:List PyData,gb ds=true->∀d∈ds,yz prog w d
 | [],_,d,hd=>by cases hd
 | x::ds,h,d,hd=>by
  have h':ql x=true/\gb ds=true:=by simpa[gb] using h
  rcases cA.mp hd with e | e
  ·rw[e]; exact vL x h'.1
  ·exact sV ds h'.2 d e
end
def qJ (prog:Program) (w:World) (d:PyData):Prop:=∀(n:Nat) (A:Around) (E:Value->Shared->Prop) (s:Shared) (v:Value) (as:List Addr) (Q:Bool->Shared->Prop),Reads s.heap v d as->d.depth<=n->Q true s ->
 wpAny (model prog w) A (eqIsQuiet n v) Q E s
theorem Hu {prog:Program} {w:World} {ds:List PyData} (ih:∀d∈ds,qJ prog w d):qJ prog w (.tuple ds):=by
 intro n A E s v as Q r hn h;have hn:PyData.depthAll ds+1<=n:=hn;obtain⟨m,rfl⟩:∃m,n=m+1:=⟨n-1,by omega⟩
 cases r with
 | @tuple a o items nn _ _ ho hc hd hi=>
 have hT:s.TypeIs (.ref a) "tuple" := ⟨o,ho,hc⟩;unfold eqIsQuiet;refine aW (zX hT F.slot_tuple_eq.lookup ?_);show wpAny _ _ (isInstance (.ref a) (.type "tuple") >>= _) _ _ s;refine aW (wpAny_isInstance hT isSubtype_tuple_tuple ?_);simp only[Hg,Ci,if_false];refine aW (qd ho hd ?_);refine aW ?_;show wpAny _ _ (forIn items _ _) _ _ s;rw[<- Array.forIn_toList];refine wpAny_forIn_list _ (fun rest r s'=>r.1=none/\s'=s/\∃left bs,(∀d∈left,d∈ds)/\ReadsAll s.heap rest left bs) _ ?_ ?_ _ _ ⟨rfl,rfl,ds,_,fun d h=>h,hi⟩
 ·rintro v rest r s' ⟨hr,rfl,left,bs,hall,hl⟩;cases hl with
  | @cons _ _ k ks' as1 bs1 h1 hl'=>
  have hk:=hall k jd;have:=ph hk;refine aW (ih k hk m _ _ _ _ _ _ h1 (by omega) ?_)
  simp only[Hg,Ci,if_false];exact cC ⟨rfl,rfl,ks',bs1,fun d h=>hall d (jr _ h),hl'⟩
 ·rintro⟨r1,r2⟩ s' ⟨hr,rfl,_⟩;simp only at hr;subst hr;exact cC h
mutual
theorem rM {prog:Program} {w:World}:∀d:PyData,ql d=true->qJ prog w d
 | .int i,_=>by
  intro n A E s v as Q r hu h;cases r;rw[eqIsQuiet_byValue _ rfl];exact cC h
 | .tuple ds,h=>Hu (pU ds (by simpa[ql] using h))
 | .none,h=>nomatch h
 | .bool _,h=>nomatch h
 | .str _,h=>nomatch h
 | .list _,h=>nomatch h
 | .dict _,h=>nomatch h
theorem pU {prog:Program} {w:World}:∀ds:List PyData,gb ds=true->∀d∈ds,qJ prog w d
 | [],_,d,hd=>by cases hd
 | x::ds,h,d,hd=>by
  have h':ql x=true/\gb ds=true:=by simpa[gb] using h
  rcases cA.mp hd with e | e
  ·rw[e]; exact rM x h'.1
  ·exact pU ds h'.2 d e
end
mutual
theorem rG {h h':Heap} (k:∀b o,h.get? b=some o->o.cls=.type "tuple" -> (∃vs n,o.data=.seq vs n)->h'.get? b=some o):∀(d:PyData) (v:Value) (as:List Addr),ql d=true->Reads h v d as->Reads h' v d as
 | .int i,_,_,_,r=>by cases r; exact .int _ _
 | .tuple ds,_,_,g,r=>by
  cases r with
  | tuple ho hc hd hi=>exact .tuple (k _ _ ho hc ⟨_,_,hd⟩) hc hd (pR k ds _ _ (by simpa[ql] using g) hi)
 | .none,_,_,h,_=>nomatch h
 | .bool _,_,_,h,_=>nomatch h
 | .str _,_,_,h,_=>nomatch h
 | .list _,_,_,h,_=>nomatch h
 | .dict _,_,_,h,_=>nomatch h
theorem pR {h h':Heap} (k:∀b o,h.get? b=some o->o.cls=.type "tuple" -> (∃vs n,o.data=.seq vs n)->h'.get? b=some o):∀(ds:List PyData) (vs:List Value) (as:List Addr),gb ds=true->ReadsAll h vs ds as->ReadsAll h' vs ds as
 | [],_,_,_,r=>by cases r; exact .nil
 | d::ds,_,_,g,r=>by
  have g':ql d=true/\gb ds=true:=by simpa[gb] using g
  cases r with
  | cons h1 h2=>exact .cons (rG k d _ _ g'.1 h1) (pR k ds _ _ g'.2 h2)
end
noncomputable def jh (prog:Program) (w:World):HeapKind prog w PyData where
 is:=fun h d a=>ql d=true/\d.depth<=8/\∃as,Reads h (.ref a) d as
 hash:=sX
 draws:=Gd
 room:=fun A=>A.units+60<cLine
 inj:=fun⟨g,_,_,r⟩ ⟨_,_,_,r'⟩=>SeqAt.Reads.unique _ _ _ _ _ (lW _ g).1 r r'
 keeps:=fun {h h' k a d o es ep} ⟨g,dp,as,r⟩ ho hd hs=>⟨g,dp,as,rG (fun b ob hb hc ⟨vs,n,hq⟩=>by
  have hne:b≠d:=by
   rintro rfl;obtain rfl:ob=o:=Option.some.inj (hb.symm.trans ho);rw[hd] at hq; exact nomatch hq
  exact(hs.2 b hne).trans hb) _ _ _ g r⟩
 pyHash:=fun hu ⟨g,dp,as,r⟩ h=>vL _ g _ _ _ _ _ _ r (by omega) h
 eqBool:=fun {A E s x y a b Q} hu ⟨g,dp,as,r⟩ ⟨g',dp',as',r'⟩ h=>by
  have:=SeqAt.eqAt_reads x y A s _ _ _ _ r r' (lW _ g).1 (lW _ g').1 (by have:=Nat.min_le_left x.depth y.depth; omega)
  rw[O6 g g'] at this;exact this prog w E Q h
 quiet:=fun⟨g,dp,as,r⟩ h=>rM _ g 8 _ _ _ _ _ _ r dp h
mutual
theorem At.tupS {H H':Hp} (k:∀b xs,H b=some (.tup xs)->H' b=some (.tup xs)):∀(d:PyData) (v:V),rZ d=true->At H d v->At H' d v
 | .none,_,_,h=>by unfold At at h ⊢; exact h
 | .bool _,_,_,h=>by unfold At at h ⊢; exact h
 | .int _,_,_,h=>by unfold At at h ⊢; exact h
 | .str _,_,_,h=>by unfold At at h ⊢; exact h
 | .tuple ds,v,n,h=>by
  unfold At at h ⊢;obtain⟨a,ys,e,h1,h2⟩:=h;exact⟨a,ys,e,k _ _ h1,ak.tupS k ds ys (by simpa[rZ] using n) h2⟩
 | .list _,_,n,_=>by simp[rZ] at n
 | .dict _,_,n,_=>by simp[rZ] at n
theorem ak.tupS {H H':Hp} (k:∀b xs,H b=some (.tup xs)->H' b=some (.tup xs)):∀(ds:List PyData) (ys:List V),bL ds=true->ak H ds ys->ak H' ds ys
 | [],_,_,h=>by unfold ak at h ⊢; exact h
 | d::ds,ys,n,h=>by
  unfold ak at h ⊢;obtain⟨x,r,e,h1,h2⟩:=h;have n':rZ d=true/\bL ds=true:=by simpa[bL] using n
  exact⟨x,r,e,At.tupS k d x n'.1 h1,ak.tupS k ds r n'.2 h2⟩
end
structure uc (d:PyData):Prop where
 t:∃ds,d=.tuple ds
 k:ql d=true
 dp:d.depth<=8
def ndE (x:PyData×Addr×Value):DictEntry:=⟨sX x.1,.ref x.2.1,x.2.2⟩
def ZX (a:Addr) (xs:List (PyData×Addr×Value)) (h:Heap):Prop:=∃o es ep,h.get? a=some o/\o.ExactDict/\o.data=.dict es ep/\es.toList=xs.map ndE/\(xs.map (·.1)).Nodup/\xs.length<=sizeLine/\(a==sysModules)=false
def Q9 (a:Addr) (xs:List (PyData×Addr×Value)):HO:=.ext (ZX a xs)
def il (H:Hp) (a:Addr) (kvs:List (PyData×V)):Prop:=∃xs,H a=some (Q9 a xs)/\Paired (fun(p:PyData×V) (q:PyData×Addr×Value)=>p.1=q.1/\uc p.1/\At H p.1 (.ref q.2.1)/\RelV p.2 q.2.2) kvs xs
theorem il.keep {H H':Hp} {a:Addr} {kvs:List (PyData×V)} (n:il H a kvs) (ha:H' a=H a) (k:∀b xs,H b=some (.tup xs)->H' b=some (.tup xs)):il H' a kvs:=by
 obtain⟨xs,e,r⟩:=n;exact⟨xs,ha.trans e,Paired.Pa r fun _ _ z=>⟨z.1,z.2.1,At.tupS k _ _ (lW _ z.2.1.k).2.2 z.2.2.1,z.2.2.2⟩⟩
theorem il.same {H H':Hp} {a:Addr} {kvs:List (PyData×V)} (n:il H a kvs) (s:aJ H H'):il H' a kvs:=by
 obtain⟨xs,e,r⟩:=id n;exact n.keep ((s _ _ e).trans e.symm) fun b xs h=>s _ _ h
theorem il.ext {H:Hp} {a:Addr} {kvs:List (PyData×V)} (n:il H a kvs):∃φ,H a=some (.ext φ):=by
 obtain⟨xs,e,_⟩:=n;exact⟨_,e⟩
abbrev KN (H:Hp):List (PyData×V)->List (PyData×Addr×Value)->Prop:=Paired fun p q=>p.1=q.1/\uc p.1/\At H p.1 (.ref q.2.1)/\RelV p.2 q.2.2
theorem KN.val {H:Hp} {kvs:List (PyData×V)} {xs:List (PyData×Addr×Value)} (r:KN H kvs xs) (k:PyData):yt (mH kvs k) ((atKey xs k).map (·.2)):=by
 induction r with
 | nil=>exact True.intro
 | @cons p q ps qs h t ih=>
  obtain⟨h1,_,_,h2⟩:=h;by_cases e:p.1=k
  ·have e':q.1=k:=h1.symm.trans e;have b:atKey (q::qs) k=some q.2:=by simp[atKey,List.find?_cons,e']
   rw[yL e,b]; exact h2
  ·have e':¬q.1=k:=fun z=>e (h1.trans z);have b:atKey (q::qs) k=atKey qs k:=by simp[atKey,List.find?_cons,e']
   rw[yM e,b]; exact ih
theorem KN.repl {H:Hp} {kvs:List (PyData×V)} {xs:List (PyData×Addr×Value)} (r:KN H kvs xs) (k:PyData) {y:V} {u:Value} (ry:RelV y u) :
  KN H (kvs.map fun kv=>if kv.1=k then(kv.1,y) else kv) (xs.map (putAt k u)):=by
 induction r with
 | nil=>exact .nil
 | @cons p q ps qs h t ih=>
  rw[ux,ux];refine .cons ?_ ih;obtain⟨h1,h2,h4,h3⟩:=h;unfold putAt;by_cases e:p.1=k
  ·rw[aR e,aR (h1.symm.trans e)]; exact⟨h1,h2,h4,ry⟩
  ·rw[bx e,bx (fun z=>e (h1.trans z))]; exact⟨h1,h2,h4,h3⟩
theorem KN.put {H:Hp} {kvs:List (PyData×V)} {xs:List (PyData×Addr×Value)} (r:KN H kvs xs) {k:PyData} {b:Addr} {y:V} {u:Value} (hk:uc k) (hb:At H k (.ref b)) (ry:RelV y u) :
  KN H (putK kvs k y) (storedH xs k b u):=by
 have e:(kvs.any fun kv=>decide (kv.1=k))=(atKey xs k).isSome:=by
  rw[qN,(r.val k).vD,Option.isSome_map]
 unfold putK storedH;rw[e];by_cases q:(atKey xs k).isSome=true
 ·rw[aR q,aR q]; exact r.repl k ry
 ·rw[bx q,bx q]; exact Paired.snoc r ⟨rfl,hk,hb,ry⟩
section
variable {X:Cx} {pins:List (Addr×Obj)} {σ:St} {H:Hp} {s:Shared} {a:Addr} {kvs:List (PyData×V)}
theorem Fp (ok:jF X.prog X.w H s.heap) {d:PyData} {b:Addr} (hk:uc d) (hd:At H d (.ref b)):(jh X.prog X.w).is s.heap d b:=by
 obtain⟨as,r⟩:=jc ok d (.ref b) (.ref b) hd rfl (lW _ hk.k).2.1;exact⟨hk.k,hk.dp,as,r⟩
theorem Sx (ok:jF X.prog X.w H s.heap):∀{kvs:List (PyData×V)} {xs:List (PyData×Addr×Value)},KN H kvs xs->∀x∈xs,(jh X.prog X.w).is s.heap x.1 x.2.1:=by
 intro kvs xs r
 induction r with
 | nil=>intro x hx; exact nomatch hx
 | @cons p q ps qs h t ih=>
  intro x hx;rcases cA.mp hx with e | hx
  ·subst e;obtain⟨h1,h2,h3,_⟩:=h;rw[h1] at h2 h3;exact Fp ok h2 h3
  ·exact ih x hx
theorem Fo (I:Inv X pins σ H s) (n:il H a kvs):∃xs,H a=some (Q9 a xs)/\KN H kvs xs/\s.heap.DictOfH (jh X.prog X.w) a xs/\xs.length<=sizeLine/\(a==sysModules)=false:=by
 obtain⟨xs,e,r⟩:=n;obtain⟨⟨o,es,ep,h1,h2,h3,h4,h5,h6,h7⟩,_,_⟩:=(show b8 X.prog X.w H s.heap a (Q9 a xs) from I.hok a _ e);exact⟨xs,e,r,⟨o,es,ep,h1,h2,h3,h4,Sx I.hok r,h5⟩,h6,h7⟩
theorem QZ {P:Program} {w:World} {H:Hp} {h:Heap} {xs:List (PyData×Addr×Value)} (n:ZX a xs h):b8 P w H h a (Q9 a xs):=by
 obtain⟨o,es,ep,h1,r⟩:=n;refine⟨⟨o,es,ep,h1,r⟩,⟨o,h1⟩,fun h1' h2' ⟨o',es',ep',g1,g⟩ k=>⟨o',es',ep',k _ g1,g⟩⟩
theorem xH {A:Around} (hu:A.units+64<cLine):(jh X.prog X.w).room A.in1:=by
 show A.units+1+60<cLine;omega
def kE (H:Hp) (d:PyData) (y:V):Prop:=uc d/\At H d y
theorem kE.ref {d:PyData} {y:V} {u:Value} (k:kE H d y) (r:RelV y u):∃b,y=.ref b/\u=.ref b:=by
 obtain⟨⟨⟨ds,rfl⟩,_,_⟩,h⟩:=k;unfold At at h;obtain⟨b,_,rfl,_,_⟩:=h;exact⟨b,rfl,r⟩
theorem Wi {A:Around} {E:Value->Shared->Prop} {Q:Value->Shared->Prop} {d:PyData} {y:V} {u:Value} (hu:A.units+64<cLine) (I:Inv X pins σ H s) (n:il H a kvs) (ky:kE H d y) (ry:RelV y u) (h:∀s',Inv X pins σ H s'->Q (.bool (mH kvs d).isSome) s') :
  wpAny (model X.prog X.w) A (compareOp .In u (.ref a)) Q E s:=by
 obtain⟨b,rfl,rfl⟩:=ky.ref ry;obtain⟨xs,e,r,dd,z,hd⟩:=Fo I n;refine wpAny_in_heap (xH hu) (Fp I.hok ky.1 ky.2) hd dd ?_;have q:=(KN.val r d).vD;rw[Option.isSome_map] at q;rw[<- q];exact h _ (I.tok _)
theorem Sw {A:Around} {E:Value->Shared->Prop} {Q:Value->Shared->Prop} {d:PyData} {y v:V} {u:Value} (hu:A.units+64<cLine) (I:Inv X pins σ H s) (n:il H a kvs) (ky:kE H d y) (hv:mH kvs d=some v) (ry:RelV y u) (h:∀w' s',Inv X pins σ H s'->RelV v w'->Q w' s') :
  wpAny (model X.prog X.w) A (getItem (.ref a) u) Q E s:=by
 obtain⟨b,rfl,rfl⟩:=ky.ref ry;obtain⟨xs,e,r,dd,z,hd⟩:=Fo I n;obtain⟨w',hw,Hd⟩:=yt.some_of (v:=v) (o:=(atKey xs d).map (·.2)) (by rw[<- hv]; exact KN.val r d)
 obtain⟨p,hp,hp2⟩:=lU.mp hw;refine wpAny_getItem_heap (xH hu) (Fp I.hok ky.1 ky.2) dd hp ?_;rw[hp2];exact h w' _ (I.tok _) Hd
theorem Lb {h':Heap} {t':Nat} {xs ys:List (PyData×Addr×Value)} {kvs':List (PyData×V)} (I:Inv X pins σ H s) (e:H a=some (Q9 a xs)) (hs:Heap.SameBut a s.heap h') (dd:h'.DictOfH (jh X.prog X.w) a ys) (z:ys.length<=sizeLine) (hd:(a==sysModules)=false) (r:KN H kvs' ys) :
  Inv X pins σ (upd H a (Q9 a ys)) { s with heap:=h',toks:=t' }/\il (upd H a (Q9 a ys)) a kvs':=by
 obtain⟨o,es,ep,h1,h2,h3,h4,h5,h6⟩:=dd;refine⟨I.write (x:=a) (e:=a) (by rw[e]; exact True.intro) (.inl rfl) (fun b q hb z=>(hs.2 b hb).trans z) ⟨o,h1⟩ (QZ ⟨o,es,ep,h1,h2,h3,h4,h6,z,hd⟩),ys,az,?_⟩
 refine Paired.Pa r fun _ _ z=>⟨z.1,z.2.1,At.tupS (fun b xs hb=>?_) _ _ (lW _ z.2.1.k).2.2 z.2.2.1,z.2.2.2⟩;have nb:b≠a:=fun z=>by rw[z,e] at hb; cases hb
 rw[aV nb]; exact hb
theorem yR (xs:List (PyData×Addr×Value)) (k:PyData) (b:Addr) (u:Value):(storedH xs k b u).length<=xs.length+1:=by
 unfold storedH;split
 ·rw[dH]; omega
 ·rw[gF,lR,zR]; exact bN _
def km (H:Hp) (a:Addr) (kvs:List (PyData×V)) (d:PyData) (v:V) (H':Hp):Prop:=(∃φ,H'=upd H a (.ext φ))/\il H' a (putK kvs d v)
theorem Sv {A:Around} {E:Value->Shared->Prop} {Q:Unit->Shared->Prop} {d:PyData} {y v:V} {u r:Value} (hu:A.units+64<cLine) (I:Inv X pins σ H s) (n:il H a kvs) (hl:kvs.length<sizeLine) (ky:kE H d y) (ry:RelV y u) (rv:RelV v r) (h:∀H' s',km H a kvs d v H'->Inv X pins σ H' s'->Q () s') :
  wpAny (model X.prog X.w) A (setItem (.ref a) u r) Q E s:=by
 obtain⟨b,rfl,rfl⟩:=ky.ref ry;obtain⟨xs,e,rel,dd,z,hd⟩:=Fo I n;have hl':xs.length=kvs.length:=(Paired.length rel).symm;have:=yR xs d b r;refine wpAny_setItem_heap (hsz:=z) (xH hu) (Fp I.hok ky.1 ky.2) dd fun h' dd' hs=>?_;obtain⟨I',n'⟩:=Lb (t':=s.toks+(jh X.prog X.w).draws d) I e hs dd' (by omega) hd (KN.put rel ky.1 ky.2 rv)
 exact h _ _ ⟨⟨_,rfl⟩,n'⟩ I'
theorem km.tup {H H':Hp} {a:Addr} {kvs:List (PyData×V)} {d:PyData} {v:V} (n:il H a kvs) (p:km H a kvs d v H'):∀b xs,H b=some (.tup xs)->H' b=some (.tup xs):=fun b xs h=>by
 obtain⟨⟨φ,rfl⟩,_⟩:=p;obtain⟨ψ,e⟩:=n.ext;have nb:b≠a:=fun z=>by rw[z,e] at h; cases h
 rw[aV nb]; exact h
theorem km.at {H H':Hp} {a:Addr} {kvs:List (PyData×V)} {d e:PyData} {v u:V} (n:il H a kvs) (p:km H a kvs d v H') (h:rZ e=true) (x:At H e u):At H' e u:=At.tupS (km.tup n p) _ _ h x
theorem km.same {H H':Hp} {a:Addr} {kvs:List (PyData×V)} {d:PyData} {v:V} {H0:Hp} (p:km H a kvs d v H') (s:aJ H0 H) (f:H0 a=none):aJ H0 H':=by
 obtain⟨⟨φ,rfl⟩,_⟩:=p;exact s.d_ f
theorem HS (I:Inv X pins σ H s) (n:il H a kvs):s.TypeIs (.ref a) "dict" := by
 obtain⟨xs,e,rel,dd,z,hd⟩:=Fo I n;exact dd.typeIs
end
section
variable {X:Cx}
theorem R_ (hu:X.A.units+64<cLine):mD X (compareOp .In) (fun x y H Q=>∃a kvs d,y=.ref a/\il H a kvs/\kE H d x/\Q (.bl (mH kvs d).isSome) H):=by
 refine .mk ?_;intro pins s σ H x y v u Q I rx ry h;obtain⟨a,kvs,d,rfl,n,k,q⟩:=h;cases ry;exact Wi hu I n k rx fun s' I'=>⟨.bl _,H,I',rfl,q⟩
theorem Ry (hu:X.A.units+64<cLine):Jj X (fun o i v H Q=>∃a kvs d,o=.ref a/\il H a kvs/\kvs.length<sizeLine/\kE H d i/\∀H',km H a kvs d v H'->Q H'):=by
 refine .mk ?_;intro pins s σ H o i v ov iv u Q I ro ri rv h;obtain⟨a,kvs,d,rfl,n,hl,k,q⟩:=h;cases ro;exact Sv hu I n hl k ri rv fun H' s' p I'=>⟨H',I',q H' p⟩
theorem Wq (hu:X.A.units+64<cLine):M3 X (fun x y H Q=>∃a kvs d v,x=.ref a/\il H a kvs/\kE H d y/\mH kvs d=some v/\Q v H):=by
 refine .mk ?_;intro value slice pins s σ H x y v u Q I rx ry h hs;obtain⟨a,kvs,d,v',rfl,n,k,hv,q⟩:=h;cases rx;have hT:=HS I n;unfold subscriptTail;refine aW ?_;rw[getitemInPython_of_ne hT.not_modules];refine aW (zX hT PySem.F.slot_dict_getitem.lookup ?_)
 have fin:wpAny (model X.prog X.w) X.A (subscripted slice false (.ref a) u) (fun r s₃=>wpAny (model X.prog X.w) X.A (letTemporaryGo value (.ref a) r >>= fun _=>pure r) (EP X pins σ Q) X.xe s₃) X.xe s:=by
  rw[hs];exact wpAny_operating (Sw hu I n k hv ry fun w' s' I' Hd=>aW (wpAny_letTemporaryGo (cC ⟨v',H,I',Hd,q⟩)))
 first
  | exact cC (aW fin)
  | exact aW (cC (aW fin))
  | exact aW fin
theorem Ld {h:Heap} (hb:sysModules<h.objs.size):ZX h.objs.size [] (h.push { cls:=.type "dict",data:=.dict #[] }):=
 ⟨_,#[],0,jk _ rfl,⟨rfl,rfl,rfl⟩,rfl,rfl,List.nodup_nil,gD _,beq_eq_false_iff_ne.mpr (Ne.symm (dY hb))⟩
def Ro:TE:=fun _ H Q=>∀p H',H p=none->aJ H H'->il H' p []->(∃φ,H'=upd H p (.ext φ))->Q (.ref p) H'
theorem KQ {pos:Pos}:PE X (.Dict [] [] pos) Ro:=.mk <| fun pins s σ H Q I h=>by
 have hf:=I.hok.fresh (bN s.heap.objs.size);refine wpAny_Dict_empty ⟨.ref s.heap.objs.size,_,I.laid (a:=s.heap.objs.size) (o:=Q9 s.heap.objs.size []) (t':=s.toks) (fun _ _ q=>dW _ q) (bN _) (QZ (Ld I.big)),rfl,h _ _ hf (aL hf _) ⟨[],az,.nil⟩ ⟨_,rfl⟩⟩
end
section
variable {P:Program} {w:World} {K:PySem.W.Frag} {mg:Str->Option Value} {base:Heap} {N:List Str} {qual:Str} {scope:Scope} {f:Addr} {cd:Value} {A:Around} {outer:List Env} {s0:Shared} {H0:Hp} {E:XK}
theorem Hx {pins:List (Addr×Obj)} {σ:St} {H1:Hp} {s1 s':Shared} {e:Value} {E':XK} (I:Inv (fK (mF P w) P w K mg base N qual scope f cd A outer s0 H0 E) pins σ H1 s1) (c:mF P w (envOfC qual scope s0.heap.objs.size f cd::outer) H1 s1 E' e s')
  (hE:∀cls H2,E' cls none H2->∀H3,(aJ H1 H2->aJ H1 H3)->E cls none H3):(fK (mF P w) P w K mg base N qual scope f cd A outer s0 H0 E).xe e s':=by
 obtain⟨a,T0,cls,H2,rfl,os,bare,un,hok,ha,hT0,n0,⟨Xr,SM⟩,q⟩:=c;have na:H1 a=none:=I.hok.none Xr;have YF:H1 T0=none:=I.hok.none SM;have q:=hE cls H2 q;have I2:Inv (fK (mF P w) P w K mg base N qual scope f cd A outer s0 H0 E) pins σ H2 s':=I.call' (ch:=[]) os un hok bare fun b z=>nomatch z
 have ff:s'.heap.FunFrames base (envOfC qual scope s0.heap.objs.size f cd::outer):=I2.stack;have fr:(A.deeper (envOfC qual scope s0.heap.objs.size f cd)).frames=some (envOfC qual scope s0.heap.objs.size f cd::outer):=I2.ok.frames;show wpAny _ _ (leaving (envOfC qual scope s0.heap.objs.size f cd) (.ref a)) _ _ _;unfold leaving;refine aW ?_;refine noteE2 fr ff rfl (qK.at (hok a _ ha)) (uP.at (hok T0 _ hT0)) n0 fun h3 T nt=>?_
 have fT:s'.heap.get? T=none:=by
  cases z:s'.heap.get? T with
  | none=>rfl
  | some o=>exact absurd (eX z) (Nat.not_lt.mpr nt.fresh)
 have nT:H2 T=none:=hok.none fT;have Ta:T≠a:=fun z=>by rw[z,ha] at nT; cases nT
 have TT:T≠T0:=fun z=>by rw[z,hT0] at nT; cases nT
 have I3:Inv (fK (mF P w) P w K mg base N qual scope f cd A outer s0 H0 E) pins σ (upd (upd (upd H2 T0 (Nm T0)) a (qK a cls T)) T (uP T)) { s' with heap:=h3 }:=by
  refine I2.ext (fun b=>b=a\/b=T0\/b=T) (fun b o z y x=>nt.keep b o (fun w=>z (.inl w)) (fun w=>z (.inr (.inl w))) y x) (fun b o z x=>nt.slot b o (fun w=>z (.inl w)) (fun w=>z (.inr (.inl w))) x) (fun b o z x=>?_) (fun b z=>?_) (fun b z=>?_) (fun b u z y=>?_)
  ·rcases z with rfl | rfl | rfl
   ·obtain⟨oe,vs,e1,_⟩:=nt.ex; exact⟨_,e1⟩
   ·exact nt.old
   ·rw[fT] at x; cases x
  ·rcases z with rfl | rfl | rfl
   ·exact .inr ⟨_,ha⟩
   ·exact .inr ⟨_,hT0⟩
   ·exact .inl ⟨nT,fT⟩
  ·rw[aV fun w=>z (.inr (.inr w)),aV fun w=>z (.inl w),aV fun w=>z (.inr (.inl w))]
  ·rcases z with rfl | rfl | rfl
   ·rw[aV (Ne.symm Ta),az] at y; cases y; exact K_ nt.ex
   ·rw[aV (Ne.symm TT),aV n0,az] at y; cases y; exact QX nt.old
   ·rw[az] at y; cases y; exact Fj nt.tb
 have Uq:upd (upd (upd H2 T0 (Nm T0)) a (qK a cls T)) T (uP T) a=some (qK a cls T):=by rw[aV (Ne.symm Ta),az]
 have Xx:upd (upd (upd H2 T0 (Nm T0)) a (qK a cls T)) T (uP T) T=some (uP T):=az
 have sm:aJ H1 H2->aJ H1 (upd (upd (upd H2 T0 (Nm T0)) a (qK a cls T)) T (uP T)):=fun y b o z=>by
  have g:=y b o z;rw[aV (fun w=>by rw[w,nT] at g; cases g),aV (fun w=>by rw[w,na] at z; cases z),aV (fun w=>by rw[w,YF] at z; cases z)]
  exact g
 refine⟨a,T,cls,_,rfl,I3.os,I3.bare,I3.base,I3.hok,Uq,Xx,Ta,⟨?_,?_⟩,q _ sm⟩
 ·cases z:s0.heap.get? a with
  | none=>rfl
  | some o=>
   obtain⟨o',g⟩:=(show Un (frs outer) [] H0 H1 s0.heap s1.heap from I.base).there a o z (by simp)
   rw[Xr] at g; cases g
 ·cases z:s0.heap.get? T with
  | none=>rfl
  | some o=>
   obtain⟨o',g⟩:=(show Un (frs outer) [] H0 H2 s0.heap s'.heap from I2.base).there T o z (by simp)
   rw[fT] at g; cases g
def JS (sp:Sp) (Jr:List V) (E:XK) (t:TA):TE:=fun σ H Q=>t σ H fun vs H1=>sp (vs++Jr) H1 Q (fun cls _ H2=>∀H3,(aJ H1 H2->aJ H1 H3)->E cls none H3)
theorem NP {pins:List (Addr×Obj)} {σ:St} {H:Hp} {s:Shared} {Q:VK} {us:List Value} {vs:List V} {k:Nat} {x:Str} {ps:List Str} {sp:Sp} (c:Nk P w K mg base k x ps sp) (hr:gw k (A.deeper (envOfC qual scope s0.heap.objs.size f cd))) (I:Inv (fK (mF P w) P w K mg base N qual scope f cd A outer s0 H0 E) pins σ H s) (r:Vals vs us)
  (q:sp vs H Q (fun cls _ H2=>∀H3,(aJ H H2->aJ H H3)->E cls none H3)):wpAny (model P w) (A.deeper (envOfC qual scope s0.heap.objs.size f cd)) (call (.ref c.f) us) (EP (fK (mF P w) P w K mg base N qual scope f cd A outer s0 H0 E) pins σ Q) (fK (mF P w) P w K mg base N qual scope f cd A outer s0 H0 E).xe s:=by
 have hl2:us.length=ps.length:=by rw[<- r.length]; exact c.G.len _ _ _ _ q
 have hb:=c.b s us I.kO (by rw[m7]; exact hl2)
 rw[m7] at hb;refine wpAny_call (codeAny_mono (c.G.run _ _ s H ⟨us,[]⟩ us vs _ _ hr I.env0 hb r q) fun r s' z=>?_);cases r with
 | error e'=>
  have z':mF P w (envOfC qual scope s0.heap.objs.size f cd::outer) H s (fun cls _ H2=>∀H3,(aJ H H2->aJ H H3)->E cls none H3) e' s':=z;exact Hx I z' fun cls H2 y=>y
 | ok fl=>
  cases fl with
  | ret u=>
   obtain⟨v,H2,I2,Yl,q2⟩:=I.after z;exact⟨v,H2,I2,Yl,q2⟩
  | next=>exact False.elim z
  | brk=>exact False.elim z
  | cont=>exact False.elim z
theorem pfe {k:Nat} {x:Str} {p pos:Pos} {e:Expr} {es:List Expr} {ps:List Str} {sp:Sp} {t:TA} (c:Nk P w K mg base k x ps sp) (hr:gw k (A.deeper (envOfC qual scope s0.heap.objs.size f cd))) (ha:PA (fK (mF P w) P w K mg base N qual scope f cd A outer s0 H0 E) (e::es) t)
  (hg:Gl (fK (mF P w) P w K mg base N qual scope f cd A outer s0 H0 E) x:=by rfl) (hdb:(x==("__debug__" : Str))=false:=by decide) (h1:bK e=true:=by rfl) (h2:es.all bK=true:=by rfl) :
  PE (fK (mF P w) P w K mg base N qual scope f cd A outer s0 H0 E) (.Call (.Name x p) (e::es) [] pos) (JS sp [] E t):=by
 refine .mk ?_;intro pins s σ H Q I h;refine qi (nG I hg c.m ?_ hdb);refine PySem.W.callWith_K (h₀:=base) I.ok.mod.Px c.kp (cH (ha pos pins s σ H _ I h) fun us s1 ⟨vs,H1,I1,r,q⟩=>⟨I1.kO,?_⟩) (bZ h1) (b_ h2);dsimp only at q;rw[m7] at q;exact NP c hr I1 r q
end
abbrev TX:=St->Hp->VK->(Value->Hp->Hp->Prop)->Prop
abbrev Ji:=Ends->(Value->St->Hp->Hp->Prop)->St->Hp->Prop
def XL (X:Cx) (pins:List (Addr×Obj)) (σ:St) (EE:Value->Hp->Hp->Prop):Value->Shared->Prop:=fun e s'=>∃H1 s1 E',Inv X pins σ H1 s1/\mF X.prog X.w X.stack H1 s1 E' e s'/\∀cls H2,E' cls none H2->EE cls H1 H2
def XLs (X:Cx) (pins:List (Addr×Obj)) (EE:Value->St->Hp->Hp->Prop):Value->Shared->Prop:=fun e s'=>∃σ1 H1 s1 E',Inv X pins σ1 H1 s1/\mF X.prog X.w X.stack H1 s1 E' e s'/\∀cls H2,E' cls none H2->EE cls σ1 H1 H2
structure PX (X:Cx) (e:Expr) (t:TX):Prop where
 mk ::
 go:∀(pins:List (Addr×Obj)) (s:Shared) (σ:St) (H:Hp) (Q:VK) (EE:Value->Hp->Hp->Prop),Inv X pins σ H s->t σ H Q EE->wpAny (model X.prog X.w) X.A (eval e X.env) (EP X pins σ Q) (XL X pins σ EE) s
structure ZW (X:Cx) (st:Stmt) (t:Ji):Prop where
 mk ::
 go:∀(pins:List (Addr×Obj)) (s:Shared) (σ:St) (H:Hp) (D:Ends) (EE:Value->St->Hp->Hp->Prop),Inv X pins σ H s->t D EE σ H->wpAny (model X.prog X.w) X.A (exec st X.env) (SP X pins D) (XLs X pins EE) s
structure Qn (X:Cx) (st:List Stmt) (t:Ji):Prop where
 mk ::
 go:∀(pins:List (Addr×Obj)) (s:Shared) (σ:St) (H:Hp) (D:Ends) (EE:Value->St->Hp->Hp->Prop),Inv X pins σ H s->t D EE σ H->wpAny (model X.prog X.w) X.A (execs st X.env) (SP X pins D) (XLs X pins EE) s
def xPe (te:TE):TX:=fun σ H Q _=>te σ H Q
def Qw (sp:Sp) (Jr:List V) (ta:TA):TX:=fun σ H Q EE=>ta σ H fun vs H1=>sp (vs++Jr) H1 Q (fun cls _ H2=>EE cls H1 H2)
def xIf (tc:TT) (a b:TX):TX:=fun σ H Q EE=>tc σ H fun d H1=>if d=true then a σ H1 Q EE else b σ H1 Q EE
def X7 (i:Nat) (t:TX):Ji:=fun D EE σ H=>t σ H (fun v H'=>D.nx (σ.set i (some v)) H') (fun cls H1 H2=>EE cls σ H1 H2)
def Qu (t:TX):Ji:=fun D EE σ H=>t σ H (fun _ H'=>D.nx σ H') (fun cls H1 H2=>EE cls σ H1 H2)
def Vc (tc:TT) (a b:Ji):Ji:=fun D EE σ H=>tc σ H fun d H1=>if d=true then a D EE σ H1 else b D EE σ H1
def xPs (t:TS):Ji:=fun D _ σ H=>t D σ H
def X8 (a b:Ji):Ji:=fun D EE σ H=>a { D with nx:=fun σ' H'=>b D EE σ' H' } EE σ H
section
variable {X:Cx}
theorem E_ {k:Nat} {x:Str} {p pos:Pos} {e:Expr} {es:List Expr} {ps:List Str} {sp:Sp} {t:TA} (c:Nk X.prog X.w X.K X.mg X.base k x ps sp) (hr:gw k X.A) (ha:PA X (e::es) t)
  (hn:∀e s,X.xe e s->False:=by exact fun _ _ z=>z) (hg:Gl X x:=by rfl) (hdb:(x==("__debug__" : Str))=false:=by decide) (h1:bK e=true:=by rfl) (h2:es.all bK=true:=by rfl) :
  PX X (.Call (.Name x p) (e::es) [] pos) (Qw sp [] t):=by
 refine .mk ?_;intro pins s σ H Q EE I h;refine qi (nG I hg c.m ?_ hdb);refine PySem.W.callWith_K (h₀:=X.base) I.ok.mod.Px c.kp (dX (ha pos pins s σ H _ I h) (fun us s1 ⟨vs,H1,I1,r,q⟩=>⟨I1.kO,?_⟩) fun _ _ z=>(hn _ _ z).elim) (bZ h1) (b_ h2);dsimp only at q;rw[m7] at q;have hl2:us.length=ps.length:=by rw[<- r.length]; exact c.G.len _ _ _ _ q
 have hb:=c.b s1 us I1.kO (by rw[m7]; exact hl2)
 rw[m7] at hb;refine wpAny_call (codeAny_mono (c.G.run _ _ s1 H1 ⟨us,[]⟩ us vs _ _ hr I1.env0 hb r q) fun r s' z=>?_);cases r with
 | error e'=>exact⟨H1,s1,fun cls _ H2=>EE cls H1 H2,I1,z,fun cls H2 y=>y⟩
 | ok fl=>
  cases fl with
  | ret u=>
   obtain⟨v,H2,I2,Yl,q2⟩:=I1.after z;exact⟨v,H2,I2,Yl,q2⟩
  | next=>exact False.elim z
  | brk=>exact False.elim z
  | cont=>exact False.elim z
theorem zY {e:Expr} {te:TX} {pos:Pos} (he:PX X e te) (hs:swapsWith e none pos.line X.env=pure false:=by rfl):ZW X (.Expr e pos) (Qu te):=by
 refine .mk ?_;intro pins s σ H D EE I h;refine wpAny_Expr_any (dX (he.go pins s σ H _ _ I h) (fun v s1 ⟨x,H1,I1,r1,q1⟩=>⟨σ,H1,I1,q1⟩) fun e s z=>?_) I.quiet hs;obtain⟨H1,s1,E',I1,c,q⟩:=z;exact⟨σ,H1,s1,E',I1,c,q⟩
theorem RW {c:Expr} {a b:List Stmt} {pos:Pos} {tc:TT} {t u:Ji} (hc:PT X c tc) (ha:Qn X a t) (hb:Qn X b u) (hn:∀e s,X.xe e s->False:=by exact fun _ _ z=>z):ZW X (.If c a b pos) (Vc tc t u):=by
 refine .mk ?_;intro pins s σ H D EE I h;refine wpAny_If (dX (hc pins s σ H _ I h) (fun d s1 ⟨H1,I1,q1⟩=>?_) fun _ _ z=>(hn _ _ z).elim);cases d with
 | true=>exact ha.go pins s1 σ H1 D EE I1 q1
 | false=>exact hb.go pins s1 σ H1 D EE I1 q1
theorem rO {st:Stmt} {a:Ji} (ha:ZW X st a):Qn X [st] a:=by
 refine .mk ?_;intro pins s σ H D EE I h;refine wpAny_execs_cons (dX (ha.go pins s σ H _ EE I h) (fun fl s1 z=>?_) fun _ _ z=>z);cases fl with
 | next=>exact zV z
 | ret u=>exact z
 | brk=>exact z
 | cont=>exact z
def QB (ie:Nat) (ok:Value->Prop) (tb:Ji) (ts:TS):TS:=fun D σ H=>tb D (fun cls σ1 H1 H2=>ok cls/\∀a H3,(aJ H1 H2->aJ H1 H3)->M4 H3 a cls->ts { nx:=fun σ' H'=>D.nx (σ'.set ie none) H',rt:=fun _ _=>False } (σ1.set ie (some (.ref a))) H3) σ H
theorem Ol {K:PySem.W.Frag} {ie:Nat} {hx n:Str} {CH:Addr} {hp pos tp:Pos} {body:List Stmt} {b0:Stmt} {suite:List Stmt} {tb:Ji} {ts:TS} (hK:X.K=K)
  (hb:Qn X body tb) (hs:∀e,yw (X.in' e) (b0::suite) ts) (hN:X.N.Nodup) (hm:X.mg hx=some (.ref CH)) (hie:X.N[ie]?=some n:=by rfl) (hl:X.env.scope.names.lookup n=some .local:=by rfl) (hgx:Gl X hx:=by rfl)
  (hn:∀e s,X.xe e s->False:=by exact fun _ _ z=>z) (st:X.stack=X.env::X.outer:=by rfl) (fL:X.env.frame=some X.env.locals:=by rfl) (hd:(hx==("__debug__" : Str))=false:=by decide) :
  PS X (.Try body [.ExceptHandler (some (.Name hx hp)) (some n) (b0::suite) pos] [] [] tp) (QB ie (fun cls=>PySem.W.exmOne K cls (.ref CH)=some true) tb ts):=by
 subst hK;refine .mk ?_;intro pins s σ H D I h;refine wpAny_Try_except (dX (hb.go pins s σ H D _ I h) (fun fl s1 z=>?_) fun e s' z=>?_)
 ·cases fl with
  | next=>exact zV z
  | ret u=>exact z
  | brk=>exact z
  | cont=>exact z
 ·obtain⟨σ1,H1,s1,E',I1,c,q⟩:=z;exact Ms I1 c q hN hie hl hgx hm hs hn st fL hd
end
section
variable {X:Cx}
theorem Jb (hc:X.calm=true):cV X (.builtin "any") (fun vs H Q=>∃(p:Addr) (ns:List Int),vs=[.ref p]/\H p=some (.lst (ns.map V.int))/\Q (.bl (ns.any fun n=>n != 0)) H):=by
 refine .mk ?_;intro pins s σ H vs us Q I r h;obtain⟨p,ns,rfl,hp,q⟩:=h;obtain⟨u,rfl,ru⟩:=r.one;cases ru;obtain⟨z,its,n,rv,e⟩:=I.hok p _ hp;have hlen:=rv.length;rw[dH] at hlen;have hl:s.heap.IsList p its.toArray:=⟨_,e,rfl,n,rfl⟩;have lt:p<s.heap.objs.size:=eX e;refine call_any_walk (Ce hl ?_);refine⟨_,_,_,_,_,_,fun i=>(ns.map fun n=>n != 0).getD i false,rfl,Walks.list (A:=X.A.in1) (I.ok.hd hc) _ p (dY lt) _,⟨⟨_,jk _ rfl,rfl,rfl⟩,hl.push _⟩,fun i v s' Q' E' hv hq=>?_,fun h' tk hk=>?_⟩
 ·have hv':its[i]?=some v:=by simpa using(show its.toArray[i]?=some v from hv)
  obtain⟨t,rfl⟩:=mG rv i v hv';have hi:i<ns.length:=by rw[hlen]; exact(iM.mp hv').1
  have eb:(ns.map fun n=>n != 0).getD i false=(ns.getD i 0 != 0):=by simp[iy,hi]
  dsimp only at hq;rw[eb] at hq;exact PySem.P.truthy_int hq
 ·have e3:(List.range its.toArray.size).any (fun i=>(ns.map fun n=>n != 0).getD i false)=ns.any fun n=>n != 0:=by
   have:=range_any (ns.map fun n=>n != 0);rw[dH] at this;rw[fj,<- hlen,this,List.any_map]; rfl
  refine⟨.bl (ns.any fun n=>n != 0),H,I.kept (t':=tk) (fun b o eb=>?_),by rw[<- e3]; rfl,q⟩
  exact hk b o (by simpa using dY (eX eb)) (dW _ eb)
end
theorem Qd {K:PySem.W.Frag} {js:List Nat} {a:Addr} {ns:List Int} {ta:TA} {tc:TT} {te:TE} {σ:St} {H:Hp} {Q:VK} (kp:Nat->Int->Bool) (f:Nat->Int->Int) (hl:∀R:List V->Hp->Prop,R [.ref a] H->ta σ H R) (hb:H a=some (.lst (ns.map V.int))) (hn:ns.length<=1000)
  (test:∀(i:Nat) (x:Int) H',ns[i]?=some x->aJ H H'->∀R:Bool->Hp->Prop,R (kp i x) H'->tc (some (.int (i:Nat))::some (.int x)::cu js σ) H' R)
  (val:∀(i:Nat) (x:Int) H',ns[i]?=some x->kp i x=true->aJ H H'->∀R:VK,R (.int (f i x)) H'->te (some (.int (i:Nat))::some (.int x)::cu js σ) H' R)
  (fin:∀acc H',aJ H H'->H acc=none->H' acc=some (.lst ((((List.range ns.length).filter fun i=>kp i (ns.getD i 0)).map fun i=>f i (ns.getD i 0)).map V.int))->Q (.ref acc) H'):eO 2 js (Ly K ta) (Dh K 2 (gY (dF 0) (gY (dF 1) uF))) tc te σ H Q:=by
 refine hl _ ⟨a,rfl,⟨_,dI.of hb⟩,fun acc hacc=>?_⟩;refine⟨fun i m ys H2=>m=ns.length-i/\i<=ns.length/\ys=((List.range i).filter fun i=>kp i (ns.getD i 0)).map (fun i=>V.int (f i (ns.getD i 0)))/\aJ H H2/\H2 acc=some (.lst ys),⟨_,rfl,gD _,rfl,aL hacc _,az⟩,?_⟩;rintro i m ys H2 ⟨rfl,hi,rfl,sm,hy⟩;have hq:dI K H2 a (ns.map V.int):=dI.of (sm _ _ hb);by_cases hlt:i<ns.length
 ·have e1:ns[i]?=some ns[i]:=gO hlt;have e2:ns.getD i 0=ns[i]:=by simp[iy,hlt]
  refine .inr ⟨⟨_,.int ns[i],hq,by rw[h_,e1]; rfl⟩,fun x H3 y=>?_⟩
  obtain⟨p,y',fp,rfl,rfl,h2⟩:=y;have q2:=h2 _ hq;rw[h_,e1] at q2;cases q2;have s3:aJ H2 (upd H2 p (.tup [.int (i:Nat),.int ns[i]])):=aL fp _;refine⟨p,_,rfl,cY.of az,rfl,(show(_=_/\_=_)/\tc _ _ _ from⟨⟨rfl,by simp⟩,?_⟩)⟩
  have hs:=o9 (fun i=>kp i (ns.getD i 0)) (fun i=>V.int (f i (ns.getD i 0))) i;refine test i _ _ e1 (sm.trans s3) _ ?_;cases h:kp i ns[i] with
  | true=>
   rw[aR rfl];rw[e2,h,aR rfl] at hs;refine val i _ _ e1 h (sm.trans s3) _ ⟨s3 _ _ hy,bD (by have:=Al (fun i=>kp i (ns.getD i 0)) (fun i=>V.int (f i (ns.getD i 0))) i; omega),ns.length-(i+1),by omega,rfl,hlt,hs.symm,(sm.trans s3).d_ hacc,az⟩
  | false=>
   rw[bx (by decide)]
   rw[e2,h,bx (by decide),m7] at hs
   exact⟨ns.length-(i+1),by omega,rfl,hlt,hs.symm,sm.trans s3,s3 _ _ hy⟩
 ·have e:i=ns.length:=by omega
  subst e;refine .inl ⟨⟨_,hq,by rw[dH]; exact bN _⟩,fin _ _ sm hacc ?_⟩
  rw[hy,zL]; rfl
theorem uO:bootBuiltins "ValueError" = some (.type "ValueError"):=by decide +kernel
abbrev jG (K:PySem.W.Frag) (x:Str) (st:Stmt) (f:Addr):Prop:=∃(oc:Value) (od an:Option Addr) (sl:Array (Option Value)) (kV dc pm cd ct:Value),PySem.W.nsIn K mainGlobals x=some (some (.ref f))/\K.lookup f=some ⟨oc,od,.func (PySem.W.fnOf x x (dU st) (cT st) (aM st) .none kV dc pm an cd ct),sl⟩/\PySem.W.codeIn K cd x=true/\PySem.W.keepIn K (.ref f)=true
abbrev UL (K:PySem.W.Frag) (x:Str) (st:Stmt) (f:Addr) (T:Addr) (i:Int):Prop:=∃(oc oT:Value) (od an dT:Option Addr) (sl sT:Array (Option Value)) (kV dc pm cd ct:Value) (t:Tok) (nT:Nat),PySem.W.nsIn K mainGlobals x=some (some (.ref f))/\K.lookup f=some ⟨oc,od,.func (PySem.W.fnOf x x (dU st) (cT st) (aM st) (.ref T) kV dc pm an cd ct),sl⟩/\PySem.W.codeIn K cd x=true/\PySem.W.keepIn K (.ref f)=true/\K.lookup T=some ⟨oT,dT,.seq #[.int i t] nT,sT⟩
structure W_ (K:PySem.W.Frag) (mg:Str->Option Value) (x:Str) (st:Stmt) (ps:List Str) where
 f:Addr
 fd:FuncData
 F:iY K x x st f fd
 b:Binds K fd ps []
 m:mg x=some (.ref f)
structure Ub (K:PySem.W.Frag) (mg:Str->Option Value) (x:Str) (st:Stmt) (ps:List Str) (i:Int) where
 f:Addr
 fd:FuncData
 T:Addr
 t:Tok
 F:DX K x x st f fd T i t
 b:Binds K fd ps []
 bd:Binds K fd ps [.int i t]
 m:mg x=some (.ref f)
section
variable {K:PySem.W.Frag} {h:Heap} {mg:Str->Option Value}
theorem jG.mk {x:Str} {st:Stmt} {f:Addr} {oc:Value} {od an:Option Addr} {sl:Array (Option Value)} {kV dc pm cd ct:Value} (a:PySem.W.nsIn K mainGlobals x=some (some (.ref f))) (l:K.lookup f=some ⟨oc,od,.func (PySem.W.fnOf x x (dU st) (cT st) (aM st) .none kV dc pm an cd ct),sl⟩) (c:PySem.W.codeIn K cd x=true) (k:PySem.W.keepIn K (.ref f)=true):jG K x st f:=⟨oc,od,an,sl,kV,dc,pm,cd,ct,a,l,c,k⟩
theorem UL.mk {x:Str} {st:Stmt} {f T:Addr} {i:Int} {oc oT:Value} {od an dT:Option Addr} {sl sT:Array (Option Value)} {kV dc pm cd ct:Value} {t:Tok} {nT:Nat} (a:PySem.W.nsIn K mainGlobals x=some (some (.ref f))) (l:K.lookup f=some ⟨oc,od,.func (PySem.W.fnOf x x (dU st) (cT st) (aM st) (.ref T) kV dc pm an cd ct),sl⟩) (c:PySem.W.codeIn K cd x=true) (k:PySem.W.keepIn K (.ref f)=true) (e:K.lookup T=some ⟨oT,dT,.seq #[.int i t] nT,sT⟩):UL K x st f T i:=⟨oc,oT,od,an,dT,sl,sT,kV,dc,pm,cd,ct,t,nT,a,l,c,k,e⟩
theorem jG.has {x:Str} {st:Stmt} {f:Addr} (e:jG K x st f) (X:K.In h) (G:h.Ns mainGlobals mg) {ps:List Str} (H:∀(kV doc pm:Value) (an:Option Addr) (cdv ct:Value) (us:List Value),us.length=ps.length->bindArgs (PySem.W.fnOf x x (dU st) (cT st) (aM st) .none kV doc pm an cdv ct) ⟨us,[]⟩=pure (ps.zip us)):Nonempty (W_ K mg x st ps):=by
 obtain⟨oc,od,an,sl,kV,dc,pm,cd,ct,a,l,c,k⟩:=e;have F:=L_ (st:=st) l c k;exact⟨⟨_,_,F,F.binds H,PySem.W.mg_of X G a⟩⟩
theorem UL.has {x:Str} {st:Stmt} {f T:Addr} {i:Int} (e:UL K x st f T i) (X:K.In h) (G:h.Ns mainGlobals mg) {ps:List Str}
  (H:∀(t:Tok) (kV doc pm:Value) (an:Option Addr) (cdv ct:Value) (us:List Value),(us++[]).length=ps.length->∃k,bindArgs (PySem.W.fnOf x x (dU st) (cT st) (aM st) (.ref T) kV doc pm an cdv ct) ⟨us,[]⟩=seqItems? (.ref T) >>= k/\k (some #[.int i t])=pure (ps.zip (us++[])))
  (H':∀(t:Tok) (kV doc pm:Value) (an:Option Addr) (cdv ct:Value) (us:List Value),(us++[Value.int i t]).length=ps.length->∃k,bindArgs (PySem.W.fnOf x x (dU st) (cT st) (aM st) (.ref T) kV doc pm an cdv ct) ⟨us,[]⟩=seqItems? (.ref T) >>= k/\k (some #[.int i t])=pure (ps.zip (us++[.int i t]))):Nonempty (Ub K mg x st ps i):=by
 obtain⟨oc,oT,od,an,dT,sl,sT,kV,dc,pm,cd,ct,t,nT,a,l,c,k,e⟩:=e;have F:DX K x x st f _ T i t:=⟨⟨_,_,_,_,_,_,_,_,_,rfl,l,c⟩,k,⟨_,_,e,rfl⟩⟩;exact⟨⟨_,_,_,_,F,F.binds (H t),F.binds (H' t),PySem.W.mg_of X G a⟩⟩
def W_.ct {x:Str} {st:Stmt} {ps:List Str} {k:Nat} {sp:Sp} (h:W_ K mg x st ps) (P:Program) (w:World) (base:Heap) (G:bV P w K mg base ig k h.f h.fd ps sp):Ct P w K mg base k x ps sp:=⟨h.f,h.fd,G,h.F.kp,h.b,h.m⟩
def W_.ctE {x:Str} {st:Stmt} {ps:List Str} {k:Nat} {sp:Sp} (h:W_ K mg x st ps) (P:Program) (w:World) (base:Heap) (G:bV P w K mg base (mF P w) k h.f h.fd ps sp):Nk P w K mg base k x ps sp:=⟨h.f,h.fd,G,h.F.kp,h.b,h.m⟩
def Ub.ct {x:Str} {st:Stmt} {ps:List Str} {i:Int} {k:Nat} {sp:Sp} (h:Ub K mg x st ps i) (P:Program) (w:World) (base:Heap) (G:bV P w K mg base ig k h.f h.fd ps sp):Qp P w K mg base k x ps i sp:=⟨h.f,h.fd,h.t,G,h.F.kp,h.b,h.bd,h.m⟩
abbrev Nb (K:PySem.W.Frag) (x:Str):Prop:=PySem.W.nsIn K mainGlobals x=some none
abbrev Ni (K:PySem.W.Frag) (x:Str) (i:Int):Prop:=∃t,PySem.W.nsIn K mainGlobals x=some (some (.int i t))
abbrev Bg (K:PySem.W.Frag) (x s:Str):Prop:=∃t,PySem.W.nsIn K mainGlobals x=some (some (.str s t))
theorem Ni.mk {x:Str} {i:Int} {t:Tok} (a:PySem.W.nsIn K mainGlobals x=some (some (.int i t))):Ni K x i:=⟨t,a⟩
theorem Bg.mk {x s:Str} {t:Tok} (a:PySem.W.nsIn K mainGlobals x=some (some (.str s t))):Bg K x s:=⟨t,a⟩
theorem Ni.gi {x:Str} {i:Int} (e:Ni K x i) (X:K.In h) (G:h.Ns mainGlobals mg):Gi mg x i:=let ⟨t,z⟩:=e; ⟨t,PySem.W.mg_of X G z⟩
theorem Bg.gs {x s:Str} (e:Bg K x s) (X:K.In h) (G:h.Ns mainGlobals mg):Gs mg x s:=let ⟨t,z⟩:=e; ⟨t,PySem.W.mg_of X G z⟩
abbrev NT (K:PySem.W.Frag) (x:Str) (vs:List Value):Prop:=∃(a:Addr) (n:Nat) (sl:Array (Option Value)),PySem.W.nsIn K mainGlobals x=some (some (.ref a))/\K.lookup a=some ⟨.type "tuple",none,.seq vs.toArray n,sl⟩
theorem NT.mk {x:Str} {vs:List Value} {a:Addr} {n:Nat} {sl:Array (Option Value)} (b:PySem.W.nsIn K mainGlobals x=some (some (.ref a))) (l:K.lookup a=some ⟨.type "tuple",none,.seq vs.toArray n,sl⟩):NT K x vs:=⟨a,n,sl,b,l⟩
end
section
variable {X:Cx} {pins:List (Addr×Obj)} {σ:St} {H1:Hp} {s1 s':Shared}
end
section
variable {P:Program} {w:World} {K:PySem.W.Frag} {mg:Str->Option Value} {base:Heap}
structure CtF (P:Program) (w:World) (K:PySem.W.Frag) (mg:Str->Option Value) (base:Heap) (k:Nat) (x:Str) (ps:List Str) (i:Int) (sp:Sp) where
 f:Addr
 fd:FuncData
 t:Tok
 G:bV P w K mg base (mF P w) k f fd ps sp
 kp:PySem.W.keepIn K (.ref f)=true
 b:Binds K fd ps []
 bd:Binds K fd ps [.int i t]
 m:mg x=some (.ref f)
end
section
variable {X:Cx}
end
section
variable {X:Cx}
def VV:List V->Hp->VK->Prop:=fun vs H Q=>∃j:Int,vs=[.int j]/\-(2 ^ 62)<=j/\j<2 ^ 62/\∀p H',H p=none->aJ H H'->H' p=some (.Uk 0 j)->Q (.ref p) H'
def V3:List V->Hp->VK->Prop:=fun vs H Q=>∃(p:Addr) (j:Int),vs=[.ref p]/\H p=some (.Uk 0 j)/\-(2 ^ 62)<=j/\j<2 ^ 62/\j.toNat<=1000/\∀l H',H l=none->aJ H H'->H' l=some (.lst ((List.range j.toNat).map fun i:Nat=>V.int i))->Q (.ref l) H'
end
def YQ (a b:TI):TI:=fun σ H R=>a σ H R\/b σ H R
theorem PI.or {X:Cx} {tg it:Expr} {a b:TI} (h:PI X tg it a) (h':PI X tg it b):PI X tg it (YQ a b):=.mk fun pins s σ H R I q=>q.elim (h pins s σ H R I) (h' pins s σ H R I)
theorem uX {nt:Nat} {js:List Nat} {a b:TI} {g:TG} {tc:TT} {te:TE} {σ:St} {H:Hp} {Q:VK}:eO nt js (YQ a b) g tc te σ H Q=(eO nt js a g tc te σ H Q\/eO nt js b g tc te σ H Q):=rfl
theorem Ou {X:Cx} {K:PySem.W.Frag} {e e':Expr} {elts:List Expr} {x1} {tp p pos:Pos} {ta:TA} (hK:X.K=K) (hm:X.mg "zip" = none) (ha:PA X [e,e'] ta) (hg:Gl X "zip" := by rfl) (h1:bK e=true:=by rfl) (h2:bK e'=true:=by rfl) :
  PI X (.Tuple elts x1 tp) (.Call (.Name "zip" p) [e,e'] [] pos) (YQ (Ls K ta) (Lw K ta)):=.or (Fe hK hm ha hg h1 h2) (Ot hK hm ha hg h1 h2)
section
variable {X:Cx}
theorem JB {xs:List V}:∀{us:List Value},Vals xs us->∀{j:Nat} {x:V},xs[j]?=some x->∃u,us[j]?=some u/\RelV x u:=by
 induction xs with
 | nil=>intro us _ j x h; simp at h
 | cons y ys ih=>
  intro us r j x h;cases r with
  | cons r1 r2=>
   cases j with
   | zero=>simp at h; subst h; exact⟨_,rfl,r1⟩
   | succ j=>simp at h; obtain⟨u,h1,h2⟩:=ih r2 h; exact⟨u,by simpa using h1,h2⟩
theorem GC {xs:List V}:∀{us:List Value},Vals xs us->∀{j:Nat} {u:Value},us[j]?=some u->∃x,xs[j]?=some x/\RelV x u:=by
 induction xs with
 | nil=>intro us r j u h; cases r; simp at h
 | cons y ys ih=>
  intro us r j x h;cases r with
  | cons r1 r2=>
   cases j with
   | zero=>simp at h; subst h; exact⟨_,rfl,r1⟩
   | succ j=>simp at h; obtain⟨u,h1,h2⟩:=ih r2 h; exact⟨u,by simpa using h1,h2⟩
end
section
variable {X:Cx}
end
def Tn (bs:List Bool) (j:Nat):Prop:=bs[j]?=some true/\∀m,m<j->bs[m]?≠some true
def V4:V->List V->Hp->VK->Prop:=fun x xs H Q=>∃(p:Addr) (bs:List Bool) (j:Nat),x=.ref p/\H p=some (.lst (bs.map V.bl))/\xs=[.bl true]/\bs.length<=1000/\Tn bs j/\Q (.int (j:Nat)) H
def V6:V->List V->Hp->VK->Prop:=fun x xs H Q=>∃(p:Addr) (bs:List Bool),x=.ref p/\H p=some (.lst (bs.map V.bl))/\xs=[.bl true]/\Q (.int ((bs.countP id:Nat):Int)) H
section
variable {X:Cx}
def yp:Value->Bool
 | .bool b=>b
 | _=>false
theorem ym {bs:List Bool} {its:List Value} (r:Vals (bs.map V.bl) its) {m:Nat} {u:Value} (hm:its[m]?=some u):∃b,bs[m]?=some b/\u=.bool b:=by
 obtain⟨x,h1,h2⟩:=GC r hm;rw[h_] at h1;cases ha:bs[m]? with
 | none=>rw[ha] at h1; cases h1
 | some a=>
  rw[ha] at h1;cases h1;exact⟨a,rfl,h2⟩
theorem Q6 {A:Around} {s:Shared} (b:Bool):SeqAt.EqAt A s (.bool b) (.bool true) (yp (.bool b)):=by
 have:=SeqAt.EqAt.bool_bool (A:=A) (s:=s) b true;have e:(b==true)=yp (.bool b):=by cases b <;> rfl
 rw[e] at this;exact this
theorem CP:T7 X "list.index" V4:=by
 intro pins s σ H x xs v us Q I rx rv h;obtain⟨p,bs,j,rfl,hp,rfl,hl,⟨hj,hno⟩,q⟩:=h;cases rx;obtain⟨u,rfl,ru⟩:=rv.one;cases(ru:u=.bool true);obtain⟨_,its,n,r,e⟩:=I.hok p _ hp
 have ee:∀y,y∈its.toArray->SeqAt.EqAt X.A.in1 s y (.bool true) (yp y):=fun y hy=>by
  obtain⟨m,hm⟩:=List.mem_iff_getElem?.mp (List.mem_toArray.mp hy);obtain⟨b,_,rfl⟩:=ym r hm;exact Q6 b
 obtain⟨u,hu,ru⟩:=JB r (x:=.bl true) (by rw[h_,hj]; rfl)
 cases(ru:u=.bool true);have hlt:j<its.length:=(iM.mp hu).1;have hlen:its.length=bs.length:=by rw[<- r.length,dH]
 refine call_meets PySem.F.slot_list_index ⟨_,e,rfl⟩ PySem.F.entry_list_index (PySem.F.args_list_index_2 _ _) (SeqAt.list_indexAt p its.toArray n none #[] (.bool true) yp j (by simpa using hlt) (by omega) ?_ ?_) ⟨e,ee,?_⟩
 ·have:=(iM.mp hu).2;show yp its[j]=true;rw[this];rfl
 ·intro m hm h;have hm':m<its.length:=by simpa using hm
  obtain⟨b,h1,h2⟩:=ym r (gO hm');show yp its[m]=false;rw[h2];show b=false;have:=hno m h;rw[h1] at this;simpa using this
 ·exact⟨.int (j:Nat),H,I.tok _,⟨_,rfl⟩,q⟩
theorem Mq:∀{bs:List Bool} {its:List Value},Vals (bs.map V.bl) its->its.countP yp=bs.countP id
 | [],_,.nil=>rfl
 | b::bs,_,.cons r t=>by
  cases(r:_=Value.bool b);rw[List.countP_cons,List.countP_cons,Mq t];rfl
theorem CQ:T7 X "list.count" V6:=by
 intro pins s σ H x xs v us Q I rx rv h;obtain⟨p,bs,rfl,hp,rfl,q⟩:=h;cases rx;obtain⟨u,rfl,ru⟩:=rv.one;cases(ru:u=.bool true);obtain⟨_,its,n,r,e⟩:=I.hok p _ hp
 have ee:∀y,y∈its.toArray->SeqAt.EqAt X.A.in1 s y (.bool true) (yp y):=fun y hy=>by
  obtain⟨m,hm⟩:=List.mem_iff_getElem?.mp (List.mem_toArray.mp hy);obtain⟨b,_,rfl⟩:=ym r hm;exact Q6 b
 refine call_meets PySem.F.slot_list_count ⟨_,e,rfl⟩ PySem.F.entry_list_count (PySem.F.args_list_count_2 _ _) (SeqAt.list_countAt p its.toArray n none #[] (.bool true) yp) ⟨e,ee,?_⟩;exact⟨.int ((bs.countP id:Nat):Int),H,I.tok _,⟨s.toks,by rw[<- Mq r]⟩,q⟩
end
section
variable {X:Cx}
end
section
variable {X:Cx}
end
section
variable {X:Cx}
end
abbrev TAX:=St->Hp->(List V->Hp->Prop)->(Value->Hp->Hp->Prop)->Prop
structure XR (X:Cx) (es:List Expr) (t:TAX):Prop where
 mk ::
 go:∀(pos:Pos) (pins:List (Addr×Obj)) (s:Shared) (σ:St) (H:Hp) (Q:List V->Hp->Prop) (EE:Value->Hp->Hp->Prop),Inv X pins σ H s->t σ H Q EE->wpAny (model X.prog X.w) X.A (spliced (backTo pos (starEach es X.env))) (AP X pins σ Q) (XL X pins σ EE) s
def Vb:TAX:=fun _ H Q _=>Q [] H
def Qv (t:TX) (u:TAX):TAX:=fun σ H Q EE=>t σ H (fun v H1=>u σ H1 (fun vs H2=>Q (v::vs) H2) EE) EE
section
variable {X:Cx}
theorem EY:XR X [] Vb:=.mk <| fun _ _ _ _ H Q EE I h=>Calls.spliced_nil ⟨[],H,I,.nil,h⟩
theorem QT {e:Expr} {es:List Expr} {t:TX} {u:TAX} (ha:PX X e t) (hr:XR X es u) (h:bK e=true:=by rfl):XR X (e::es) (Qv t u):=by
 refine .mk ?_;intro pos pins s σ H Q EE I q;rw[bZ h];show wpAny _ _ (spliced ((false,eval e X.env)::backTo pos (starEach es X.env))) _ _ s;refine Calls.spliced_cons (dX (ha.go pins s σ H _ EE I q) (fun u s1 ⟨v,H1,I1,r1,q1⟩=>?_) fun _ _ z=>z);exact dX (hr.go pos pins s1 σ H1 _ EE I1 q1) (fun us s2 ⟨xs,H2,I2,r2,q2⟩=>⟨v::xs,H2,I2,.cons r1 r2,q2⟩) fun _ _ z=>z
end
open SetTable (Probe runEnd leap turns bits)
def adv (m:Nat) (p:Probe):Probe:=
 if p.more>0 then { p with j:=p.j+1,more:=p.more-1 } else
 { p with j:=(leap m p.i p.perturb).1,more:=runEnd m (leap m p.i p.perturb).1-(leap m p.i p.perturb).1,i:=(leap m p.i p.perturb).1,perturb:=(leap m p.i p.perturb).2 }
def itr (m:Nat):Nat->Probe->Probe
 | 0,p=>p
 | n+1,p=>itr m n (adv m p)
structure WP (m:Nat) (p:Probe):Prop where
 i:p.i<=m
 j:p.j+p.more=runEnd m p.i
 q:p.perturb<2 ^ 64
 d:p.dummy=none
 ij:p.i<=p.j
def jmp (m i q:Nat):Probe:={ j:=i,more:=runEnd m i-i,i:=i,perturb:=q,dummy:=none }
def W2 (xs:Array Nat):Prop:=∀(a b x y:Nat),xs[a]?=some x->xs[b]?=some y->a<b->x<y
end L2
namespace L2
open PySem PySem.Spec PyProof.Rows
open SetTable (Probe runEnd leap turns bits)
def way (m:Nat) (h:Int) (n:Nat):Nat:=(itr m n (jmp m (bits h % (m+1)) (bits h))).j
def Path (m:Nat) (occ:Nat->Prop) (h:Int) (j:Nat):Prop:=∃n,way m h n=j/\∀n',n'<n->occ (way m h n')
structure TbI (t:SetTable) (hs:List Int):Prop where
 dm:t.dummies = #[]
 ri:W2 t.place
 sz:t.place.size=hs.length
 le:∀i j:Nat,t.place[i]?=some j->j<=t.mask
 pw:∃k,3<=k/\k<=12/\t.mask+1=2 ^ k
 fl:5*hs.length<3*t.mask
 pa:∀(i:Nat) (h:Int) (j:Nat),hs[i]?=some h->t.place[i]?=some j->Path t.mask (fun y=>∃i:Nat,t.place[i]?=some y) h j
structure TbJ (t:SetTable) (hs:List Int):Prop where
 dm:t.dummies = #[]
 ri:W2 t.place
 sz:t.place.size=hs.length
 le:∀i j:Nat,t.place[i]?=some j->j<=t.mask
 pw:∃k,3<=k/\k<=12/\t.mask+1=2 ^ k
 fl:hs.length<=t.mask
 pa:∀(i:Nat) (h:Int) (j:Nat),hs[i]?=some h->t.place[i]?=some j->Path t.mask (fun y=>∃i:Nat,t.place[i]?=some y) h j
end L2
namespace L2
open PySem PySem.Spec PyProof.Rows
open SetTable (Probe runEnd leap turns bits)
structure OW (m:Nat) (ow:Array (Option Nat)) (hs:List Int):Prop where
 sz:ow.size=m+1
 ct:ow.toList.countP Option.isSome=hs.length
 at_:∀(l:Nat) (h:Int),hs[l]?=some h->∃j,j<=m/\ow[j]?=some (some l)/\Path m (fun y=>∃l,ow[y]?=some (some l)) h j
 lt:∀j l:Nat,ow[j]?=some (some l)->l<hs.length
 inj:∀j j' l:Nat,ow[j]?=some (some l)->ow[j']?=some (some l)->j=j'
theorem getD_none {ow:Array (Option Nat)} {j:Nat} (h:ow.getD j (some 0)=none):ow[j]?=some none:=by
 rw[Array.getD_eq_getD_getElem?] at h;cases e:ow[j]? with
 | none=>rw[e] at h; cases h
 | some o=>rw[e] at h; exact lO some h
end L2
namespace L2
open PySem PySem.Spec PyProof.Rows
open SetTable (Probe runEnd leap turns bits)
section
variable {prog:Program} {w:World} {A:Around} {E:Value->Shared->Prop} {s:Shared}
def skE (x:PyData×Addr):Int×Value:=(sX x.1,.ref x.2)
structure SkI (h:Heap) (a:Addr) (o:Obj) (es:Array (Int×Value)) (ep:Nat) (t:SetTable) (xs:List (PyData×Addr)):Prop where
 get:h.get? a=some o
 ex:o.ExactSet
 dt:o.data=.set es ep t
 es:es.toList=xs.map skE
 ti:TbI t (xs.map fun x=>sX x.1)
 nd:(xs.map (·.1)).Nodup
end
end L2
namespace L2
open PySem PySem.Spec PyProof.Rows
open SetTable (Probe runEnd leap turns bits)
section
variable {prog:Program} {w:World} {A:Around} {E:Value->Shared->Prop} {s:Shared}
end
def SkP (a:Addr) (xs:List (PyData×Addr)) (h:Heap):Prop:=∃o es ep t,SkI h a o es ep t xs
def SkO (a:Addr) (xs:List (PyData×Addr)):HO:=.ext (SkP a xs)
def Ql (H:Hp) (a:Addr) (ks:List PyData):Prop:=∃xs,H a=some (SkO a xs)/\(∀d,d∈ks↔d∈xs.map (·.1))/\(∀x∈xs,uc x.1/\At H x.1 (.ref x.2))/\xs.length<=ks.length
section
variable {X:Cx} {pins:List (Addr×Obj)} {σ:St} {H:Hp} {s:Shared} {a:Addr} {ks:List PyData}
def WY (H:Hp) (a:Addr) (ks:List PyData) (d:PyData) (H':Hp):Prop:=(∃φ,H'=upd H a (.ext φ))/\Ql H' a (ks++[d])
end
end L2
namespace L2
open PySem PySem.Spec PyProof.Rows
section
variable {X:Cx} {pins:List (Addr×Obj)} {σ:St} {H:Hp} {s:Shared} {a:Addr} {ks:List PyData}
end
section
variable {X:Cx}
def V1:List V->Hp->VK->Prop:=fun vs H Q=>vs=[]/\∀p H',H p=none->aJ H H'->Ql H' p []->(∃φ,H'=upd H p (.ext φ))->Q (.ref p) H'
def Vh (to:TE) (t:TA):TE:=fun σ H Q=>to σ H fun x H1=>(∃a ks,x=.ref a/\Ql H1 a ks)/\t σ H1 fun vs H2=>∃a ks y d,x=.ref a/\vs=[y]/\Ql H2 a ks/\ks.length<1000/\kE H2 d y/\∀H3,WY H2 a ks d H3->Q .non H3
end
def Z_ (K:PySem.W.Frag) (T:String) (r:V->List V->Hp->VK->Prop) (to:TE) (t:TAX):TX:=fun σ H Q EE=>to σ H fun x H1=>Xj K T x H1/\t σ H1 (fun xs H2=>r x xs H2 Q) EE
section
variable {X:Cx} {K:PySem.W.Frag} {o e:Expr} {es:List Expr} {to:TE} {t:TAX} {name:Str} {apos cpos:Pos} {T id:String} {r:V->List V->Hp->VK->Prop}
theorem Ks (hK:X.K=K) (pa:PlainAttrs T) (slot:Slot T name id) (hty:typeOf (.builtin id)=pure (.type "method_descriptor")) (hm:T7 X id r) (ho:PE X o to) (ha:XR X (e::es) t) (hx:∀e s,X.xe e s->False:=by exact fun _ _ z=>z)
  (hbase:attributeBase o name X.env (eval o X.env)=eval o X.env:=by rfl)
  (hfew:((backTo cpos (starEach (e::es) X.env)).all (fun x=>!x.1)&&(backToKw cpos (keywordEach [] X.env)).all (fun x=>x.1.isSome)
   && decide ((e::es).length+([]:List Keyword).length+(if([]:List Keyword).isEmpty then 0 else 1)<30))=true:=by rfl)
  (hline:(apos.endLine==cpos.line)=true:=by rfl) (hs:starEach (e::es) X.env=(false,eval e X.env)::starEach es X.env:=by rfl) (hplain:(backTo cpos (starEach es X.env)).any (·.1)=false:=by rfl) :
  PX X (.Call (.Attribute o name apos) (e::es) [] cpos) (Z_ K T r to t):=by
 subst hK;refine .mk ?_;intro pins s σ H Q EE I h;refine wpAny_Call_method_late hbase hfew hline rfl (dX (ho pins s σ H _ I h) (fun v s1 qx=>?_) fun e s z=>(hx e s z).elim);obtain⟨x,H1,I1,r1,ty,q1⟩:=qx;obtain⟨h1,h2⟩:=JG I1 r1 ty;refine⟨T,id,pa,slot,hty,h1,h2,?_⟩;have hA:=ha.go cpos pins s1 σ H1 _ EE I1 q1;rw[hs] at hA ⊢;refine Calls.callWith_builtin (by show(false || (backTo cpos (starEach es X.env)).any (·.1))=false; rw[hplain] <;> rfl) (Calls.evalArgs_plain ?_)
 exact dX hA (fun us s2 ⟨vs,H2,I2,r2,q2⟩=>dX (hm pins s2 σ H2 x vs v us Q I2 r1 r2 q2) (fun _ _ z=>z) fun e s z=>(hx e s z).elim) fun _ _ z=>z
end
theorem oX:fillsNumberSlot (.type "tuple") "mul" = pure false:=
 PySem.fillsNumberSlot_seq (id:="tuple.__mul__") (r:=some (.builtin "tuple.__rmul__")) F.slot_tuple_mul.lookup (by decide +kernel) F.slot_tuple_rmul.lookup (by decide +kernel)
theorem wR:seqRepeat? (.type "tuple")=pure (some (.builtin "tuple.__mul__")):=by
 unfold seqRepeat?;rw[PySem.seqSlot_of (T:="tuple") (name:="__mul__") (id:="tuple.__mul__") F.slot_tuple_mul.lookup (by decide +kernel),PySem.seqSlot_of (T:="tuple") (name:="__rmul__") (id:="tuple.__rmul__") F.slot_tuple_rmul.lookup (by decide +kernel)]
 rfl
theorem rF (a:Int) (t:Tok) (l:Addr) (items:Array Value) (n:Nat) (dd:Option Addr) (sl:Array (Option Value)) :
  Meets (Builtin.«int.__rmul__» ⟨[.int a t,.ref l],[]⟩) (fun _ R s=>s.heap.get? l=some { cls:=.type "tuple",dict:=dd,data:=.seq items n,slots:=sl }/\R (.ok (.ret Value.notImplemented)) s):=
 .of_wp fun prog w A R s h=>by obtain⟨hp,g,d,tk,os⟩:=s; obtain⟨hl,h⟩:=h; wp_walk; exact⟨_,rfl,h⟩
theorem Bq (l:Addr) (x:Value) (n:Nat) (u:Tok) (dd:Option Addr) (sl:Array (Option Value)) :
  Meets (Builtin.«tuple.__mul__» ⟨[.ref l,.int 3 u],[]⟩) (fun _ R s=>s.heap.get? l=some { cls:=.type "tuple",dict:=dd,data:=.seq #[x] n,slots:=sl }/\R (.ok (.ret (Value.ref s.heap.objs.size))) { s with heap:=s.heap.push { cls:=.type "tuple",data:=.seq #[x,x,x] } }):=
 .of_wp fun prog w A R s h=>by
  obtain⟨hp,g,d,tk,os⟩:=s; obtain⟨hl,h⟩:=h
  wp_walk using wpAny_loadPart' hl
  exact⟨_,rfl,h⟩
def V0:R2:=fun x y H Q=>∃(a:Addr) (v:V),x=.ref a/\y=.int 3/\H a=some (.tup [v])/\∀p H',H p=none->aJ H H'->H' p=some (.tup [v,v,v])->Q (.ref p) H'
section
variable {X:Cx}
theorem Oz:mD X (binaryOp .Mult) V0:=by
 refine .mk ?_;intro pins s σ H x y v u Q I rx ry h;obtain⟨a,z,rfl,rfl,ha,q⟩:=h;cases rx;obtain⟨t,rfl⟩:=ry;obtain⟨_,its,r,⟨cls,dd,data,sl⟩,e,hc,n,hd⟩:=I.hok a _ ha;simp only at hc hd;subst hc hd;obtain⟨w0,rfl,r0⟩:=r.one;refine wpAny_binaryOp_repeat_ref (T:="tuple") (U:="int") (by decide) ⟨_,e,rfl⟩ (fun s'=>typeIs_int s' 3 t) oX F.fills_int_mul F.slot_int_rmul wR F.slot_int_index.lookup
  (call_meets F.slot_int_rmul (typeIs_int s 3 t) F.entry_int_rmul (F.args_int_rmul_2 _ _) (rF 3 t a _ n dd sl)
   ⟨e,rfl,⟨_,e,rfl⟩,call_meets F.slot_tuple_mul ⟨_,e,rfl⟩ F.entry_tuple_mul (F.args_tuple_mul_2 _ _) (Bq a w0 n t dd sl) ⟨e,?_⟩⟩)
 have fr:=I.hok.fresh (bN s.heap.objs.size);refine⟨.ref s.heap.objs.size,_,I.laid (t':=s.toks) (o:=.tup [z,z,z]) (fun b ob q=>dW _ q) (bN _) ?_,rfl,q _ _ fr (aL fr _) az⟩;exact⟨(show 3<=sizeLine by decide),_,.cons r0 (.cons r0 (.cons r0 .nil)),IsTup.new _ _⟩
end
section
variable {prog:Program} {w:World} {A:Around} {E:Value->Shared->Prop} {s:Shared}
end
section
variable {X:Cx} {pins:List (Addr×Obj)} {σ:St} {H1:Hp} {s1 s':Shared}
end
end L2
namespace L2
open PySem PySem.Spec PyProof.Rows PySem.MeetsSeq3
section
variable {X:Cx}
end
end L2
namespace L2
open PySem PySem.Spec PyProof.Rows PySem.MeetsSeq3
section
variable {X:Cx}
end
end L2
namespace L2
open PySem
structure Tps (H:Hp) (as:List Addr) (N:Nat):Prop where
 tp:∀a∈as,∃n,n<=N/\Tp H a n
end L2
namespace L2
open PySem
end L2
namespace L2
open PySem PySem.Spec PyProof.Rows
section
variable {X:Cx}
end
section
variable {prog:Program} {w:World} {A:Around} {E:Value->Shared->Prop} {s:Shared}
end
structure XQ (H:Hp) (xs:List V) (kvs:List (PyData×V)):Prop where
 n:xs.length=kvs.length
 p:∀(i:Nat) (x:V) (q:PyData×V),xs[i]?=some x->kvs[i]?=some q->∃t y,x=.ref t/\H t=some (.tup [y,q.2])/\kE H q.1 y
section
variable {X:Cx} {pins:List (Addr×Obj)} {σ:St}
end
section
variable {X:Cx}
end
section
variable {X:Cx}
end
section
variable {X:Cx}
end
section
variable {X:Cx}
end
end L2
namespace Z0
open PySem L2
def top (i:Nat):Stmt:=PySem.Challenge.pw_waithands_k98_whole_long_rounds_and_grea.main.body.getD i (.Pass ⟨0,0,0,0⟩)
abbrev qX:Stmt:=top 6
abbrev jm:Stmt:=top 7
abbrev BP:Stmt:=top 8
abbrev iJ:Stmt:=top 9
abbrev BL:Stmt:=top 11
abbrev jR:Stmt:=top 12
abbrev lH:Stmt:=top 13
abbrev lM:Stmt:=top 16
abbrev BR:Stmt:=top 18
abbrev fV:Stmt:=top 19
abbrev jU:Stmt:=top 20
abbrev iI:Stmt:=top 21
abbrev jQ:Stmt:=top 22
abbrev qW:Stmt:=top 35
abbrev lJ:Stmt:=top 36
abbrev lK:Stmt:=top 37
abbrev rm:Stmt:=top 39
abbrev rC:Stmt:=top 40
abbrev lL:Stmt:=top 41
abbrev oh:Stmt:=top 42
abbrev wQ:Stmt:=top 43
abbrev oA:Stmt:=top 44
abbrev rn:Stmt:=top 45
abbrev ou:Stmt:=top 46
abbrev jn:Stmt:=top 47
abbrev qZ:Stmt:=top 48
abbrev rD:Stmt:=top 49
abbrev mW:Stmt:=top 50
abbrev jT:Stmt:=top 51
abbrev q_:Stmt:=top 52
abbrev oE:Stmt:=top 53
abbrev fW:Stmt:=top 54
abbrev rB:Stmt:=top 55
abbrev gC:Stmt:=top 56
abbrev qY:Stmt:=top 57
structure Bi (mg:Str->Option Value):Prop where
 tuple:mg "tuple" = none
 max:mg "max" = none
 min:mg "min" = none
 enumerate:mg "enumerate" = none
 zip:mg "zip" = none
 sum:mg "sum" = none
 list:mg "list" = none
 reversed:mg "reversed" = none
 range:mg "range" = none
 len:mg "len" = none
 any:mg "any" = none
 abs:mg "abs" = none
 int:mg "int" = none
 isinstance:mg "isinstance" = none
 str:mg "str" = none
 all:mg "all" = none
 bool:mg "bool" = none
 ValueError:mg "ValueError" = none
structure Co (K:PySem.W.Frag) (mg:Str->Option Value):Prop where
 Q7:GT2 K mg "WHATS" Jz
 OVER:Gs mg "OVER" "over"
 UNDER:Gs mg "UNDER" "under"
 EACH:Gs mg "EACH" "each"
 T9:Gi mg "MOST_HANDS" 12
 yr:Gi mg "TRIPLES_SEEN" 3
local macro_rules | `(tactic| walk_at "o")=>`(tactic| first | exact Or.inl rfl | exact Or.inr rfl)
local macro_rules | `(tactic| walk_at "c")=>`(tactic| exact⟨rfl,rfl,rfl,by decide +kernel,rfl,by decide +kernel,by decide +kernel⟩)
local macro_rules | `(tactic| walk_at "rd")=>`(tactic| simp only[L2.start,ux,List.map_nil,lR,zR,Nat.reduceAdd,Nat.reduceSub,List.replicate,List.cons_append,zT,m7,
 JN,Nz,Vk,Vj,QG,yQ,dF,QK,N6,N5,Ka,Oa,if_true,if_false,Ci,Hg,Bool.not_false,N_,N8,RN,RK,RM,RJ,Ob,Oc,Kc,N7,RL,VN,tC,Rk,tUn,QS,rI,rU,JM,Vq,tOr,Vn,QM,Vm,QF,tIf,lB,Ui,Ec,Rm,tB,Rp,tSl,Eb,QC,Ww,Vl,Vo,Rj,QJ,Qz,Yc,Vp,QD,QL,YM,QH,Rn,tFv,tJs,tJ1,tJ0,Yb,JS,JP,xPe,Qw,xIf,X7,Qu,Vc,xPs,X8,Z_,Qv,Vb,Vh,V1,VV,V3])
section
variable {P:Program} {w:World} {K:PySem.W.Frag} {mg:Str->Option Value} {base:Heap} {f:Addr} {fd:FuncData} {k:Nat}
theorem nj {X:Cx}:mD X (binaryOp .FloorDiv) (rI (fun _ j=>0<j/\j<10 ^ 60) fun i j=>.int (i / j)):=We fun i j _ _ _ _ _ hc q=>by
 have h1:(0:Int)<j:=hc.1;have h2:j<10 ^ 60:=hc.2;refine PyProof.Rows.floordiv_int (by omega) (by rw[Int.fdiv_eq_ediv_of_nonneg i (by omega)]; exact q) (.inl (PyProof.noPylong_of_log2 ?_))
 have:j.natAbs<10 ^ 60:=by omega
 by_cases z:j.natAbs=0
 ·omega
 ·have h3:j.natAbs<2 ^ 1000:=zM this (by decide +kernel)
  have:=(Nat.log2_lt z).mpr h3;omega
structure fP where
 w:Str
 s:Nat
 g:Str
 n:Int
 t:Int
def lN (r:fP):PyData:=.tuple [.str r.w,.int r.s,.str r.g,.int r.n,.int r.t]
def pP (rs:List fP):PyData:=.tuple (rs.map lN)
def BW (eN:List (List fP)):PyData:=.tuple (eN.map pP)
structure nW (r:fP):Prop where
 w:r.w∈(["come","done","wait"]:List Str)
 s:1<=r.s/\r.s<=4
 n:0<=r.n/\r.n<=1000000000000
 e:r.g = "each" -> 1<=r.n
def cZ (l:List Int):PyData:=.tuple (l.map .int)
def Br (bW:List (List Int)):PyData:=.tuple (bW.map cZ)
structure iW (bW:List (List Int)):Prop where
 n:bW.length=4
 l:∀x∈bW,x.length=3
def lA (w:Str) (s:Nat) (bW:List (List Int)):Int:=((bW.take s).map fun l=>l.getD (dN w) 0).sum
def says (r:fP) (h:Int) (bW:List (List Int)):Option Int:=
 if r.g = "each" then some ((lA r.w r.s bW+r.n*r.s-1) / (r.n*r.s))
 else if(r.g = "over" /\ lA r.w r.s bW>r.n*r.s)\/(r.g = "under" /\ lA r.w r.s bW<r.n*r.s) then some (h+r.t) else none
def mV:Option Int->V
 | none=>.non
 | some i=>.int i
def cQ (h:Int) (bW:List (List Int)):List fP->Int
 | []=>h
 | r::rs=>match says r h bW with
  | some i=>i
  | none=>cQ h bW rs
def topOf (h:Int):List Int->Int
 | []=>h
 | b::r=>dh b r
def fQ (eN:List (List fP)) (l m h:Int) (bW:List (List Int)):Int:=
 let x:=topOf h (eN.map (cQ h bW))
 let y:=if l>x then l else x
 if m<y then m else y
theorem uR (w:Str):dN w<3:=by
 unfold dN;split
 ·decide
 ·split <;> decide
theorem bC {H:Hp} {ds:List PyData} {v:V} (h:At H (.tuple ds) v):∃a xs,v=.ref a/\H a=some (.tup xs)/\ak H ds xs:=by unfold At at h; exact h
theorem ak.bw {H:Hp} {d:PyData} {ds:List PyData} {xs:List V} (h:ak H (d::ds) xs):∃x r,xs=x::r/\At H d x/\ak H ds r:=by unfold ak at h; exact h
theorem ak.pH {H:Hp} {xs:List V} (h:ak H [] xs):xs=[]:=by unfold ak at h; exact h
theorem du {G:Hp}:∀{cs:List Int} {xs:List V},ak G (cs.map PyData.int) xs->xs=cs.map V.int
 | [],xs,h=>by unfold ak at h; exact h
 | c::cs,xs,h=>by
  obtain⟨x,r,rfl,h1,h2⟩:=ak.bw h;unfold At at h1;rw[h1,du h2]; rfl
theorem bB {H:Hp}:∀cs:List Int,ak H (cs.map .int) (cs.map V.int)
 | []=>ak.nil
 | c::cs=>ak.cons (At.int c) (bB cs)
theorem row_shape {H:Hp} {r:fP} {v:V} (h:At H (lN r) v):∃a,v=.ref a/\H a=some (.tup [.str r.w,.int r.s,.str r.g,.int r.n,.int r.t]):=by
 obtain⟨a,xs,rfl,h1,h2⟩:=bC h;obtain⟨x1,_,rfl,a1,h2⟩:=ak.bw h2;obtain⟨x2,_,rfl,a2,h2⟩:=ak.bw h2;obtain⟨x3,_,rfl,a3,h2⟩:=ak.bw h2;obtain⟨x4,_,rfl,a4,h2⟩:=ak.bw h2;obtain⟨x5,_,rfl,a5,h2⟩:=ak.bw h2;cases ak.pH h2;unfold At at a1 a2 a3 a4 a5;subst a1 a2 a3 a4 a5;exact⟨a,rfl,h1⟩
theorem Gh {K:PySem.W.Frag} {js:List Nat} {a:Addr} {xs:List V} {ds:List PyData} {f:Nat->Int} {tl te:TE} {σ:St} {H:Hp} {Q:VK} (hl:∀R:VK,R (.ref a) H->tl σ H R) (ha:H a=some (.tup xs)) (hd:ak H ds xs) (hz:ds.length<=sizeLine)
  (step:∀(i:Nat) x d H',aJ H H'->ds[i]?=some d->At H' d x->∀R:VK,(∀dR,aJ H' dR->R (.int (f i)) dR)->te (some x::cu js σ) H' R)
  (fin:∀acc H',aJ H H'->H' acc=some (.lst (((List.range ds.length).map f).map V.int))->Q (.ref acc) H'):gK js (uE K tl) te σ H Q:=by
 refine hl _ ⟨a,rfl,⟨xs,cY.of ha⟩,fun acc hacc=>?_⟩;have hlen:=hd.length;refine⟨fun i m ys H2=>m=ds.length-i/\i<=ds.length/\ys=((List.range i).map f).map V.int/\aJ H H2/\H2 acc=some (.lst ys),⟨_,rfl,gD _,rfl,aL hacc _,az⟩,?_⟩;rintro i m ys H2 ⟨rfl,hi,rfl,sm,hy⟩;have ht:cY K H2 a xs:=cY.of (sm _ _ ha);by_cases hlt:i<ds.length
 ·refine .inr ⟨⟨xs,xs[i]'(by omega),ht,gO (by omega)⟩,fun x H3 y=>?_⟩
  obtain⟨e,y⟩:=y;subst e;obtain⟨d,e1,e2⟩:=hd.get (y xs ht);refine step i x d _ sm e1 (e2.mono sm) _ fun H4 s4=>⟨s4 _ _ hy,?_,ds.length-(i+1),by omega,rfl,hlt,?_,?_,az⟩
  ·rw[dH,dH,Hm]; omega
  ·rw[zU]; simp
  ·refine fun b o q=>?_;have nb:b≠acc:=bU q hacc;rw[aV nb];exact s4 _ _ (sm _ _ q)
 ·have e:i=ds.length:=by omega
  subst e;exact .inl ⟨⟨xs,ht,by omega⟩,fin _ _ sm hy⟩
def CT (K:PySem.W.Frag) (js:List Nat) (te:TE) (σ:St) (Q:VK) (x:V) (H1:Hp):Prop:=gK js (uE K (fun _ H R=>R x H)) te σ H1 Q
theorem uV {K:PySem.W.Frag} {js:List Nat} {tl te:TE} {σ:St} {H:Hp} {Q:VK}:gK js (uE K tl) te σ H Q=tl σ H (CT K js te σ Q):=rfl
def Bw:Sp:=fun vs H Q _=>∃(v u:V) (h:Int) (r:fP) (bW:List (List Int)),vs=[v,.int h,u]/\At H (lN r) v/\At H (Br bW) u/\nW r/\iW bW/\∀H',aJ H H'->Q (mV (says r h bW)) H'
theorem ZV.of {v u:V} {h:Int} {r:fP} {bW:List (List Int)} {H:Hp} {Q:VK} {E:XK} (a1:At H (lN r) v) (a2:At H (Br bW) u) (h1:nW r) (h2:iW bW) (q:∀H',aJ H H'->Q (mV (says r h bW)) H'):Bw ([v,.int h,u]++[]) H Q E:=⟨v,u,h,r,bW,rfl,a1,a2,h1,h2,q⟩
theorem uq {bW:List (List Int)} {w:Str} {s:Nat}:((List.range (bW.take s).length).map fun i=>((bW.take s).getD i []).getD (dN w) 0).sum=lA w s bW:=by
 unfold lA
 congr 1
 generalize bW.take s=l
 apply Kf
 ·simp
 ·intro i h1 h2;simp at h1 h2;simp[iy,h2]
theorem pI:bh ["row","hands","newest","what","span","sign","number","step","place","total","mark"] ["row","hands","newest"] (aM lH):=(by walk_at "c")
theorem Aa (F:iY K "row_says" "row_says" lH f fd) (B:Bi mg) (O:Co K mg):bV P w K mg base ig (k+1) f fd ["row","hands","newest"] Bw:=by
 refine F.ok pI (by rintro vs H Q E ⟨v,u,h,r,bW,rfl,_⟩; rfl) (fun cdv A outer s H vs Q E hr h=>?_)
 obtain⟨v,u,h,r,bW,rfl,a1,a2,hR,hN,q⟩:=h;have ND:=pI.nd;refine⟨_,(aq (cW (pv 0) (cF (K:=K) (n:=5) rfl rfl (aG (aA (i:=3) ND rfl (by walk_at "o")) (aG (aA (i:=4) ND rfl (by walk_at "o")) (aG (aA (i:=5) ND rfl (by walk_at "o")) (aG (aA (i:=6) ND rfl (by walk_at "o")) (aG (aA (i:=7) ND rfl (by walk_at "o")) cD))))))) (aq (aQ (i:=8) ND rfl (by walk_at "o") (jx (K:=K) rfl PySem.F.plainAttrs_tuple PySem.F.slot_tuple_index PySem.F.type_tuple_index (HX (K:=K) rfl) (Fg (K:=K) rfl O.Q7) (aa (pv 3) aj))) (aq (aQ (i:=9) ND rfl (by walk_at "o") (pb (kZ rfl) B.sum yh (aa (jw (N':=["triple","place"]) (js:=[8]) rfl (iC (K:=K) rfl (c7 ir (pv 2) fD (dG (pv 4)))) vX.mk1 rfl (by decide) rfl (fun fp s' H'=>(bA aZ (pv 0) (pv 1) (fun _ _=>rfl)))) aj))) (aq (aQ (i:=10) ND rfl (by walk_at "o") (aH fB (pv 6) (pv 4))) (aq (dJ (bj fU (pv 5) (Cr O.EACH) (bu _)) (aK (bc (aH nj (aH cB (aH a_ (pv 9) (pv 10)) ao) (pv 10)))) bT) (aq (dJ (PW.pt (Fb (PW.pt (Cm (bj fU (pv 5) (Cr O.OVER) (bu _)) (wX (bj pW (pv 9) (pv 10) (bu _))))) (wW (PW.pt (Cm (bj fU (pv 5) (Cr O.UNDER) (bu _)) (wX (bj rR (pv 9) (pv 10) (bu _)))))))) (aK (bc (aH a_ (pv 1) (pv 7)))) bT) (aK (bc ju)))))))),?_⟩
 obtain⟨a,rfl,h1⟩:=row_shape a1;obtain⟨b,xs,rfl,h2,h3⟩:=bC a2;walk_at "rd";refine⟨a,_,rfl,cY.of h1,rfl,?_⟩;walk_at "rd";intro aw ho hw;refine⟨.inr (.inl ⟨rfl,ho⟩),aw,r.w,rfl,hw _,rfl,hR.w,?_⟩;show gK _ _ _ _ _ _;rw[uV];walk_at "rd";refine⟨b,xs,rfl,h2,fun p H1 s1 e1=>?_⟩;rw[lY (by omega),m8] at e1
 have h3':ak H1 ((bW.take r.s).map cZ) (xs.take r.s):=by rw[zO]; exact(h3.take r.s).mono s1
 have hs4:=hR.s;have htl:(bW.take r.s).length<=4:=by rw[jH]; omega
 refine Gh (a:=p) (f:=fun i=>((bW.take r.s).getD i []).getD (dN r.w) 0) (fun R hR=>hR) e1 h3' (lq (bD (by rw[dH]; omega))) (fun i x d H' s' ed hx R hR'=>?_) (fun acc H' s' hl=>?_)
 ·rw[h_] at ed;obtain⟨l,el,rfl⟩:=lU.mp ed;have l3:l.length=3:=hN.l l (Od (m9 el));obtain⟨c,ys,rfl,g1,g2⟩:=bC hx;cases du g2;show Rk _ _ _ [some _,some (.int (dN r.w:Nat))] H' R;walk_at "rd";have hw:=uR r.w;refine Ix.tup g1 (v:=.int (l.getD (dN r.w) 0)) (bz (by rw[h_,gO (by omega),iy,gO (by omega)]; rfl)) ?_
  have:=hR' H' (aJ.refl H');have eg:(bW.take r.s).getD i []=l:=by rw[iy,el]; rfl
  rw[eg] at this;exact this
 ·have sm:=s1.trans s';rw[dH] at hl;refine⟨acc,_,rfl,.inl hl,.inl (by have:=hR.n; omega),?_⟩
  rw[uq];have q1:=q H' sm;unfold says at q1;refine cM (fun c1=>?_) (fun c1=>?_)
  ·have c1':=oM c1;rw[aR c1'] at q1;have h1n:=hR.e c1';have hpos:0<r.n*(r.s:Int):=Int.mul_pos (by omega) (by omega)
   have hup:r.n*(r.s:Int)<=1000000000000*4:=Int.mul_le_mul hR.n.2 (by omega) (by omega) (by decide)
   exact⟨⟨hpos,Int.lt_of_le_of_lt hup (by decide)⟩,q1⟩
  ·have c1':=qg c1;rw[bx c1'] at q1;generalize lA r.w r.s bW=tot at q1 ⊢;generalize r.n*(r.s:Int)=mark at q1 ⊢;by_cases o1:r.g = "over"
   ·have u1:¬r.g = "under" := by rw[o1]; decide +kernel
    rw[jo o1,aR rfl];by_cases o2:mark<tot
    ·rw[jo o2,aR rfl];rw[aR (.inl ⟨o1,o2⟩)] at q1; exact q1
    ·rw[jV o2,bx (by decide),jV u1,bx (by decide)]
     rw[bx (fun z=>by rcases z with z | z; exact o2 z.2; exact u1 z.1)] at q1; exact q1
   ·rw[jV o1,bx (by decide)]
    by_cases u1:r.g = "under"
    ·rw[jo u1,aR rfl];by_cases o2:tot<mark
     ·rw[jo o2,aR rfl];rw[aR (.inr ⟨u1,o2⟩)] at q1; exact q1
     ·rw[jV o2,bx (by decide)]
      rw[bx (fun z=>by rcases z with z | z; exact o1 z.1; exact o2 z.2)] at q1; exact q1
    ·rw[jV u1,bx (by decide)]
     rw[bx (fun z=>by rcases z with z | z; exact o1 z.1; exact u1 z.1)] at q1; exact q1
def Rv:Sp:=fun vs H Q _=>∃(v u:V) (h:Int) (rs:List fP) (bW:List (List Int)),vs=[v,.int h,u]/\At H (pP rs) v/\At H (Br bW) u/\(∀r∈rs,nW r)/\iW bW/\∀H',aJ H H'->Q (.int (cQ h bW rs)) H'
theorem Rw.of {v u:V} {h:Int} {rs:List fP} {bW:List (List Int)} {H:Hp} {Q:VK} {E:XK} (a1:At H (pP rs) v) (a2:At H (Br bW) u) (h1:∀r∈rs,nW r) (h2:iW bW) (q:∀H',aJ H H'->Q (.int (cQ h bW rs)) H'):Rv ([v,.int h,u]++[]) H Q E:=⟨v,u,h,rs,bW,rfl,a1,a2,h1,h2,q⟩
theorem mQ:bh ["rule","hands","newest","row","said"] ["rule","hands","newest"] (aM jR):=(by walk_at "c")
theorem xr (F:iY K "rule_wish" "rule_wish" jR f fd) (mj:Ct P w K mg base k "row_says" ["row","hands","newest"] Bw):bV P w K mg base ig (k+1) f fd ["rule","hands","newest"] Rv:=by
 refine F.ok mQ (by rintro vs H Q E ⟨v,u,h,r,bW,rfl,_⟩; rfl) (fun cdv A outer s H vs Q E hr h=>?_)
 obtain⟨v,u,h,rs,bW,rfl,a1,a2,hR,hN,q⟩:=h;have ND:=mQ.nd;refine⟨_,(aq (gG PassesOwn.never rfl (iC (K:=K) rfl (pv 0)) (aA (i:=3) ND rfl (by walk_at "o")) (aq (aQ (i:=4) ND rfl (by walk_at "o") (pf mj hr (aa (pv 3) (aa (pv 1) (aa (pv 2) aj))))) (aK (dJ (bj xm (pv 4) ju (bu _)) (aK (bc (pv 4))) bT)))) (aK (bc (pv 1)))),?_⟩
 obtain⟨a,xs,rfl,h1,h2⟩:=bC a1;have hlen:=h2.length;rw[dH] at hlen;walk_at "rd";rw[yP];walk_at "rd";refine TK.of h1 (fun n σ H'=>∃o1 o2,σ=[some (.ref a),some (.int h),some u,o1,o2]/\aJ H H'/\cQ h bW (rs.drop n)=cQ h bW rs) ⟨_,_,rfl,aJ.refl H,rfl⟩ (fun n σ H' _ ⟨o1,o2,_,sm,_⟩=>sm _ _ h1) ?_ ?_
 ·rintro n x σ H1 hx ⟨o1,o2,rfl,sm,e⟩;obtain⟨d,e1,e2⟩:=h2.get hx;rw[h_] at e1;obtain⟨r,er,rfl⟩:=lU.mp e1
  have hn:n<rs.length:=by
   obtain⟨z,_⟩:=iM.mp er; exact z
  have ed:rs.drop n=r::rs.drop (n+1):=by
   rw[Kq hn];obtain⟨z,ez⟩:=iM.mp er;rw[ez]
  rw[ed,cQ] at e;walk_at "rd";refine ZV.of (e2.mono sm) (a2.mono sm) (hR r (m9 er)) hN fun H2 s2=>?_;have s2:=sm.trans s2;cases es:says r h bW with
  | none=>
   rw[es] at e;refine⟨trivial,?_⟩;exact⟨_,_,rfl,s2,e⟩
  | some i=>
   rw[es] at e;refine⟨trivial,?_⟩;have e:i=cQ h bW rs:=e;show Q (.int i) H2;rw[e]; exact q H2 s2
 ·rintro σ H1 ⟨o1,o2,rfl,sm,e⟩;walk_at "rd";rw[hlen,Ke] at e;have e:h=cQ h bW rs:=e;rw[e];have:=q H1 sm;rw[<- e] at this ⊢;exact this
def QV (d0 d1 d3 d4 d5:PyData) (l m:Int) (eN:List (List fP)):PyData:=.tuple [d0,d1,.tuple [.int l,.int m],d3,d4,d5,BW eN]
def JZ:Sp:=fun vs H Q _=>∃(v u:V) (h l m:Int) (d0 d1 d3 d4 d5:PyData) (eN:List (List fP)) (bW:List (List Int)),vs=[v,.int h,u]/\At H (QV d0 d1 d3 d4 d5 l m eN) v/\At H (Br bW) u/\(∀rs∈eN,∀r∈rs,nW r)/\eN.length<=100/\iW bW /\
 ∀H',aJ H H'->Q (.int (fQ eN l m h bW)) H'
theorem Er:bh ["post","hands","newest","least","most","wishes","wished"] ["post","hands","newest"] (aM BL):=(by walk_at "c")
theorem O1 (F:iY K "wish" "wish" BL f fd) (B:Bi mg) (j7:Ct P w K mg base k "rule_wish" ["rule","hands","newest"] Rv):bV P w K mg base ig (k+1) f fd ["post","hands","newest"] JZ:=by
 refine F.ok Er (by rintro vs H Q E ⟨v,u,h,l,m,d0,d1,d3,d4,d5,eN,bW,rfl,_⟩; rfl) (fun cdv A outer s H vs Q E hr h=>?_)
 obtain⟨v,u,h,l,m,d0,d1,d3,d4,d5,eN,bW,rfl,a1,a2,hR,hn,hN,q⟩:=h;have ND:=Er.nd;refine⟨_,(aq (cW (bA aZ (pv 0) ao (fun _ _=>rfl)) (cF (K:=K) (n:=2) rfl rfl (aG (aA (i:=3) ND rfl (by walk_at "o")) (aG (aA (i:=4) ND rfl (by walk_at "o")) cD)))) (aq (wY (i:=5) ND rfl (by walk_at "o") (N':=["rule","hands","newest"]) (js:=[1,2]) rfl (iC (K:=K) rfl (bA aZ (pv 0) ao (fun _ _=>rfl))) vX.mk2 rfl (by decide) rfl (fun fp s' H'=>(pf j7 hr (aa (pv 0) (aa (pv 1) (aa (pv 2) aj)))))) (aq (aQ (i:=6) ND rfl (by walk_at "o") (xg rfl B.max (aa (pv 5) aj) (pv 1))) (aK (bc (pb (dq rfl) B.min g_ (aa (pb (dM rfl) B.max gJ (aa (pv 6) (aa (pv 3) aj))) (aa (pv 4) aj)))))))),?_⟩
 obtain⟨a,xs,rfl,h1,h2⟩:=bC a1;obtain⟨x0,_,rfl,b0,h2⟩:=ak.bw h2;obtain⟨x1,_,rfl,b1,h2⟩:=ak.bw h2;obtain⟨x2,_,rfl,b2,h2⟩:=ak.bw h2;obtain⟨x3,_,rfl,b3,h2⟩:=ak.bw h2;obtain⟨x4,_,rfl,b4,h2⟩:=ak.bw h2;obtain⟨x5,_,rfl,b5,h2⟩:=ak.bw h2;obtain⟨x6,_,rfl,b6,h2⟩:=ak.bw h2;cases ak.pH h2;obtain⟨c,ys,rfl,g1,g2⟩:=bC b2;obtain⟨y0,_,rfl,k0,g2⟩:=ak.bw g2;obtain⟨y1,_,rfl,k1,g2⟩:=ak.bw g2;cases ak.pH g2;unfold At at k0 k1;subst k0 k1;obtain⟨e,zs,rfl,m1,m2⟩:=bC b6;walk_at "rd";refine Ix.tup h1 (bz (j:=2) rfl) ⟨c,_,rfl,cY.of g1,rfl,?_⟩;walk_at "rd";rw[uV];walk_at "rd";refine Ix.tup h1 (bz (j:=6) rfl) ?_;refine Gh (a:=e) (f:=fun i=>cQ h bW (eN.getD i [])) (fun R hR=>hR) m1 m2 (lq (bD (by rw[dH]; omega))) (fun i x d H' s' ed hx R hR'=>?_) (fun acc H' s' hl=>?_)
 ·rw[h_] at ed;obtain⟨rs,el,rfl⟩:=lU.mp ed;show lB _ _ _ _ [some x,some (.int h),some u] H' R;walk_at "rd";refine Rw.of hx (a2.mono s') (hR rs (m9 el)) hN fun H2 s2=>?_;have:=hR' H2 s2;have eg:eN.getD i []=rs:=by rw[iy,el]; rfl
  rw[eg] at this;exact this
 ·rw[dH] at hl
  have el:(List.range eN.length).map (fun i=>cQ h bW (eN.getD i []))=eN.map (cQ h bW):=by
   apply Kf
   ·simp
   ·intro i h1 h2;simp at h1 h2;simp[iy,h2]
  rw[el] at hl;have q1:=q H' s';unfold fQ topOf at q1;refine⟨acc,_,rfl,hl,fun en=>?_,fun b r er=>?_⟩
  ·rw[en] at q1;exact q1
  ·rw[er] at q1;exact q1
def Eo:Sp:=fun vs H Q _=>∃(v x:V) (a:Addr) (r:Int) (b:Addr) (ns:List Int) (u:List V),v=.ref a/\vs=[v]/\H a=some (.tup (x::.int r::.ref b::u))/\H b=some (.tup (ns.map V.int))/\Q (.int (r+ns.sum)) H
theorem pM:bh ["stand"] ["stand"] (aM lM):=(by walk_at "c")
theorem Ae (F:iY K "hands_of" "hands_of" lM f fd) (B:Bi mg):bV P w K mg base ig (k+1) f fd ["stand"] Eo:=by
 refine F.ok pM (by rintro vs H Q E ⟨v,x,a,r,b,ns,u,_,rfl,_⟩; rfl) (fun cdv A outer s H vs Q E hr h=>?_)
 obtain⟨v,x,a,r,b,ns,u,rfl,rfl,h1,h2,q⟩:=h;have ND:=pM.nd;refine⟨_,(aK (bc (aH a_ (bA aZ (pv 0) ao (fun _ _=>rfl)) (pb (kZ rfl) B.sum yh (aa (bA aZ (pv 0) ao (fun _ _=>rfl)) aj))))),?_⟩;walk_at "rd";refine⟨a,_,1,_,rfl,rfl,.inr h1,bz (j:=1) rfl,?_⟩;refine⟨a,_,2,_,rfl,rfl,.inr h1,bz (j:=2) rfl,?_⟩;refine⟨b,ns,rfl,.inr h2,?_⟩;exact⟨_,_,rfl,rfl,q⟩
theorem LR {X:Cx}:W4 X (fun o i H Q=>∃(p:Addr) (xs:List V) (j:Nat) (v:V),o=.ref p/\i=.int j/\H p=some (.lst xs)/\xs[j]?=some v/\Q v H):=by
 intro pins s σ H o i ov iv Q I ro ri h;obtain⟨p,xs,j,v,rfl,rfl,hp,hv,q⟩:=h;cases ro;obtain⟨t,rfl⟩:=ri;obtain⟨its,r,pl,hz⟩:=I.list (dI.of (K:=X.K) hp);obtain⟨w,ew,Hd⟩:=r.get hv;have hl:=r.length;have hn:=sG;have hj:j<xs.length:=by obtain⟨z,_⟩:=iM.mp hv; exact z
 exact wpAny_getItem_list pl.isList (by omega) (by omega) (by simpa using ew) ⟨v,H,I,Hd,q⟩
theorem qH {n j:Nat} (h:j<n):Lp n (j:Int)=some j:=by
 unfold Lp;rw[aR (by omega),aR (by omega),m8]
structure eV where
 w:Int
 r:Int
 cs:List Int
 s:Int
 t:Int
 us:List (List Int)
def jM (x:eV):PyData:=.tuple [.int x.w,.int x.r,.tuple (x.cs.map .int),.int x.s,.int x.t,.tuple (x.us.map cZ)]
structure ik (x:eV):Prop where
 c:x.cs.length=5
 u:x.us.length=3
 l:∀y∈x.us,y.length=3
structure eZ where
 p:Int
 m:Int
 lo:Int
 hi:Int
 a:Nat
 e:Int
 u:Int
 d:Int
 eN:List (List fP)
def gR (x:eZ):PyData:=QV (.int x.p) (.int x.m) (.int x.a) (.int x.e) (.tuple [.int x.u,.int x.d]) x.lo x.hi x.eN
structure kj (x:eZ):Prop where
 a:x.a<=4
 p:0<=x.p/\x.p<=1000000
 n:x.eN.length<=100
 g:∀rs∈x.eN,∀r∈rs,nW r
theorem je {H:Hp} {x:eZ} {v:V} (h:At H (gR x) v):∃a b c d,v=.ref a/\H a=some (.tup [.int x.p,.int x.m,.ref b,.int x.a,.int x.e,.ref c,.ref d])/\H c=some (.tup [.int x.u,.int x.d]):=by
 obtain⟨a,xs,rfl,h1,h2⟩:=bC h;obtain⟨x0,_,rfl,b0,h2⟩:=ak.bw h2;obtain⟨x1,_,rfl,b1,h2⟩:=ak.bw h2;obtain⟨x2,_,rfl,b2,h2⟩:=ak.bw h2;obtain⟨x3,_,rfl,b3,h2⟩:=ak.bw h2;obtain⟨x4,_,rfl,b4,h2⟩:=ak.bw h2;obtain⟨x5,_,rfl,b5,h2⟩:=ak.bw h2;obtain⟨x6,_,rfl,b6,h2⟩:=ak.bw h2;cases ak.pH h2;unfold At at b0 b1 b3 b4;subst b0 b1 b3 b4;obtain⟨b,ys,rfl,_,_⟩:=bC b2;obtain⟨c,zs,rfl,g1,g2⟩:=bC b5;obtain⟨d,ws,rfl,_,_⟩:=bC b6;obtain⟨y0,_,rfl,k0,g2⟩:=ak.bw g2;obtain⟨y1,_,rfl,k1,g2⟩:=ak.bw g2;cases ak.pH g2;unfold At at k0 k1;subst k0 k1;exact⟨a,b,c,d,rfl,h1,g1⟩
theorem iZ {H:Hp} {x:eV} {v:V} (h:At H (jM x) v):∃a b c,v=.ref a/\H a=some (.tup [.int x.w,.int x.r,.ref b,.int x.s,.int x.t,.ref c])/\H b=some (.tup (x.cs.map V.int))/\At H (.tuple (x.us.map cZ)) (.ref c):=by
 obtain⟨a,xs,rfl,h1,h2⟩:=bC h;obtain⟨x0,_,rfl,b0,h2⟩:=ak.bw h2;obtain⟨x1,_,rfl,b1,h2⟩:=ak.bw h2;obtain⟨x2,_,rfl,b2,h2⟩:=ak.bw h2;obtain⟨x3,_,rfl,b3,h2⟩:=ak.bw h2;obtain⟨x4,_,rfl,b4,h2⟩:=ak.bw h2;obtain⟨x5,_,rfl,b5,h2⟩:=ak.bw h2;cases ak.pH h2;unfold At at b0 b1 b3 b4;subst b0 b1 b3 b4;obtain⟨b,ys,rfl,g1,g2⟩:=bC b2;cases du g2;obtain⟨c,zs,rfl,_,_⟩:=bC b5;exact⟨a,b,c,rfl,h1,g1,b5⟩
def iG (e s:Int):Int:=if s+1<e then s+1 else 0
def gH (e s t:Int):Bool:=if s+1<e then false else decide (t=0)
def Eh:Sp:=fun vs H Q _=>∃(v:V) (x:eZ) (s t:Int),vs=[v,.int s,.int t]/\At H (gR x) v/\∀p H',aJ H H'->H' p=some (.tup [.int (iG x.e s),.bl (gH x.e s t)])->Q (.ref p) H'
theorem iu:bh ["post","since","rest","every"] ["post","since","rest"] (aM fV):=(by walk_at "c")
theorem nq (F:iY K "since_and_look" "since_and_look" fV f fd):bV P w K mg base ig (k+1) f fd ["post","since","rest"] Eh:=by
 refine F.ok iu (by rintro vs H Q E ⟨v,x,s,t,rfl,_⟩; rfl) (fun cdv A outer s H vs Q E hr h=>?_)
 obtain⟨v,x,sn,t,rfl,a1,q⟩:=h;have ND:=iu.nd;refine⟨_,(aq (aQ (i:=3) ND rfl (by walk_at "o") (bA aZ (pv 0) ao (fun _ _=>rfl))) (aq (dJ (bj rR (aH a_ (pv 1) ao) (pv 3) (bu _)) (aK (bc (bf (aa (aH a_ (pv 1) ao) (aa jY aj))))) bT) (aK (bc (bf (aa ao (aa (fG fU (pv 2) ao (bu _)) aj))))))),?_⟩
 obtain⟨a,b,c,d,rfl,h1,h2⟩:=je a1;walk_at "rd";refine Ix.tup h1 (bz (j:=4) rfl) ?_;walk_at "rd";refine cM (fun c1=>?_) (fun c1=>?_)
 ·have c1':=oM c1;refine⟨(by decide),fun p H1 f1 s1 e1=>q p H1 s1 ?_⟩
  unfold iG gH;rw[aR c1',aR c1']; exact e1
 ·have c1':=qg c1;refine⟨(by decide),fun p H1 f1 s1 e1=>q p H1 s1 ?_⟩
  unfold iG gH;rw[bx c1',bx c1']; exact e1
def kY (x:eZ) (h fr:Int) (bW:List (List Int)):Int:=if fr<fQ x.eN x.lo x.hi h bW-h then fr else fQ x.eN x.lo x.hi h bW-h
def yW:Sp:=fun vs H Q _=>∃(v u:V) (x:eZ) (h fr:Int) (bW:List (List Int)),vs=[v,.int h,u,.int fr]/\At H (gR x) v/\At H (Br bW) u/\kj x/\iW bW/\∀H',aJ H H'->Q (.int (kY x h fr bW)) H'
theorem mU:bh ["post","hands","newest","free"] ["post","hands","newest","free"] (aM jU):=(by walk_at "c")
theorem xx (F:iY K "change_of" "change_of" jU f fd) (B:Bi mg) (DG:Ct P w K mg base k "wish" ["post","hands","newest"] JZ):bV P w K mg base ig (k+1) f fd ["post","hands","newest","free"] yW:=by
 refine F.ok mU (by rintro vs H Q E ⟨v,u,x,h,fr,bW,rfl,_⟩; rfl) (fun cdv A outer s H vs Q E hr h=>?_)
 obtain⟨v,u,x,h,fr,bW,rfl,a1,a2,hP,hN,q⟩:=h;have ND:=mU.nd;refine⟨_,(aK (bc (pb (dq rfl) B.min g_ (aa (aH cB (pf DG hr (aa (pv 0) (aa (pv 1) (aa (pv 2) aj)))) (pv 1)) (aa (pv 3) aj))))),?_⟩;walk_at "rd";refine⟨v,u,h,x.lo,x.hi,_,_,_,_,_,x.eN,bW,rfl,a1,a2,hP.g,hP.n,hN,fun H1 s1=>?_⟩;walk_at "rd";exact q H1 s1
def aX:List Int->Int->List Int×Int
 | [],n=>([],n)
 | c::cs,n=>((c-(if(aX cs n).2<c then(aX cs n).2 else c))::(aX cs n).1,(aX cs n).2-(if(aX cs n).2<c then(aX cs n).2 else c))
theorem jz:∀(cs:List Int) (n:Int),(aX cs n).1.length=cs.length
 | [],_=>rfl
 | c::cs,n=>by rw[aX,lR,lR,jz cs n]
def J2:Sp:=fun vs H Q _=>∃(r n:Int) (b:Addr) (cs:List Int),vs=[.int r,.ref b,.int n]/\H b=some (.tup (cs.map V.int))/\cs.length<=100/\∀p b' H',aJ H H'->H' p=some (.tup [.int (r-(aX cs n).2),.ref b'])->H' b'=some (.tup ((aX cs n).1.map V.int))->Q (.ref p) H'
theorem mO:bh ["ready","called","many","left","place","gone"] ["ready","called","many"] (aM jQ):=(by walk_at "c")
theorem xq (F:iY K "sent_home" "sent_home" jQ f fd) (B:Bi mg):bV P w K mg base ig (k+1) f fd ["ready","called","many"] J2:=by
 refine F.ok mO (by rintro vs H Q E ⟨r,n,b,cs,rfl,_⟩; rfl) (fun cdv A outer s H vs Q E hr h=>?_)
 obtain⟨r,n,b,cs,rfl,h1,hlen,q⟩:=h;have ND:=mO.nd;refine⟨_,(aq (aQ (i:=3) ND rfl (by walk_at "o") (pt (pq) B.list jE (aa (pv 1) aj))) (aq (gG PassesOwn.never rfl (R1 B.reversed B.range (aa (pb (ji (K:=K) rfl) B.len tZ (aa (pv 3) aj)) aj)) (aA (i:=4) ND rfl (by walk_at "o")) (aq (aQ (i:=5) ND rfl (by walk_at "o") (pb (dq rfl) B.min g_ (aa (bA aZ (pv 3) (pv 4) (fun _ _=>rfl)) (aa (pv 2) aj)))) (aq (Oo (pv 3) (pv 4) LR (pv 5) Dg set_list) (aK (wZ (i:=2) ND rfl (by walk_at "o") (pv 5) Dg))))) (aK (bc (bf (aa (aH cB (pv 0) (pv 2)) (aa (pt (cO) B.tuple cJ (aa (pv 3) aj)) aj))))))),?_⟩
 walk_at "rd";refine⟨b,_,rfl,h1,fun p1 f1=>?_⟩;have s1:=aL f1 (HO.lst (cs.map V.int));have e1:upd H p1 (HO.lst (cs.map V.int)) p1=some (.lst (cs.map V.int)):=az;generalize upd H p1 (HO.lst (cs.map V.int))=H1 at s1 e1 ⊢;rw[JQ];walk_at "rd";refine⟨p1,_,rfl,.inl (dI.of e1),?_⟩;rw[dH];refine XN.of (n:=cs.length) rfl (by omega) (fun i σ H'=>∃o4 o5:Option V,σ=[some (.int r),some (.ref b),some (.int (aX (cs.drop (cs.length-i)) n).2),some (.ref p1),o4,o5]/\H' p1=some (.lst ((cs.take (cs.length-i)++(aX (cs.drop (cs.length-i)) n).1).map V.int))/\aJ H H')
  ⟨_,_,by rw[Nat.sub_zero,Ke]; rfl,by rw[Nat.sub_zero,Ke,qe]; simpa[aX] using e1,s1⟩ ?_ ?_
 ·rintro i σ H2 hi ⟨o4,o5,rfl,h2,s2⟩;obtain⟨j,ej⟩:∃j:Nat,cs.length-i=j+1:=⟨cs.length-i-1,by omega⟩
  have ej2:cs.length-(i+1)=j:=by omega
  have ei:(cs.length:Int)-1-(i:Nat)=(j:Nat):=by omega
  rw[ej] at h2;rw[ei,ej,ej2];have hj:j<cs.length:=by omega
  have dj:cs.drop j=cs[j]::cs.drop (j+1):=Kq hj;have tj:cs.take (j+1)=cs.take j++[cs[j]]:=by rw[zr,gO hj]; rfl
  rw[dj,aX];generalize aX (cs.drop (j+1)) n=gh at h2 ⊢;rw[tj] at h2;generalize cs[j]=cj at h2 ⊢;have lt:(cs.take j).length=j:=by rw[jH]; omega
  have gj:((cs.take j++[cj]++gh.1).map V.int)[j]?=some (.int cj):=by
   rw[h_,Ey,Oj (by omega),lt,Nat.sub_self]; rfl
  walk_at "rd";refine Ix.lst h2 (bz gj) ?_;walk_at "rd";refine⟨p1,_,j,_,rfl,rfl,h2,gj,?_⟩;walk_at "rd";refine⟨p1,_,_,j,rfl,rfl,h2,qH (by rw[dH,gF,gF,lt]; show j<j+1+_; omega),?_⟩
  refine⟨_,rfl,_,_,rfl,rfl,_,_,rfl,?_,fun z o w=>?_⟩
  ·rw[az]
   congr 2
   have e:cs.take j++[cj]++gh.1=cs.take j++(cj::gh.1):=by simp
   rw[e,lQ,lQ,List.set_append_right _ _ (by rw[dH]; omega),dH,lt,Nat.sub_self]
   rfl
  ·rw[aV (bU w f1)];exact s2 _ _ w
 ·rintro σ H2 ⟨o4,o5,rfl,h2,s2⟩;rw[Nat.sub_self,List.drop_zero,List.take_zero,zT] at h2;rw[Nat.sub_self,List.drop_zero];walk_at "rd";refine⟨p1,_,rfl,h2,fun p3 f3=>?_⟩;have s3:=aL f3 (HO.tup ((aX cs n).1.map V.int));have e3:upd H2 p3 (HO.tup ((aX cs n).1.map V.int)) p3=some (.tup ((aX cs n).1.map V.int)):=az;generalize upd H2 p3 (HO.tup ((aX cs n).1.map V.int))=H3 at s3 e3 ⊢;refine⟨(by decide),fun p4 H4 f4 s4 e4=>?_⟩
  exact q p4 p3 H4 (s2.trans (s3.trans s4)) e4 (s4 _ _ e3)
def cL (x:eZ) (st:eV) (ch:Int):eV:=
 if ch=0 then st else if 0<ch then { st with cs:=st.cs.take x.a++[st.cs.getD x.a 0+ch]++st.cs.drop (x.a+1),t:=x.u }
 else { st with r:=st.r-(aX st.cs (-ch)).2,cs:=(aX st.cs (-ch)).1,t:=x.d }
def Bv:Sp:=fun vs H Q _=>∃(v u:V) (x:eZ) (st:eV) (ch:Int),vs=[v,u,.int ch]/\At H (gR x) v/\At H (jM st) u/\kj x/\ik st/\∀u' H',aJ H H'->At H' (jM (cL x st ch)) u'->Q u' H'
theorem jO:bh ["post","stand","change","late","rests","wait","ready","called","since","rest","seen"] ["post","stand","change"] (aM iI):=(by walk_at "c")
theorem rT (F:iY K "with_change" "with_change" iI f fd) (B:Bi mg) (j6:Ct P w K mg base k "sent_home" ["ready","called","many"] J2):bV P w K mg base ig (k+1) f fd ["post","stand","change"] Bv:=by
 refine F.ok jO (by rintro vs H Q E ⟨v,u,x,st,ch,rfl,_⟩; rfl) (fun cdv A outer s H vs Q E hr h=>?_)
 obtain⟨v,u,x,st,ch,rfl,a1,a2,hP,hS,q⟩:=h;have ND:=jO.nd;refine⟨_,(aq (dJ (bj fU (pv 2) ao (bu _)) (aK (bc (pv 1))) bT) (aq (oO (i:=3) (j:=4) rfl ND rfl rfl (by decide) rfl rfl (aa (bA aZ (pv 0) ao (fun _ _=>rfl)) (aa (bA aZ (pv 0) ao (fun _ _=>rfl)) aj)) (by rfl)) (aq (cW (pv 1) (cF (K:=K) (n:=6) rfl rfl (aG (aA (i:=5) ND rfl (by walk_at "o")) (aG (aA (i:=6) ND rfl (by walk_at "o")) (aG (aA (i:=7) ND rfl (by walk_at "o")) (aG (aA (i:=8) ND rfl (by walk_at "o")) (aG (aA (i:=9) ND rfl (by walk_at "o")) (aG (aA (i:=10) ND rfl (by walk_at "o")) cD)))))))) (aq (dJ (bj pW (pv 2) ao (bu _)) (aq (aQ (i:=7) ND rfl (by walk_at "o") (aH kJ (aH kJ (c7 ir (pv 7) fD (dG (pv 3))) (bf (aa (aH a_ (bA aZ (pv 7) (pv 3) (fun _ _=>rfl)) (pv 2)) aj))) (c7 ir (pv 7) (dG (aH a_ (pv 3) ao)) fD))) (aK (aQ (i:=9) ND rfl (by walk_at "o") (bA aZ (pv 4) ao (fun _ _=>rfl))))) (aq (cW (pf j6 hr (aa (pv 6) (aa (pv 7) (aa (KD Bk (pv 2)) aj)))) (cF (K:=K) (n:=2) rfl rfl (aG (aA (i:=6) ND rfl (by walk_at "o")) (aG (aA (i:=7) ND rfl (by walk_at "o")) cD)))) (aK (aQ (i:=9) ND rfl (by walk_at "o") (bA aZ (pv 4) ao (fun _ _=>rfl)))))) (aK (bc (bf (aa (pv 5) (aa (pv 6) (aa (pv 7) (aa (pv 8) (aa (pv 9) (aa (pv 10) aj))))))))))))),?_⟩
 walk_at "rd";refine cM (fun c1=>?_) (fun c1=>?_)
 ·have:=q u H (aJ.refl H);unfold cL at this;rw[aR (oM c1)] at this;exact this a2
 have c1':=qg c1;obtain⟨pa,pb,pc,pd,rfl,p1,p2⟩:=je a1;obtain⟨sa,sb,sc,rfl,g1,g2,g3⟩:=iZ a2;have ha4:=hP.a;have hc5:=hS.c;refine Ix.tup p1 (bz (j:=3) rfl) (Ix.tup p1 (bz (j:=5) rfl) ⟨_,_,rfl,?_⟩);refine⟨sa,_,rfl,cY.of g1,rfl,?_⟩;walk_at "rd";refine cM (fun c2=>?_) (fun c2=>?_)
 ·have c2':=oM c2
  have ga:(st.cs.map V.int)[x.a]?=some (.int (st.cs.getD x.a 0)):=by
   rw[h_,gO (by omega),iy,gO (by omega)]; rfl
  refine⟨sb,_,rfl,g2,fun p3 H3 s3 e3=>?_⟩;rw[lY (by omega),m8] at e3
  refine Ix.tup (s3 _ _ g2) (bz ga) ?_;walk_at "rd";refine⟨(by decide),fun p4 H4 f4 s4 e4=>?_⟩
  refine⟨p3,p4,_,_,rfl,rfl,s4 _ _ e3,e4,lq (bD (by simp; omega)),fun p5 H5 s5 e5=>?_⟩
  walk_at "rd";have Nf:=s3.trans (s4.trans s5);refine⟨sb,_,rfl,Nf _ _ g2,fun p6 H6 s6 e6=>?_⟩;rw[nP (by omega)] at e6
  refine⟨p5,p6,_,_,rfl,rfl,s6 _ _ e5,e6,lq (bD (by simp; omega)),fun p7 H7 s7 e7=>?_⟩
  have s37:=Nf.trans (s6.trans s7);walk_at "rd";refine Ix.tup (s37 _ _ p2) (bz (j:=0) rfl) ⟨(by decide),fun p8 H8 f8 s8 e8=>?_⟩
  have VG:=s37.trans s8;refine q (.ref p8) H8 VG ?_;unfold cL;rw[bx c1',aR c2'];refine At.tup e8 (ak.cons (At.int _) (ak.cons (At.int _) (ak.cons (At.tup (s8 _ _ e7) ?_) (ak.cons (At.int _) (ak.cons (At.int _) (ak.cons (g3.mono VG) ak.nil))))));have e:(((x.a:Int)+1).toNat)=x.a+1:=by omega
  rw[e];have:=bB (H:=H8) (st.cs.take x.a++[st.cs.getD x.a 0+ch]++st.cs.drop (x.a+1));simpa using this
 ·have c2':=qg c2;refine⟨st.r,-ch,sb,st.cs,rfl,g2,by omega,fun p3 b3 H3 s3 e3 e4=>?_⟩
  refine⟨p3,_,rfl,cY.of e3,rfl,?_⟩;walk_at "rd";refine Ix.tup (s3 _ _ p2) (bz (j:=1) rfl) ⟨(by decide),fun p8 H8 f8 s8 e8=>?_⟩
  have VG:=s3.trans s8;refine q (.ref p8) H8 VG ?_;unfold cL;rw[bx c1',bx (by omega)]
  exact At.tup e8 (ak.cons (At.int _) (ak.cons (At.int _) (ak.cons (At.tup (s8 _ _ e4) (bB _)) (ak.cons (At.int _) (ak.cons (At.int _) (ak.cons (g3.mono VG) ak.nil))))))
def bR (x:eZ) (st:eV) (come:Int):Int:=if(if 0>x.m-st.w then 0 else x.m-st.w)<come then(if 0>x.m-st.w then 0 else x.m-st.w) else come
def bJ (st:eV):Int:=st.r+st.cs.getD 0 0
def cX (x:eZ) (st:eV) (come:Int):Int:=if bJ st*x.p<st.w+bR x st come then bJ st*x.p else st.w+bR x st come
def bI (x:eZ) (st:eV) (come:Int):List (List Int):=[come,cX x st come,st.w+bR x st come-cX x st come]::st.us
def cg (x:eZ) (st:eV) (come:Int):eV:=⟨st.w+bR x st come-cX x st come,bJ st,st.cs.drop 1++[0],iG x.e st.s,if 0>st.t-1 then 0 else st.t-1,(bI x st come).take 3⟩
def g8 (x:eZ) (st:eV) (come fr:Int):Int:=if gH x.e st.s st.t=true then kY x (bJ st+(st.cs.drop 1++[0]).sum) fr (bI x st come) else 0
def wN:Sp:=fun vs H Q _=>∃(v u:V) (x:eZ) (st:eV) (come fr:Int),vs=[v,u,.int come,.int fr]/\At H (gR x) v/\At H (jM st) u/\kj x/\ik st /\
 ∀p u' H',aJ H H'->At H' (jM (cL x (cg x st come) (g8 x st come fr))) u'->H' p=some (.tup [u',.int (cX x st come),.int (come-bR x st come),.int (g8 x st come fr)])->Q (.ref p) H'
theorem Et:bh ["post","stand","come","free","pace","room","wait","ready","called","since","rest","seen","taken","done","newest","looks","moved","change"] ["post","stand","come","free"] (aM BR):=(by walk_at "c")
theorem sy {x:eZ} {st:eV} {come:Int} (h:ik st):ik (cg x st come):=by
 refine⟨?_,?_,fun y hy=>?_⟩
 ·show(st.cs.drop 1++[0]).length=5;have:=h.c;simp; omega
 ·show((bI x st come).take 3).length=3;have:=h.u;unfold bI;simp; omega
 ·have hy:=Od hy;unfold bI at hy;rcases cA.mp hy with z | z
  ·rw[z]; rfl
  ·exact h.l y z
theorem O3 {T:Addr} {tk:Tok} (F:DX K "beat" "beat" BR f fd T 12 tk) (B:Bi mg) (O:Co K mg) (gm:Ct P w K mg base k "since_and_look" ["post","since","rest"] Eh) (j9:Ct P w K mg base k "change_of" ["post","hands","newest","free"] yW) (my:Ct P w K mg base k "hands_of" ["stand"] Eo)
  (iT:Ct P w K mg base k "with_change" ["post","stand","change"] Bv):bV P w K mg base ig (k+1) f fd ["post","stand","come","free"] wN:=by
 refine F.ok Et (by rintro vs H Q E ⟨v,u,x,st,come,fr,rfl,_⟩; rfl) (fun cdv A outer s H vs Q E hr h=>?_)
 obtain⟨v,u,x,st,come,fr,rfl,a1,a2,hP,hS,q⟩:=h;have ND:=Et.nd;refine⟨_,(aq (cW (c7 ir (pv 0) fD (dG ao)) (cF (K:=K) (n:=2) rfl rfl (aG (aA (i:=4) ND rfl (by walk_at "o")) (aG (aA (i:=5) ND rfl (by walk_at "o")) cD)))) (aq (cW (pv 1) (cF (K:=K) (n:=6) rfl rfl (aG (aA (i:=6) ND rfl (by walk_at "o")) (aG (aA (i:=7) ND rfl (by walk_at "o")) (aG (aA (i:=8) ND rfl (by walk_at "o")) (aG (aA (i:=9) ND rfl (by walk_at "o")) (aG (aA (i:=10) ND rfl (by walk_at "o")) (aG (aA (i:=11) ND rfl (by walk_at "o")) cD)))))))) (aq (wZ (i:=7) ND rfl (by walk_at "o") (bA aZ (pv 8) ao (fun _ _=>rfl)) Lr) (aq (aQ (i:=8) ND rfl (by walk_at "o") (aH kJ (c7 ir (pv 8) (dG ao) fD) (bf (aa ao aj)))) (aq (aQ (i:=12) ND rfl (by walk_at "o") (pb (dq rfl) B.min g_ (aa (pv 2) (aa (pb (dM rfl) B.max gJ (aa (aH cB (pv 5) (pv 6)) (aa ao aj))) aj)))) (aq (wZ (i:=6) ND rfl (by walk_at "o") (pv 12) Lr) (aq (aQ (i:=13) ND rfl (by walk_at "o") (pb (dq rfl) B.min g_ (aa (pv 6) (aa (aH fB (pv 7) (pv 4)) aj)))) (aq (wZ (i:=6) ND rfl (by walk_at "o") (pv 13) Dg) (aq (aQ (i:=14) ND rfl (by walk_at "o") (aH kJ (bf (aa (bf (aa (pv 2) (aa (pv 13) (aa (pv 6) aj)))) aj)) (pv 11))) (aq (cW (pf gm hr (aa (pv 0) (aa (pv 9) (aa (pv 10) aj)))) (cF (K:=K) (n:=2) rfl rfl (aG (aA (i:=9) ND rfl (by walk_at "o")) (aG (aA (i:=15) ND rfl (by walk_at "o")) cD)))) (aq (aQ (i:=16) ND rfl (by walk_at "o") (bf (aa (pv 6) (aa (pv 7) (aa (pv 8) (aa (pv 9) (aa (pb (dM rfl) B.max gJ (aa (aH cB (pv 10) ao) (aa ao aj))) (aa (c7 ir (pv 14) fD (dG (R3 O.yr))) aj)))))))) (aq (aQ (i:=17) ND rfl (by walk_at "o") (b7 (fu (pv 15)) (pf j9 hr (aa (pv 0) (aa (pf my hr (aa (pv 16) aj)) (aa (pv 14) (aa (pv 3) aj))))) ao)) (aK (bc (bf (aa (pf iT hr (aa (pv 0) (aa (pv 16) (aa (pv 17) aj)))) (aa (pv 13) (aa (aH cB (pv 2) (pv 12)) (aa (pv 17) aj))))))))))))))))))),?_⟩
 obtain⟨pa,pb,pc,pd,rfl,p1,p2⟩:=je a1;obtain⟨sa,sb,sc,rfl,g1,g2,g3⟩:=iZ a2;have hc5:=hS.c;have hpp:=hP.p
 have Y9:(st.cs.map V.int)[0]?=some (.int (st.cs.getD 0 0)):=by
  rw[h_,gO (by omega),iy,gO (by omega)]; rfl
 walk_at "rd";refine⟨pa,_,rfl,p1,fun q1 H1 s1 e1=>?_⟩;rw[lY (by decide)] at e1
 replace e1:H1 q1=some (.tup [.int x.p,.int x.m]):=e1
 refine⟨q1,_,rfl,cY.of e1,rfl,?_⟩;walk_at "rd";refine⟨sa,_,rfl,cY.of (s1 _ _ g1),rfl,?_⟩;walk_at "rd";refine⟨_,rfl,Ix.tup (s1 _ _ g2) (bz Y9) ⟨_,_,rfl,rfl,?_⟩⟩;refine⟨sb,_,rfl,s1 _ _ g2,fun q2 H2 s2 e2=>?_⟩;rw[nP (by decide)] at e2
 have s12:=s1.trans s2;refine⟨(by decide),fun q3 H3 f3 s3 e3=>?_⟩
 refine⟨q2,q3,_,_,rfl,rfl,s3 _ _ e2,e3,lq (bD (by simp; omega)),fun q4 H4 s4 e4=>?_⟩
 have BV:=s12.trans (s3.trans s4);walk_at "rd";refine⟨_,rfl,_,_,rfl,rfl,.inr (by omega),_,rfl,_,_,rfl,rfl,(by decide),fun q5 H5 f5 s5 e5=>⟨(by decide),fun q6 H6 f6 s6 e6=>?_⟩⟩
 replace e5:H5 q5=some (.tup [.int come,.int (cX x st come),.int (st.w+bR x st come-cX x st come)]):=e5
 obtain⟨sc',us',ec,gu,au⟩:=bC g3;cases ec;have yE:=BV.trans (s5.trans s6);have YG:us'.length=3:=by have:=au.length; rw[dH,hS.u] at this; exact this
 refine⟨q6,sc,_,_,rfl,rfl,e6,yE _ _ gu,lq (bD (by simp; omega)),fun q7 H7 s7 e7=>?_⟩
 have VH:=yE.trans s7;have a7:At H7 (Br (bI x st come)) (.ref q7):=At.tup e7 (ak.cons (At.tup ((s6.trans s7) _ _ e5) (bB [come,cX x st come,st.w+bR x st come-cX x st come])) (au.mono VH))
 have hN:iW (bI x st come):=⟨by show st.us.length+1=4; rw[hS.u],fun y hy=>by
  rcases cA.mp hy with z | z
  ·rw[z]; rfl
  ·exact hS.l y z⟩
 refine⟨.ref pa,x,st.s,st.t,rfl,a1.mono VH,fun q8 H8 s8 e8=>?_⟩;refine⟨q8,_,rfl,cY.of e8,rfl,?_⟩;walk_at "rd";have s18:=VH.trans s8;obtain⟨q7',nws,en,gn,an⟩:=bC (a7.mono s8);cases en;refine⟨q7,_,rfl,gn,fun q9 H9 s9 e9=>?_⟩;rw[lY (by decide)] at e9
 have s19:=s18.trans s9;refine⟨(by decide),fun RQ qy PL uv e10=>?_⟩
 have VM:=s19.trans uv;have e4':H4 q4=some (.tup ((st.cs.drop 1++[0]).map V.int)):=by rw[e4]; simp
 have VF:aJ H4 qy:=s5.trans (s6.trans (s7.trans (s8.trans (s9.trans uv))))
 have am:At qy (jM (cg x st come)) (.ref RQ):=by
  refine At.tup e10 (ak.cons (At.int _) (ak.cons (At.int _) (ak.cons (At.tup (VF _ _ e4') (bB _)) (ak.cons (At.int _) (ak.cons (At.int _) (ak.cons (At.tup (uv _ _ e9) ?_) ak.nil))))));show ak qy (((bI x st come).take 3).map cZ) _;rw[zO];exact(an.take 3).mono (s9.trans uv)
 have fin:∀(c:Int) (ue:Hp),g8 x st come fr=c->aJ qy ue->Bv [.ref pa,.ref RQ,.int c] ue (fun y H1=>4<=sizeLine/\∀p H',H1 p=none->aJ H1 H'->H' p=some (.tup [y,.int (cX x st come),.int (come-bR x st come),.int c])->Q (.ref p) H') E0:=fun c ue ec Jk=>by
  subst ec;have VL:=VM.trans Jk;exact⟨.ref pa,.ref RQ,x,cg x st come,_,rfl,a1.mono VL,am.mono Jk,hP,sy hS,fun u' UJ Hc a12=>⟨(by decide),fun q13 Nj Tq kI Ir=>q q13 u' Nj (VL.trans (Hc.trans kI)) (a12.mono kI) Ir⟩⟩
 refine cM (fun c1=>?_) (fun c1=>?_)
 ·refine⟨.ref RQ,_,RQ,bJ st,q4,st.cs.drop 1++[0],_,rfl,rfl,e10,VF _ _ e4',?_⟩;refine⟨.ref pa,.ref q7,x,_,fr,bI x st come,rfl,a1.mono VM,a7.mono (s8.trans (s9.trans uv)),hP,hN,fun ue Jk=>?_⟩;exact fin _ ue (by unfold g8; rw[aR c1]) Jk
 ·exact fin 0 qy (by unfold g8; rw[bx (by rw[c1]; decide)]) (aJ.refl _)
local macro_rules | `(tactic| walk_at "cap")=>`(tactic| simp only[cu,ux,List.map_nil,List.getElem?_cons_zero,List.getElem?_cons_succ,Option.join_some])
def eQ:List fP->Str->Int
 | [],_=>0
 | r::rs,w=>if r.w=w/\eQ rs w<(r.s:Int)-1 then(r.s:Int)-1 else eQ rs w
structure vY (rs:List fP) (w:Str) (v:Int):Prop where
 z:0<=v
 le:∀r∈rs,r.w=w->(r.s:Int)-1<=v
 at':v=0\/∃r∈rs,r.w=w/\(r.s:Int)-1=v
theorem vY.one {rs:List fP} {w:Str} {v u:Int} (h:vY rs w v) (k:vY rs w u):v=u:=by
 have h1:v<=u:=by
  rcases h.at' with z | ⟨r,hr,e,z⟩
  ·have:=k.z; omega
  ·have:=k.le r hr e; omega
 have h2:u<=v:=by
  rcases k.at' with z | ⟨r,hr,e,z⟩
  ·have:=h.z; omega
  ·have:=h.le r hr e; omega
 omega
theorem t_:∀(rs:List fP) (w:Str),vY rs w (eQ rs w)
 | [],w=>⟨zp 0,by simp,.inl rfl⟩
 | r::rs,w=>by
  have ih:=t_ rs w;have e:eQ (r::rs) w=if r.w=w/\eQ rs w<(r.s:Int)-1 then(r.s:Int)-1 else eQ rs w:=rfl
  rw[e];have z:=ih.z;by_cases c:r.w=w/\eQ rs w<(r.s:Int)-1
  ·rw[aR c];refine⟨by omega,fun x hx hw=>?_,.inr ⟨r,jd,c.1,rfl⟩⟩
   rcases cA.mp hx with y | y
   ·rw[y]; exact zp _
   ·have:=ih.le x y hw; omega
  ·rw[bx c];refine⟨z,fun x hx hw=>?_,?_⟩
   ·rcases cA.mp hx with y | y
    ·subst y;have:¬eQ rs w<(x.s:Int)-1:=fun q=>c ⟨hw,q⟩;omega
    ·exact ih.le x y hw
   ·rcases ih.at' with y | ⟨x,hx,e1,e2⟩
    ·exact .inl y
    ·exact .inr ⟨x,jr _ hx,e1,e2⟩
def nC (x:eZ):List Int:=[eQ x.eN.flatten "come",eQ x.eN.flatten "done",eQ x.eN.flatten "wait"]
theorem Fv:∀(r:List Int) (b:Int),(∀y∈b::r,y<=dh b r)/\dh b r∈b::r
 | [],b=>⟨fun y hy=>by rw[fX.mp hy]; exact zp _,fX.mpr rfl⟩
 | c::r,b=>by
  have ih:=Fv r (if c>b then c else b)
  have e:dh b (c::r)=dh (if c>b then c else b) r:=rfl
  rw[e];obtain⟨h1,h2⟩:=ih;have hb:=h1 _ jd
  have hb2:b<=dh (if c>b then c else b) r/\c<=dh (if c>b then c else b) r:=by
   generalize dh (if c>b then c else b) r=M at hb
   by_cases z:c>b
   ·rw[aR z] at hb; omega
   ·rw[bx z] at hb; omega
  refine⟨fun y hy=>?_,?_⟩
  ·rcases cA.mp hy with z | z
   ·subst z; exact hb2.1
   ·rcases cA.mp z with z | z
    ·subst z; exact hb2.2
    ·exact h1 y (jr _ z)
  ·rcases cA.mp h2 with z | z
   ·rw[z];split
    ·exact jr _ jd
    ·exact jd
   ·exact jr _ (jr _ z)
def wM:Sp:=fun vs H Q _=>∃(p:Addr) (t:Str) (rs:List fP) (xs:List V),vs=[.ref p,.str t]/\H p=some (.lst xs)/\ak H (rs.map lN) xs/\rs.length<=1000/\(∀r∈rs,nW r)/\∀H',aJ H H'->Q (.int (eQ rs t)) H'
theorem lC:bh ["rows","what"] ["rows","what"] (aM jm):=(by walk_at "c")
theorem uA (F:iY K "most_ahead" "most_ahead" jm f fd) (B:Bi mg):bV P w K mg base ig (k+1) f fd ["rows","what"] wM:=by
 refine F.ok lC (by rintro vs H Q E ⟨p,t,rs,xs,rfl,_⟩; rfl) (fun cdv A outer s H vs Q E hr h=>?_)
 obtain⟨p,t,rs,xs,rfl,hp,hA,hn,hR,q⟩:=h;have ND:=lC.nd;refine⟨_,(aK (bc (xg rfl B.max (aa (jf (nt:=1) (N':=["row","what"]) (js:=[1]) rfl (jX (K:=K) rfl (pv 0)) jL.of (fun fp s' H'=>(aA (i:=0) (by show List.Nodup (["row","what"]:List Str); decide) rfl (.inl (fC rfl)) (.inr (fC rfl)))) (fun fp s' H'=>qI (bj fU (bA aZ (pv 0) ao (fun _ _=>rfl)) (pv 1) (bu _))) (fun fp s' H'=>(aH cB (bA aZ (pv 0) ao (fun _ _=>rfl)) ao))) aj) ao))),?_⟩
 walk_at "rd";have hlen:xs.length=rs.length:=by rw[hA.length,dH]
 have row:∀(i:Nat) x,xs[i]?=some x->∃r,rs[i]?=some r/\At H (lN r) x:=fun i x hx=>by
  obtain⟨d,hd,a⟩:=hA.get hx;rw[h_] at hd;cases e:rs[i]? with
  | none=>rw[e] at hd; simp at hd
  | some r=>rw[e] at hd; simp at hd; exact⟨r,rfl,by rw[hd]; exact a⟩
 refine Gj (fun i=>decide ((rs.getD i ⟨"",0,"",0,0⟩).w=t)) (fun i=>.int (((rs.getD i ⟨"",0,"",0,0⟩).s:Nat)-1)) (fun R hR=>?_) hp (by omega) (fun i x H' hx s' R hR=>?_) (fun i x H' hx hk s' R hR=>?_) (fun acc H' s' hacc hl=>?_)
 ·walk_at "rd"; exact hR
 ·obtain⟨r,er,ax⟩:=row i x hx;obtain⟨b,rfl,hb⟩:=row_shape ax;have eg:rs.getD i ⟨"",0,"",0,0⟩=r:=by rw[iy,er]; rfl
  rw[eg] at hR;walk_at "rd";refine Ix.tup (s' _ _ hb) (bz (j:=0) rfl) ?_;walk_at "cap";walk_at "rd";exact hR
 ·obtain⟨r,er,ax⟩:=row i x hx;obtain⟨b,rfl,hb⟩:=row_shape ax;have eg:rs.getD i ⟨"",0,"",0,0⟩=r:=by rw[iy,er]; rfl
  rw[eg] at hR;walk_at "rd";refine Ix.tup (s' _ _ hb) (bz (j:=1) rfl) ?_;walk_at "rd";exact hR
 ·have hl':H' acc=some (.lst ((((List.range xs.length).filter fun i=>decide ((rs.getD i ⟨"",0,"",0,0⟩).w=t)).map fun i=>(((rs.getD i ⟨"",0,"",0,0⟩).s:Nat):Int)-1).map V.int)):=by rw[hl,zL]; rfl
  have mem:∀y,y∈(((List.range xs.length).filter fun i=>decide ((rs.getD i ⟨"",0,"",0,0⟩).w=t)).map fun i=>(((rs.getD i ⟨"",0,"",0,0⟩).s:Nat):Int)-1)↔∃r∈rs,r.w=t/\(r.s:Int)-1=y:=fun y=>by
   simp only[lg,List.mem_filter,rJ,decide_eq_true_eq];constructor
   ·rintro⟨i,⟨hi,hw⟩,rfl⟩;have e:rs.getD i ⟨"",0,"",0,0⟩=rs[i]'(by omega):=by rw[iy,gO (by omega)]; rfl
    rw[e] at hw ⊢;exact⟨_,Hl _,hw,rfl⟩
   ·rintro⟨r,hr',hw,rfl⟩;obtain⟨i,hi,e⟩:=List.mem_iff_getElem.mp hr';have e':rs.getD i ⟨"",0,"",0,0⟩=r:=by rw[iy,gO hi,<- e]; rfl
    exact⟨i,⟨by omega,by rw[e']; exact hw⟩,by rw[e']⟩
  generalize (((List.range xs.length).filter fun i=>decide ((rs.getD i ⟨"",0,"",0,0⟩).w=t)).map fun i=>(((rs.getD i ⟨"",0,"",0,0⟩).s:Nat):Int)-1)=ns at hl' mem;refine⟨acc,ns,rfl,hl',fun e=>?_,fun b r e=>?_⟩
  ·have:(0:Int)=eQ rs t:=by
    refine vY.one (rs:=rs) (w:=t) ⟨zp 0,fun r hr' hw=>?_,.inl rfl⟩ (t_ rs t);have:=(mem ((r.s:Int)-1)).mpr ⟨r,hr',hw,rfl⟩;rw[e] at this;simp at this
   rw[this];exact q H' s'
  ·have:dh b r=eQ rs t:=by
    obtain⟨m1,m2⟩:=Fv r b;rw[<- e] at m1 m2;obtain⟨r',h1,h2,h3⟩:=(mem _).mp m2;refine vY.one (rs:=rs) (w:=t) ⟨?_,fun x hx hw=>m1 _ ((mem _).mpr ⟨x,hx,hw,rfl⟩),.inr ⟨r',h1,h2,h3⟩⟩ (t_ rs t);have:=(hR r' h1).s;omega
   rw[this];exact q H' s'
theorem Cp {H:Hp} {x:eZ} {v:V} (h:At H (gR x) v):∃a b c d ws,v=.ref a/\H a=some (.tup [.int x.p,.int x.m,.ref b,.int x.a,.int x.e,.ref c,.ref d])/\H d=some (.tup ws)/\ak H (x.eN.map pP) ws:=by
 obtain⟨a,b,c,d,rfl,h1,_⟩:=je h;obtain⟨a',xs,e,h2,h3⟩:=bC h;cases e;rw[h1] at h2;cases h2;obtain⟨_,_,e,b0,h3⟩:=ak.bw h3;cases e;obtain⟨_,_,e,b0,h3⟩:=ak.bw h3;cases e;obtain⟨_,_,e,b0,h3⟩:=ak.bw h3;cases e;obtain⟨_,_,e,b0,h3⟩:=ak.bw h3;cases e;obtain⟨_,_,e,b0,h3⟩:=ak.bw h3;cases e;obtain⟨_,_,e,b0,h3⟩:=ak.bw h3;cases e;obtain⟨_,_,e,b6,h3⟩:=ak.bw h3;cases e;obtain⟨d',ws,e,g1,g2⟩:=bC b6;cases e;exact⟨a,b,c,d,ws,rfl,h1,g1,g2⟩
structure MT (x:eZ):Prop where
 n:x.eN.flatten.length<=900
 r:∀r∈x.eN.flatten,nW r
def yU:Sp:=fun vs H Q _=>∃(v:V) (x:eZ),vs=[v]/\At H (gR x) v/\MT x/\∀p H',aJ H H'->H' p=some (.tup ((nC x).map V.int))->Q (.ref p) H'
theorem u_:bh ["post","rows"] ["post"] (aM qX):=(by walk_at "c")
theorem Hz (F:iY K "needed" "needed" qX f fd) (B:Bi mg) (O:Co K mg) (jC:Ct P w K mg base k "most_ahead" ["rows","what"] wM):bV P w K mg base ig (k+1) f fd ["post"] yU:=by
 refine F.ok u_ (by rintro vs H Q E ⟨v,x,rfl,_⟩; rfl) (fun cdv A outer s H vs Q E hr h=>?_)
 obtain⟨v,x,rfl,hv,hN,q⟩:=h;have ND:=u_.nd;refine⟨_,(aq (aQ (i:=1) ND rfl (by walk_at "o") (KY (N':=["rule","row"]) (js:=[]) rfl (iC (K:=K) rfl (bA aZ (pv 0) ao (fun _ _=>rfl))) jL.of rfl rfl (by decide) rfl rfl (fun fp s' H'=>(iC (K:=K) rfl (pv 0))) (fun fp s' H'=>(pv 1)))) (aK (bc (pt (cO) B.tuple cJ (aa (jw (N':=["what","rows"]) (js:=[1]) rfl (iC (K:=K) rfl (Fg (K:=K) rfl O.Q7)) vX.mk1 rfl (by decide) rfl (fun fp s' H'=>(pf jC hr (aa (pv 1) (aa (pv 0) aj))))) aj))))),?_⟩
 obtain⟨a,b,c,d,ws,rfl,h1,h2,h3⟩:=Cp hv;walk_at "rd";have eD:x.eN.map pP=(x.eN.map fun rs=>rs.map lN).map PyData.tuple:=by rw[zL]; rfl
 have eF:(x.eN.map fun rs=>rs.map lN).flatten=x.eN.flatten.map lN:=by rw[List.map_flatten]
 rw[eD] at h3;refine Mp _ (fun R hR=>?_) h2 h3 (by rw[eF,dH]; have:=hN.n; omega) (fun y H' R hR=>?_) (fun y z H' R hR=>?_) (fun acc ys H' s' hacc hl hA=>?_)
 ·walk_at "rd";exact Ix.tup h1 (bz (j:=6) rfl) hR
 ·walk_at "rd"; exact hR
 ·walk_at "rd"; exact hR
 rw[eF] at hA;refine Mm (es:=(nC x).map PyData.int) rfl (by show 3<=sizeLine; decide) rfl (fun i u e H2 hu he s2 R hR=>?_) (fun MK ys2 H2 s2 aaN hl2 Wv=>?_)
 ·walk_at "cap";walk_at "rd"
  have hi:i<3:=by
   by_cases z:i<3
   ·exact z
   ·rw[Oe (by show 3<=i; omega)] at hu; cases hu
  have go:∀(E2:XK) t,u=.str t->e=.int (eQ x.eN.flatten t)->wM ([V.ref acc,u]++[]) H2 R E2:=fun E2 t e1 e2=>by
   rw[e1];exact⟨acc,t,x.eN.flatten,ys,rfl,s2 _ _ hl,(hA.mono s').mono s2,(by have:=hN.n; omega),hN.r,fun H3 s3=>hR _ _ s3 (by rw[e2]; exact At.int _)⟩
  match i,hi,hu,he with
  | 0,_,hu,he=>cases hu; cases he; exact go _ "come" rfl rfl
  | 1,_,hu,he=>cases hu; cases he; exact go _ "done" rfl rfl
  | 2,_,hu,he=>cases hu; cases he; exact go _ "wait" rfl rfl
 ·cases du Wv;refine⟨MK,_,rfl,hl2,fun l hl3=>?_⟩;exact q l _ (s'.trans (s2.trans (aL hl3 _))) az
theorem JL (ws:List Int):PyData.hasDict (cZ ws)=false/\PyData.canLay0 (cZ ws)=true/\PyData.depth (cZ ws)=1:=by
 obtain⟨d1,d2,d3⟩:=kW ws;exact⟨by simpa[cZ,PyData.hasDict] using d1,by simpa[cZ,PyData.canLay0] using d2,by show PyData.depthAll _+1=1; rw[d3]⟩
theorem yO:∀us:List (List Int),PyData.hasDictAll (us.map cZ)=false/\PyData.canLayAll0 (us.map cZ)=true/\PyData.depthAll (us.map cZ)<=1
 | []=>⟨rfl,rfl,gD _⟩
 | u::us=>by
  obtain⟨h1,h2,h3⟩:=yO us;obtain⟨g1,g2,g3⟩:=JL u;refine⟨?_,?_,?_⟩
  ·show(PyData.hasDict (cZ u) || PyData.hasDictAll (us.map cZ))=false;rw[h1,g1]; rfl
  ·show(PyData.canLay0 (cZ u)&&PyData.canLayAll0 (us.map cZ))=true;rw[h2,g2]; rfl
  ·show max (PyData.depth (cZ u)) (PyData.depthAll (us.map cZ))<=1;rw[g3]; omega
def nF (ws:List Int) (i:Nat) (u:List Int):List Int:=(List.range 3).map fun j=>if ws.getD j 0>i then u.getD j 0 else 0
def xM (ws:List Int) (us:List (List Int)):List (List Int):=(List.range 3).map fun i=>nF ws i (us.getD i [])
def Ak (x:eZ) (st:eV):eV:=⟨st.w,st.r,st.cs,if x.e-1<st.s then x.e-1 else st.s,st.t,xM (nC x) st.us⟩
def Ej:Sp:=fun vs H Q _=>∃(t b:Addr) (i:Nat) (u ws:List Int),vs=[.ref t,.int i,.ref b]/\H t=some (.tup (u.map V.int))/\H b=some (.tup (ws.map V.int))/\u.length=3/\ws.length=3/\∀p H',aJ H H'->H' p=some (.tup ((nF ws i u).map V.int))->Q (.ref p) H'
theorem jP:bh ["triple","place","wants"] ["triple","place","wants"] (aM iJ):=(by walk_at "c")
theorem rW (F:iY K "lean_triple" "lean_triple" iJ f fd) (B:Bi mg):bV P w K mg base ig (k+1) f fd ["triple","place","wants"] Ej:=by
 refine F.ok jP (by rintro vs H Q E ⟨t,b,i,u,ws,rfl,_⟩; rfl) (fun cdv A outer s H vs Q E hr h=>?_)
 obtain⟨t,b,i,u,ws,rfl,h1,h2,n1,n2,q⟩:=h;have ND:=jP.nd;refine⟨_,(aK (bc (pt (cO) B.tuple cJ (aa (jf (nt:=2) (N':=["number","want","place"]) (js:=[1]) rfl (Fe (K:=K) rfl B.zip (aa (pv 0) (aa (pv 2) aj))) jL.of (fun fp s' H'=>(cF (K:=K) (n:=2) rfl rfl (aG (aA (i:=0) (by show List.Nodup (["number","want","place"]:List Str); decide) rfl (.inl (fC rfl)) (.inr (fC rfl))) (aG (aA (i:=1) (by show List.Nodup (["number","want","place"]:List Str); decide) rfl (.inl (fC rfl)) (.inr (fC rfl))) cD)))) (fun fp s' H'=>nH) (fun fp s' H'=>(b7 (bj pW (pv 1) (pv 2) (bu _)) (pv 0) ao))) aj)))),?_⟩
 walk_at "rd";refine vO (es:=(nF ws i u).map PyData.int) (fun R hR=>?_) h1 h2 (by rw[dH,n1]; rfl) (by rw[dH,n2]; rfl) (by show 3<=sizeLine; decide) (dZ.mpr fun d hd=>by obtain⟨z,_,rfl⟩:=lg.mp hd; rfl) (fun j x y e H' hx hy he s' R hR=>?_) (fun acc zs H' s' hacc hl hA=>?_)
 ·walk_at "rd"; exact hR
 ·rw[h_] at hx hy;obtain⟨x',ex,rfl⟩:=lU.mp hx;obtain⟨y',ey,rfl⟩:=lU.mp hy
  have ee:e=.int (if y'>i then x' else 0):=by
   rw[h_] at he;obtain⟨z,ez,rfl⟩:=lU.mp he;unfold nF at ez;rw[h_] at ez;obtain⟨j',ej,rfl⟩:=lU.mp ez
   have:j'=j:=by
    obtain⟨hh,e2⟩:=iM.mp ej;rw[Ho] at e2;exact e2.symm
   subst this;rw[iy,iy,ex,ey];rfl
  walk_at "cap";walk_at "rd";refine cM (fun c=>?_) (fun c=>?_)
  ·refine hR _ _ (aJ.refl _) ?_;rw[ee,aR (by have:=oM c; omega)]
   exact At.int _
  ·refine hR _ _ (aJ.refl _) ?_;rw[ee,bx (by have:=qg c; omega)]
   exact At.int _
 ·cases du hA;refine⟨acc,_,rfl,hl,fun l hl3=>?_⟩;exact q l _ (s'.trans (aL hl3 _)) az
def BJ:Sp:=fun vs H Q _=>∃(v u:V) (x:eZ) (st:eV),vs=[v,u]/\At H (gR x) v/\At H (jM st) u/\MT x/\ik st/\∀u' H',aJ H H'->At H' (jM (Ak x st)) u'->Q u' H'
theorem Lean.of {v u:V} {x:eZ} {st:eV} {H:Hp} {Q:VK} {E:XK} (a1:At H (gR x) v) (a2:At H (jM st) u) (n:MT x) (i:ik st) (q:∀u' H',aJ H H'->At H' (jM (Ak x st)) u'->Q u' H'):BJ ([v,u]++[]) H Q E:=⟨v,u,x,st,rfl,a1,a2,n,i,q⟩
theorem Es:bh ["post","stand","wait","ready","called","since","rest","seen","wants","lean_seen"] ["post","stand"] (aM BP):=(by walk_at "c")
theorem O2 (F:iY K "lean" "lean" BP f fd) (B:Bi mg) (tX:Ct P w K mg base k "needed" ["post"] yU) (iU:Ct P w K mg base k "lean_triple" ["triple","place","wants"] Ej):bV P w K mg base ig (k+1) f fd ["post","stand"] BJ:=by
 refine F.ok Es (by rintro vs H Q E ⟨v,u,x,st,rfl,_⟩; rfl) (fun cdv A outer s H vs Q E hr h=>?_)
 obtain⟨v,u,x,st,rfl,hv,hu,hN,hS,q⟩:=h;have ND:=Es.nd;refine⟨_,(aq (cW (pv 1) (cF (K:=K) (n:=6) rfl rfl (aG (aA (i:=2) ND rfl (by walk_at "o")) (aG (aA (i:=3) ND rfl (by walk_at "o")) (aG (aA (i:=4) ND rfl (by walk_at "o")) (aG (aA (i:=5) ND rfl (by walk_at "o")) (aG (aA (i:=6) ND rfl (by walk_at "o")) (aG (aA (i:=7) ND rfl (by walk_at "o")) cD)))))))) (aq (aQ (i:=8) ND rfl (by walk_at "o") (pf tX hr (aa (pv 0) aj))) (aq (aQ (i:=9) ND rfl (by walk_at "o") (pt (cO) B.tuple cJ (aa (jf (nt:=2) (N':=["place","triple","wants"]) (js:=[8]) rfl (KC (K:=K) rfl B.enumerate (aa (pv 7) aj)) jL.of (fun fp s' H'=>(cF (K:=K) (n:=2) rfl rfl (aG (aA (i:=0) (by show List.Nodup (["place","triple","wants"]:List Str); decide) rfl (.inl (fC rfl)) (.inr (fC rfl))) (aG (aA (i:=1) (by show List.Nodup (["place","triple","wants"]:List Str); decide) rfl (.inl (fC rfl)) (.inr (fC rfl))) cD)))) (fun fp s' H'=>nH) (fun fp s' H'=>(pf iU hr (aa (pv 1) (aa (pv 0) (aa (pv 2) aj)))))) aj))) (aK (bc (bf (aa (pv 2) (aa (pv 3) (aa (pv 4) (aa (pb (dq rfl) B.min g_ (aa (pv 5) (aa (aH cB (bA aZ (pv 0) ao (fun _ _=>rfl)) ao) aj))) (aa (pv 6) (aa (pv 9) aj)))))))))))),?_⟩
 obtain⟨a,b,c,rfl,h1,h2,h3⟩:=iZ hu;obtain⟨pa,pb,pc,pd,rfl,g1,_⟩:=je hv;walk_at "rd";refine⟨a,_,rfl,cY.of h1,rfl,?_⟩;walk_at "rd";refine⟨_,x,rfl,hv,hN,fun p H1 s1 e1=>?_⟩;walk_at "rd";obtain⟨c',zs,ec,h4,h5⟩:=bC h3;cases ec;have hzl:zs.length=3:=by rw[h5.length,dH,hS.u]
 refine Ds (es:=(xM (nC x) st.us).map cZ) (fun R hR=>?_) (s1 _ _ h4) (by rw[hzl]; rfl) (by show 3<=sizeLine; decide) (dZ.mpr fun d hd=>by
   obtain⟨z,_,rfl⟩:=lg.mp hd
   exact dZ.mpr fun d hd=>by obtain⟨z,_,rfl⟩:=lg.mp hd; rfl) (fun j y e H' hy he s' R hR=>?_) (fun acc X6 H' s' hacc hl hA=>?_)
 ·walk_at "rd"; exact hR
 ·obtain⟨d,hd,ay⟩:=h5.get hy;rw[h_] at hd;obtain⟨t,et,rfl⟩:=lU.mp hd;have ht3:t.length=3:=hS.l t (m9 et);obtain⟨ty,ts,rfl,k1,k2⟩:=bC ay;cases du k2
  have ee:e=cZ (nF (nC x) j t):=by
   rw[h_] at he;obtain⟨z,ez,rfl⟩:=lU.mp he;unfold xM at ez;rw[h_] at ez;obtain⟨j',ej,rfl⟩:=lU.mp ez
   have:j'=j:=by
    obtain⟨hh,e2⟩:=iM.mp ej;rw[Ho] at e2;exact e2.symm
   subst this;rw[iy,et];rfl
  walk_at "cap";walk_at "rd";refine⟨ty,p,j,t,nC x,rfl,s' _ _ (s1 _ _ k1),s' _ _ e1,ht3,rfl,fun r H2 s2 e2=>?_⟩;refine hR _ _ s2 ?_;rw[ee];exact At.tup e2 (bB _)
 ·refine⟨acc,X6,rfl,hl,fun l hl3=>?_⟩;have sl:=aL hl3 (HO.tup X6);have A1:At (upd H' l (.tup X6)) (.tuple ((xM (nC x) st.us).map cZ)) (.ref l):=At.tup az ((hA.mono cG).mono sl);refine Ix.tup (sl _ _ (s' _ _ (s1 _ _ g1))) (bz (j:=4) rfl) ?_;walk_at "rd";refine⟨(by show 6<=sizeLine; decide),fun r H3 f3 s3 e3=>?_⟩
  have ss:aJ H H3:=s1.trans (s'.trans (sl.trans s3));refine q _ _ ss (At.tup e3 ?_);exact ak.cons (At.int _) (ak.cons (At.int _) (ak.cons (At.tup (ss _ _ h2) (bB _)) (ak.cons (At.int _) (ak.cons (At.int _) (ak.cons (A1.mono s3) ak.nil)))))
def fH (x:eZ) (st:eV) (c:Int):eV:=cL x (cg x st c) (g8 x st c 12)
def BX (x:eZ) (st:eV) (c:Int):List Int:=[cX x st c,c-bR x st c,g8 x st c 12]
def lE (x:eZ):eV->List Int->List (List Int)
 | _,[]=>[]
 | st,c::cs=>BX x st c::lE x (fH x st c) cs
def j_ (x:eZ):eV->List Int->eV
 | st,[]=>st
 | st,c::cs=>j_ x (fH x st c) cs
theorem iV (x:eZ):∀(st:eV) (l:List Int) (c:Int),j_ x st (l++[c])=fH x (j_ x st l) c
 | _,[],_=>rfl
 | st,d::l,c=>iV x (fH x st d) l c
theorem jt (x:eZ):∀(st:eV) (l:List Int) (c:Int),lE x st (l++[c])=lE x st l++[BX x (j_ x st l) c]
 | _,[],_=>rfl
 | st,d::l,c=>by
  show BX x st d::lE x (fH x st d) (l++[c])=BX x st d::(lE x (fH x st d) l++[BX x (j_ x (fH x st d) l) c]);rw[jt]
theorem vA (x:eZ):∀(st:eV) (l:List Int),(lE x st l).length=l.length
 | _,[]=>rfl
 | st,d::l=>by show(lE x (fH x st d) l).length+1=l.length+1; rw[vA]
theorem DY {x:eZ} {st:eV} {ch:Int} (hx:kj x) (hs:ik st):ik (cL x st ch):=by
 have hc:=hs.c;have ha:=hx.a;unfold cL;split
 ·exact hs
 ·split
  ·refine⟨?_,hs.u,hs.l⟩;simp only[gF,jH,zx,lR,zR];omega
  ·refine⟨?_,hs.u,hs.l⟩;simp only[jz];exact hc
theorem Fl {x:eZ} {st:eV} {c:Int} (hx:kj x) (hs:ik st):ik (fH x st c):=DY hx (sy hs)
theorem Bf {x:eZ} (hx:kj x):∀{l:List Int} {st:eV},ik st->ik (j_ x st l)
 | [],_,hs=>hs
 | c::l,_,hs=>Bf hx (l:=l) (Fl hx hs)
theorem lV {H:Hp} {x:eZ} {v:V} (h:At H (gR x) v):∃a b c d,v=.ref a/\H a=some (.tup [.int x.p,.int x.m,.ref b,.int x.a,.int x.e,.ref c,.ref d])/\H b=some (.tup [.int x.lo,.int x.hi])/\H c=some (.tup [.int x.u,.int x.d])/\At H (BW x.eN) (.ref d):=by
 obtain⟨a,xs,rfl,h1,h2⟩:=bC h;obtain⟨x0,_,rfl,b0,h2⟩:=ak.bw h2;obtain⟨x1,_,rfl,b1,h2⟩:=ak.bw h2;obtain⟨x2,_,rfl,b2,h2⟩:=ak.bw h2;obtain⟨x3,_,rfl,b3,h2⟩:=ak.bw h2;obtain⟨x4,_,rfl,b4,h2⟩:=ak.bw h2;obtain⟨x5,_,rfl,b5,h2⟩:=ak.bw h2;obtain⟨x6,_,rfl,b6,h2⟩:=ak.bw h2;cases ak.pH h2;unfold At at b0 b1 b3 b4;subst b0 b1 b3 b4;obtain⟨b,ys,rfl,g3,g4⟩:=bC b2;obtain⟨c,zs,rfl,g1,g2⟩:=bC b5;obtain⟨d,ws,rfl,_,_⟩:=bC b6;cases du (cs:=[x.u,x.d]) g2;cases du (cs:=[x.lo,x.hi]) g4;exact⟨a,b,c,d,rfl,h1,g3,g1,b6⟩
theorem jZ:∀cs:List Int,bL (cs.map PyData.int)=true
 | []=>rfl
 | c::cs=>by show(rZ (.int c)&&bL (cs.map .int))=true; rw[jZ cs]; rfl
theorem qO:∀us:List (List Int),bL (us.map cZ)=true
 | []=>rfl
 | u::us=>by
  show(bL (u.map PyData.int)&&bL (us.map cZ))=true;rw[qO us,jZ u]; rfl
theorem qC (n:eV):rZ (jM n)=true:=by
 simp only[jM,rZ,bL,jZ,qO,Bool.and_self]
def yS:Sp:=fun vs H Q _=>∃(v u:V) (l:Addr) (x:eZ) (st:eV) (load:List Int),vs=[v,u,.ref l]/\At H (gR x) v/\At H (jM st) u/\kj x/\ik st/\H l=some (.lst (load.map V.int))/\load.length<=1000 /\
 ∀p xs H',aJ H H'->H p=none->H' p=some (.lst xs)->ak H' ((lE x st load).map cZ) xs->Q (.ref p) H'
theorem uZ:bh ["post","stand","load","told","come","done","away","change"] ["post","stand","load"] (aM qW):=(by walk_at "c")
theorem Hy (F:iY K "played" "played" qW f fd) (B:Bi mg) (jD:Qp P w K mg base k "beat" ["post","stand","come","free"] 12 wN):bV P w K mg base ig (k+1) f fd ["post","stand","load"] yS:=by
 refine F.ok uZ (by rintro vs H Q E ⟨v,u,l,x,st,load,rfl,_⟩; rfl) (fun cdv A outer s H vs Q E hr h=>?_)
 obtain⟨pA,sA,l,x,st,load,rfl,a1,a2,hx,hs,hl,hz,q⟩:=h;have ND:=uZ.nd;refine⟨_,(aq (aQ (i:=3) ND rfl (by walk_at "o") (bH aj)) (aq (gG PassesOwn.never rfl (jX (K:=K) rfl (pv 2)) (aA (i:=4) ND rfl (by walk_at "o")) (aq (cW (pfd jD hr (aa (pv 0) (aa (pv 1) (aa (pv 4) aj)))) (cF (K:=K) (n:=4) rfl rfl (aG (aA (i:=1) ND rfl (by walk_at "o")) (aG (aA (i:=5) ND rfl (by walk_at "o")) (aG (aA (i:=6) ND rfl (by walk_at "o")) (aG (aA (i:=7) ND rfl (by walk_at "o")) cD)))))) (aK (m_ (jx (K:=K) rfl PySem.F.plainAttrs_list PySem.F.slot_list_append PySem.F.type_list_append eG (pv 3) (aa (bf (aa (pv 5) (aa (pv 6) (aa (pv 7) aj)))) aj)))))) (aK (bc (pv 3))))),?_⟩
 walk_at "rd";refine⟨(by decide),fun p H1 f1 s1 e1=>?_⟩
 rw[JR];walk_at "rd";have pl:l≠p:=fun z=>by rw[z,f1] at hl; cases hl
 refine LK.of (s1 _ _ hl) (fun i σ H'=>∃(u:V) (o1 o2 o3 o4:Option V) (xs:List V),σ=[some pA,some u,some (.ref l),some (.ref p),o1,o2,o3,o4]/\At H' (jM (j_ x st (load.take i))) u/\H' p=some (.lst xs)/\ak (hid p H') ((lE x st (load.take i)).map cZ) xs/\SX p H H')
  ⟨_,_,_,_,_,_,rfl,a2.mono s1,e1,ak.nil,SX.of s1⟩ (fun i σ H' _ ⟨_,_,_,_,_,_,_,_,_,_,sx⟩=>sx.get pl hl) ?_ ?_
 ·rintro i y σ H2 hy ⟨u,o1,o2,o3,o4,xs,rfl,a3,e3,a4,sx⟩;rw[h_] at hy;obtain⟨c,hc,rfl⟩:=lU.mp hy;walk_at "rd";have sH:=SX.same f1 sx;refine⟨pA,u,x,_,c,12,rfl,a1.mono sH,a3,hx,Bf hx hs,fun p5 u5 H5 s5 a5 e5=>?_⟩;refine⟨p5,_,rfl,cY.of e5,rfl,?_⟩;walk_at "rd";refine⟨.inl ⟨rfl,_,dI.of (s5 _ _ e3)⟩,(by decide),fun p6 H6 f6 s6 e6=>?_⟩
  have Uj:=s5.trans s6;have XH:=Uj _ _ e3;have n6:p6≠p:=fun z=>by rw[<- z] at e3; rw[s5 _ _ e3] at f6; cases f6
  have hn:xs.length=(load.take i).length:=by rw[a4.length,dH,vA]
  have hi:i<load.length:=(iM.mp hc).1;refine⟨p,xs,_,rfl,rfl,XH,bD (by rw[hn,jH]; omega),?_⟩
  have hg:=take_snoc hc;rw[hg,iV,jt];refine⟨u5,_,_,_,_,_,rfl,?_,az,?_,(sx.trans (SX.of Uj)).trans SX.upd⟩
  ·exact((At.nJ XH _ _ (qC _) (a5.mono s6)).mono (by rw[<- eY (o:=HO.lst (xs++[V.ref p6]))]; exact aJ.refl _)).mono cG
  ·rw[eY,lQ];exact ak.append (a4.mono (aJ.hid Uj)) (ak.cons (At.tup (by rw[bF n6]; exact e6) (bB _)) ak.nil)
 ·rintro σ H2 ⟨u,o1,o2,o3,o4,xs,rfl,a3,e3,a4,sx⟩;walk_at "rd";rw[dH,qe] at a4;exact q p xs H2 (SX.same f1 sx) f1 e3 (a4.mono cG)
def J1 (K:PySem.W.Frag):Sp:=fun vs H Q _=>∃(s:Addr) (ns:List Int) (i:Int),vs=[.ref s,.int i]/\dI K H s (ns.map V.int)/\0<=i/\i<=1000/\∀p H',H p=none->aJ H H'->Tp H' p 0->Q (.ref p) H'
theorem vg:bh ["_law_script","_law_k","_law_cell"] ["_law_script","_law_k"] (aM rm):=(by walk_at "c")
theorem HF (F:iY K "_law_tape" "_law_tape" rm f fd) (B:Bi mg):bV P w K mg base ig (k+1) f fd ["_law_script","_law_k"] (J1 K):=by
 refine F.ok vg (by rintro vs H Q E ⟨a,ns,i,rfl,_⟩; rfl) (fun cdv A outer s H vs Q E hr h=>?_)
 obtain⟨a,ns,i,rfl,hS,h0,h1,q⟩:=h;have ND:=vg.nd;refine⟨_,(aq (aQ (i:=2) ND rfl (by walk_at "o") (b7 (bj rR (pv 1) (pb (ji (K:=K) rfl) B.len tZ (aa (pv 0) aj)) (bu _)) (bA FJ (pv 0) (pv 1) (fun _ _=>rfl)) ao)) (aK (bc (KJ (aa (aH fB (pb (Aq) B.abs MJ (aa (pv 2) aj)) (pt (pC) B.int yj (aa (fG K8 (pb (Aq) B.abs MJ (aa (pv 2) aj)) (aH gU ao ao) (bu _)) aj))) (aa (aH a_ (aH a_ (aH iQ (pv 2) ao) (aH fB ao (pv 1))) ao) (aa ao aj))))))),?_⟩
 walk_at "rd";refine⟨a,_,rfl,.inl hS,?_⟩;show ∃Q4 j,V.int i=V.int Q4/\V.int ((ns.map V.int).length:Int)=V.int j/\_;walk_at "rd";have TQ:∀c:Int,0<=(if c<0 then -c else c):=fun c=>by split <;> omega
 have fin:∀(c x y:Int),x=(if c<0 then -c else c)*(if decide (10 ^ Int.toNat 18<=(if c<0 then -c else c))=true then 1 else 0)->y=c % 2305843009213693951+39373*i+17->∀p,H p=none->Q (.ref p) (upd H p (.lst [.int x,.int y,.int 0])):=fun c x y ex ey p hp=>by
  have hx:0<=x:=by
   rw[ex];have nn:=TQ c;generalize (if c<0 then -c else c)=u at nn ⊢
   split
   ·rw[Int.mul_one]; exact nn
   ·rw[Int.mul_zero]; exact zp 0
  have h2:=zu c (show(2305843009213693951:Int)≠0 by decide)
  have h3:=zy c (show(0:Int)<2305843009213693951 by decide)
  exact q p _ hp (aL hp _) ⟨x,y,0,az,hx,by omega,by omega,zp 0,zp 0⟩
 have cm:∀(c:Int) (b:Bool),M7 c (if b=true then 1 else 0):=fun c b=>.inr (by cases b <;> decide)
 refine cM (fun c1=>?_) (fun c1=>?_)
 ·have c1':=oM c1;have hi:i.toNat<ns.length:=by rw[dH] at c1'; omega
  refine⟨a,_,i,.int (ns[i.toNat]),rfl,rfl,hS,?_,?_⟩
  ·have:=bz (xs:=ns.map V.int) (j:=i.toNat) (v:=.int (ns[i.toNat])) (by rw[h_,gO hi]; rfl)
   rwa [show((i.toNat:Nat):Int)=i by omega] at this
  ·walk_at "rd";refine⟨⟨by decide,by decide,by decide⟩,cm _ _,by decide,.inl (by decide),(by show 3<=sizeLine; decide),fun p hp=>?_⟩
   exact fin _ _ _ rfl rfl p hp
 ·refine⟨⟨by decide,by decide,by decide⟩,cm _ _,by decide,.inl (by decide),(by show 3<=sizeLine; decide),fun p hp=>?_⟩
  exact fin 0 _ _ rfl rfl p hp
def gP:Sp:=fun vs H Q _=>∃(a:Addr) (m:Int) (n:Nat),vs=[.ref a,.int m]/\Tp H a n/\n<=1000000000/\0<m/\m<1000000000000000/\∀v H',0<=v->v<m->Tp H' a (n+1)->SX a H H'->Q (.int v) H'
theorem vo:bh ["_law_tape_here","_law_many","_law_found","_law_once","_law_twice"] ["_law_tape_here","_law_many"] (aM rC):=(by walk_at "c")
theorem HN (F:iY K "_law_draw" "_law_draw" rC f fd) (B:Bi mg):bV P w K mg base ig (k+1) f fd ["_law_tape_here","_law_many"] gP:=by
 refine F.ok vo (by rintro vs H Q E ⟨a,m,n,rfl,_⟩; rfl) (fun cdv A outer s H vs Q E hr h=>?_)
 obtain⟨a,m,n,rfl,⟨x,y,z,hT,hx,hy,hy2,hz,hz2⟩,hn,hm,hm2,q⟩:=h;have ND:=vo.nd;refine⟨_,(aq (dJ (bj pW (bA aZ (pv 0) ao (fun _ _=>rfl)) ao (bu _)) (aq (aQ (i:=2) ND rfl (by walk_at "o") (aH iQ (bA aZ (pv 0) ao (fun _ _=>rfl)) (pv 1))) (aq (cW (aH nj (bA aZ (pv 0) ao (fun _ _=>rfl)) (pv 1)) (oU (pv 0) ao set_list)) (aK (bc (pv 2))))) bT) (aq (cW (aH a_ (bA aZ (pv 0) ao (fun _ _=>rfl)) ao) (oU (pv 0) ao set_list)) (aq (aQ (i:=3) ND rfl (by walk_at "o") (aH iQ (aH gU (aH a_ (bA aZ (pv 0) ao (fun _ _=>rfl)) (aH fB ao (bA aZ (pv 0) ao (fun _ _=>rfl)))) ao) ao)) (aq (aQ (i:=4) ND rfl (by walk_at "o") (aH iQ (aH fB (aH a_ (pv 3) (bA aZ (pv 0) ao (fun _ _=>rfl))) (aH a_ (aH a_ (aH iQ (pv 3) ao) ao) (bA aZ (pv 0) ao (fun _ _=>rfl)))) ao)) (aK (bc (aH iQ (aH OD (aH iQ (aH a_ (aH fB (pv 4) ao) (pv 3)) ao) ao) (pv 1)))))))),?_⟩
 walk_at "rd";refine Ix.lst hT (bz (j:=0) rfl) ?_;walk_at "rd";refine cM (fun c1=>?_) (fun c1=>?_)
 ·refine Ix.lst hT (bz (j:=0) rfl) ?_;walk_at "rd";refine⟨hm,Ix.lst hT (bz (j:=0) rfl) ?_⟩;walk_at "rd";refine⟨⟨hm,Int.lt_trans hm2 (by decide)⟩,a,_,0,0,rfl,rfl,hT,rfl,?_⟩
  refine q _ _ (zu _ (by omega)) (zy _ hm) ⟨x / m,y,z,az,Int.ediv_nonneg hx (by omega),hy,hy2,hz,by omega⟩ SX.upd
 ·refine Ix.lst hT (bz (j:=2) rfl) ?_;walk_at "rd";refine⟨a,_,2,2,rfl,rfl,hT,rfl,?_⟩;have hT2:upd H a (.lst [.int x,.int y,.int (z+1)]) a=some (.lst [.int x,.int y,.int (z+1)]):=az;show zm (V.ref a) (V.int 1) (upd H a (.lst [.int x,.int y,.int (z+1)])) _;generalize eH:upd H a (.lst [.int x,.int y,.int (z+1)])=H2 at hT2 ⊢;have sx:SX a H H2:=by rw[<- eH]; exact SX.upd
  refine Ix.lst hT2 (bz (j:=1) rfl) (Ix.lst hT2 (bz (j:=2) rfl) ?_);walk_at "rd";refine⟨.inl (by decide),⟨by decide,by decide,by omega⟩,by decide,Ix.lst hT2 (bz (j:=2) rfl) ?_⟩
  generalize eo:(y+39373*(z+1)) ^ Int.toNat 5 % 2147483647=o;have o1:0<=o:=by rw[<- eo]; exact zu _ (by decide)
  have o2:o<2147483647:=by rw[<- eo]; exact zy _ (by decide)
  walk_at "rd";refine⟨by decide,Ix.lst hT2 (bz (j:=2) rfl) ?_⟩
  walk_at "rd";have m1:=zu o (show(40009:Int)≠0 by decide)
  have m2:=zy o (show(0:Int)<40009 by decide)
  refine⟨.inl (by omega),by decide,?_⟩
  generalize et:(o+(z+1))*(o % 40009+7+(z+1)) % 2147483629=t;have t1:0<=t:=by rw[<- et]; exact zu _ (by decide)
  have t2:t<2147483629:=by rw[<- et]; exact zy _ (by decide)
  refine⟨.inl (by omega),by decide,⟨by decide,by decide⟩,hm,?_⟩
  exact q _ _ (zu _ (by omega)) (zy _ hm) ⟨x,y,z+1,hT2,hx,hy,hy2,by omega,by omega⟩ sx
theorem cz.of {a:Addr} {m:Int} {n:Nat} {H:Hp} {Q:VK} {E:XK} (t:Tp H a n) (hn:n<=1000000000) (h1:0<m) (h2:m<1000000000000000) (q:∀v H',0<=v->v<m->Tp H' a (n+1)->SX a H H'->Q (.int v) H'):gP ([.ref a,.int m]++[]) H Q E:=⟨a,m,n,rfl,t,hn,h1,h2,q⟩
def jl:Sp:=fun vs H Q _=>∃(a:Addr) (n:Nat),vs=[.ref a]/\Tp H a n/\n<=900000000/\∀v H',0<=v->v<=1000000000000->Tp H' a (n+4)->SX a H H'->Q (.int v) H'
theorem p_.of {a:Addr} {n:Nat} {H:Hp} {Q:VK} {E:XK} (t:Tp H a n) (hn:n<=900000000) (q:∀v H',0<=v->v<=1000000000000->Tp H' a (n+4)->SX a H H'->Q (.int v) H'):jl ([.ref a]++[]) H Q E:=⟨a,n,rfl,t,hn,q⟩
theorem qQ:bh ["_law_tape_here","_law_way","_law_great"] ["_law_tape_here"] (aM oh):=(by walk_at "c")
theorem Cw (F:iY K "_law_units" "_law_units" oh f fd) (B:Bi mg) (aO:Ct P w K mg base k "_law_draw" ["_law_tape_here","_law_many"] gP):bV P w K mg base ig (k+1) f fd ["_law_tape_here"] jl:=by
 refine F.ok qQ (by rintro vs H Q E ⟨a,n,rfl,_⟩; rfl) (fun cdv A outer s H vs Q E hr h=>?_)
 obtain⟨a,n,rfl,tp,hn,q⟩:=h;have ND:=qQ.nd;refine⟨_,(aq (aQ (i:=1) ND rfl (by walk_at "o") (pf aO hr (aa (pv 0) (aa ao aj)))) (aq (dJ (bj rR (pv 1) ao (bu _)) (aK (bc (pf aO hr (aa (pv 0) (aa ao aj))))) bT) (aq (dJ (bj fU (pv 1) ao (bu _)) (aK (bc (pf aO hr (aa (pv 0) (aa ao aj))))) bT) (aq (aQ (i:=2) ND rfl (by walk_at "o") (aH a_ (aH fB (pf aO hr (aa (pv 0) (aa (aH gU ao ao) aj))) (aH gU ao ao)) (pf aO hr (aa (pv 0) (aa (aH gU ao ao) aj))))) (aK (bc (b7 (bj fU (pv 1) ao (bu _)) (pv 2) (aH cB (aH gU ao ao) (aH iQ (pv 2) ao))))))))),?_⟩
 walk_at "rd";refine cz.of tp (by omega) (by decide) (by decide) fun v1 H1 l1 u1 t1 s1=>?_
 walk_at "rd";refine cM (fun c1=>?_) (fun c1=>?_)
 ·refine cz.of t1 (by omega) (by decide) (by decide) fun v2 H2 l2 u2 t2 s2=>?_
  exact q v2 H2 l2 (by omega) (t2.mono (by omega)) (s1.trans s2)
 ·refine cM (fun c2=>?_) (fun c2=>?_)
  ·refine cz.of t1 (by omega) (by decide) (by decide) fun v2 H2 l2 u2 t2 s2=>?_
   exact q v2 H2 l2 (by omega) (t2.mono (by omega)) (s1.trans s2)
  ·refine⟨⟨by decide,by decide,by decide⟩,?_⟩
   refine cz.of t1 (by omega) (by decide) (by decide) fun v2 H2 l2 u2 t2 s2=>?_
   walk_at "rd";have e6:(10:Int) ^ Int.toNat 6=1000000:=by decide
   have Jp:(10:Int) ^ Int.toNat 12=1000000000000:=by decide
   rw[e6] at u2;refine⟨⟨by decide,by decide,by decide⟩,.inr (by decide),⟨by decide,by decide,by decide⟩,?_⟩
   refine cz.of t2 (by omega) (by decide) (by decide) fun v3 H3 l3 u3 t3 s3=>?_
   rw[e6] at u3;walk_at "rd";rw[e6,Jp];refine cM (fun c3=>?_) (fun c3=>?_)
   ·exact q _ H3 (by omega) (by omega) (t3.mono (by omega)) (s1.trans (s2.trans s3))
   ·have m1:=zu (v2*1000000+v3) (show(3:Int)≠0 by decide)
    have m2:=zy (v2*1000000+v3) (show(0:Int)<3 by decide)
    exact⟨⟨by decide,by decide,by decide⟩,by decide,q _ H3 (by omega) (by omega) (t3.mono (by omega)) (s1.trans (s2.trans s3))⟩
def WX (i:Int):Prop:=0<=i/\i<=1000000000000
def Q8 (u:List Int):Prop:=∃a b c,u=[a,b,c]/\WX a/\WX b/\WX c
structure MP (r:fP):Prop where
 is:nW r
 g:r.g∈(["over","under","each"]:List Str)
 z:r.g = "each" -> r.t=0
 t:r.g ≠ "each" -> -12<=r.t/\r.t<=12/\r.t≠0
def J4:Sp:=fun vs H Q _=>∃(a:Addr) (n:Nat) (b:Bool),vs=[.ref a,.bl b]/\Tp H a n/\n<=800000000/\∀v r H',MP r->At (hid a H') (lN r) v->Tp H' a (n+12)->SX a H H'->Q v H'
theorem Row.of {a:Addr} {n:Nat} {b:Bool} {H:Hp} {Q:VK} {E:XK} (t:Tp H a n) (hn:n<=800000000) (q:∀v r H',MP r->At (hid a H') (lN r) v->Tp H' a (n+12)->SX a H H'->Q v H'):J4 ([.ref a,.bl b]++[]) H Q E:=⟨a,n,b,rfl,t,hn,q⟩
theorem yX:bh ["_law_tape_here","_law_small","_law_sign","_law_what","_law_span","_law_number","_law_step"] ["_law_tape_here","_law_small"] (aM wQ):=(by walk_at "c")
theorem K9 (F:iY K "_law_row" "_law_row" wQ f fd) (B:Bi mg) (aO:Ct P w K mg base k "_law_draw" ["_law_tape_here","_law_many"] gP) (cP:Ct P w K mg base k "_law_units" ["_law_tape_here"] jl):bV P w K mg base ig (k+1) f fd ["_law_tape_here","_law_small"] J4:=by
 refine F.ok yX (by rintro vs H Q E ⟨a,n,b,rfl,_⟩; rfl) (fun cdv A outer s H vs Q E hr h=>?_)
 obtain⟨a,n,b,rfl,tp,hn,q⟩:=h;have ND:=yX.nd;refine⟨_,(aq (aQ (i:=2) ND rfl (by walk_at "o") (bA aZ (bH (aa bQ (aa bQ (aa bQ aj)))) (pf aO hr (aa (pv 0) (aa ao aj))) (fun _ _=>rfl))) (aq (aQ (i:=3) ND rfl (by walk_at "o") (bA aZ (bH (aa bQ (aa bQ (aa bQ (aa bQ aj))))) (pf aO hr (aa (pv 0) (aa ao aj))) (fun _ _=>rfl))) (aq (aQ (i:=4) ND rfl (by walk_at "o") (b7 (fu (pv 1)) (bA aZ (bH (aa ao (aa ao (aa ao (aa (aH a_ ao (pf aO hr (aa (pv 0) (aa ao aj)))) aj))))) (pf aO hr (aa (pv 0) (aa ao aj))) (fun _ _=>rfl)) (aH a_ ao (pf aO hr (aa (pv 0) (aa ao aj)))))) (aq (aQ (i:=5) ND rfl (by walk_at "o") (b7 (fu (pv 1)) (pf aO hr (aa (pv 0) (aa ao aj))) (pf cP hr (aa (pv 0) aj)))) (aq (dJ (bj fU (pv 2) bQ (bu _)) (aK (bc (bf (aa (pv 3) (aa (pv 4) (aa (pv 2) (aa (pb (dM rfl) B.max gJ (aa ao (aa (pv 5) aj))) (aa ao aj)))))))) bT) (aq (aQ (i:=6) ND rfl (by walk_at "o") (aH a_ ao (pf aO hr (aa (pv 0) (aa (b7 (fu (pv 1)) ao ao) aj))))) (aK (bc (bf (aa (pv 3) (aa (pv 4) (aa (pv 2) (aa (pv 5) (aa (b7 (bj rR (aH a_ (pf aO hr (aa (pv 0) (aa ao aj))) (aH fB (pt (pC) B.int yj (aa (fG fU (pv 2) bQ (bu _)) aj)) ao)) ao (bu _)) (pv 6) (aH cB ao (pv 6))) aj)))))))))))))),?_⟩
 walk_at "rd";refine⟨(by decide),fun p1 H1 f1 s1 e1=>?_⟩
 refine cz.of (tp.same s1) (by omega) (by decide) (by decide) fun y1 H2 l2 u2 t2 s2=>?_
 have n1:p1≠a:=tp.ne f1;obtain⟨g,hg,eg⟩:=vB (ts:=["over","under","each"]) l2 u2;refine Ix.lst (s2.get n1 e1) eg ?_;refine⟨(by decide),fun p3 H3 f3 s3 e3=>?_⟩
 refine cz.of (t2.same s3) (by omega) (by decide) (by decide) fun y4 H4 l4 u4 t4 s4=>?_
 have n3:p3≠a:=t2.ne f3;obtain⟨w,hw,ew⟩:=vB (ts:=["come","done","wait","wait"]) l4 u4
 have hw':w∈(["come","done","wait"]:List Str):=by
  simp only[cA,jJ,or_false] at hw ⊢;rcases hw with z | z | z | z
  ·exact .inl z
  ·exact .inr (.inl z)
  ·exact .inr (.inr z)
  ·exact .inr (.inr z)
 refine Ix.lst (s4.get n3 e3) ew ?_;have sx4:SX a H H4:=(SX.of s1).trans (s2.trans ((SX.of s3).trans s4))
 have fin:∀(sp:Nat) (nn tt:Int) (H8:Hp) (m:Nat),(1<=sp/\sp<=4)->Tp H8 a m->m<=n+12->SX a H H8->(0<=nn/\nn<=1000000000000)->(g = "each" -> 1<=nn)->(g = "each" -> tt=0)->(g ≠ "each" -> -12<=tt/\tt<=12/\tt≠0)->∀p H',H8 p=none->aJ H8 H'->H' p=some (.tup [.str w,.int sp,.str g,.int nn,.int tt])->Q (.ref p) H':=fun sp nn tt H8 m hsp t8 hm s8 hnn hge hz ht p H' fp sp' ep=>by
  have pa:p≠a:=t8.ne fp;refine q _ ⟨w,sp,g,nn,tt⟩ H' ⟨⟨hw',hsp,hnn,hge⟩,hg,hz,ht⟩ (At.tup (by rw[bF pa]; exact ep) ?_) ((t8.same sp').mono hm) (s8.trans (SX.of sp'))
  exact ak.cons (At.str _) (ak.cons (At.int _) (ak.cons (At.str _) (ak.cons (At.int _) (ak.cons (At.int _) ak.nil))))
 cases b with
 | false=>
  walk_at "rd";refine cz.of t4 (by omega) (by decide) (by decide) fun y5 H5 l5 u5 t5 s5=>?_
  walk_at "rd";refine p_.of t5 (by omega) fun num H6 l6 u6 t6 s6=>?_
  walk_at "rd";obtain⟨sp,hsp⟩:∃sp:Nat,1+y5=(sp:Int):=⟨(1+y5).toNat,by omega⟩
  rw[hsp];have sx:SX a H H6:=sx4.trans (s5.trans s6);refine cM (fun c1=>?_) (fun c1=>?_)
  ·exact⟨(by decide),fin _ _ _ H6 _ (by omega) t6 (by omega) sx (by split <;> omega) (fun _=>by split <;> omega) (fun _=>rfl) (fun z=>absurd (oM c1) z)⟩
  ·have c1':=qg c1;refine cz.of t6 (by omega) (by decide) (by decide) fun y8 H8 l8 u8 t8 s8=>?_
   walk_at "rd";refine cz.of t8 (by omega) (by decide) (by decide) fun y9 H9 l9 u9 t9 s9=>?_
   walk_at "rd";refine⟨.inr (by decide),?_⟩
   refine cM (fun c2=>?_) (fun c2=>?_)
   ·exact⟨(by decide),fin _ _ _ H9 _ (by omega) t9 (by omega) (sx.trans (s8.trans s9)) ⟨l6,u6⟩ (fun z=>absurd z c1') (fun z=>absurd z c1') (fun _=>by omega)⟩
   ·exact⟨(by decide),fin _ _ _ H9 _ (by omega) t9 (by omega) (sx.trans (s8.trans s9)) ⟨l6,u6⟩ (fun z=>absurd z c1') (fun z=>absurd z c1') (fun _=>by omega)⟩
 | true=>
  walk_at "rd";refine cz.of t4 (by omega) (by decide) (by decide) fun y5 H5 l5 u5 t5 s5=>?_
  walk_at "rd";refine⟨(by decide),fun p6 H6 f6 s6 e6=>?_⟩
  refine cz.of (t5.same s6) (by omega) (by decide) (by decide) fun y7 H7 l7 u7 t7 s7=>?_
  have n6:p6≠a:=t5.ne f6;obtain⟨x,hx,ex⟩:=fY (ts:=[1,1,1,1+y5]) l7 u7;refine Ix.lst (s7.get n6 e6) ex ?_
  have hx':1<=x/\x<=4:=by
   simp only[cA,jJ,or_false] at hx;rcases hx with rfl | rfl | rfl | rfl <;> omega
  refine cz.of t7 (by omega) (by decide) (by decide) fun num H8 l8 u8 t8 s8=>?_
  walk_at "rd";obtain⟨sp,rfl⟩:∃sp:Nat,x=(sp:Int):=⟨x.toNat,by omega⟩
  have sx:SX a H H8:=sx4.trans (s5.trans ((SX.of s6).trans (s7.trans s8)));refine cM (fun c1=>?_) (fun c1=>?_)
  ·exact⟨(by decide),fin _ _ _ H8 _ (by omega) t8 (by omega) sx (by split <;> omega) (fun _=>by split <;> omega) (fun _=>rfl) (fun z=>absurd (oM c1) z)⟩
  ·have c1':=qg c1;refine cz.of t8 (by omega) (by decide) (by decide) fun y8 H9 l9 u9 t9 s9=>?_
   walk_at "rd";refine cz.of t9 (by omega) (by decide) (by decide) fun y9 qy l10 u10 M_ uv=>?_
   walk_at "rd";refine⟨.inr (by decide),?_⟩
   refine cM (fun c2=>?_) (fun c2=>?_)
   ·exact⟨(by decide),fin _ _ _ qy _ (by omega) M_ (by omega) (sx.trans (s9.trans uv)) (by omega) (fun z=>absurd z c1') (fun z=>absurd z c1') (fun _=>by omega)⟩
   ·exact⟨(by decide),fin _ _ _ qy _ (by omega) M_ (by omega) (sx.trans (s9.trans uv)) (by omega) (fun z=>absurd z c1') (fun z=>absurd z c1') (fun _=>by omega)⟩
theorem NQ (r:fP):rZ (lN r)=true:=rfl
theorem J9 (rs:List fP):rZ (pP rs)=true:=by
 show bL (rs.map lN)=true;exact dZ.mpr fun d hd=>by obtain⟨r,_,rfl⟩:=lg.mp hd; rfl
structure TY (rs:List fP):Prop where
 lo:1<=rs.length
 hi:rs.length<=4
 g:∀r∈rs,MP r
def Ei:Sp:=fun vs H Q _=>∃(a:Addr) (n:Nat) (bs:Bool),vs=[.ref a,.bl bs]/\Tp H a n/\n<=700000000/\∀p eN H',eN.length<=3->(∀rs∈eN,TY rs)->At (hid a H') (BW eN) (.ref p)->Tp H' a (n+300)->SX a H H'->Q (.ref p) H'
theorem qT:bh ["_law_tape_here","_law_small","_law_rules_here","_law_k"] ["_law_tape_here","_law_small"] (aM oA):=(by walk_at "c")
theorem CG (F:iY K "_law_rules" "_law_rules" oA f fd) (B:Bi mg) (aO:Ct P w K mg base k "_law_draw" ["_law_tape_here","_law_many"] gP) (Qg:Ct P w K mg base k "_law_row" ["_law_tape_here","_law_small"] J4):bV P w K mg base ig (k+1) f fd ["_law_tape_here","_law_small"] Ei:=by
 refine F.ok qT (by rintro vs H Q E ⟨a,n,bs,rfl,_⟩; rfl) (fun cdv A outer s H vs Q E hr h=>?_)
 obtain⟨a,n,bs,rfl,tp,hn,q⟩:=h;have ND:=qT.nd;refine⟨_,(aq (aQ (i:=2) ND rfl (by walk_at "o") (bH aj)) (aq (gG PassesOwn.never rfl (cN (by rfl) B.range (aa (pf aO hr (aa (pv 0) (aa (b7 (fu (pv 1)) ao ao) aj))) aj)) (aA (i:=3) ND rfl (by walk_at "o")) (aK (m_ (jx (K:=K) rfl PySem.F.plainAttrs_list PySem.F.slot_list_append PySem.F.type_list_append eG (pv 2) (aa (pt (cO) B.tuple cJ (aa (jw (N':=["_law_j","_law_tape_here","_law_small"]) (js:=[0,1]) rfl (cN (by rfl) B.range (aa (aH a_ ao (pf aO hr (aa (pv 0) (aa (b7 (fu (pv 1)) ao ao) aj)))) aj)) vX.mk2 rfl (by decide) rfl (fun fp s' H'=>(pf Qg hr (aa (pv 1) (aa (pv 2) aj))))) aj)) aj))))) (aK (bc (pt (cO) B.tuple cJ (aa (pv 2) aj)))))),?_⟩
 walk_at "rd";refine⟨gD _,fun p H1 f1 s1 e1=>?_⟩;have pa:p≠a:=tp.ne f1;rw[mK];walk_at "rd";refine(fun(hT:∀(m:Int) (H2:Hp),0<=m->m<4->Tp H2 a (n+1)->SX a H1 H2->FK _ _ _ _ [.int m] H2)=>cM (fun _=>cz.of (tp.same s1) (by omega) (by decide) (by decide) fun m H2 l2 u2 t2 s2=>hT m H2 l2 (by omega) t2 s2) (fun _=>cz.of (tp.same s1) (by omega) (by decide) (by decide) fun m H2 l2 u2 t2 s2=>hT m H2 l2 (by omega) t2 s2)) ?_
 intro m H2 l2 u2 t2 s2;refine FK.of (n:=m.toNat) (by omega) (by omega) (fun i σ H'=>∃(eN:List (List fP)) (ys:List V) (o3:Option V),σ=[some (.ref a),some (.bl bs),some (.ref p),o3]/\eN.length=i/\ys.length=i/\(∀rs∈eN,TY rs)/\H' p=some (.lst ys)/\ak (hid p (hid a H')) (eN.map pP) ys/\Tp H' a (n+1+60*i)/\SX a H H')
  ⟨[],[],_,rfl,rfl,rfl,fun d h=>by simp at h,s2.get pa e1,ak.nil,t2,(SX.of s1).trans s2⟩ ?_ ?_
 ·rintro i σ H3 hi ⟨eN,ys,o3,rfl,ld,ly,od,h3,a3,t3,s3⟩;walk_at "rd";refine⟨.inl ⟨rfl,_,dI.of h3⟩,?_⟩;rw[GP];walk_at "rd";refine(fun(hT:∀(r:Int) (H4:Hp),0<=r->r<4->Tp H4 a (n+1+60*i+1)->SX a H3 H4->∃Q4 Up,V.int 1=V.int Q4/\V.int r=V.int Up/\CK _ _ _ _ [.int (Q4+Up)] H4)=>cM (fun _=>cz.of t3 (by omega) (by decide) (by decide) fun r H4 l4 u4 t4 s4=>hT r H4 l4 (by omega) t4 s4) (fun _=>cz.of t3 (by omega) (by decide) (by decide) fun r H4 l4 u4 t4 s4=>hT r H4 l4 (by omega) t4 s4)) ?_
  intro r H4 l4 u4 t4 s4;have h4:=s4.get pa h3;walk_at "rd";refine CK.of (n:=(1+r).toNat) (by omega) (by omega) fun acc hacc=>?_
  have ca:acc≠a:=t4.ne hacc;have cp:acc≠p:=fun z=>by subst z; rw[hacc] at h4; cases h4
  refine⟨fun j zs H'=>∃es:List fP,es.length=j/\zs.length=j/\(∀d∈es,MP d)/\ak (hid acc (hid a H')) (es.map lN) zs/\H' acc=some (.lst zs)/\Tp H' a (n+1+60*i+1+12*j)/\SX a H4 H',?_,?_,?_⟩
  ·exact⟨[],rfl,rfl,fun d h=>by simp at h,ak.nil,az,t4.d_ ca,(SX.refl a H4).d_ hacc ca⟩
  ·rintro j zs H5 hj ⟨es,le,lz,oe,a5,c5,t5,s5⟩;show lB _ _ _ _ [some _,some (.ref a),some (.bl bs)] H5 _;walk_at "rd";refine Row.of t5 (by omega) fun v d H6 rk a6 t6 s6=>?_
   have c6:=s6.get ca c5;have c6':hid a H6 acc=some (.lst zs):=by rw[bF ca]; exact c6
   refine⟨c6,(by rw[lz]; exact bD (by omega)),es++[d],by rw[gF,le]; rfl,by rw[gF,lz]; rfl,fun x hx=>?_,?_,az,?_,?_⟩
   ·rcases uz.mp hx with z | z
    ·exact oe x z
    ·rw[fX.mp z]; exact rk
   ·rw[bM ca,eY,lQ];exact(a5.mono (aJ.hid s6)).append (ak.cons (At.nJ c6' _ v (NQ d) a6) ak.nil)
   ·exact(t6.d_ ca).mono (by omega)
   ·exact(s5.trans s6).d_ hacc ca
  ·rintro zs H6 ⟨es,le,lz,oe,a6,c6,t6,s6⟩;have h6:=s6.get pa h4;refine⟨acc,zs,rfl,c6,fun l hl=>?_⟩;have la:l≠a:=t6.ne hl;have lp:l≠p:=fun z=>by subst z; rw[hl] at h6; cases h6
   refine⟨p,ys,_,rfl,rfl,by rw[aV (Ne.symm lp)]; exact h6,by rw[ly]; exact bD (by omega),?_⟩
   have A1:At (hid a (upd H6 l (.tup zs))) (pP es) (.ref l):=by
    rw[bM la];have fr:hid a H6 l=none:=by rw[bF la]; exact hl
    exact At.tup az ((a6.mono cG).mono (aL fr _))
   have h7:hid a (upd H6 l (.tup zs)) p=some (.lst ys):=by rw[bF pa,aV (Ne.symm lp)]; exact h6
   have s67:SX a H3 (upd H6 l (.tup zs)):=(s4.trans s6).trans (SX.of (aL hl _));refine⟨eN++[es],ys++[.ref l],_,rfl,by rw[gF,ld]; rfl,by rw[gF,ly]; rfl,fun x hx=>?_,az,?_,?_,?_⟩
   ·rcases uz.mp hx with z | z
    ·exact od x z
    ·rw[fX.mp z]; exact⟨by omega,by omega,oe⟩
   ·rw[bM pa,eY,lQ];exact(a3.mono (aJ.hid s67)).append (ak.cons (At.nJ h7 _ _ (J9 es) A1) ak.nil)
   ·exact((t6.d_ la).d_ pa).mono (by omega)
   ·exact(s3.trans s67).d_ f1 pa
 ·rintro σ H3 ⟨eN,ys,o3,rfl,ld,ly,od,h3,a3,t3,s3⟩;walk_at "rd";refine⟨p,ys,rfl,h3,fun l hl=>?_⟩;have la:l≠a:=t3.ne hl;refine q l eN _ (by omega) od ?_ ((t3.d_ la).mono (by omega)) (s3.trans (SX.of (aL hl _)))
  rw[bM la];have fr:hid a H3 l=none:=by rw[bF la]; exact hl
  exact At.tup az ((a3.mono cG).mono (aL fr _))
structure Ux (x:eZ):Prop where
 p:1<=x.p/\x.p<=1000000
 m:WX x.m
 lo:0<=x.lo/\x.lo<=x.hi
 hi:x.hi<=12
 a:x.a<=4
 e:1<=x.e/\x.e<=6
 u:0<=x.u/\x.u<=9
 d:0<=x.d/\x.d<=9
 n:x.eN.length<=3
 r:∀rs∈x.eN,TY rs
theorem Ux.is {x:eZ} (h:Ux x):kj x:=⟨h.a,by have:=h.p; omega,by have:=h.n; omega,fun rs hrs r hr=>((h.r rs hrs).g r hr).is⟩
def J5:Sp:=fun vs H Q _=>∃(a:Addr) (n:Nat),vs=[.ref a]/\Tp H a n/\n<=100000000/\∀p x H',Ux x->At (hid a H') (gR x) (.ref p)->Tp H' a (n+400)->SX a H H'->Q (.ref p) H'
structure ZL (K:PySem.W.Frag) (mg:Str->Option Value) (aD:Addr):Prop where
 yq:mg "TooLong" = some (.ref aD)
 CN:PySem.W.excIn K aD Ve "ValueError.__new__" = true
 Tr:PySem.W.exmOne K (.ref aD) (.ref aD)=some true
variable {aD:Addr}
def iH (x:eZ) (st:eV) (c:Int):Nat->eV
 | 0=>st
 | n+1=>fH x (iH x st c n) c
def LI (x:eZ) (st:eV) (c:Int) (n:Nat):PyData:=jM (Ak x (iH x st c n))
theorem BK {x:eZ} {st:eV} {c:Int} (hx:kj x) (hs:ik st):∀n,ik (iH x st c n)
 | 0=>hs
 | n+1=>Fl hx (BK hx hs n)
noncomputable def lr (L:Nat->PyData) (n:Nat):Option Nat:=(List.range n).find? fun i=>decide (L i=L n)
def jj (L:Nat->PyData) (i b:Nat):Prop:=lr L i=some b/\∀j,j<i->lr L j=none
theorem jj.lt {L:Nat->PyData} {i b:Nat} (h:jj L i b):b<i:=by
 have:=List.mem_of_find?_eq_some h.1;exact rJ.mp this
theorem S5 (n:eV):uc (jM n):=by
 have hi:∀l:List Int,gb (l.map .int)=true:=fun l=>sr.mpr fun d hd=>by obtain⟨x,_,rfl⟩:=lg.mp hd; rfl
 have ht:gb (n.us.map cZ)=true:=sr.mpr fun d hd=>by
  obtain⟨u,_,rfl⟩:=lg.mp hd;exact hi u
 refine⟨⟨_,rfl⟩,?_,?_⟩
 ·show gb _=true;simp only[gb,ql,hi,ht,Bool.and_self]
 ·obtain⟨_,_,d3⟩:=kW n.cs;obtain⟨_,_,e3⟩:=yO n.us;simp only[jM,PyData.depth,PyData.depthAll,d3];omega
def Aj (L:Nat->PyData) (n:Nat):List (PyData×V):=(List.range n).map fun i=>(L i,V.int (i:Nat))
theorem Lh (L:Nat->PyData) (n:Nat):(Aj L n).length=n:=by unfold Aj; rw[dH,Hm]
theorem Ai (L:Nat->PyData) (n m:Nat):mH (Aj L n) (L m)=((List.range n).find? fun i=>decide (L i=L m)).map fun i=>V.int (i:Nat):=by
 unfold mH Aj;rw[List.find?_map,Option.map_map];rfl
theorem Lg {L:Nat->PyData} {n:Nat} (h:lr L n=none):putK (Aj L n) (L n) (.int (n:Nat))=Aj L (n+1):=by
 rw[Ku]
 ·unfold Aj;rw[zU,lQ]; rfl
 ·rw[Ai];unfold lr at h;rw[h]; rfl
def qD (C:Addr):Sp:=fun vs H Q E=>∃(v u:V) (x:eZ) (st:eV) (c:Int) (m:Nat),vs=[v,u,.int c,.int m]/\At H (gR x) v/\At H (jM st) u/\kj x/\MT x/\ik st/\m<=1000 /\
 (∀i b,i<=m->jj (LI x st c) i b->∀p H',aJ H H'->H' p=some (.tup [.int b,.int ((i:Int)-b)])->Q (.ref p) H')/\((∀j,j<=m->lr (LI x st c) j=none)->∀H',aJ H H'->E (.ref C) none H')
theorem pJ:bh ["post","stand","come","most","met","many","lean_stand","begin"] ["post","stand","come","most"] (aM lJ):=(by walk_at "c")
theorem Ab (F:iY K "round_of" "round_of" lJ f fd) (B:Bi mg) (Z:ZL K mg aD) (DK:Ct P w K mg base k "lean" ["post","stand"] BJ) (jD:Qp P w K mg base k "beat" ["post","stand","come","free"] 12 wN):bV P w K mg base (mF P w) (k+1) f fd ["post","stand","come","most"] (qD aD):=by
 refine F.okE pJ (by rintro vs H Q E ⟨v,u,x,st,c,m,rfl,_⟩; rfl) (fun cdv A outer s H vs Q E Tf hr h=>?_)
 obtain⟨pA,sA,x,st,c,m,rfl,a1,a2,hx,hn,hs,hm,q1,q2⟩:=h;have ND:=pJ.nd;refine⟨_,(aq (aQ (i:=4) ND rfl (by walk_at "o") KQ) (aq (gG PassesOwn.leaving rfl (cN (by rfl) B.range (aa (aH a_ (pv 3) ao) aj)) (aA (i:=5) ND rfl (by walk_at "o")) (aq (aQ (i:=6) ND rfl (by walk_at "o") (pf DK hr (aa (pv 0) (aa (pv 1) aj)))) (aq (dJ (bj (R_ hr.units) (pv 6) (pv 4) (by with_unfolding_all rfl)) (aq (aQ (i:=7) ND rfl (by walk_at "o") (bA (Wq hr.units) (pv 4) (pv 6) (fun _ _=>rfl))) (aK (bc (bf (aa (pv 7) (aa (aH cB (pv 5) (pv 7)) aj)))))) bT) (aq (cW (pv 5) (oU (pv 4) (pv 6) (Ry hr.units))) (aK (aQ (i:=1) ND rfl (by walk_at "o") (bA aZ (pfd jD hr (aa (pv 0) (aa (pv 1) (aa (pv 2) aj)))) ao (fun _ _=>rfl)))))))) (aK (Kv ⟨Z.yq,Z.CN⟩ Tf (aa (V_ (w6 bQ (w6 (Wa (pv 3)) (w6 bQ RZ)))) aj))))),?_⟩
 walk_at "rd";intro p H1 f1 s1 n1 hφ;show uo _ _ _ _ _ _;rw[mK];walk_at "rd";have nS:∀n:eV,rZ (jM n)=true:=qC;refine FK.of (n:=m+1) (by omega) (by omega) (fun i σ H'=>∃u o5 o6 o7,σ=[some pA,some u,some (.int c),some (.int m),some (.ref p),o5,o6,o7]/\At H' (jM (iH x st c i)) u/\il H' p (Aj (LI x st c) i)/\(∀j,j<i->lr (LI x st c) j=none)/\aJ H H') ⟨_,_,_,_,rfl,a2.mono s1,n1,fun j hj=>absurd hj (Nat.not_lt_zero _),s1⟩ ?_ ?_
 ·rintro i σ H2 hi ⟨u,o5,o6,o7,rfl,a3,n3,hj,s3⟩;walk_at "rd";refine Lean.of (a1.mono s3) a3 hn (BK hx hs i) fun u4 H4 s4 a4=>?_;have n4:=n3.same s4;have ky:kE H4 (LI x st c i) u4:=⟨S5 _,a4⟩;refine⟨p,_,_,rfl,n4,ky,?_⟩;have ev:=Ai (LI x st c) i i;cases hm2:lr (LI x st c) i with
  | some b=>
   have Ws:=hm2;unfold lr at Ws;rw[Ws] at ev;rw[ev,aR (show(Option.map (fun i:Nat=>V.int (i:Nat)) (some b)).isSome=true from rfl)];refine⟨p,_,_,_,rfl,n4,ky,ev,_,_,rfl,rfl,(by decide),fun p5 H5 f5 s5 e5=>?_⟩
   rw[vy] at e5;exact q1 i b (by omega) ⟨hm2,hj⟩ p5 H5 (s3.trans (s4.trans s5)) e5
  | none=>
   have Ws:=hm2;unfold lr at Ws;rw[Ws] at ev;rw[ev,bx (show ¬(Option.map (fun i:Nat=>V.int (i:Nat)) none).isSome=true by simp)]
   refine⟨p,_,_,rfl,n4,by rw[Lh,sizeLine_eq]; omega,ky,fun H5 p5=>?_⟩
   rw[vy] at p5;have n5:=p5.2;rw[Lg hm2] at n5;have Nf:aJ H H5:=km.same p5 (s3.trans s4) f1;refine⟨pA,u,x,_,c,12,rfl,a1.mono Nf,km.at n4 p5 (nS _) (a3.mono s4),hx,BK hx hs i,fun p6 u6 H6 s6 a6 e6=>Ix.tup e6 (v:=u6) rfl ?_⟩;refine⟨u6,_,_,_,rfl,a6,n5.same s6,fun j hji=>?_,Nf.trans s6⟩;rcases zq j i with z | z
   ·exact hj j z
   ·rw[show j=i by omega]; exact hm2
 ·rintro σ H2 ⟨u,o5,o6,o7,rfl,a3,n3,hj,s3⟩;walk_at "rd";have hd:=Tu (n:=(m:Int)) (k:=4) (by decide) (by omega)
  have l1:(Str.ofString "no round within ").length=16:=rfl;have l2:(Str.ofString " beats").length=6:=rfl;have l0:Str.empty.length=0:=rfl
  have e3:(Str.empty++Str.ofString "no round within " ++ tx (dg m)++Str.ofString " beats").length<=sizeLine:=by
   simp only[Str.length_append,Bl,l0,l1,l2,sizeLine_eq]; omega
  refine⟨_,rfl,?_,_,Tj (by omega) (by omega),?_,_,rfl,?_,_,rfl,e3,e3,by decide,fun H' s'=>q2 (fun j hj'=>hj j (by omega)) H' (s3.trans s')⟩
  ·simp only[Str.length_append,l0,l1,sizeLine_eq]; omega
  ·rw[Bl,sizeLine_eq]; omega
  ·simp only[Str.length_append,Bl,l0,l1,sizeLine_eq]; omega
theorem Round.of {C:Addr} {v u:V} {x:eZ} {st:eV} {c j:Int} {m:Nat} {H:Hp} {Q:VK} {E:XK} (ej:j=m) (a1:At H (gR x) v) (a2:At H (jM st) u) (hx:kj x) (hn:MT x) (hs:ik st) (hm:m<=1000)
  (q1:∀i b,i<=m->jj (LI x st c) i b->∀p H',aJ H H'->H' p=some (.tup [.int b,.int ((i:Int)-b)])->Q (.ref p) H') (q2:(∀j,j<=m->lr (LI x st c) j=none)->∀H',aJ H H'->E (.ref C) none H'):qD C ([v,u,.int c,.int j]++[]) H Q E:=by
 subst ej;exact⟨v,u,x,st,c,m,rfl,a1,a2,hx,hn,hs,hm,q1,q2⟩
variable {aD:Addr}
def uG (x:eZ) (st:eV) (c:Int) (n:Nat):List Int:=(List.range n).map fun i=>g8 x (iH x st c i) c 12
theorem xX (x:eZ) (st:eV) (c:Int) (n:Nat):(uG x st c n).length=n:=by unfold uG; rw[dH,Hm]
theorem uY (x:eZ) (st:eV) (c:Int):∀n,j_ x st (List.replicate n c)=iH x st c n
 | 0=>rfl
 | n+1=>by
  have:List.replicate (n+1) c=List.replicate n c++[c]:=List.replicate_succ';rw[this,iV,uY x st c n]; rfl
theorem z_ (x:eZ) (st:eV) (c:Int):∀n,lE x st (List.replicate n c)=(List.range n).map fun i=>BX x (iH x st c i) c
 | 0=>rfl
 | n+1=>by
  have:List.replicate (n+1) c=List.replicate n c++[c]:=List.replicate_succ';rw[this,jt,z_ x st c n,uY,zU,lQ]; rfl
theorem zg {α:Type}:∀(n:Nat) (x:α),(List.replicate n [x]).flatten=List.replicate n x
 | 0,_=>rfl
 | n+1,x=>by rw[Cj,Kh,zg n x,Cj]; rfl
def z7 (l:List Int):List Int:=((List.range l.length).filter fun i=>l.getD i 0 != 0).map fun i=>((i:Nat):Int)+1
theorem Ky (l:List Int):∀y∈z7 l,0<=y:=fun y hy=>by
 obtain⟨i,_,rfl⟩:=lg.mp hy;omega
theorem H_ {b:Int} {r:List Int} (h:0<=b):dh 0 (b::r)=dh b r:=by
 show dh (if b>0 then b else 0) r=dh b r
 by_cases z:b>0
 ·rw[aR z]
 ·rw[bx z,show b=0 by omega]
def restV (x:eZ) (st:eV) (c:Int) (i b:Nat):V:=if(((uG x st c i).drop b).any fun n=>n != 0)=true then .non else .int (dh 0 (z7 (uG x st c i)))
def wL (C:Addr):Sp:=fun vs H Q E=>∃(v u:V) (x:eZ) (st:eV) (c:Int) (m:Nat),vs=[v,u,.int c,.int m]/\At H (gR x) v/\At H (jM st) u/\kj x/\MT x/\ik st/\m<=1000 /\
 (∀i b,i<=m->jj (LI x st c) i b->∀H',aJ H H'->Q (restV x st c i b) H')/\((∀j,j<=m->lr (LI x st c) j=none)->∀H',aJ H H'->E (.ref C) none H')
theorem pK:bh ["post","stand","come","most","begin","length","changes"] ["post","stand","come","most"] (aM lK):=(by walk_at "c")
theorem Ac (F:iY K "rests_at" "rests_at" lK f fd) (B:Bi mg) (gq:Nk P w K mg base k "round_of" ["post","stand","come","most"] (qD aD)) (tW:Ct P w K mg base k "played" ["post","stand","load"] yS):bV P w K mg base (mF P w) (k+1) f fd ["post","stand","come","most"] (wL aD):=by
 refine F.okE pK (by rintro vs H Q E ⟨v,u,x,st,c,m,rfl,_⟩; rfl) (fun cdv A outer s H vs Q E Tf hr h=>?_)
 obtain⟨pA,sA,x,st,c,m,rfl,a1,a2,hx,hn,hs,hm,q1,q2⟩:=h;have ND:=pK.nd;refine⟨_,(aq (cW (pfe gq hr (aa (pv 0) (aa (pv 1) (aa (pv 2) (aa (pv 3) aj))))) (cF (K:=K) (n:=2) rfl rfl (aG (aA (i:=4) ND rfl (by walk_at "o")) (aG (aA (i:=5) ND rfl (by walk_at "o")) cD)))) (aq (wY (i:=6) ND rfl (by walk_at "o") (N':=["row"]) (js:=[]) rfl (jX (K:=K) rfl (pf tW hr (aa (pv 0) (aa (pv 1) (aa (aH R8 (bH (aa (pv 2) aj)) (aH a_ (pv 4) (pv 5))) aj))))) vX.mk0 rfl (by decide) rfl (fun fp s' H'=>(bA aZ (pv 0) ao (fun _ _=>rfl)))) (aq (dJ (fu (pb (Jb rfl) B.any Tv (aa (c7 mL (pv 6) (dG (pv 4)) fD) aj))) (aK (bc ju)) bT) (aK (bc (xg rfl B.max (aa (jf (nt:=2) (N':=["place","change"]) (js:=[]) rfl (Ff (K:=K) rfl B.enumerate (aa (pv 6) aj)) jL.of (fun fp s' H'=>(cF (K:=K) (n:=2) rfl rfl (aG (aA (i:=0) (by show List.Nodup (["place","change"]:List Str); decide) rfl (.inl (fC rfl)) (.inr (fC rfl))) (aG (aA (i:=1) (by show List.Nodup (["place","change"]:List Str); decide) rfl (.inl (fC rfl)) (.inr (fC rfl))) cD)))) (fun fp s' H'=>qI (bj Fi (pv 1) ao (bu _))) (fun fp s' H'=>(aH a_ (pv 0) ao))) aj) ao)))))),?_⟩
 walk_at "rd";refine Round.of rfl a1 a2 hx hn hs hm (fun i b hi hR p1 H1 s1 e1=>?_) (fun hj H1 s1 H2 s2=>?_)
 ·refine⟨p1,_,rfl,cY.of e1,rfl,?_⟩;walk_at "rd";have hb:=hR.lt;rw[uW];walk_at "rd";refine⟨(by decide),fun p2 H2 f2 s2 e2=>⟨p2,_,_,rfl,rfl,e2,by omega,by omega,?_,fun p3 f3=>?_⟩⟩
  ·show 1*_<=sizeLine;rw[sizeLine_eq]; omega
  have s3:=aL f3 (.lst (List.replicate ((b:Int)+((i:Int)-b)).toNat [V.int c]).flatten)
  have e3:upd H2 p3 (.lst (List.replicate ((b:Int)+((i:Int)-b)).toNat [V.int c]).flatten) p3=some (.lst ((List.replicate i c).map V.int)):=by
   rw[az,show((b:Int)+((i:Int)-b)).toNat=i by omega,List.map_replicate]
   congr 2
   exact zg i _
  generalize upd H2 p3 (.lst (List.replicate ((b:Int)+((i:Int)-b)).toNat [V.int c]).flatten)=H3 at *;have kI:=s1.trans (s2.trans s3);refine⟨pA,sA,p3,x,st,_,rfl,a1.mono kI,a2.mono kI,hx,hs,e3,by rw[zH]; omega,fun p4 xs H4 s4 f4 e4 A4=>?_⟩
  rw[z_,zL] at A4;have hlx:xs.length=i:=by rw[A4.length,dH,Hm]
  refine W5.of (es:=(uG x st c i).map .int) e4 (by rw[dH,xX,hlx]) (by rw[dH,xX,sizeLine_eq]; omega) (jZ _) (fun j y e H' hy he s' R hR'=>?_) fun acc ys H5 s5 f5 e5 A5=>?_
  ·obtain⟨d,hd,ad⟩:=A4.get hy;rw[h_] at hd he;unfold uG at he;rw[h_] at he;cases hg:(List.range i)[j]? with
   | none=>rw[hg] at hd; cases hd
   | some j'=>
   rw[hg] at hd he;cases hd;cases he;obtain⟨a,ws,rfl,ha,hw⟩:=bC (ad.mono s');cases du (cs:=BX x (iH x st c j') c) hw;walk_at "rd";exact Ix.tup ha (v:=.int (g8 x (iH x st c j') c 12)) rfl (hR' _ _ (aJ.refl _) (At.int _))
  cases du A5;refine⟨acc,_,rfl,dI.of e5,fun p6 f6=>⟨p6,(uG x st c i).drop b,rfl,by rw[az,nP (by omega),m8,List.map_drop],?_⟩⟩
  have s6:=aL f6 (.lst (jK ((uG x st c i).map V.int) (some (b:Int)) none));generalize upd H5 p6 (.lst (jK ((uG x st c i).map V.int) (some (b:Int)) none))=H6 at *;have yE:=kI.trans (s4.trans (s5.trans s6));have rv:∀v,restV x st c i b=v->(∀H',aJ H6 H'->Q v H'):=fun v e H' s'=>by rw[<- e]; exact q1 i b hi hR H' (yE.trans s')
  by_cases ha:(((uG x st c i).drop b).any fun n=>n != 0)=true
  ·rw[aR ha];exact rv _ (by unfold restV; rw[aR ha]) _ (aJ.refl _)
  ·rw[bx ha];have rv':=rv (.int (dh 0 (z7 (uG x st c i)))) (by unfold restV; rw[bx ha])
   refine Qd (ns:=uG x st c i) (fun _ n=>n != 0) (fun i _=>(i:Nat)+1) (fun R hR'=>?_) (s6 _ _ e5) (by rw[xX]; omega) (fun j y H' hy s' R hR'=>?_) (fun j y H' hy hk s' R hR'=>?_) fun MK H7 s7 f7 e7=>?_
   ·walk_at "rd"; exact hR'
   ·walk_at "rd";have e:(!decide (y=0))=(y != 0):=by by_cases z:y=0 <;> simp[z]
    rw[e]; exact hR'
   ·walk_at "rd"; exact hR'
   refine⟨MK,z7 (uG x st c i),rfl,e7,fun z=>?_,fun b' r' z=>?_⟩
   ·have:=rv' _ s7;rw[z] at this;exact this
   ·have h0:=Ky (uG x st c i) b' (by rw[z]; exact jd)
    have:=rv' _ s7;rw[z,H_ h0] at this;exact this
 ·exact q2 hj H2 (s2 s1)
theorem W3.of {C:Addr} {v u:V} {x:eZ} {st:eV} {c j:Int} {m:Nat} {H:Hp} {Q:VK} {E:XK} (ej:j=m) (a1:At H (gR x) v) (a2:At H (jM st) u) (hx:kj x) (hn:MT x) (hs:ik st) (hm:m<=1000)
  (q1:∀i b,i<=m->jj (LI x st c) i b->∀H',aJ H H'->Q (restV x st c i b) H') (q2:(∀j,j<=m->lr (LI x st c) j=none)->∀H',aJ H H'->E (.ref C) none H'):wL C ([v,u,.int c,.int j]++[]) H Q E:=by
 subst ej;exact⟨v,u,x,st,c,m,rfl,a1,a2,hx,hn,hs,hm,q1,q2⟩
theorem vh:bh ["_law_tape_here","_law_pace","_law_most","_law_hands","_law_rests","_law_late","_law_every"] ["_law_tape_here"] (aM rn):=(by walk_at "c")
theorem HH (F:iY K "_law_post" "_law_post" rn f fd) (B:Bi mg) (aO:Ct P w K mg base k "_law_draw" ["_law_tape_here","_law_many"] gP) (cP:Ct P w K mg base k "_law_units" ["_law_tape_here"] jl) (Je:Ct P w K mg base k "_law_rules" ["_law_tape_here","_law_small"] Ei):bV P w K mg base ig (k+1) f fd ["_law_tape_here"] J5:=by
 refine F.ok vh (by rintro vs H Q E ⟨a,n,rfl,_⟩; rfl) (fun cdv A outer s H vs Q E hr h=>?_)
 obtain⟨a,n,rfl,tp,hn,q⟩:=h;have ND:=vh.nd;refine⟨_,(aq (aQ (i:=1) ND rfl (by walk_at "o") (bA aZ (bH (aa ao (aa (aH a_ ao (pf aO hr (aa (pv 0) (aa ao aj)))) (aa (aH a_ ao (pf aO hr (aa (pv 0) (aa (aH gU ao ao) aj)))) aj)))) (pf aO hr (aa (pv 0) (aa ao aj))) (fun _ _=>rfl))) (aq (aQ (i:=2) ND rfl (by walk_at "o") (pf aO hr (aa (pv 0) (aa ao aj)))) (aq (aQ (i:=3) ND rfl (by walk_at "o") (bf (aa (pf aO hr (aa (pv 0) (aa (aH a_ (pv 2) ao) aj))) (aa (pv 2) aj)))) (aq (aQ (i:=4) ND rfl (by walk_at "o") (bf (aa (pf aO hr (aa (pv 0) (aa ao aj))) (aa (pf aO hr (aa (pv 0) (aa ao aj))) aj)))) (aq (oO (i:=5) (j:=6) rfl ND rfl rfl (by decide) rfl rfl (aa (pf aO hr (aa (pv 0) (aa ao aj))) (aa (aH a_ ao (pf aO hr (aa (pv 0) (aa ao aj)))) aj)) (by rfl)) (aK (bc (bf (aa (pv 1) (aa (pf cP hr (aa (pv 0) aj)) (aa (pv 3) (aa (pv 5) (aa (pv 6) (aa (pv 4) (aa (pf Je hr (aa (pv 0) (aa jY aj))) aj))))))))))))))),?_⟩
 have e6:(10:Int) ^ Int.toNat 6=1000000:=by decide
 walk_at "rd";refine cz.of tp (by omega) (by decide) (by decide) fun y1 H1 l1 u1 t1 s1=>?_
 walk_at "rd";refine⟨⟨by decide,by decide,by decide⟩,cz.of t1 (by omega) (by decide) (by decide) fun y2 H2 l2 u2 t2 s2=>⟨_,_,rfl,rfl,(by decide),fun p3 H3 f3 s3 e3=>?_⟩⟩
 rw[e6] at u2;have n3:=t2.ne f3;refine cz.of (t2.same s3) (by omega) (by decide) (by decide) fun y4 H4 l4 u4 t4 s4=>?_
 obtain⟨pc,YZ,Dr⟩:=fY (ts:=[1,1+y1,1+y2]) l4 u4
 have YX:1<=pc/\pc<=1000000:=by
  simp only[cA,jJ,or_false] at YZ;rcases YZ with rfl | rfl | rfl <;> omega
 refine Ix.lst (s4.get n3 e3) Dr ?_;clear YZ Dr l4 u4;refine cz.of t4 (by omega) (by decide) (by decide) fun y5 H5 l5 u5 t5 s5=>⟨_,_,rfl,rfl,?_⟩
 refine cz.of t5 (by omega) (by omega) (by omega) fun y6 H6 l6 u6 t6 s6=>⟨(by decide),fun p7 H7 f7 s7 e7=>?_⟩
 have n7:=t6.ne f7;refine cz.of (t6.same s7) (by omega) (by decide) (by decide) fun y8 H8 l8 u8 t8 s8=>?_
 refine cz.of t8 (by omega) (by decide) (by decide) fun y9 H9 l9 u9 t9 s9=>⟨(by decide),fun Yx qy PL uv e10=>?_⟩
 have n10:=t9.ne PL;refine cz.of (t9.same uv) (by omega) (by decide) (by decide) fun y11 ue Xu Xi Rq Jk=>?_
 refine cz.of Rq (by omega) (by decide) (by decide) fun y12 UJ Wo u12 Vs s12=>⟨_,_,rfl,rfl,_,_,rfl,?_⟩
 refine p_.of Vs (by omega) fun y13 Nj l13 u13 t13 kI=>?_
 refine⟨a,_,false,rfl,t13,by omega,fun p14 eN Z5 Y4 YW a14 t14 BV=>⟨(by decide),fun R7 M5 Us zb Jo=>?_⟩⟩
 have n15:=t14.ne Us;obtain⟨la,hla⟩:∃la:Nat,y11=(la:Int):=⟨y11.toNat,by omega⟩
 rw[hla] at Jo;have x10:SX a qy M5:=Jk.trans (s12.trans (kI.trans (BV.trans (SX.of zb))));have x7:SX a H7 M5:=s8.trans (s9.trans ((SX.of uv).trans x10));refine q R7 ⟨pc,y13,y6,y5,la,1+y12,y8,y9,eN⟩ M5 ⟨YX,⟨l13,u13⟩,by show 0<=y6/\y6<=y5; omega,by show y5<=12; omega,by show la<=4; omega,by show 1<=1+y12/\1+y12<=6; omega,by show 0<=y8/\y8<=9; omega,by show 0<=y9/\y9<=9; omega,Y4,YW⟩ ?_ ((t14.same zb).mono (by omega)) ?_
 ·exact At.tup (by rw[bF n15]; exact Jo) (ak.cons (At.int _) (ak.cons (At.int _) (ak.cons (At.tup (by rw[bF n7]; exact x7.get n7 e7) (bB [y6,y5])) (ak.cons (At.int _) (ak.cons (At.int _) (ak.cons (At.tup (by rw[bF n10]; exact x10.get n10 e10) (bB [y8,y9])) (ak.cons (a14.mono (SX.of zb)) ak.nil)))))))
 ·exact s1.trans (s2.trans ((SX.of s3).trans (s4.trans (s5.trans (s6.trans ((SX.of s7).trans x7))))))
structure StL (x:eV):Prop where
 w:WX x.w
 r:0<=x.r
 c:x.cs.length=5
 cn:∀y∈x.cs,0<=y
 sm:x.r+x.cs.sum<=12
 s:0<=x.s/\x.s<=5
 t:0<=x.t/\x.t<=9
 u:x.us.length=3
 ul:∀y∈x.us,Q8 y
def Eg:Sp:=fun vs H Q _=>∃(a:Addr) (n:Nat),vs=[.ref a]/\Tp H a n/\n<=100000000/\∀p x H',StL x->At (hid a H') (jM x) (.ref p)->Tp H' a (n+60)->SX a H H'->Q (.ref p) H'
theorem qR:bh ["_law_tape_here","_law_left","_law_called","_law_k","_law_seen"] ["_law_tape_here"] (aM ou):=(by walk_at "c")
theorem Cy (F:iY K "_law_stand" "_law_stand" ou f fd) (B:Bi mg) (aO:Ct P w K mg base k "_law_draw" ["_law_tape_here","_law_many"] gP) (cP:Ct P w K mg base k "_law_units" ["_law_tape_here"] jl) :
  bV P w K mg base ig (k+1) f fd ["_law_tape_here"] Eg:=by
 refine F.ok qR (by rintro vs H Q E ⟨a,n,rfl,_⟩; rfl) (fun cdv A outer s H vs Q E hr h=>?_)
 obtain⟨a,n,rfl,tp,hn,q⟩:=h;have ND:=qR.nd;refine⟨_,(aq (oO (i:=1) (j:=2) rfl ND rfl rfl (by decide) rfl rfl (aa ao (aa (KJ aj) aj)) (by rfl)) (aq (gG PassesOwn.never rfl (cN (by rfl) B.range (aa ao aj)) (aA (i:=3) ND rfl (by walk_at "o")) (aq (m_ (jx (K:=K) rfl PySem.F.plainAttrs_list PySem.F.slot_list_append PySem.F.type_list_append eG (pv 2) (aa (pf aO hr (aa (pv 0) (aa (aH a_ (pb (dq rfl) B.min g_ (aa (pv 1) (aa ao aj))) ao) aj))) aj))) (aK (aQ (i:=1) ND rfl (by walk_at "o") (aH cB (pv 1) (bA aZ (pv 2) (pv 3) (fun _ _=>rfl))))))) (aq (aQ (i:=4) ND rfl (by walk_at "o") (pt (cO) B.tuple cJ (aa (jw (N':=["_law_k","_law_tape_here"]) (js:=[0]) rfl (cN (by rfl) B.range (aa ao aj)) vX.mk1 rfl (by decide) rfl (fun fp s' H'=>(KH (aa (pf cP hr (aa (pv 1) aj)) (aa (pf cP hr (aa (pv 1) aj)) (aa (pf cP hr (aa (pv 1) aj)) aj)))))) aj))) (aK (bc (KH (aa (pf cP hr (aa (pv 0) aj)) (aa (pf aO hr (aa (pv 0) (aa (aH a_ (pv 1) ao) aj))) (aa (pt (cO) B.tuple cJ (aa (pv 2) aj)) (aa (pf aO hr (aa (pv 0) (aa ao aj))) (aa (pf aO hr (aa (pv 0) (aa ao aj))) (aa (pv 4) aj)))))))))))),?_⟩
 walk_at "rd";refine⟨gD _,fun p hp=>⟨_,_,rfl,?_⟩⟩;have pa:p≠a:=tp.ne hp;refine Mg (n:=5) (fun R hR=>hR) (by decide) (fun i σ H'=>∃(left:Int) (cs:List Int) (o3:Option V),σ=[some (.ref a),some (.int left),some (.ref p),o3,none]/\H' p=some (.lst (cs.map V.int))/\cs.length=i/\(∀c∈cs,0<=c)/\cs.sum+left=12/\(0<=left/\left<=12)/\Tp H' a (n+i)/\SX a H H')
  ⟨12,[],none,rfl,az,rfl,fun c h=>by simp at h,rfl,⟨by decide,by decide⟩,tp.same (aL hp _),SX.of (aL hp _)⟩ ?_ ?_
 ·rintro i σ H1 hi ⟨left,cs,o3,rfl,h1,h2,h3,h4,h5,t1,s1⟩;walk_at "rd";refine⟨.inl ⟨rfl,_,dI.of h1⟩,?_⟩;refine cz.of t1 (by omega) (by split <;> omega) (by split <;> omega) fun v H2 l2 u2 t2 s2=>?_
  have h1':=s2.get pa h1;refine⟨p,_,_,rfl,rfl,h1',by rw[dH]; exact bD (by omega),?_⟩
  have e:(cs.map V.int++[V.int v])=(cs++[v]).map V.int:=by simp
  rw[e];refine Ix.lst az (v:=.int v) ?_ ?_
  ·have:=bz (xs:=(cs++[v]).map V.int) (j:=i) (v:=.int v) (by subst h2; simp)
   rw[vy]; exact this
  ·walk_at "rd";have lv:v<=left:=by split at u2 <;> omega
   refine⟨left-v,cs++[v],_,rfl,az,by rw[gF,h2]; rfl,fun c hc=>?_,?_,by omega,?_,?_⟩
   ·rcases uz.mp hc with z | z
    ·exact h3 c z
    ·rw[fX.mp z]; exact l2
   ·rw[List.sum_append]; simp; omega
   ·exact t2.d_ pa
   ·exact(s1.trans s2).d_ hp pa
 ·rintro σ H1 ⟨left,cs,o3,rfl,h1,h2,h3,h4,h5,t1,s1⟩;walk_at "rd";refine xV (n:=3) (fun R hR=>hR) (by decide) fun acc hacc=>?_
  have ca:acc≠a:=t1.ne hacc;refine⟨fun i ys H'=>∃us:List (List Int),us.length=i/\(∀u∈us,Q8 u)/\ak (hid acc (hid a H')) (us.map cZ) ys/\ys.length=i/\H' acc=some (.lst ys)/\Tp H' a (n+5+12*i)/\SX a H1 H',?_,?_,?_⟩
  ·exact⟨[],rfl,fun u h=>by simp at h,ak.nil,rfl,az,t1.d_ ca,(SX.refl a H1).d_ hacc ca⟩
  ·rintro i ys H2 hi ⟨us,l2,u2,a2,y2,c2,t2,s2⟩;show Rj _ [some _,some (.ref a)] H2 _;walk_at "rd";refine p_.of t2 (by omega) fun v1 H3 l3 u3 t3 s3=>?_
   refine p_.of t3 (by omega) fun v2 H4 l4 u4 t4 s4=>?_
   refine p_.of t4 (by omega) fun v3 H5 l5 u5 t5 s5=>?_
   refine⟨(by show 3<=sizeLine; decide),fun t ht=>?_⟩
   have Yk:=s3.trans (s4.trans s5);have ta:t≠a:=t5.ne ht;have c5:=Yk.get ca c2;have tc:t≠acc:=fun z=>by subst z; rw[ht] at c5; cases c5
   refine⟨by rw[aV (Ne.symm tc)]; exact c5,bD (by omega),us++[[v1,v2,v3]],by rw[gF,l2]; rfl,fun u hu=>?_,?_,by rw[gF,y2]; rfl,az,?_,?_⟩
   ·rcases uz.mp hu with z | z
    ·exact u2 u z
    ·rw[fX.mp z]; exact⟨v1,v2,v3,rfl,⟨l3,u3⟩,⟨l4,u4⟩,⟨l5,u5⟩⟩
   ·rw[bM ca,eY,bM ta,bM tc,lQ];have fr:(hid acc (hid a H5)) t=none:=by rw[bF tc,bF ta]; exact ht
    refine ak.append ((a2.mono (aJ.hid Yk)).mono (aL fr _)) (ak.cons (At.tup az ?_) ak.nil);exact ak.cons (At.int _) (ak.cons (At.int _) (ak.cons (At.int _) ak.nil))
   ·exact((t5.d_ ta).d_ ca).mono (by omega)
   ·exact(((s2.trans Yk).trans (SX.of (aL ht _))).d_ hacc ca)
  ·rintro ys H2 ⟨us,l2,u2,a2,y2,c2,t2,s2⟩;refine⟨acc,ys,rfl,c2,fun l hl=>?_⟩;have la:l≠a:=t2.ne hl
   have A1:At (hid a (upd H2 l (.tup ys))) (.tuple (us.map cZ)) (.ref l):=by
    rw[bM la];have fr:hid a H2 l=none:=by rw[bF la]; exact hl
    exact At.tup az ((a2.mono cG).mono (aL fr _))
   have p2:upd H2 l (.tup ys) p=some (.lst (cs.map V.int)):=by
    have:=s2.get pa h1;rw[aV (fun z=>by subst z; rw[hl] at this; cases this)]; exact this
   refine p_.of (t2.d_ la) (by omega) fun v3 H3 l3 u3 t3 s3=>?_
   refine cz.of t3 (by omega) (by omega) (by omega) fun v4 H4 l4 u4 t4 s4=>?_
   refine⟨p,_,rfl,s4.get pa (s3.get pa p2),fun m hm=>?_⟩;have ma:m≠a:=t4.ne hm
   have A2:At (hid a (upd H4 m (.tup (cs.map V.int)))) (.tuple (cs.map .int)) (.ref m):=by
    rw[bM ma];exact At.tup az (bB cs)
   have A1':At (hid a (upd H4 m (.tup (cs.map V.int)))) (.tuple (us.map cZ)) (.ref l):=(A1.mono (s3.trans s4)).mono (SX.of (aL hm _));refine cz.of (t4.d_ ma) (by omega) (by decide) (by decide) fun v5 H5 l5 u5 t5 s5=>?_
   refine cz.of t5 (by omega) (by decide) (by decide) fun v6 H6 l6 u6 t6 s6=>?_
   refine⟨(by show 6<=sizeLine; decide),fun z hz=>?_⟩
   have za:z≠a:=t6.ne hz;have fr:hid a H6 z=none:=by rw[bF za]; exact hz
   have Uj:=s5.trans s6;refine q z ⟨v3,v4,cs,v5,v6,us⟩ _ ⟨⟨l3,u3⟩,l4,h2,h3,by show v4+cs.sum<=12; omega,⟨l5,by show v5<=5; omega⟩,⟨l6,by show v6<=9; omega⟩,l2,u2⟩ ?_ ((t6.d_ za).mono (by omega)) ?_
   ·rw[bM za];exact At.tup az (ak.cons (At.int _) (ak.cons (At.int _) (ak.cons ((A2.mono Uj).mono (aL fr _)) (ak.cons (At.int _) (ak.cons (At.int _) (ak.cons ((A1'.mono Uj).mono (aL fr _)) ak.nil))))))
   ·refine SX.trans s1 (SX.trans s2 (SX.trans (SX.of (aL hl _)) (SX.trans s3 (SX.trans s4 (SX.trans (SX.of (aL hm _)) (SX.trans s5 (SX.trans s6 (SX.of (aL hz _)))))))))
def J3:Sp:=fun vs H Q _=>∃(v:V) (p:Addr) (h:Int) (r:fP) (bW:List (List Int)) (xs:List V),vs=[v,.int h,.ref p]/\At H (lN r) v/\H p=some (.lst xs)/\ak H (bW.map cZ) xs/\MP r/\iW bW/\∀H',aJ H H'->Q (mV (says r h bW)) H'
theorem lD:bh ["_law_row_here","_law_hands","_law_newest","_law_what","_law_span","_law_sign","_law_number","_law_step","_law_at","_law_total"] ["_law_row_here","_law_hands","_law_newest"] (aM jn):=(by walk_at "c")
theorem uD (F:iY K "_law_row_wish" "_law_row_wish" jn f fd) (B:Bi mg):bV P w K mg base ig (k+1) f fd ["_law_row_here","_law_hands","_law_newest"] J3:=by
 refine F.ok lD (by rintro vs H Q E ⟨v,p,h,r,bW,xs,rfl,_⟩; rfl) (fun cdv A outer s H vs Q E hr h=>?_)
 obtain⟨rA,p,hh,r,bW,xs,rfl,a1,h1,a2,hR,hN,q⟩:=h;have ND:=lD.nd;refine⟨_,(aq (cW (pv 0) (cF (K:=K) (n:=5) rfl rfl (aG (aA (i:=3) ND rfl (by walk_at "o")) (aG (aA (i:=4) ND rfl (by walk_at "o")) (aG (aA (i:=5) ND rfl (by walk_at "o")) (aG (aA (i:=6) ND rfl (by walk_at "o")) (aG (aA (i:=7) ND rfl (by walk_at "o")) cD))))))) (aq (aQ (i:=8) ND rfl (by walk_at "o") (jx (K:=K) rfl PySem.F.plainAttrs_list PySem.F.slot_list_index PySem.F.type_list_index HY (bH (aa bQ (aa bQ (aa bQ aj)))) (aa (pv 3) aj))) (aq (aQ (i:=9) ND rfl (by walk_at "o") (pb (kZ rfl) B.sum yh (aa (jw (N':=["_law_one","_law_at"]) (js:=[8]) rfl (jX (K:=K) rfl (c7 mL (pv 2) fD (dG (pv 4)))) vX.mk1 rfl (by decide) rfl (fun fp s' H'=>(bA aZ (pv 0) (pv 1) (fun _ _=>rfl)))) aj))) (aq (dJ (bj fU (pv 5) bQ (bu _)) (aK (bc (aH nj (aH cB (aH a_ (pv 9) (aH fB (pv 6) (pv 4))) ao) (aH fB (pv 6) (pv 4))))) bT) (aq (dJ (bj fU (pv 5) bQ (bu _)) (aK (bc (b7 (bj pW (pv 9) (aH fB (pv 6) (pv 4)) (bu _)) (aH a_ (pv 1) (pv 7)) ju))) bT) (aK (bc (b7 (bj rR (pv 9) (aH fB (pv 6) (pv 4)) (bu _)) (aH a_ (pv 1) (pv 7)) ju)))))))),?_⟩
 obtain⟨ra,rfl,g1⟩:=row_shape a1;walk_at "rd";refine⟨ra,_,rfl,cY.of g1,rfl,?_⟩;walk_at "rd";have Xy:=hR.is;refine⟨(by decide),fun p2 H2 f2 s2 e2=>⟨.inl ⟨rfl,_,dI.of e2⟩,p2,r.w,rfl,e2,rfl,Xy.w,?_⟩⟩
 show gK _ _ _ _ _ _;rw[uW];walk_at "rd";refine⟨p,_,rfl,dI.of (s2 _ _ h1),fun p3 f3=>?_⟩;rw[lY (by omega),m8]
 have s3:=aL f3 (HO.lst (xs.take r.s));have e3:upd H2 p3 (HO.lst (xs.take r.s)) p3=some (.lst (xs.take r.s)):=az;generalize upd H2 p3 (HO.lst (xs.take r.s))=H3 at s3 e3 ⊢;have a3:ak H3 ((bW.take r.s).map cZ) (xs.take r.s):=by rw[zO]; exact(a2.take r.s).mono (s2.trans s3)
 have hs4:=Xy.s;have htl:(bW.take r.s).length<=4:=by rw[jH]; omega
 refine W5.of (es:=((bW.take r.s).map fun l=>l.getD (dN r.w) 0).map .int) e3 (by rw[a3.length,dH,dH,dH]) (lq (bD (by rw[dH,dH]; omega))) (jZ _) (fun i y e H' hy he s' R hR'=>?_) (fun acc ys H' s' WD hl hA=>?_)
 ·obtain⟨d,q1,q2⟩:=a3.get hy;rw[h_] at q1;obtain⟨l,el,rfl⟩:=lU.mp q1;obtain⟨c,zs,rfl,k1,k2⟩:=bC (q2.mono s');cases du k2;rw[h_,h_,el] at he;cases he;have l3:l.length=3:=hN.l l (Od (m9 el));have hw:=uR r.w;show Rk _ _ _ [some _,some (.int _)] H' R;walk_at "rd";refine Ix.tup k1 (v:=.int (l.getD (dN r.w) 0)) (bz (by rw[h_,gO (by omega),iy,gO (by omega)]; rfl)) ?_
  exact hR' _ _ (aJ.refl _) (At.int _)
 ·have hys:=du hA;rw[hys] at hl;refine⟨acc,_,rfl,.inl hl,?_⟩;have sm:=s2.trans (s3.trans s');have q1:=q H' sm;unfold says at q1;have et:((bW.take r.s).map fun l=>l.getD (dN r.w) 0).sum=lA r.w r.s bW:=rfl;rw[et];have cm:M7 r.n r.s:=.inr (by omega)
  refine cM (fun c1=>?_) (fun c1=>?_)
  ·have c1':=oM c1;rw[aR c1'] at q1;have h1n:=Xy.e c1';have hpos:0<r.n*(r.s:Int):=Int.mul_pos (by omega) (by omega)
   have hup:r.n*(r.s:Int)<=1000000000000*4:=Int.mul_le_mul Xy.n.2 (by omega) (by omega) (by decide)
   exact⟨cm,cm,⟨hpos,Int.lt_of_le_of_lt hup (by decide)⟩,q1⟩
  ·have c1':=qg c1;rw[bx c1'] at q1;generalize lA r.w r.s bW=tot at q1 ⊢;refine cM (fun c2=>⟨cm,?_⟩) (fun c2=>⟨cm,?_⟩)
   ·have o1:=oM c2;have u1:¬r.g = "under" := by rw[o1]; decide +kernel
    refine cM (fun c3=>?_) (fun c3=>?_)
    ·rw[aR (.inl ⟨o1,oM c3⟩)] at q1; exact q1
    ·rw[bx (fun z=>by rcases z with z | z; exact qg c3 z.2; exact u1 z.1)] at q1; exact q1
   ·have o1:=qg c2
    have u1:r.g = "under" := by
     have hG3:=hR.g;simp only[cA,jJ,or_false] at hG3;rcases hG3 with z | z | z
     ·exact absurd z o1
     ·exact z
     ·exact absurd z c1'
    refine cM (fun c3=>?_) (fun c3=>?_)
    ·rw[aR (.inr ⟨u1,oM c3⟩)] at q1; exact q1
    ·rw[bx (fun z=>by rcases z with z | z; exact o1 z.1; exact qg c3 z.2)] at q1; exact q1
theorem oZ (is:List Int):PyData.hasDict (.list (is.map .int))=false/\PyData.canLay0 (.list (is.map .int))=true/\PyData.depth (.list (is.map .int))<=60:=by
 obtain⟨d1,d2,d3⟩:=kW is;exact⟨by simpa[PyData.hasDict] using d1,by simpa[PyData.canLay0] using d2,by show PyData.depthAll _+1<=60; rw[d3]; decide⟩
def pN:Option Int->PyData
 | none=>.none
 | some i=>.int i
theorem yZ:∀os:List (Option Int),bL (os.map pN)=true
 | []=>rfl
 | o::os=>by
  show(rZ (pN o)&&bL (os.map pN))=true;rw[yZ os]; cases o <;> rfl
theorem vq {G:Hp}:∀{os:List (Option Int)} {xs:List V},ak G (os.map pN) xs->xs=os.map mV
 | [],xs,h=>ak.pH h
 | o::os,xs,h=>by
  obtain⟨x,r,rfl,h1,h2⟩:=ak.bw h;rw[vq h2];cases o with
  | none=>unfold pN At at h1; rw[h1]; rfl
  | some i=>unfold pN At at h1; rw[h1]; rfl
theorem wU {l:List V} {d:V} {P:V->Bool}:((List.range l.length).filter fun i=>P (l.getD i d)).map (fun i=>l.getD i d)=l.filter P:=by
 have e:(List.range l.length).map (fun i=>l.getD i d)=l:=by
  apply Kf
  ·simp
  ·intro i h1 h2;rw[List.getElem_map,Ho,iy,gO h2]; rfl
 have:=lO (List.filter P) e;rw[List.filter_map] at this;exact this
theorem n_:∀os:List (Option Int),(os.map mV).filter (fun v=>!decide (v=V.non))=(os.filterMap id).map V.int
 | []=>rfl
 | none::os=>by
  rw[ux,List.filter_cons,Hs];simp only[mV,decide_true,Hg,Ci,if_false,id];exact n_ os
 | some i::os=>by
  rw[ux,List.filter_cons,Hs];have e:(!decide (mV (some i)=V.non))=true:=by simp[mV]
  rw[aR e,n_ os]; rfl
def PB (h:Int):List Int->Int
 | []=>h
 | i::_=>i
theorem pO (h:Int) (bW:List (List Int)):∀rs:List fP,cQ h bW rs=PB h ((rs.map fun r=>says r h bW).filterMap id)
 | []=>rfl
 | r::rs=>by
  rw[cQ,ux,Hs];cases e:says r h bW with
  | none=>simp only[id]; exact pO h bW rs
  | some i=>rfl
def El:Sp:=fun vs H Q _=>∃(v:V) (p:Addr) (h:Int) (x:eZ) (bW:List (List Int)) (xs:List V),vs=[v,.int h,.ref p]/\At H (gR x) v/\H p=some (.lst xs)/\ak H (bW.map cZ) xs/\Ux x/\iW bW/\∀H',aJ H H'->Q (.int (fQ x.eN x.lo x.hi h bW)) H'
theorem vd:bh ["_law_post_here","_law_hands","_law_newest","_law_wishes","_law_rule","_law_said","_law_some","_law_wanted"] ["_law_post_here","_law_hands","_law_newest"] (aM qZ):=(by walk_at "c")
theorem HB (F:iY K "_law_wish" "_law_wish" qZ f fd) (B:Bi mg) (yd:Ct P w K mg base k "_law_row_wish" ["_law_row_here","_law_hands","_law_newest"] J3):bV P w K mg base ig (k+1) f fd ["_law_post_here","_law_hands","_law_newest"] El:=by
 refine F.ok vd (by rintro vs H Q E ⟨v,p,h,x,bW,xs,rfl,_⟩; rfl) (fun cdv A outer s H vs Q E hr h=>?_)
 obtain⟨pA,p,hh,x,bW,xs,rfl,a1,h1,a2,hx,hN,q⟩:=h;have ND:=vd.nd;refine⟨_,(aq (aQ (i:=3) ND rfl (by walk_at "o") (bH aj)) (aq (gG PassesOwn.never rfl (iC (K:=K) rfl (bA aZ (pv 0) ao (fun _ _=>rfl))) (aA (i:=4) ND rfl (by walk_at "o")) (aq (wY (i:=5) ND rfl (by walk_at "o") (N':=["_law_row_here","_law_hands","_law_newest"]) (js:=[1,2]) rfl (iC (K:=K) rfl (pv 4)) vX.mk2 rfl (by decide) rfl (fun fp s' H'=>(pf yd hr (aa (pv 0) (aa (pv 1) (aa (pv 2) aj)))))) (aq (rP (i:=6) ND rfl (by walk_at "o") (nt:=1) (N':=["_law_one"]) (js:=[]) rfl (jX (K:=K) rfl (pv 5)) jL.of (fun fp s' H'=>(aA (i:=0) (by show List.Nodup (["_law_one"]:List Str); decide) rfl (.inl (fC rfl)) (.inr (fC rfl)))) (fun fp s' H'=>qI (bj xm (pv 0) ju (bu _))) (fun fp s' H'=>(pv 0))) (aK (m_ (jx (K:=K) rfl PySem.F.plainAttrs_list PySem.F.slot_list_append PySem.F.type_list_append eG (pv 3) (aa (b7 (bj (Cu hr.units) (pv 6) (bH aj) (bu _)) (bA aZ (pv 6) ao (fun _ _=>rfl)) (pv 1)) aj))))))) (aq (aQ (i:=7) ND rfl (by walk_at "o") (b7 (bj (Cu hr.units) (pv 3) (bH aj) (bu _)) (pb (IW rfl) B.max gJ (aa (pv 3) aj)) (pv 1))) (aK (bc (pb (dM rfl) B.max gJ (aa (bA aZ (bA aZ (pv 0) ao (fun _ _=>rfl)) ao (fun _ _=>rfl)) (aa (pb (dq rfl) B.min g_ (aa (bA aZ (bA aZ (pv 0) ao (fun _ _=>rfl)) ao (fun _ _=>rfl)) (aa (pv 7) aj))) aj)))))))),?_⟩
 obtain⟨pa,pb,pc,pd,rfl,p1,p2,p3,p4⟩:=lV a1;walk_at "rd";refine⟨(by decide),fun pw H2 f2 s2 e2=>?_⟩
 obtain⟨_,rs,ep,gr,ar⟩:=bC p4;cases ep;have lrs:rs.length=x.eN.length:=by rw[ar.length,dH]
 rw[yP];walk_at "rd";refine Ix.tup (s2 _ _ p1) (v:=.ref pd) rfl ?_;refine TK.of (s2 _ _ gr) (fun i σ H'=>∃(o4 o5 o6 o7:Option V),σ=[some (.ref pa),some (.int hh),some (.ref p),some (.ref pw),o4,o5,o6,o7]/\H' pw=some (.lst (((x.eN.take i).map (cQ hh bW)).map V.int))/\SX pw H H')
  ⟨_,_,_,_,rfl,e2,SX.of s2⟩ (fun i σ H' _ ⟨_,_,_,_,_,_,sx⟩=>(SX.same f2 sx) _ _ gr) ?_ ?_
 ·rintro i y σ H3 hy ⟨o4,o5,o6,o7,rfl,e3,sx⟩;have sm:=SX.same f2 sx;obtain⟨d,ed,ad⟩:=ar.get hy;rw[h_] at ed;obtain⟨rl,erl,rfl⟩:=lU.mp ed;have hG:=hx.r rl (m9 erl);obtain⟨ra,zs,rfl,g1,g2⟩:=bC (ad.mono sm);have lz:zs.length=rl.length:=by rw[g2.length,dH]
  walk_at "rd";refine PQ (es:=(rl.map fun r=>says r hh bW).map pN) (fun R hR=>?_) g1 (by rw[dH,dH,lz]) (lq (bD (by rw[dH,dH]; have:=hG.hi; omega))) (yZ _) (fun j z e H' hz he s' R hR=>?_) (fun acc ys H4 s4 WD h4 hA=>?_)
  ·walk_at "rd"; exact hR
  ·obtain⟨d,q1,q2⟩:=g2.get hz;rw[h_] at q1;obtain⟨r,er,rfl⟩:=lU.mp q1;rw[h_,h_,er] at he;cases he;show lB _ _ _ _ [some _,some (.int hh),some (.ref p)] H' R;walk_at "rd";refine⟨_,p,hh,r,bW,xs,rfl,q2.mono s',(sm.trans s') _ _ h1,a2.mono (sm.trans s'),hG.g r (m9 er),hN,fun dR s''=>hR _ _ s'' ?_⟩;show At dR (pN (says r hh bW)) (mV (says r hh bW));cases says r hh bW with
   | none=>exact At.non
   | some i=>exact At.int _
  ·have hys:=vq hA;have lys:ys.length=rl.length:=by rw[hys,dH,dH]
   have e4:H4 pw=some (.lst (((x.eN.take i).map (cQ hh bW)).map V.int)):=s4 _ _ e3;refine Gj (fun j=>!decide (ys.getD j .non=V.non)) (fun j=>ys.getD j .non) (fun R hR=>?_) h4 (by have:=hG.hi; omega) (fun j z H' hz s' R hR=>?_) (fun j z H' hz hk s' R hR=>?_) (fun MK H5 s5 aa4 h5=>?_)
   ·walk_at "rd"; exact hR
   ·walk_at "rd";have ez:ys.getD j .non=z:=by rw[iy,hz]; rfl
    rw[ez] at hR;exact⟨trivial,hR⟩
   ·walk_at "rd";have ez:ys.getD j .non=z:=by rw[iy,hz]; rfl
    rw[ez] at hR;exact hR
   ·rw[wU (P:=fun v=>!decide (v=V.non)),hys,n_] at h5;have YT:=pO hh bW rl;generalize hI:(rl.map fun r=>says r hh bW).filterMap id=is at h5 YT;have e5:=s5 _ _ e4;have Nf:=s4.trans s5
    have ap:∀(v:Int) (H6:Hp),v=cQ hh bW rl->aJ H5 H6->Eu (V.ref pw) [V.int v] H6 (fun _ H1=>∃(o4 o5 o6 o8:Option V),[some (V.ref pa),some (V.int hh),some (V.ref p),some (V.ref pw),some (V.ref ra),some (V.ref acc),some (V.ref MK),o7]=[some (V.ref pa),some (V.int hh),some (V.ref p),some (V.ref pw),o4,o5,o6,o8]/\H1 pw=some (HO.lst (List.map V.int (List.map (cQ hh bW) (List.take (i+1) x.eN))))/\SX pw H H1):=fun v H6 hv s6=>by
     refine⟨pw,_,_,rfl,rfl,s6 _ _ e5,bD (by rw[dH,dH,jH]; have:=hx.n; omega),?_⟩
     refine⟨_,_,_,_,rfl,?_,(sx.trans (SX.of (Nf.trans s6))).trans SX.upd⟩;rw[take_snoc erl,lQ,lQ,hv];exact az
    refine⟨.inl ⟨rfl,_,dI.of e5⟩,(by decide),fun p6 H6 f6 s6 e6=>?_⟩
    have z:=oZ is;refine⟨.list (is.map .int),.list [],At.lst (s6 _ _ h5) (bB _),At.lst e6 ak.nil,z.1,rfl,z.2.1,rfl,z.2.2,?_⟩;cases is with
    | nil=>
     have eq:PyData.eqv (.list (([]:List Int).map .int)) (.list [])=true:=rfl;rw[eq,bx (by decide)]
     exact ap hh H6 YT.symm s6
    | cons i0 is'=>
     have eq:PyData.eqv (.list ((i0::is').map .int)) (.list [])=false:=rfl;rw[eq,aR (by decide)]
     exact Ix.lst (s6 _ _ h5) (v:=.int i0) (bz (j:=0) rfl) (ap i0 H6 YT.symm s6)
 ·rintro σ H3 ⟨o4,o5,o6,o7,rfl,e3,sx⟩;have sm:=SX.same f2 sx;rw[lrs,qe] at e3;walk_at "rd";refine⟨(by decide),fun p4' H4 f4 s4 e4=>?_⟩
  have fin:∀w:Int,w=topOf hh (x.eN.map (cQ hh bW))->∀H5,aJ H H5->zm (V.ref pa) (V.int 2) H5 fun x H1=>zm x (V.int 0) H1 fun x H1=>zm (V.ref pa) (V.int 2) H1 fun x_1 H1=>zm x_1 (V.int 1) H1 fun x_2 H1=>∃i j,[x_2,V.int w]=[V.int i,V.int j]/\∃Q4 Up,[x,V.int (if j<i then j else i)]=[V.int Q4,V.int Up]/\Q (V.int (if Up>Q4 then Up else Q4)) H1:=fun w hw H5 s5=>by
   refine Ix.tup (s5 _ _ p1) (v:=.ref pb) rfl (Ix.tup (s5 _ _ p2) (v:=.int x.lo) rfl (Ix.tup (s5 _ _ p1) (v:=.ref pb) rfl (Ix.tup (s5 _ _ p2) (v:=.int x.hi) rfl ⟨_,_,rfl,_,_,rfl,?_⟩)));have h9:=q H5 s5
   have e9:fQ x.eN x.lo x.hi hh bW=(if(if w<x.hi then w else x.hi)>x.lo then(if w<x.hi then w else x.hi) else x.lo):=by
    unfold fQ;rw[<- hw];have:=hx.lo;simp only
    repeat' split <;> try omega
   rw[e9] at h9;exact h9
  have z:=oZ (x.eN.map (cQ hh bW));refine⟨.list ((x.eN.map (cQ hh bW)).map .int),.list [],At.lst (s4 _ _ e3) (bB _),At.lst e4 ak.nil,z.1,rfl,z.2.1,rfl,z.2.2,?_⟩;have sm4:=sm.trans s4;have e3':=s4 _ _ e3;cases hW:x.eN.map (cQ hh bW) with
  | nil=>
   have eq:PyData.eqv (.list (([]:List Int).map .int)) (.list [])=true:=rfl;rw[eq,bx (by decide)]
   exact fin hh (by rw[hW]; rfl) _ sm4
  | cons w0 ws=>
   have eq:PyData.eqv (.list ((w0::ws).map .int)) (.list [])=false:=rfl;rw[eq,aR (by decide)]
   rw[hW] at e3';refine⟨pw,w0,ws,rfl,e3',?_⟩;exact fin _ (by rw[hW]; rfl) _ sm4
end
theorem sY:∀(cs:List Int) (g:Int),(aX cs g).1.sum=cs.sum-g+(aX cs g).2
 | [],g=>by simp[aX]; omega
 | c::cs,g=>by
  have:=sY cs g;rw[aX,List.sum_cons,List.sum_cons,this];simp only;generalize (if(aX cs g).2<c then(aX cs g).2 else c)=z
  omega
theorem vM:∀(cs:List Int) (g:Int),(∀c∈cs,0<=c)->0<=g->(∀c∈(aX cs g).1,0<=c)/\0<=(aX cs g).2/\((aX cs g).2=0\/(aX cs g).1.sum=0)
 | [],g,_,hg=>⟨by simp[aX],by simpa[aX] using hg,.inr (by simp[aX])⟩
 | c::cs,g,h,hg=>by
  obtain⟨h1,h2,h3⟩:=vM cs g (fun y hy=>h y (jr _ hy)) hg;have hc:=h c jd;rw[aX];simp only;generalize hG:(aX cs g).2=G at *;refine⟨fun y hy=>?_,?_,?_⟩
  ·rcases cA.mp hy with z | z
   ·rw[z]; split <;> omega
   ·exact h1 y z
  ·split <;> omega
  ·rw[List.sum_cons];split <;> omega
structure Wth (x:eZ) (st n:eV) (ch:Int):Prop where
 w:n.w=st.w
 s:n.s=st.s
 u:n.us=st.us
 r:0<=n.r
 c:n.cs.length=5
 cn:∀y∈n.cs,0<=y
 sm:n.r+n.cs.sum=st.r+st.cs.sum+ch
 t:n.t=if ch=0 then st.t else if 0<ch then x.u else x.d
theorem qM {x:eZ} {st:eV} {ch:Int} (ha:x.a<=4) (hr:0<=st.r) (hl:st.cs.length=5) (hc:∀y∈st.cs,0<=y) (hz:0<=st.r+st.cs.sum+ch):Wth x st (cL x st ch) ch:=by
 by_cases c1:ch=0
 ·subst c1;have e:cL x st 0=st:=rfl;rw[e];exact⟨rfl,rfl,rfl,hr,hl,hc,by omega,rfl⟩
 ·by_cases c2:0<ch
  ·have e:cL x st ch={ st with cs:=st.cs.take x.a++[st.cs.getD x.a 0+ch]++st.cs.drop (x.a+1),t:=x.u }:=by unfold cL; rw[bx c1,aR c2]
   rw[e];refine⟨rfl,rfl,rfl,hr,?_,?_,?_,?_⟩
   ·simp only[gF,jH,zx,lR,zR];omega
   ·intro y hy;rcases uz.mp hy with z | z
    ·rcases uz.mp z with z | z
     ·exact hc y (Od z)
     ·rw[fX.mp z];have hlt:x.a<st.cs.length:=by omega
      have:0<=st.cs.getD x.a 0:=by
       rw[iy,gO hlt];exact hc _ (Hl hlt)
      omega
    ·exact hc y (List.mem_of_mem_drop z)
   ·show st.r+(st.cs.take x.a++[st.cs.getD x.a 0+ch]++st.cs.drop (x.a+1)).sum=_;obtain⟨y0,y1,y2,y3,y4,ey⟩:=Pk hl;rw[ey];have:x.a=0\/x.a=1\/x.a=2\/x.a=3\/x.a=4:=by omega
    rcases this with e | e | e | e | e <;> rw[e] <;> simp <;> omega
   ·show x.u=_;rw[bx c1,aR c2]
  ·have e:cL x st ch={ st with r:=st.r-(aX st.cs (-ch)).2,cs:=(aX st.cs (-ch)).1,t:=x.d }:=by unfold cL; rw[bx c1,bx c2]
   rw[e];obtain⟨k1,k2,k3⟩:=vM st.cs (-ch) hc (by omega)
   have k4:=sY st.cs (-ch);have k5:=wJ _ k1;refine⟨rfl,rfl,rfl,?_,?_,k1,?_,?_⟩
   ·show 0<=st.r-(aX st.cs (-ch)).2;omega
   ·show(aX st.cs (-ch)).1.length=5;rw[jz]; exact hl
   ·show st.r-(aX st.cs (-ch)).2+(aX st.cs (-ch)).1.sum=_;omega
   ·show x.d=_;rw[bx c1,bx c2]
theorem gB {st:eV} (h:st.cs.length=5):bJ st+(st.cs.drop 1++[0]).sum=st.r+st.cs.sum:=by
 obtain⟨a,b,c,d,e,hc⟩:=Pk h;unfold bJ;rw[hc];simp;omega
theorem zj {st:eV} (h:st.cs.length=5) (hr:0<=st.r) (hc:∀y∈st.cs,0<=y):0<=bJ st:=by
 obtain⟨a,b,c,d,e,ec⟩:=Pk h;have:=hc a (by rw[ec]; exact jd)
 unfold bJ; rw[ec]; show 0<=st.r+a; omega
theorem Ah {st:eV} (hc:∀y∈st.cs,0<=y):∀y∈st.cs.drop 1++[0],0<=y:=fun y hy=>by
 rcases uz.mp hy with z | z
 ·exact hc y (List.mem_of_mem_drop z)
 ·rw[fX.mp z]; exact zp 0
theorem pX:∀cs:List Int,(∀c∈cs,0<=c)->aX cs 0=(cs,0)
 | [],_=>rfl
 | c::cs,h=>by
  have hc:=h c jd;rw[aX,pX cs fun y hy=>h y (jr _ hy)];simp only;have e:(if 0<c then(0:Int) else c)=0:=by split <;> omega
  rw[e,zK,zK]
theorem vK:∀(cs:List Int) (n:Int),
  (∀j:Nat,j<cs.length->0<(aX cs n).1.getD j 0->(∀k:Nat,j<k->k<cs.length->¬0<(aX cs n).1.getD k 0)->aX cs (n+1)=((aX cs n).1.set j ((aX cs n).1.getD j 0-1),(aX cs n).2)) /\
  ((∀k:Nat,k<cs.length->¬0<(aX cs n).1.getD k 0)->aX cs (n+1)=((aX cs n).1,(aX cs n).2+1))
 | [],n=>⟨fun j hj=>by simp at hj,fun _=>rfl⟩
 | c::cs,n=>by
  obtain⟨iA,iB⟩:=vK cs n;rw[aX,aX];generalize hd:(aX cs n).1=ds at *;generalize hm:(aX cs n).2=m at *;simp only;refine⟨fun j hj hp hq=>?_,fun hq=>?_⟩
  ·cases j with
   | zero=>
    have hB:=iB fun k hk=>by
     have:=hq (k+1) (by omega) (by rw[lR]; omega)
     simpa using this
    have hp':0<c-(if m<c then m else c):=by simpa using hp
    rw[hB];simp only[List.getD_cons_zero,List.set_cons_zero];split at hp'
    ·rename_i z;rw[aR z];by_cases z2:m+1<c
     ·rw[aR z2];refine Prod.ext ?_ ?_
      ·simp only; congr 1; omega
      ·simp only; omega
     ·rw[bx z2];refine Prod.ext ?_ ?_
      ·simp only; congr 1; omega
      ·simp only; omega
    ·omega
   | succ j=>
    have hA:=iA j (by rw[lR] at hj; omega) (by simpa using hp) fun k h1 h2=>by
     have:=hq (k+1) (by omega) (by rw[lR]; omega)
     simpa using this
    rw[hA];simp
  ·have hB:=iB fun k hk=>by
    have:=hq (k+1) (by rw[lR]; omega)
    simpa using this
   have h0:=hq 0 (by rw[lR]; omega)
   have h0':¬0<c-(if m<c then m else c):=by simpa using h0
   rw[hB];simp only;split at h0'
   ·omega
   ·rename_i z;rw[bx z,bx (by omega)]
    refine Prod.ext rfl ?_;simp only; omega
theorem Fx (kp:Nat->Bool) (f:Nat->V):∀n:Nat,(((List.range n).filter kp).map f=[]/\∀k,k<n->kp k=false) \/
  ∃(j:Nat) (ini:List V),j<n/\kp j=true/\(∀k,j<k->k<n->kp k=false)/\((List.range n).filter kp).map f=ini++[f j]
 | 0=>.inl ⟨rfl,fun k h=>by omega⟩
 | n+1=>by
  have hs:=o9 kp f n;cases e:kp n with
  | true=>
   rw[e,aR rfl] at hs;exact .inr ⟨n,_,by omega,e,fun k h1 h2=>by omega,hs⟩
  | false=>
   rw[e,bx (by decide),m7] at hs
   rcases Fx kp f n with⟨h1,h2⟩ | ⟨j,ini,h1,h2,h3,h4⟩
   ·refine .inl ⟨by rw[hs]; exact h1,fun k hk=>?_⟩
    by_cases z:k=n
    ·rw[z]; exact e
    ·exact h2 k (by omega)
   ·refine .inr ⟨j,ini,by omega,h2,fun k k1 k2=>?_,by rw[hs]; exact h4⟩
    by_cases z:k=n
    ·rw[z]; exact e
    ·exact h3 k k1 (by omega)
theorem Rz {l:List Int} {a:Nat} {v:Int} (h:a<l.length):l.set a v=l.take a++[v]++l.drop (a+1):=by
 rw[List.set_eq_take_append_cons_drop,aR h,Ey]; rfl
section
variable {P:Program} {w:World} {K:PySem.W.Frag} {mg:Str->Option Value} {base:Heap} {f:Addr} {fd:FuncData} {k:Nat}
structure TV (st:eV):Prop where
 is:ik st
 r:0<=st.r
 cn:∀y∈st.cs,0<=y
 sm:st.r+st.cs.sum<=12
 t:0<=st.t
def Em:Sp:=fun vs H Q _=>∃(v u:V) (x:eZ) (st:eV) (come fr:Int),vs=[v,u,.int come,.int fr]/\At H (gR x) v/\At H (jM st) u/\Ux x/\TV st/\0<=fr /\
 ∀p u' H',aJ H H'->At H' (jM (cL x (cg x st come) (g8 x st come fr))) u'->H' p=some (.tup [u',.int (cX x st come),.int (come-bR x st come),.int (g8 x st come fr)])->Q (.ref p) H'
theorem vp:bh ["_law_post_here","_law_stand_here","_law_come","_law_free","_law_pace","_law_room","_law_hands","_law_late","_law_every","_law_rests","_law_rules_here","_law_wait","_law_ready","_law_called","_law_since","_law_rest","_law_seen","_law_line","_law_here","_law_done","_law_newest","_law_change","_law_there","_law_k","_law_last"] ["_law_post_here","_law_stand_here","_law_come","_law_free"] (aM rD):=(by walk_at "c")
theorem HQ (F:iY K "_law_beat" "_law_beat" rD f fd) (B:Bi mg) (Mv:Ct P w K mg base k "_law_wish" ["_law_post_here","_law_hands","_law_newest"] El):bV P w K mg base ig (k+1) f fd ["_law_post_here","_law_stand_here","_law_come","_law_free"] Em:=by
 refine F.ok vp (by rintro vs H Q E ⟨v,u,x,st,come,fr,rfl,_⟩; rfl) (fun cdv A outer s H vs Q E hr h=>?_)
 obtain⟨pA,sA,x,st,come,fr,rfl,a1,a2,hx,hs,hfr,q⟩:=h;have ND:=vp.nd;refine⟨_,(aq (cW (pv 0) (cF (K:=K) (n:=7) rfl rfl (aG (aA (i:=4) ND rfl (by walk_at "o")) (aG (aA (i:=5) ND rfl (by walk_at "o")) (aG (aA (i:=6) ND rfl (by walk_at "o")) (aG (aA (i:=7) ND rfl (by walk_at "o")) (aG (aA (i:=8) ND rfl (by walk_at "o")) (aG (aA (i:=9) ND rfl (by walk_at "o")) (aG (aA (i:=10) ND rfl (by walk_at "o")) cD))))))))) (aq (cW (pv 1) (cF (K:=K) (n:=6) rfl rfl (aG (aA (i:=11) ND rfl (by walk_at "o")) (aG (aA (i:=12) ND rfl (by walk_at "o")) (aG (aA (i:=13) ND rfl (by walk_at "o")) (aG (aA (i:=14) ND rfl (by walk_at "o")) (aG (aA (i:=15) ND rfl (by walk_at "o")) (aG (aA (i:=16) ND rfl (by walk_at "o")) cD)))))))) (aq (cW (bf (aa (aH a_ (pv 12) (bA aZ (pv 13) ao (fun _ _=>rfl))) (aa (aH xn (pt (pq) B.list jE (aa (c7 ir (pv 13) (dG ao) fD) aj)) (bH (aa ao aj))) aj))) (cF (K:=K) (n:=2) rfl rfl (aG (aA (i:=12) ND rfl (by walk_at "o")) (aG (aA (i:=17) ND rfl (by walk_at "o")) cD)))) (aq (aQ (i:=18) ND rfl (by walk_at "o") (aH a_ (pv 11) (pb (dq rfl) B.min g_ (aa (pv 2) (aa (pb (dM rfl) B.max gJ (aa (aH cB (pv 5) (pv 11)) (aa ao aj))) aj))))) (aq (aQ (i:=19) ND rfl (by walk_at "o") (pb (dq rfl) B.min g_ (aa (pv 18) (aa (aH fB (pv 12) (pv 4)) aj)))) (aq (aQ (i:=20) ND rfl (by walk_at "o") (aH xn (bH (aa (bf (aa (pv 2) (aa (pv 19) (aa (aH cB (pv 18) (pv 19)) aj)))) aj)) (pt (pq) B.list jE (aa (pv 16) aj)))) (aq (aQ (i:=21) ND rfl (by walk_at "o") ao) (aq (dJ (PW.pt (Cm (bj K8 (aH a_ (pv 14) ao) (pv 8) (bu _)) (wX (bj fU (pv 15) ao (bu _))))) (aq (aQ (i:=22) ND rfl (by walk_at "o") (aH a_ (pv 12) (pb (kZ rfl) B.sum yh (aa (pv 17) aj)))) (aK (aQ (i:=21) ND rfl (by walk_at "o") (pb (dq rfl) B.min g_ (aa (aH cB (pf Mv hr (aa (pv 0) (aa (pv 22) (aa (pv 20) aj)))) (pv 22)) (aa (pv 3) aj)))))) bT) (aq (dJ (bj pW (pv 21) ao (bu _)) (aK (cW (aH a_ (bA aZ (pv 17) (pv 7) (fun _ _=>rfl)) (pv 21)) (oU (pv 17) (pv 7) set_list))) bT) (aq (gG PassesOwn.never rfl (cN (by rfl) B.range (aa (pb (dM rfl) B.max gJ (aa ao (aa (aH cB ao (pv 21)) aj))) aj)) (aA (i:=23) ND rfl (by walk_at "o")) (aq (rP (i:=24) ND rfl (by walk_at "o") (nt:=1) (N':=["_law_place","_law_line"]) (js:=[17]) rfl (cN (by rfl) B.range (aa ao aj)) jL.of (fun fp s' H'=>(aA (i:=0) (by show List.Nodup (["_law_place","_law_line"]:List Str); decide) rfl (.inl (fC rfl)) (.inr (fC rfl)))) (fun fp s' H'=>qI (bj pW (bA aZ (pv 1) (pv 0) (fun _ _=>rfl)) ao (bu _))) (fun fp s' H'=>(pv 0))) (aK (dJ (bj (Cu hr.units) (pv 24) (bH aj) (bu _)) (aK (cW (aH cB (bA aZ (pv 17) (bA aZ (pv 24) (KD Bk ao) (fun _ _=>rfl)) (fun _ _=>rfl)) ao) (oU (pv 17) (bA aZ (pv 24) (KD Bk ao) (fun _ _=>rfl)) set_list))) (aK (aQ (i:=12) ND rfl (by walk_at "o") (aH cB (pv 12) ao))))))) (aq (aQ (i:=15) ND rfl (by walk_at "o") (b7 (bj Fi (pv 21) ao (bu _)) (bA aZ (pv 9) (pt (pC) B.int yj (aa (fG rR (pv 21) ao (bu _)) aj)) (fun _ _=>rfl)) (pb (dM rfl) B.max gJ (aa ao (aa (aH cB (pv 15) ao) aj))))) (aq (aQ (i:=14) ND rfl (by walk_at "o") (b7 (bj K8 (aH a_ (pv 14) ao) (pv 8) (bu _)) ao (aH a_ (pv 14) ao))) (aK (bc (bf (aa (bf (aa (aH cB (pv 18) (pv 19)) (aa (pv 12) (aa (pt (cO) B.tuple cJ (aa (pv 17) aj)) (aa (pv 14) (aa (pv 15) (aa (pt (cO) B.tuple cJ (aa (c7 mL (pv 20) fD (dG ao)) aj)) aj))))))) (aa (pv 19) (aa (aH cB (aH a_ (pv 11) (pv 2)) (pv 18)) (aa (pv 21) aj))))))))))))))))))),?_⟩
 obtain⟨pa,pb,pc,pd,rfl,p1,p2,p3,p4⟩:=lV a1;obtain⟨sa,sb,sc,rfl,g1,g2,g3⟩:=iZ a2;simp only[VD,J6 15,J6 14];walk_at "rd";refine⟨pa,_,rfl,cY.of p1,rfl,?_⟩;walk_at "rd";refine⟨sa,_,rfl,cY.of g1,rfl,?_⟩;walk_at "rd";have hc5:=hs.is.c;have hxp:=hx.p
 have Y9:DR (st.cs.map V.int) 0=some (.int (st.cs.getD 0 0)):=by
  obtain⟨y0,y1,y2,y3,y4,ey⟩:=Pk hc5;rw[ey]; rfl
 refine Ix.tup g2 (v:=.int (st.cs.getD 0 0)) Y9 ⟨_,_,rfl,rfl,sb,_,rfl,g2,fun q1 H1 s1 e1=>⟨q1,_,rfl,e1,fun l2 f2=>⟨(by decide),fun q3 H3 f3 s3 e3=>?_⟩⟩⟩
 rw[nP (by decide)] at s3
 have s2:=aL f2 (HO.lst ((st.cs.map V.int).drop (Int.toNat 1)));refine⟨l2,q3,_,_,rfl,rfl,s3 _ _ az,e3,by simp[hc5]; decide,fun pl fl=>?_⟩
 have kI:aJ H H3:=s1.trans (s2.trans s3);have fl':H pl=none:=kI.free fl;have el:(st.cs.map V.int).drop (Int.toNat 1)++[V.int 0]=(st.cs.drop 1++[0]).map V.int:=by simp
 rw[el];have s4:aJ H (upd H3 pl (HO.lst ((st.cs.drop 1++[0]).map V.int))):=kI.trans (aL fl _);have e4:upd H3 pl (HO.lst ((st.cs.drop 1++[0]).map V.int)) pl=some (.lst ((st.cs.drop 1++[0]).map V.int)):=az;generalize upd H3 pl (HO.lst ((st.cs.drop 1++[0]).map V.int))=H4 at s4 e4 ⊢;refine⟨(by decide),fun q5 H5 f5 s5 e5=>⟨q5,_,rfl,cY.of e5,rfl,?_⟩⟩
 have s45:=s4.trans s5;have XF:=s5 _ _ e4;clear e1 e3 f2 f3 s1 s2 s3 kI e4 el;walk_at "rd";refine⟨.inr (by omega),?_⟩
 have ert:(st.r+st.cs.getD 0 0)=bJ st:=rfl;have etk:(if(if 0>x.m-st.w then 0 else x.m-st.w)<come then(if 0>x.m-st.w then 0 else x.m-st.w) else come)=bR x st come:=rfl
 rw[ert,etk];have Zh:(if bJ st*x.p<st.w+bR x st come then bJ st*x.p else st.w+bR x st come)=cX x st come:=rfl
 rw[Zh];obtain⟨_,us,esc,gu,au⟩:=bC g3;cases esc;have YG:us.length=3:=by rw[au.length,dH,hs.is.u]
 refine⟨(by decide),fun q6 H6 f6 s6 e6=>⟨(by decide),fun q7 H7 f7 s7 e7=>Pb e7 ((s45.trans (s6.trans s7)) _ _ gu) (by rw[YG]; exact(by decide:4<=sizeLine)) fun pn H8 s8 e8=>?_⟩⟩
 have s58:=s6.trans (s7.trans s8);have Yh:=s45.trans s58;have WN:=s58 _ _ XF
 replace e8:H8 pn=some (.lst (V.ref q6::us)):=e8
 have aN:ak H8 ((bI x st come).map cZ) (V.ref q6::us):=ak.cons (At.tup ((s7.trans s8) _ _ e6) (bB [come,cX x st come,st.w+bR x st come-cX x st come])) (au.mono Yh)
 have hN:iW (bI x st come):=⟨by show st.us.length+1=4; rw[hs.is.u],fun y hy=>by
  rcases cA.mp hy with z | z
  ·rw[z]; rfl
  ·exact hs.is.l y z⟩
 have npl:pn≠pl:=fun z=>by
  rw[z,WN] at e8;have:=lO List.length (HO.lst.inj (Option.some.inj e8));rw[dH,lR,YG] at this;simp[hc5] at this
 clear e6 e7 f6 f7 s6 s7 s8 e5 f5 s5 XF;have Ur:(st.cs.drop 1++[0]).length=5:=by simp[hc5]
 have hmn:∀y∈st.cs.drop 1++[0],0<=y:=Ah hs.cn;have hrn:=zj hc5 hs.r hs.cn;refine mJ.of (fun σ' H'=>aJ H8 H'/\∃o:Option V,σ'=[some (V.ref pa),some (V.ref sa),some (V.int come),some (V.int fr),some (V.int x.p),some (V.int x.m),some (V.ref pb),some (V.int ↑x.a),some (V.int x.e),some (V.ref pc),some (V.ref pd),some (V.int st.w),some (V.int (bJ st)),some (V.ref sb),some (V.int st.s),some (V.int st.t),some (V.ref sc),some (V.ref pl),some (V.int (st.w+bR x st come)),some (V.int (cX x st come)),some (V.ref pn),some (V.int (g8 x st come fr)),o,none,none]) ?_ ?_
 rotate_left 1
 ·intro N uf;walk_at "rd";by_cases c1:x.e<=st.s+1
  ·rw[aR (jo c1)];by_cases c2:st.t=0
   ·rw[aR (jo c2)];refine⟨pl,_,rfl,.inl WN,.ref pa,pn,_,x,bI x st come,_,rfl,a1.mono Yh,e8,aN,hx,hN,fun H9 s9=>⟨_,_,rfl,rfl,uf _ _ ⟨s9,some (V.int (bJ st+(st.cs.drop 1++[0]).sum)),?_⟩⟩⟩
    have e:g8 x st come fr=(if fr<fQ x.eN x.lo x.hi (bJ st+(st.cs.drop 1++[0]).sum) (bI x st come)-(bJ st+(st.cs.drop 1++[0]).sum) then fr else fQ x.eN x.lo x.hi (bJ st+(st.cs.drop 1++[0]).sum) (bI x st come)-(bJ st+(st.cs.drop 1++[0]).sum)):=by
     have hl:gH x.e st.s st.t=true:=by unfold gH; rw[bx (by omega)]; exact jo c2
     unfold g8;rw[aR hl]; rfl
    rw[e]
   ·rw[bx (by simpa using c2)]
    have e:g8 x st come fr=0:=by
     have hl:gH x.e st.s st.t=false:=by unfold gH; rw[bx (by omega)]; exact jV c2
     unfold g8;rw[hl,bx (by decide)]
    rw[e] at uf;exact uf _ _ ⟨aJ.refl _,_,rfl⟩
  ·rw[bx (by simpa using c1)]
   have e:g8 x st come fr=0:=by
    have hl:gH x.e st.s st.t=false:=by unfold gH; rw[aR (by omega)]
    unfold g8;rw[hl,bx (by decide)]
   rw[e] at uf;exact uf _ _ ⟨aJ.refl _,_,rfl⟩
 rintro σ' H9 ⟨Xn,o,rfl⟩
 have hbd:0<=st.r+st.cs.sum+g8 x st come fr:=by
  have h0:=wJ _ hs.cn;have h1:=hs.r;unfold g8;rw[gB hc5];split
  ·unfold kY
   have h2:0<=fQ x.eN x.lo x.hi (st.r+st.cs.sum) (bI x st come):=by
    have h3:=hx.lo;unfold fQ;simp only
    repeat' split <;> try omega
   split <;> omega
  ·omega
 generalize g8 x st come fr=ch at q hbd ⊢;have e9:=Xn _ _ WN;have s49:=Yh.trans Xn;refine mJ.of (fun σ' H'=>σ'=[some (V.ref pa),some (V.ref sa),some (V.int come),some (V.int fr),some (V.int x.p),some (V.int x.m),some (V.ref pb),some (V.int ↑x.a),some (V.int x.e),some (V.ref pc),some (V.ref pd),some (V.int st.w),some (V.int (bJ st)),some (V.ref sb),some (V.int st.s),some (V.int st.t),some (V.ref sc),some (V.ref pl),some (V.int (st.w+bR x st come)),some (V.int (cX x st come)),some (V.ref pn),some (V.int ch),o,none,none]/\H' pl=some (.lst ((if 0<ch then(st.cs.drop 1++[0]).set x.a ((st.cs.drop 1++[0]).getD x.a 0+ch) else st.cs.drop 1++[0]).map V.int))/\SX pl H H'/\SX pl H9 H') ?_ ?_
 rotate_left 1
 ·intro N uf;walk_at "rd";have ha:=hx.a;by_cases c1:0<ch
  ·rw[aR (jo c1)];rw[aR c1] at uf;refine Ix.lst e9 (v:=.int ((st.cs.drop 1++[0]).getD x.a 0)) (bz (by rw[h_,gO (by omega),iy,gO (by omega)]; rfl)) ⟨_,_,rfl,rfl,pl,_,_,x.a,rfl,rfl,e9,qH (by rw[dH]; omega),?_⟩
   refine uf _ _ ⟨rfl,?_,(SX.of s49).trans SX.upd,SX.upd⟩;rw[az,List.map_set]
  ·rw[bx (by simpa using c1)]
   rw[bx c1] at uf;exact uf _ _ ⟨rfl,e9,SX.of s49,SX.refl _ _⟩
 rintro σ' qy ⟨rfl,e10,x10,y10⟩
 obtain⟨hm,hm0,Xw,hmE⟩:∃hm:Nat->List Int×Int,hm 0=(if 0<ch then(st.cs.drop 1++[0]).set x.a ((st.cs.drop 1++[0]).getD x.a 0+ch) else st.cs.drop 1++[0],0)/\(¬0<ch->∀i:Nat,hm i=aX (st.cs.drop 1++[0]) i)/\(0<ch->∀i,hm i=hm 0):=by
  by_cases c1:0<ch
  ·exact⟨fun _=>((st.cs.drop 1++[0]).set x.a ((st.cs.drop 1++[0]).getD x.a 0+ch),0),by rw[aR c1],fun z=>absurd c1 z,fun _ _=>rfl⟩
  ·exact⟨fun i=>aX (st.cs.drop 1++[0]) i,by rw[bx c1]; exact pX _ hmn,fun _ _=>rfl,fun z=>absurd z c1⟩
 obtain⟨n,hn,ab5⟩:∃n:Nat,(if 0-ch>0 then 0-ch else 0)=(n:Int)/\n<=24:=⟨(if 0-ch>0 then 0-ch else 0).toNat,by split <;> omega,by have:=hs.sm; split <;> omega⟩
 have Ze:qy pn=some (.lst (V.ref q6::us)):=y10.get npl (Xn _ _ e8);have ZQ:ak (hid pl qy) ((bI x st come).map cZ) (V.ref q6::us):=(ak.nJ e9 _ _ (qO _) (aN.mono Xn)).mono y10;walk_at "rd";refine Mg (n:=n) (fun R hR=>?_) (by omega) (fun i σ H'=>∃(o1 o2:Option V),σ=[some (V.ref pa),some (V.ref sa),some (V.int come),some (V.int fr),some (V.int x.p),some (V.int x.m),some (V.ref pb),some (V.int ↑x.a),some (V.int x.e),some (V.ref pc),some (V.ref pd),some (V.int st.w),some (V.int (bJ st-(hm i).2)),some (V.ref sb),some (V.int st.s),some (V.int st.t),some (V.ref sc),some (V.ref pl),some (V.int (st.w+bR x st come)),some (V.int (cX x st come)),some (V.ref pn),some (V.int ch),o,o1,o2]/\H' pl=some (.lst ((hm i).1.map V.int))/\SX pl qy H') ⟨_,_,by rw[hm0,zK],by rw[hm0]; exact e10,SX.refl _ _⟩ ?_ ?_
 ·walk_at "rd";rw[hn]; exact hR
 ·rintro i σ ue hi ⟨o1,o2,rfl,Jq,y11⟩;have hneg:¬0<ch:=fun z=>by rw[bx (by omega)] at hn; omega
  rw[Xw hneg i] at Jq ⊢;rw[Xw hneg (i+1)];obtain⟨nA,nB⟩:=vK (st.cs.drop 1++[0]) (i:Int);have hgl:(aX (st.cs.drop 1++[0]) (i:Int)).1.length=5:=by rw[jz]; exact Ur
  rw[Ur] at nA nB;have ei1:((i+1:Nat):Int)=(i:Int)+1:=by omega
  rw[ei1];generalize hG:aX (st.cs.drop 1++[0]) (i:Int)=G at Jq nA nB hgl ⊢;obtain⟨L,m⟩:=G;simp only at Jq nA nB hgl ⊢;walk_at "rd";refine Qa (n:=5) (fun j=>decide (0<L.getD j 0)) (fun j=>V.int (0+(j:Nat))) (fun R hR=>hR) (by decide) (fun j H' hj s' R hR=>?_) (fun j H' hj hk s' R hR=>?_) (fun acc UJ s12 WD h12=>?_)
  ·show JM _ [some _,some (.ref pl)] H' R;walk_at "rd";rw[vy];refine Ix.lst (s' _ _ Jq) (v:=.int (L.getD j 0)) (bz (by rw[h_,gO (by omega),iy,gO (by omega)]; rfl)) ?_
   walk_at "rd";exact hR
  ·show um 0 [some _,some (.ref pl)] H' R;walk_at "rd";exact hR
  ·have Jp:=s12 _ _ Jq;have eI:((List.range 5).filter fun j=>decide (0<L.getD j 0)).map (fun j=>V.int (0+(j:Nat)))=(((List.range 5).filter fun j=>decide (0<L.getD j 0)).map (fun j=>(0:Int)+(j:Nat))).map V.int:=by rw[zL]; rfl
   have z:=oZ (((List.range 5).filter fun j=>decide (0<L.getD j 0)).map (fun j=>(0:Int)+(j:Nat)));refine⟨(by decide),fun Ul Nj Tq kI Ir=>⟨.list ((((List.range 5).filter fun j=>decide (0<L.getD j 0)).map (fun j=>(0:Int)+(j:Nat))).map .int),.list [],At.lst (by rw[<- eI]; exact kI _ _ h12) (bB _),At.lst Ir ak.nil,z.1,rfl,z.2.1,rfl,z.2.2,?_⟩⟩
   have VJ:=s12.trans kI;have Tt:=kI _ _ Jp;have h13:=kI _ _ h12;rcases Fx (fun j=>decide (0<L.getD j 0)) (fun j=>V.int (0+(j:Nat))) 5 with⟨l1,l2⟩ | ⟨j,ini,j5,hj,hjk,hl⟩
   ·have en:((List.range 5).filter fun j=>decide (0<L.getD j 0)).map (fun j=>(0:Int)+(j:Nat))=[]:=by
     have:=List.map_eq_nil_iff.mp l1;rw[this]; rfl
    rw[en];have eq:PyData.eqv (.list (([]:List Int).map .int)) (.list [])=true:=rfl;rw[eq,bx (by decide)]
    have hB:=nB fun k hk=>by have:=l2 k hk; simpa using this
    rw[hB,show bJ st-m-1=bJ st-(m+1) by omega]
    exact⟨_,_,rfl,Tt,y11.trans (SX.of VJ)⟩
   ·have hA:=nA j j5 (by simpa using hj) fun k k1 k2=>by have:=hjk k k1 k2; simpa using this
    rw[hA]
    have eq:PyData.eqv (.list ((((List.range 5).filter fun j=>decide (0<L.getD j 0)).map (fun j=>(0:Int)+(j:Nat))).map .int)) (.list [])=false:=by
     cases hz:((List.range 5).filter fun j=>decide (0<L.getD j 0)).map (fun j=>(0:Int)+(j:Nat)) with
     | nil=>
      rw[hz] at eI;rw[eI] at hl;simp at hl
     | cons a b=>rfl
    rw[eq,aR (by decide)]
    rw[hl] at h13;rw[vy] at h13;refine Ix.lst h13 (v:=.int (j:Nat)) (Be _ _) (Ix.lst Tt (v:=.int (L.getD j 0)) (bz (by rw[h_,gO (by omega),iy,gO (by omega)]; rfl)) ⟨_,_,rfl,rfl,Ix.lst h13 (v:=.int (j:Nat)) (Be _ _) ⟨pl,_,_,j,rfl,rfl,Tt,qH (by rw[dH]; omega),?_⟩⟩)
    refine⟨_,_,rfl,?_,(y11.trans (SX.of VJ)).trans SX.upd⟩;rw[az,List.map_set]
 rintro σ ue ⟨o1,o2,rfl,Jq,y11⟩;dsimp only;have hfin:(cL x (cg x st come) ch).r=bJ st-(hm n).2/\(cL x (cg x st come) ch).cs=(hm n).1/\(cL x (cg x st come) ch).t=(if ch≠0 then(if ch<0 then x.d else x.u) else(if st.t-1>0 then st.t-1 else 0)) /\
   (cL x (cg x st come) ch).w=st.w+bR x st come-cX x st come/\(cL x (cg x st come) ch).s=iG x.e st.s/\(cL x (cg x st come) ch).us=(bI x st come).take 3:=by
  have hW:=qM (x:=x) (st:=cg x st come) (ch:=ch) hx.a hrn Ur hmn (by show 0<=bJ st+(st.cs.drop 1++[0]).sum+ch; rw[gB hc5]; exact hbd)
  refine⟨?_,?_,?_,hW.w,hW.s,hW.u⟩
  ·unfold cL;by_cases c0:ch=0
   ·rw[aR c0];rw[c0] at hn;have:n=0:=by simpa using hn.symm
    rw[this,hm0,zK]; rfl
   ·rw[bx c0];by_cases c1:0<ch
    ·rw[aR c1,hmE c1 n,hm0,zK]; rfl
    ·rw[bx c1,Xw c1 n];rw[aR (by omega)] at hn
     rw[show -ch=(n:Int) by omega]; rfl
  ·unfold cL;by_cases c0:ch=0
   ·rw[aR c0];have hn':=hn;rw[c0] at hn';have:n=0:=by simpa using hn'.symm
    rw[this,hm0,bx (by omega)]; rfl
   ·rw[bx c0];by_cases c1:0<ch
    ·rw[aR c1,hmE c1 n,hm0,aR c1];exact(Rz (l:=st.cs.drop 1++[0]) (by rw[Ur]; have:=hx.a; omega)).symm
    ·rw[bx c1,Xw c1 n];rw[aR (by omega)] at hn
     rw[show -ch=(n:Int) by omega]; rfl
  ·rw[hW.t];show(if ch=0 then(if 0>st.t-1 then 0 else st.t-1) else if 0<ch then x.u else x.d)=_
   repeat' split <;> try omega
 obtain⟨k1,k2,k3,k4,k5,k6⟩:=hfin;generalize hnx:cL x (cg x st come) ch=nx at q k1 k2 k3 k4 k5 k6;rw[<- k1];rw[<- k2] at Jq;have x11:aJ H ue:=SX.same fl' (x10.trans y11);refine mJ.of (fun σ' H'=>ue=H'/\σ'=[some (V.ref pa),some (V.ref sa),some (V.int come),some (V.int fr),some (V.int x.p),some (V.int x.m),some (V.ref pb),some (V.int ↑x.a),some (V.int x.e),some (V.ref pc),some (V.ref pd),some (V.int st.w),some (V.int nx.r),some (V.ref sb),some (V.int st.s),some (V.int nx.t),some (V.ref sc),some (V.ref pl),some (V.int (st.w+bR x st come)),some (V.int (cX x st come)),some (V.ref pn),some (V.int ch),o,o1,o2]) ?_ ?_
 rotate_left 1
 ·intro N uf;walk_at "rd";by_cases c1:ch=0
  ·rw[bx (by simpa using c1)]
   rw[bx (show ¬ch≠0 from fun z=>z c1)] at k3;rw[k3] at uf;exact uf _ _ ⟨rfl,rfl⟩
  ·rw[aR (by simpa using c1)]
   rw[aR c1] at k3;by_cases c2:ch<0
   ·rw[aR (jo c2)];rw[aR c2] at k3;rw[k3] at uf;exact Ix.tup (x11 _ _ p3) (v:=.int x.d) rfl (uf _ _ ⟨rfl,rfl⟩)
   ·rw[bx (by simpa using c2)]
    rw[bx c2] at k3;rw[k3] at uf;exact Ix.tup (x11 _ _ p3) (v:=.int x.u) rfl (uf _ _ ⟨rfl,rfl⟩)
 rintro σ' H' ⟨rfl,rfl⟩;refine mJ.of (fun σ' H'=>ue=H'/\σ'=[some (V.ref pa),some (V.ref sa),some (V.int come),some (V.int fr),some (V.int x.p),some (V.int x.m),some (V.ref pb),some (V.int ↑x.a),some (V.int x.e),some (V.ref pc),some (V.ref pd),some (V.int st.w),some (V.int nx.r),some (V.ref sb),some (V.int nx.s),some (V.int nx.t),some (V.ref sc),some (V.ref pl),some (V.int (st.w+bR x st come)),some (V.int (cX x st come)),some (V.ref pn),some (V.int ch),o,o1,o2]) ?_ ?_
 rotate_left 1
 ·intro N uf;walk_at "rd";unfold iG at k5;by_cases c1:x.e<=st.s+1
  ·rw[aR (jo c1)];rw[bx (by omega)] at k5
   rw[k5] at uf;exact uf _ _ ⟨rfl,rfl⟩
  ·rw[bx (by simpa using c1)]
   rw[aR (by omega)] at k5
   rw[k5] at uf;exact uf _ _ ⟨rfl,rfl⟩
 rintro σ' H' ⟨rfl,rfl⟩;walk_at "rd";have Zd:ue pn=some (.lst (V.ref q6::us)):=y11.get npl Ze;have ZP:ak ue ((bI x st come).map cZ) (V.ref q6::us):=(ZQ.mono y11).mono cG;refine⟨pl,_,rfl,Jq,fun Wo WL=>?_⟩;have s12:=aL WL (HO.tup (nx.cs.map V.int));have Jp:upd ue Wo (HO.tup (nx.cs.map V.int)) Wo=some (.tup (nx.cs.map V.int)):=az;generalize upd ue Wo (HO.tup (nx.cs.map V.int))=UJ at s12 Jp ⊢;refine⟨pn,_,rfl,dI.of (s12 _ _ Zd),fun Ul Tq=>?_⟩;rw[lY (by decide)]
 have kI:=aL Tq (HO.lst ((V.ref q6::us).take (Int.toNat 3)));have Ir:upd UJ Ul (HO.lst ((V.ref q6::us).take (Int.toNat 3))) Ul=some (.lst ((V.ref q6::us).take (Int.toNat 3))):=az;generalize upd UJ Ul (HO.lst ((V.ref q6::us).take (Int.toNat 3)))=Nj at kI Ir ⊢;refine⟨Ul,_,rfl,Ir,fun YJ WK=>?_⟩;have BV:=aL WK (HO.tup ((V.ref q6::us).take (Int.toNat 3)));have Mi:upd Nj YJ (HO.tup ((V.ref q6::us).take (Int.toNat 3))) YJ=some (.tup ((V.ref q6::us).take (Int.toNat 3))):=az;generalize upd Nj YJ (HO.tup ((V.ref q6::us).take (Int.toNat 3)))=Z5 at BV Mi ⊢;refine⟨(by decide),fun R7 M5 Us zb Jo=>⟨(by decide),fun Yw UG XC yE Ng=>?_⟩⟩
 have QR:aJ ue UG:=s12.trans (kI.trans (BV.trans (zb.trans yE)))
 have ZG:UG Yw=some (.tup [.ref R7,.int (cX x st come),.int (come-bR x st come),.int ch]):=by
  rw[Ng,show st.w+come-(st.w+bR x st come)=come-bR x st come by omega]
 refine q Yw (.ref R7) UG (x11.trans QR) ?_ ZG
 have aU:ak UG (nx.us.map cZ) ((V.ref q6::us).take (Int.toNat 3)):=by
  rw[k6,zO];exact(ZP.take 3).mono QR
 rw[<- k4] at Jo;exact At.tup (yE _ _ Jo) (ak.cons (At.int _) (ak.cons (At.int _) (ak.cons (At.tup ((kI.trans (BV.trans (zb.trans yE))) _ _ Jp) (bB _)) (ak.cons (At.int _) (ak.cons (At.int _) (ak.cons (At.tup ((zb.trans yE) _ _ Mi) aU) ak.nil))))))
theorem Fw {H:Hp} {ds:List PyData} {v:V} (h:At H (.list ds) v):∃a xs,v=.ref a/\H a=some (.lst xs)/\ak H ds xs:=by unfold At at h; exact h
def SD:Nat->PyData->Prop
 | 0,_=>False
 | n+1,d=>(∃i,d=.int i)\/d=.none\/(∃t,d=.str t/\PyData.canLay0 (.str t)=true)\/(∃ds,d=.tuple ds/\ds.length<=1000/\∀e∈ds,SD n e)\/∃ds,d=.list ds/\ds.length<=1000/\∀e∈ds,SD n e
theorem SD.int {n:Nat} (i:Int):SD (n+1) (.int i):=.inl ⟨i,rfl⟩
theorem SD.tup {n:Nat} {ds:List PyData} (h:ds.length<=1000) (ha:∀e∈ds,SD n e):SD (n+1) (.tuple ds):=.inr (.inr (.inr (.inl ⟨ds,rfl,h,ha⟩)))
theorem SD.lst {n:Nat} {ds:List PyData} (h:ds.length<=1000) (ha:∀e∈ds,SD n e):SD (n+1) (.list ds):=.inr (.inr (.inr (.inr ⟨ds,rfl,h,ha⟩)))
theorem SD.ints {n:Nat} {l:List Int} (h:l.length<=1000):SD (n+2) (.tuple (l.map .int)):=SD.tup (by rw[dH]; exact h) fun e he=>by obtain⟨i,_,rfl⟩:=lg.mp he; exact SD.int i
theorem SD.stn {n:Nat} {st:eV} (h:ik st):SD (n+4) (jM st):=SD.tup (by show 6<=1000; decide) fun e he=>by
 simp only[cA,jJ,or_false] at he;rcases he with rfl | rfl | rfl | rfl | rfl | rfl
 ·exact SD.int _
 ·exact SD.int _
 ·exact SD.ints (by rw[h.c]; decide)
 ·exact SD.int _
 ·exact SD.int _
 ·exact SD.tup (by rw[dH,h.u]; decide) fun e he=>by
   obtain⟨u,hu,rfl⟩:=lg.mp he;exact SD.ints (by rw[h.l u hu]; decide)
theorem SD.data:∀(n:Nat) (d:PyData),SD n d->PyData.hasDict d=false/\PyData.canLay0 d=true/\PyData.depth d<=n
 | 0,_,h=>h.elim
 | n+1,d,h=>by
  have all:∀ds:List PyData,(∀e∈ds,SD n e)->PyData.hasDictAll ds=false/\PyData.canLayAll0 ds=true/\PyData.depthAll ds<=n:=fun ds=>by
   induction ds with
   | nil=>exact fun _=>⟨rfl,rfl,gD _⟩
   | cons e r ih=>
    intro ha;obtain⟨h1,h2,h3⟩:=ih fun e he=>ha e (jr _ he);obtain⟨k1,k2,k3⟩:=SD.data n e (ha e jd);refine⟨?_,?_,?_⟩
    ·unfold PyData.hasDictAll; rw[k1,h1]; rfl
    ·unfold PyData.canLayAll0; rw[k2,h2]; rfl
    ·unfold PyData.depthAll; exact Nat.max_le.mpr ⟨k3,h3⟩
  rcases h with⟨i,rfl⟩ | rfl | ⟨t,rfl,hc⟩ | ⟨ds,rfl,hn,hds⟩ | ⟨ds,rfl,hn,hds⟩
  ·exact⟨rfl,rfl,gD _⟩
  ·exact⟨rfl,rfl,gD _⟩
  ·exact⟨rfl,hc,gD _⟩
  ·obtain⟨h1,h2,h3⟩:=all ds hds;exact⟨by unfold PyData.hasDict; exact h1,by unfold PyData.canLay0; exact h2,by unfold PyData.depth; omega⟩
  ·obtain⟨h1,h2,h3⟩:=all ds hds;exact⟨by unfold PyData.hasDict; exact h1,by unfold PyData.canLay0; exact h2,by unfold PyData.depth; omega⟩
def GZ (n:Nat):Sp:=fun vs H Q _=>∃(v u:V) (d d':PyData),vs=[v,u]/\At H d v/\At H d' u/\SD n d/\SD n d'/\n<=60/\∀b H',(b=true↔d=d')->aJ H H'->Q (.bl b) H'
theorem Sm.of {n:Nat} {v u:V} {d:PyData} {H:Hp} {Q:VK} {E:XK} (h1:At H d v) (h2:At H d u) (h3:SD n d) (hn:n<=60) (q:∀H',aJ H H'->Q (.bl true) H'):GZ n [v,u] H Q E:=⟨v,u,d,d,rfl,h1,h2,h3,h3,hn,fun b H' hb s=>by rw[hb.mpr rfl]; exact q H' s⟩
theorem nZ:bh ["_law_found","_law_due"] ["_law_found","_law_due"] (aM mW):=(by walk_at "c")
theorem Cz (F:iY K "_law_same" "_law_same" mW f fd):bV P w K mg base ig (k+1) f fd ["_law_found","_law_due"] (GZ 0):=by
 refine F.ok nZ (by rintro vs H Q E ⟨v,u,d,d',rfl,_⟩; rfl) (fun cdv A outer s H vs Q E hr h=>?_)
 obtain⟨v,u,d,d',rfl,_,_,h,_⟩:=h;exact h.elim
theorem mC {G:Hp}:∀{bs:List Bool} {xs:List V},ak G (bs.map PyData.bool) xs->xs=bs.map V.bl
 | [],xs,h=>by unfold ak at h; exact h
 | b::bs,xs,h=>by
  obtain⟨x,r,rfl,h1,h2⟩:=ak.bw (d:=PyData.bool b) (ds:=bs.map PyData.bool) h;unfold At at h1;rw[h1,mC h2]; rfl
noncomputable def Jm (a b:PyData):Bool:=@decide (a=b) (Classical.propDecidable _)
theorem xT {a b:PyData}:Jm a b=true↔a=b:=by unfold Jm; exact @decide_eq_true_iff _ (Classical.propDecidable _)
theorem Mh {a b:PyData} {c:Bool} (h:c=true↔a=b):c=Jm a b:=by
 cases c with
 | true=>exact(xT.mpr (h.mp rfl)).symm
 | false=>cases e:Jm a b with
  | true=>exact absurd (h.mpr (xT.mp e)) (by decide)
  | false=>rfl
theorem vZ:∀{ds es:List PyData},ds.length=es.length->((List.zipWith Jm ds es).all id=true↔ds=es)
 | [],[],_=>by simp
 | a::r,b::s,h=>by
  have ih:=vZ (ds:=r) (es:=s) (by simpa using h)
  rw[List.zipWith_cons_cons,List.all_cons,Cd,ih];show Jm a b=true/\_↔_;rw[xT,List.cons.injEq]
theorem jg (n:Nat) (F:iY K "_law_same" "_law_same" mW f fd) (B:Bi mg) (j8:Ct P w K mg base k "_law_same" ["_law_found","_law_due"] (GZ n)):bV P w K mg base ig (k+1) f fd ["_law_found","_law_due"] (GZ (n+1)):=by
 refine F.ok nZ (by rintro vs H Q E ⟨v,u,d,d',rfl,_⟩; rfl) (fun cdv A outer s H vs Q E hr h=>?_)
 obtain⟨v,u,d,d',rfl,hv,hu,hd,hd',ab4,q⟩:=h;have ND:=nZ.nd;refine⟨_,(aq (dJ (fu (pb Tc B.isinstance aY (aa (pv 1) (aa (bf (aa (pty (by rfl) B.list jE) (aa (pty (by rfl) B.tuple cJ) aj))) aj)))) (aq (dJ (PW.pt (Fb (bj Fi (pb FT B.isinstance aY (aa (pv 0) (aa (pty (by rfl) B.list jE) aj))) (pb FT B.isinstance aY (aa (pv 1) (aa (pty (by rfl) B.list jE) aj))) (bu _)) (wW (bj Fi (pb FQ B.isinstance aY (aa (pv 0) (aa (pty (by rfl) B.tuple cJ) aj))) (pb FQ B.isinstance aY (aa (pv 1) (aa (pty (by rfl) B.tuple cJ) aj))) (bu _))))) (aK (bc jY)) bT) (aK (bc (oV (fG fU (pb (ji (K:=K) rfl) B.len tZ (aa (pv 0) aj)) (pb (ji (K:=K) rfl) B.len tZ (aa (pv 1) aj)) (bu _)) (rQ (pb (Jc rfl) B.all Tw (aa (jf (nt:=2) (N':=["_law_one","_law_other"]) (js:=[]) rfl (Ou (K:=K) rfl B.zip (aa (pv 0) (aa (pv 1) aj))) jL.of (fun fp s' H'=>(cF (K:=K) (n:=2) rfl rfl (aG (aA (i:=0) (by show List.Nodup (["_law_one","_law_other"]:List Str); decide) rfl (.inl (fC rfl)) (.inr (fC rfl))) (aG (aA (i:=1) (by show List.Nodup (["_law_one","_law_other"]:List Str); decide) rfl (.inl (fC rfl)) (.inr (fC rfl))) cD)))) (fun fp s' H'=>nH) (fun fp s' H'=>(pf j8 hr (aa (pv 0) (aa (pv 1) aj))))) aj))))))) bT) (aq (dJ (PW.pt (Fb (bj R9 (pv 1) ju (bu _)) (wW (fu (pb xO B.isinstance aY (aa (pv 1) (aa (pty (by rfl) B.str DQ) aj))))))) (aK (bc (oV (fG (Cv hr.units) (pv 0) (pv 1) (bu _)) (rQ (fG fU (pb xO B.isinstance aY (aa (pv 0) (aa (pty (by rfl) B.str DQ) aj))) (pb xO B.isinstance aY (aa (pv 1) (aa (pty (by rfl) B.str DQ) aj))) (bu _)))))) bT) (aK (bc (oV (pb Py B.isinstance aY (aa (pv 0) (aa (pty (by rfl) B.int yj) aj))) (oV (R6 (pb Lq B.isinstance aY (aa (pv 0) (aa (pty (by rfl) B.bool Qh) aj)))) (rQ (fG (Cv hr.units) (pv 0) (pv 1) (bu _))))))))),?_⟩
 walk_at "rd";refine⟨(by decide),fun pt H1 f1 s1 e1=>?_⟩
 refine⟨_,d',pt,rfl,hu.mono s1,e1,?_⟩;have hv1:=hv.mono s1;have hu1:=hu.mono s1;obtain⟨D1,D2,D3⟩:=SD.data _ _ hd;obtain⟨E1,E2,E3⟩:=SD.data _ _ hd';have no:¬d=d'->Q (.bl false) H1:=fun h=>q false H1 ⟨fun z=>(by cases z),fun z=>absurd z h⟩ s1
 rcases hd' with⟨i,rfl⟩ | rfl | ⟨t,rfl,hc⟩ | ⟨ds',rfl,hn',Td⟩ | ⟨ds',rfl,hn',Td⟩
 ·have eu:u=.int i:=by unfold At at hu; exact hu
  subst eu;rw[bx (by exact fun z=>by cases z)]
  refine⟨trivial,?_⟩;rw[bx (by rw[decide_eq_true_eq]; exact fun z=>by cases z)]
  refine Bh.of hu1 ⟨_,rfl,?_⟩;rw[bx (by exact fun z=>by cases z)]
  refine Bh.of hv1 ⟨_,rfl,?_⟩;rcases hd with⟨j,rfl⟩ | rfl | ⟨t,rfl,hc⟩ | ⟨ds,rfl,hn,hds⟩ | ⟨ds,rfl,hn,hds⟩
  ·rw[aR (by rfl)]
   refine Bh.of hv1 ⟨_,rfl,?_⟩;rw[aR (by rfl)]
   refine⟨_,_,hv1,hu1,rfl,rfl,rfl,rfl,by show 0<=60; decide,?_⟩
   exact q _ H1 (by show(j==i)=true↔_; simp) s1
  all_goals
   rw[bx (by exact fun z=>by cases z)]
   exact no fun z=>by cases z
 ·have eu:u=.non:=by unfold At at hu; exact hu
  subst eu;rw[bx (by exact fun z=>by cases z)]
  refine⟨trivial,?_⟩;rw[aR (by rfl)]
  refine⟨_,_,hv1,hu1,D1,E1,D2,E2,by omega,?_⟩
  rcases hd with⟨j,rfl⟩ | rfl | ⟨t,rfl,hc⟩ | ⟨ds,rfl,hn,hds⟩ | ⟨ds,rfl,hn,hds⟩
  ·rw[bx (by exact fun z=>by cases z)]; exact no fun z=>by cases z
  ·rw[aR (by rfl)]
   refine Bh.of hv1 (Bh.of hu1 ⟨rfl,?_⟩);have e:decide (V.bl (isStr .none)=V.bl (isStr .none))=true:=by rw[decide_eq_true_eq]
   rw[e];exact q true _ (by simp) s1
  ·rw[bx (by exact fun z=>by cases z)]; exact no fun z=>by cases z
  ·rw[bx (by exact fun z=>by cases z)]; exact no fun z=>by cases z
  ·rw[bx (by exact fun z=>by cases z)]; exact no fun z=>by cases z
 ·have eu:u=.str t:=by unfold At at hu; exact hu
  subst eu;rw[bx (by exact fun z=>by cases z)]
  refine⟨trivial,?_⟩;rw[bx (by rw[decide_eq_true_eq]; exact fun z=>by cases z)]
  refine Bh.of hu1 ⟨_,rfl,?_⟩;rw[aR (by rfl)]
  refine⟨_,_,hv1,hu1,D1,E1,D2,E2,by omega,?_⟩
  rcases hd with⟨j,rfl⟩ | rfl | ⟨t',rfl,hc'⟩ | ⟨ds,rfl,hn,hds⟩ | ⟨ds,rfl,hn,hds⟩
  ·rw[bx (by exact fun z=>by cases z)]; exact no fun z=>by cases z
  ·rw[bx (by exact fun z=>by cases z)]; exact no fun z=>by cases z
  ·by_cases c:t'=t
   ·subst c;rw[SeqAt.eqv_refl _ hc,aR rfl];refine Bh.of hv1 (Bh.of hu1 ⟨rfl,?_⟩);have e:decide (V.bl (isStr (.str t'))=V.bl (isStr (.str t')))=true:=by rw[decide_eq_true_eq]
    rw[e];exact q true _ (by simp) s1
   ·rw[bx (by show ¬((t'==t)=true); simpa using c)]
    exact no fun z=>by cases z; exact c rfl
  ·rw[bx (by exact fun z=>by cases z)]; exact no fun z=>by cases z
  ·rw[bx (by exact fun z=>by cases z)]; exact no fun z=>by cases z
 ·rw[aR (by rfl)]
  refine Bh.of hv1 (Bh.of hu1 ⟨rfl,_,rfl,?_⟩);rcases hd with⟨j,rfl⟩ | rfl | ⟨t,rfl,hc⟩ | ⟨ds,rfl,hn,hds⟩ | ⟨ds,rfl,hn,hds⟩
  rotate_right 1
  ·rw[aR (by show(!decide (V.bl true=V.bl false))=true; decide)]
   exact no fun z=>by cases z
  all_goals
   rw[bx (by show ¬((!decide (V.bl false=V.bl false))=true); decide)]
   refine Bh.of hv1 (Bh.of hu1 ⟨rfl,_,rfl,?_⟩)
  ·rw[aR (by show(!decide (V.bl false=V.bl true))=true; decide)]; exact no fun z=>by cases z
  ·rw[aR (by show(!decide (V.bl false=V.bl true))=true; decide)]; exact no fun z=>by cases z
  ·rw[aR (by show(!decide (V.bl false=V.bl true))=true; decide)]; exact no fun z=>by cases z
  rw[bx (by show ¬((!decide (V.bl true=V.bl true))=true); decide)]
  obtain⟨a,xs,rfl,ha,hxs⟩:=bC hv1;obtain⟨b,ys,rfl,hb,hys⟩:=bC hu1;have lx:xs.length=ds.length:=hxs.length;have ly:ys.length=ds'.length:=hys.length;refine⟨a,xs,rfl,.inr (cY.of ha),b,ys,rfl,.inr (cY.of hb),?_⟩;rw[lx,ly];refine⟨rfl,_,rfl,?_⟩;by_cases cl:ds.length=ds'.length
  ·rw[aR (by rw[decide_eq_true_eq,cl])]
   rw[uX];refine .inl ?_;have lz:(List.zipWith Jm ds ds').length=ds.length:=by rw[List.length_zipWith,cl,Nat.min_self]
   refine vO (es:=(List.zipWith Jm ds ds').map PyData.bool) (fun R hR=>?_) ha hb (by rw[dH,lz,lx]) (by rw[dH,lz,ly,cl]) (by rw[dH,lz]; exact lq (bD (by omega))) (dZ.mpr fun d hd=>by obtain⟨z,_,rfl⟩:=lg.mp hd; rfl) (fun j x y e H' hx hy he s' R hR=>?_) (fun acc zs H' s' hacc hl hA=>?_)
   ·walk_at "rd"; exact hR
   ·obtain⟨d1,e1,a1⟩:=hxs.get hx;obtain⟨d2,e2,a2⟩:=hys.get hy
    have ee:e=.bool (Jm d1 d2):=by
     rw[h_,List.getElem?_zipWith,e1,e2] at he;exact(Option.some.inj he).symm
    walk_at "rd";refine⟨x,y,d1,d2,rfl,a1.mono s',a2.mono s',hds _ (m9 e1),Td _ (m9 e2),by omega,fun b dR hb s''=>hR _ _ s'' ?_⟩
    rw[ee,Mh hb];exact At.bool _
   ·cases mC hA;refine⟨acc,_,rfl,hl,?_⟩;exact q _ H' (by rw[vZ cl]; exact⟨fun z=>by rw[z],fun z=>by cases z; rfl⟩) (s1.trans s')
  ·rw[bx (by rw[decide_eq_true_eq]; exact fun z=>cl (by exact_mod_cast V.int.inj z))]
   exact no fun z=>by cases z; exact cl rfl
 ·rw[aR (by rfl)]
  refine Bh.of hv1 (Bh.of hu1 ⟨rfl,_,rfl,?_⟩);rcases hd with⟨j,rfl⟩ | rfl | ⟨t,rfl,hc⟩ | ⟨ds,rfl,hn,hds⟩ | ⟨ds,rfl,hn,hds⟩
  ·rw[aR (by show(!decide (V.bl false=V.bl true))=true; decide)]; exact no fun z=>by cases z
  ·rw[aR (by show(!decide (V.bl false=V.bl true))=true; decide)]; exact no fun z=>by cases z
  ·rw[aR (by show(!decide (V.bl false=V.bl true))=true; decide)]; exact no fun z=>by cases z
  ·rw[aR (by show(!decide (V.bl false=V.bl true))=true; decide)]; exact no fun z=>by cases z
  rw[bx (by show ¬((!decide (V.bl true=V.bl true))=true); decide)]
  refine Bh.of hv1 (Bh.of hu1 ⟨rfl,_,rfl,?_⟩);rw[bx (by show ¬((!decide (V.bl false=V.bl false))=true); decide)]
  obtain⟨a,xs,rfl,ha,hxs⟩:=Fw hv1;obtain⟨b,ys,rfl,hb,hys⟩:=Fw hu1;have lx:xs.length=ds.length:=hxs.length;have ly:ys.length=ds'.length:=hys.length;refine⟨a,xs,rfl,.inl (dI.of ha),b,ys,rfl,.inl (dI.of hb),?_⟩;rw[lx,ly];refine⟨rfl,_,rfl,?_⟩;by_cases cl:ds.length=ds'.length
  ·rw[aR (by rw[decide_eq_true_eq,cl])]
   rw[uX];refine .inr ?_;have lz:(List.zipWith Jm ds ds').length=ds.length:=by rw[List.length_zipWith,cl,Nat.min_self]
   refine Iu (es:=(List.zipWith Jm ds ds').map PyData.bool) (fun R hR=>?_) ha hb (by rw[dH,lz,lx]) (by rw[dH,lz,ly,cl]) (by rw[dH,lz]; exact lq (bD (by omega))) (dZ.mpr fun d hd=>by obtain⟨z,_,rfl⟩:=lg.mp hd; rfl) (fun j x y e H' hx hy he s' R hR=>?_) (fun acc zs H' s' hacc hl hA=>?_)
   ·walk_at "rd"; exact hR
   ·obtain⟨d1,e1,a1⟩:=hxs.get hx;obtain⟨d2,e2,a2⟩:=hys.get hy
    have ee:e=.bool (Jm d1 d2):=by
     rw[h_,List.getElem?_zipWith,e1,e2] at he;exact(Option.some.inj he).symm
    walk_at "rd";refine⟨x,y,d1,d2,rfl,a1.mono s',a2.mono s',hds _ (m9 e1),Td _ (m9 e2),by omega,fun b dR hb s''=>hR _ _ s'' ?_⟩
    rw[ee,Mh hb];exact At.bool _
   ·cases mC hA;refine⟨acc,_,rfl,hl,?_⟩;exact q _ H' (by rw[vZ cl]; exact⟨fun z=>by rw[z],fun z=>by cases z; rfl⟩) (s1.trans s')
  ·rw[bx (by rw[decide_eq_true_eq]; exact fun z=>cl (by exact_mod_cast V.int.inj z))]
   exact no fun z=>by cases z; exact cl rfl
theorem Hf.of {H:Hp} {l b:Addr} {xs zs:List V} {Q:VK} (h1:H l=some (.lst xs)) (h2:H b=some (.lst zs)) (hn:xs.length+zs.length<=sizeLine) (q:∀p H',H p=none->aJ H H'->H' p=some (.lst (xs++zs))->Q (.ref p) H'):Hf (.ref l) (.ref b) H Q:=
 ⟨l,b,xs,zs,rfl,rfl,h1,h2,hn,fun p fp=>q p _ fp (aL fp _) az⟩
theorem Wn {xs ys:List V} (h:xs.length+ys.length<=1000):xs.length+ys.length<=sizeLine:=lq (bD h)
structure ZM (K:PySem.W.Frag) (mg:Str->Option Value) (bO d8 d9 dD dC dB d7 aD dz dw:Addr):Prop where
 vW:mg "HandError" = some (.ref bO)
 Ud:mg "Beyond" = some (.ref d8)
 Ue:mg "BadAsk" = some (.ref d9)
 Qt:mg "BadLoad" = some (.ref dD)
 Qs:mg "BadText" = some (.ref dC)
 Qq:mg "BadYard" = some (.ref dB)
 T6:mg "NoName" = some (.ref d7)
 yq:mg "TooLong" = some (.ref aD)
 Qk:mg "TooMany" = some (.ref dz)
 Qj:mg "TooWide" = some (.ref dw)
 tE:PySem.W.exmOne K (.ref aD) (.ref bO)=some true
 jA:Uc K aD
 Dv:(PySem.W.clsIn K aD).isSome=true
 De:PySem.W.kitOne K (.ref aD) (.ref dD)=some false
 Ig:PySem.W.kitOne K (.ref aD) (.ref d8)=some false
 Dc:PySem.W.kitOne K (.ref aD) (.ref dB)=some false
 Ie:PySem.W.kitOne K (.ref aD) (.ref d7)=some false
 C_:PySem.W.kitOne K (.ref aD) (.ref aD)=some true
 CW:PySem.W.kitOne K (.ref aD) (.ref dw)=some false
 CZ:PySem.W.kitOne K (.ref aD) (.ref dz)=some false
 Ih:PySem.W.kitOne K (.ref aD) (.ref d9)=some false
 Dd:PySem.W.kitOne K (.ref aD) (.ref dC)=some false
 xN:PySem.W.kitOne K (.ref aD) (.ref bO)=some true
 v_m:PySem.W.kitOne K (.ref aD) (.type "ValueError")=some true
variable {bO d8 d9 dD dC dB d7 aD dz dw:Addr}
def QQ (D:Addr):Sp:=fun vs H Q _=>∃(a:Addr),vs=[.ref a]/\M4 H a (.ref D)/\∀H',aJ H H'->Q (.str "long") H'
theorem mR:bh ["_law_caught","_law_some","_law_words","_law_good"] ["_law_caught"] (aM jT):=(by walk_at "c")
theorem xu (F:iY K "_law_refused" "_law_refused" jT f fd) (B:Bi mg) (Z:ZM K mg bO d8 d9 dD dC dB d7 aD dz dw) :
  bV P w K mg base ig (k+1) f fd ["_law_caught"] (QQ aD):=by
 refine F.ok mR (by rintro vs H Q E ⟨a,rfl,_⟩; rfl) (fun cdv A outer s H vs Q E hr h=>?_)
 obtain⟨a,rfl,hE,qq⟩:=h;have ND:=mR.nd;refine⟨_,(aq (aQ (i:=1) ND rfl (by walk_at "o") (bH (aa (pb (fJ (K:=K) rfl) B.isinstance aY (aa (pv 0) (aa (eE (v:=.ref dD) rfl Z.Qt rfl) aj))) (aa (pb (fJ (K:=K) rfl) B.isinstance aY (aa (pv 0) (aa (eE (v:=.ref d8) rfl Z.Ud rfl) aj))) (aa (pb (fJ (K:=K) rfl) B.isinstance aY (aa (pv 0) (aa (eE (v:=.ref dB) rfl Z.Qq rfl) aj))) aj))))) (aq (aQ (i:=1) ND rfl (by walk_at "o") (aH xn (pv 1) (bH (aa (pb (fJ (K:=K) rfl) B.isinstance aY (aa (pv 0) (aa (eE (v:=.ref d7) rfl Z.T6 rfl) aj))) (aa (pb (fJ (K:=K) rfl) B.isinstance aY (aa (pv 0) (aa (eE (v:=.ref aD) rfl Z.yq rfl) aj))) (aa (pb (fJ (K:=K) rfl) B.isinstance aY (aa (pv 0) (aa (eE (v:=.ref dw) rfl Z.Qj rfl) aj))) aj)))))) (aq (aQ (i:=1) ND rfl (by walk_at "o") (aH xn (pv 1) (bH (aa (pb (fJ (K:=K) rfl) B.isinstance aY (aa (pv 0) (aa (eE (v:=.ref dz) rfl Z.Qk rfl) aj))) (aa (pb (fJ (K:=K) rfl) B.isinstance aY (aa (pv 0) (aa (eE (v:=.ref d9) rfl Z.Ue rfl) aj))) (aa (pb (fJ (K:=K) rfl) B.isinstance aY (aa (pv 0) (aa (eE (v:=.ref dC) rfl Z.Qs rfl) aj))) aj)))))) (aq (aQ (i:=2) ND rfl (by walk_at "o") (bH (aa bQ (aa bQ (aa bQ (aa bQ (aa bQ (aa bQ (aa bQ (aa bQ (aa bQ aj))))))))))) (aq (aQ (i:=3) ND rfl (by walk_at "o") (oV (pb (fJ (K:=K) rfl) B.isinstance aY (aa (pv 0) (aa (eE (v:=.ref bO) rfl Z.vW rfl) aj))) (oV (pb (fJ (K:=K) rfl) B.isinstance aY (aa (pv 0) (aa (pty (by rfl) B.ValueError uO) aj))) (rQ (fG fU (jx (K:=K) rfl PySem.F.plainAttrs_list PySem.F.slot_list_count PySem.F.type_list_count CQ (pv 1) (aa jY aj)) ao (bu _)))))) (aK (bc (b7 (fu (pv 3)) (bA aZ (pv 2) (jx (K:=K) rfl PySem.F.plainAttrs_list PySem.F.slot_list_index PySem.F.type_list_index CP (pv 1) (aa jY aj)) (fun _ _=>rfl)) bQ)))))))),?_⟩
 walk_at "rd";have R:∀(C u:_),RelV (.ref C) u->u=Value.ref C:=fun C u z=>z;have RT:∀u,RelV (V.ty "ValueError") u->u=Value.type "ValueError" := fun u z=>z;have mono:∀{H':Hp},aJ H H'->M4 H' a (.ref aD):=fun {H'} s'=>by obtain⟨T,e⟩:=hE; exact⟨T,s' _ _ e⟩
 obtain⟨hk,hcl,k1,k2,k3,k4,k5,k6,k7,k8,k9,kh,kv⟩:=(⟨Z.jA,Z.Dv,Z.De,Z.Ig,Z.Dc,Z.Ie,Z.C_,Z.CW,Z.CZ,Z.Ih,Z.Dd,Z.xN,Z.v_m⟩:_/\_/\_/\_/\_/\_/\_/\_/\_/\_/\_/\_/\_);refine⟨a,_,_,_,_,rfl,hE,hk,hcl,rfl,R _,k1,a,_,_,_,_,rfl,hE,hk,hcl,rfl,R _,k2,a,_,_,_,_,rfl,hE,hk,hcl,rfl,R _,k3,(by decide),fun p1 H1 f1 s1 e1=>?_⟩
 refine⟨a,_,_,_,_,rfl,mono s1,hk,hcl,rfl,R _,k4,a,_,_,_,_,rfl,mono s1,hk,hcl,rfl,R _,k5,a,_,_,_,_,rfl,mono s1,hk,hcl,rfl,R _,k6,(by decide),fun p2 H2 f2 s2 e2=>Hf.of (s2 _ _ e1) e2 (Wn (by show _+_<=1000; simp)) fun p3 H3 f3 s3 e3=>?_⟩
 have kI:=s1.trans (s2.trans s3);refine⟨a,_,_,_,_,rfl,mono kI,hk,hcl,rfl,R _,k7,a,_,_,_,_,rfl,mono kI,hk,hcl,rfl,R _,k8,a,_,_,_,_,rfl,mono kI,hk,hcl,rfl,R _,k9,(by decide),fun p4 H4 f4 s4 e4=>Hf.of (s4 _ _ e3) e4 (Wn (by show _+_<=1000; simp)) fun p5 H5 f5 s5 e5=>?_⟩
 have zb:=kI.trans (s4.trans s5);have e5:H5 p5=some (.lst ([false,false,false,false,true,false,false,false,false].map V.bl)):=e5;refine⟨(by decide),fun p6 H6 f6 s6 e6=>?_⟩
 have yE:=zb.trans s6;have Ut:=s6 _ _ e5;refine⟨a,_,_,_,_,rfl,mono yE,hk,hcl,rfl,R _,kh,?_⟩;rw[aR rfl];refine⟨a,_,_,_,_,rfl,mono yE,hk,hcl,rfl,RT,kv,?_⟩;rw[aR rfl];refine⟨.inl ⟨rfl,_,dI.of Ut⟩,p5,_,rfl,Ut,rfl,?_⟩;have Y5:List.countP id [false,false,false,false,true,false,false,false,false]=1:=by decide
 rw[Y5];refine⟨rfl,_,rfl,?_⟩;rw[aR (by decide)]
 refine⟨.inl ⟨rfl,_,dI.of Ut⟩,p5,_,4,rfl,Ut,rfl,(by decide),⟨rfl,fun m hm=>?_⟩,?_⟩
 ·have:m=0\/m=1\/m=2\/m=3:=by omega
  rcases this with rfl | rfl | rfl | rfl <;> simp
 ·exact Ix.lst e6 (v:=.str "long") rfl (qq H6 yE)
theorem ints_get {l:List Int} {i:Nat} {x:V} (h:(l.map V.int)[i]?=some x):i<l.length/\x=.int (l.getD i 0):=by
 rw[h_] at h;cases e:l[i]? with
 | none=>rw[e] at h; simp at h
 | some r=>
  rw[e] at h; simp at h;obtain⟨hi,_⟩:=iM.mp e;exact⟨hi,by rw[iy,e,<- h]; rfl⟩
theorem TF {ls:List Int} {i:Nat} {j:Int} (e:j=(i:Int)) (h:i<ls.length):DR (ls.map V.int) j=some (.int (ls.getD i 0)):=by
 rw[e];exact bz (by rw[h_,iy,gO h]; rfl)
theorem Ml (ns:List Int) (h:ns.length<=63):jK (ns.map V.int) (some 2) (some 63)=(ns.drop 2).map V.int:=by
 have e:jK (ns.map V.int) (some ((2:Nat):Int)) (some ((63:Nat):Int))=(ns.drop 2).map V.int:=by
  unfold jK;rw[HT.qF,HT.qF,dH,List.map_drop];by_cases q:2<=ns.length
  ·rw[Nat.min_eq_left q,Ex h,Ko (by rw[zx,dH]; omega)]
  ·rw[Ex (by omega),Kl (by rw[dH]; omega),Kl (by rw[dH]; omega),List.take_nil]
 exact e
def yV (K:PySem.W.Frag):Sp:=fun vs H Q _=>∃(p:Addr) (ns:List Int),vs=[.ref p,.int 2]/\Nh K H p (ns.map V.int)/\ns.length<=63/\∀(r:Addr) (cs:List Int) H',aJ H H'->H' r=some (.lst (cs.map V.int))->cs.length<=2->Q (.ref r) H'
theorem pL:bh ["_law_script","_law_many","_law_cells","_law_k","_law_cell"] ["_law_script","_law_many"] (aM lL):=(by walk_at "c")
theorem Ad (F:iY K "_law_folded" "_law_folded" lL f fd) (B:Bi mg):bV P w K mg base ig (k+1) f fd ["_law_script","_law_many"] (yV K):=by
 refine F.ok pL (by rintro vs H Q E ⟨p,ns,rfl,_⟩; rfl) (fun cdv A outer s H vs Q E hr h=>?_)
 obtain⟨p,ns,rfl,hS,hn,q⟩:=h;have ND:=pL.nd;refine⟨_,(aq (aQ (i:=2) ND rfl (by walk_at "o") (pt (Ja) B.list jE (aa (c7 mL (pv 0) fD (dG (pv 1))) aj))) (aq (gG PassesOwn.never rfl (Ff (K:=K) rfl B.enumerate (aa (c7 mL (pv 0) (dG (pv 1)) (dG ao)) aj)) (cF (K:=K) (n:=2) rfl rfl (aG (aA (i:=3) ND rfl (by walk_at "o")) (aG (aA (i:=4) ND rfl (by walk_at "o")) cD))) (aK (cW (aH a_ (bA aZ (pv 2) (aH iQ (pv 3) (pv 1)) (fun _ _=>rfl)) (aH fB (pv 4) (aH a_ (pv 3) ao))) (oU (pv 2) (aH iQ (pv 3) (pv 1)) set_list)))) (aK (bc (pv 2))))),?_⟩
 walk_at "rd";refine⟨p,_,rfl,hS.sq,fun p1 f1=>?_⟩;rw[lY (by decide),<- zO]
 have s1:=aL f1 (HO.lst ((ns.take (Int.toNat 2)).map V.int));have e1:upd H p1 (HO.lst ((ns.take (Int.toNat 2)).map V.int)) p1=some (.lst ((ns.take (Int.toNat 2)).map V.int)):=az;generalize upd H p1 (HO.lst ((ns.take (Int.toNat 2)).map V.int))=H1 at s1 e1 ⊢;refine⟨p1,_,rfl,e1,fun pc fc=>?_⟩;have s2:=aL fc (HO.lst ((ns.take (Int.toNat 2)).map V.int));have e2:upd H1 pc (HO.lst ((ns.take (Int.toNat 2)).map V.int)) pc=some (.lst ((ns.take (Int.toNat 2)).map V.int)):=az;generalize upd H1 pc (HO.lst ((ns.take (Int.toNat 2)).map V.int))=H2 at s2 e2 ⊢;have s02:=s1.trans s2;have hS2:=hS.same s02
 have zc:H pc=none:=by
  cases e:H pc with
  | none=>rfl
  | some o=>rw[s1 _ _ e] at fc; cases fc
 rw[GK];walk_at "rd";refine⟨p,_,rfl,hS2.sq,fun p3 f3=>?_⟩;rw[Ml ns hn];have s3:=aL f3 (HO.lst ((ns.drop 2).map V.int));have e3:upd H2 p3 (HO.lst ((ns.drop 2).map V.int)) p3=some (.lst ((ns.drop 2).map V.int)):=az;generalize upd H2 p3 (HO.lst ((ns.drop 2).map V.int))=H3 at s3 e3 ⊢;have n3:p3≠pc:=fun z=>by rw[z,e2] at f3; cases f3
 refine EK.of e3 (fun i σ H'=>∃(cs:List Int) (o3 o4:Option V),σ=[some (.ref p),some (.int 2),some (.ref pc),o3,o4]/\H' pc=some (.lst (cs.map V.int))/\cs.length=(ns.take (Int.toNat 2)).length/\H' p3=some (.lst ((ns.drop 2).map V.int))/\aJ H H') ⟨_,_,_,rfl,s3 _ _ e2,rfl,e3,s02.trans s3⟩ (fun i σ H' _ ⟨_,_,_,_,_,_,z,_⟩=>z) ?_ ?_
 ·rintro i x σ H4 p4 hx ⟨cs,o3,o4,rfl,e4,l4,g4,s4⟩ f4;obtain⟨hi,rfl⟩:=ints_get hx
  have hl8:cs.length=2:=by
   rw[l4,jH];rw[zx] at hi;exact Nat.min_eq_left (by show 2<=ns.length; omega)
  have ab8:i<63:=by rw[zx] at hi; omega
  refine⟨p4,_,rfl,cY.of az,rfl,?_⟩;have s5:=aL f4 (HO.tup [V.int (i:Nat),V.int ((ns.drop 2).getD i 0)]);generalize upd H4 p4 (HO.tup [V.int (i:Nat),V.int ((ns.drop 2).getD i 0)])=H5 at s5 ⊢;walk_at "rd";refine⟨by decide,?_⟩
  have em:((i:Nat):Int) % 2=((i % 2:Nat):Int):=by omega
  have lt:i % 2<cs.length:=by rw[hl8]; exact Nat.mod_lt _ (by decide)
  refine Ix.lst (s5 _ _ e4) (TF em lt) ?_;walk_at "rd";refine⟨.inr ⟨by omega,by omega⟩,by decide,?_⟩
  refine⟨pc,_,_,i % 2,rfl,rfl,s5 _ _ e4,by rw[em,dH]; exact qH lt,?_⟩
  rw[<- List.map_set];exact⟨_,_,_,rfl,az,by rw[List.length_set]; exact l4,by rw[aV n3]; exact s5 _ _ g4,aJ.d_ (s4.trans s5) zc⟩
 ·rintro σ H4 ⟨cs,o3,o4,rfl,e4,l4,g4,s4⟩;walk_at "rd";exact q pc cs H4 s4 e4 (by rw[l4,jH]; exact Nat.min_le_left _ _)
variable {bO d8 d9 dD dC dB d7 aD dz dw:Addr}
def st0 (x:eZ):eV:=⟨0,x.lo,[0,0,0,0,0],0,0,[[0,0,0],[0,0,0],[0,0,0]]⟩
theorem JX (x:eZ):ik (st0 x):=⟨rfl,rfl,fun y hy=>by
 have:y=[0,0,0]:=by
  simp only[st0,cA,jJ,or_false,or_self] at hy;exact hy
 rw[this]; rfl⟩
def L0 (x:eZ) (c:Int):Nat->PyData:=LI x (st0 x) c
def mX (x:eZ) (c:Int) (i b:Nat):PyData:=if(((uG x (st0 x) c i).drop b).any fun n=>n != 0)=true then .none else .int (dh 0 (z7 (uG x (st0 x) c i)))
theorem NZ {x:eZ} {c:Int} {i b:Nat} {H:Hp}:At H (mX x c i b) (restV x (st0 x) c i b):=by
 unfold mX restV;split
 ·exact At.non
 ·exact At.int _
def outD (x:eZ) (c:Int) (m i b:Nat):List PyData:=if i<=m then[.tuple [.int b,.int ((i:Int)-b)],mX x c i b] else[.str "long",.str "long"]
theorem zf {L:Nat->PyData} {i b i' b':Nat} (h:jj L i b) (h':jj L i' b'):i=i'/\b=b':=by
 have e:i=i':=by
  rcases Nat.lt_trichotomy i i' with z | z | z
  ·have:=h'.2 i z; rw[h.1] at this; cases this
  ·exact z
  ·have:=h.2 i' z; rw[h'.1] at this; cases this
 subst e;have:=h.1;rw[h'.1] at this;exact⟨rfl,(Option.some.inj this).symm⟩
def J0:Sp:=fun vs H Q _=>∃(v:V) (x:eZ) (c:Int) (m i b:Nat),vs=[v,.int c,.int m]/\At H (gR x) v/\kj x/\MT x/\m<=1000/\jj (L0 x c) i b/\∀p H',aJ H H'->At H' (.list (outD x c m i b)) (.ref p)->Q (.ref p) H'
theorem vf:bh ["_law_post_here","_law_come","_law_most","_law_stand_here","_law_found","_law_which","_law_caught","error"] ["_law_post_here","_law_come","_law_most"] (aM q_):=(by walk_at "c")
theorem HD (F:iY K "_law_told" "_law_told" q_ f fd) (B:Bi mg) (Z:ZM K mg bO d8 d9 dD dC dB d7 aD dz dw) (gq:Nk P w K mg base k "round_of" ["post","stand","come","most"] (qD aD)) (mq:Nk P w K mg base k "rests_at" ["post","stand","come","most"] (wL aD)) (Av:Ct P w K mg base k "_law_refused" ["_law_caught"] (QQ aD)):bV P w K mg base ig (k+1) f fd ["_law_post_here","_law_come","_law_most"] J0:=by
 refine F.ok vf (by rintro vs H Q E ⟨v,x,c,m,i,b,rfl,_⟩; rfl) (fun cdv A outer s H vs Q E hr h=>?_)
 obtain⟨v,x,c,m,i0,b0,rfl,a1,hx,hn,hm,hR,q⟩:=h;have ND:=vf.nd;refine⟨_,(aq (oO (i:=3) (j:=4) rfl ND rfl rfl (by decide) rfl rfl (aa (bf (aa ao (aa (bA aZ (bA aZ (pv 0) ao (fun _ _=>rfl)) ao (fun _ _=>rfl)) (aa (bf (aa ao (aa ao (aa ao (aa ao (aa ao aj)))))) (aa ao (aa ao (aa (aH Oz (bf (aa (bf (aa ao (aa ao (aa ao aj)))) aj)) ao) aj))))))) (aa (bH aj) aj)) (by rfl)) (aq (gG PassesOwn.never rfl (cN (by rfl) B.range (aa ao aj)) (aA (i:=5) ND rfl (by walk_at "o")) (aq (aQ (i:=6) ND rfl (by walk_at "o") ju) (aq (Ol (K:=K) (ie:=7) rfl (rO (RW (bj fU (pv 5) ao (bu _)) (rO (zY (Ks (K:=K) rfl PySem.F.plainAttrs_list PySem.F.slot_list_append PySem.F.type_list_append eG (pv 4) (QT (E_ gq hr (aa (pv 0) (aa (pv 3) (aa (pv 1) (aa (pv 2) aj))))) EY)))) (rO (zY (Ks (K:=K) rfl PySem.F.plainAttrs_list PySem.F.slot_list_append PySem.F.type_list_append eG (pv 4) (QT (E_ mq hr (aa (pv 0) (aa (pv 3) (aa (pv 1) (aa (pv 2) aj))))) EY)))))) (fun e=>(aK (aQ (i:=6) ND rfl (by walk_at "o") (pv 7)))) ND Z.vW) (aK (dJ (bj xm (pv 6) ju (bu _)) (aK (m_ (jx (K:=K) rfl PySem.F.plainAttrs_list PySem.F.slot_list_append PySem.F.type_list_append eG (pv 4) (aa (pf Av hr (aa (pv 6) aj)) aj)))) bT))))) (aK (bc (pv 4))))),?_⟩
 walk_at "rd";obtain⟨ad,bd2,cd,dd,rfl,m1,m2,m3,m4⟩:=lV a1;refine Ix.tup m1 (v:=.ref bd2) rfl (Ix.tup m2 (v:=.int x.lo) rfl ⟨(by decide),fun r1 K1 y1 k1 h1=>⟨(by decide),fun r2 K2 y2 k2 h2=>⟨(by decide),fun r3 K3 y3 k3 h3=>⟨r3,_,rfl,rfl,h3,fun r4 K4 y4 k4 h4=>⟨(by decide),fun r5 K5 y5 k5 h5=>?_⟩⟩⟩⟩⟩)
 have b4:At K5 (jM (st0 x)) (.ref r5):=At.tup h5 (ak.cons (At.int _) (ak.cons (At.int _) (ak.cons (At.tup ((k2.trans (k3.trans (k4.trans k5))) _ _ h1) (bB [0,0,0,0,0])) (ak.cons (At.int _) (ak.cons (At.int _) (ak.cons (At.tup (k5 _ _ h4) (by
   have t:At K5 (cZ [0,0,0]) (.ref r2):=At.tup ((k3.trans (k4.trans k5)) _ _ h2) (bB [0,0,0])
   exact ak.cons t (ak.cons t (ak.cons t ak.nil)))) ak.nil))))))
 have sK:=k1.trans (k2.trans (k3.trans (k4.trans k5)));have a5:=a1.mono sK;refine⟨(by decide),fun L H1 f1 s1 e1=>⟨_,_,rfl,?_⟩⟩
 rw[mK];walk_at "rd";have fL:=aJ.free sK f1;have n5:∀{b:Addr} {o:HO},K5 b=some o->b≠L:=fun hb z=>by rw[z,f1] at hb; cases hb
 have cl:∀{d:PyData} {u:V},At K5 d u->At (hid L H1) d u:=fun {d u} h=>by
  refine h.mono fun b o hb=>?_;rw[bF (n5 hb)]; exact s1 _ _ hb
 have a6:=cl a5;have b6:=cl b4;obtain⟨d0,d1,eo⟩:∃d0 d1,outD x c m i0 b0=[d0,d1]:=by unfold outD; split <;> exact⟨_,_,rfl⟩
 refine FK.of (n:=2) (by decide) (by decide) (fun i σ H'=>∃(o5 o6 o7:Option V) (ys:List V),σ=[some (V.ref ad),some (.int c),some (.int m),some (.ref r5),some (.ref L),o5,o6,o7]/\H' L=some (.lst ys)/\SX L H1 H'/\ak (hid L H') (([d0,d1]:List PyData).take i) ys) ⟨_,_,_,[],rfl,e1,SX.refl _ _,ak.nil⟩ ?_ ?_
 ·rintro i σ H2 hi ⟨o5,o6,o7,ys,rfl,e2,x2,A2⟩;walk_at "rd";have aP:=(a6.mono x2).mono cG;have aS:=(b6.mono x2).mono cG;have ly:ys.length<sizeLine:=by rw[A2.length,jH]; exact Nat.lt_of_le_of_lt (Nat.min_le_right _ _) (show 2<sizeLine by decide)
  have fin:∀(d:PyData) (y:V) (o6 o7:Option V) (H3:Hp),([d0,d1]:List PyData)[i]?=some d->aJ H2 H3->At (hid L H3) d y->∃(o5 o6' o7':Option V) (ys':List V),([some (V.ref ad),some (.int c),some (.int m),some (.ref r5),some (.ref L),some (V.int i),o6,o7]:List (Option V))=[some (V.ref ad),some (.int c),some (.int m),some (.ref r5),some (.ref L),o5,o6',o7']/\upd H3 L (.lst (ys++[y])) L=some (.lst ys')/\SX L H1 (upd H3 L (.lst (ys++[y])))/\ak (hid L (upd H3 L (.lst (ys++[y])))) (([d0,d1]:List PyData).take (i+1)) ys':=fun d y o6 o7 H3 hd s3 ad'=>by
   refine⟨_,_,_,_,rfl,az,x2.trans ((SX.of s3).trans SX.upd),?_⟩;rw[eY,List.take_add_one,hd];exact ak.append (A2.mono (SX.of s3)) (ak.cons ad' ak.nil)
  unfold QB;walk_at "rd";rw[vy];have tyL:Xj K "list" (.ref L) H2:=.inl ⟨rfl,_,dI.of e2⟩
  have lng:(∀j,j<=m->lr (LI x (st0 x) c) j=none)->([d0,d1]:List PyData)[i]?=some (.str "long"):=fun hj=>by
   have hb:¬i0<=m:=fun z=>by have:=hj i0 z; rw[show lr (LI x (st0 x) c) i0=some b0 from hR.1] at this; cases this
   unfold outD at eo;rw[bx hb] at eo;rw[<- eo];rcases(show i=0\/i=1 by omega) with rfl | rfl <;> rfl
  refine cM (fun c1=>?_) (fun c1=>?_)
  ·have ci:i=0:=by have:=oM c1; omega
   refine⟨tyL,Round.of rfl aP aS hx hn (JX x) hm (fun i' b' hi' hR' p3 H3 s3 e3=>?_) (fun hj H3 s3=>⟨Z.tE,fun a H4 sm ex=>?_⟩)⟩
   ·obtain⟨rfl,rfl⟩:=zf hR hR';refine⟨L,ys,_,rfl,rfl,s3 _ _ e2,ly,?_⟩;refine⟨trivial,?_⟩;rw[bx (by decide)]
    have nL:p3≠L:=fun z=>by rw[z,s3 _ _ e2] at e3; cases e3
    refine fin (.tuple [.int b0,.int ((i0:Int)-b0)]) _ _ _ H3 ?_ s3 (At.tup (by rw[bF nL]; exact e3) (bB [(b0:Int),(i0:Int)-b0]))
    unfold outD at eo;rw[aR hi'] at eo;rw[<- eo,ci]; rfl
   ·simp only[List.set];walk_at "rd";refine⟨trivial,?_⟩;rw[aR (by simp)]
    have s4:=sm s3;refine⟨.inl ⟨rfl,_,dI.of (s4 _ _ e2)⟩,a,rfl,ex,fun H5 s5=>⟨L,ys,_,rfl,rfl,(s4.trans s5) _ _ e2,ly,?_⟩⟩;exact fin _ _ _ _ H5 (lng hj) (s4.trans s5) (At.str _)
  ·have ci:i=1:=by have:=qg c1; omega
   refine⟨tyL,W3.of rfl aP aS hx hn (JX x) hm (fun i' b' hi' hR' H3 s3=>?_) (fun hj H3 s3=>⟨Z.tE,fun a H4 sm ex=>?_⟩)⟩
   ·obtain⟨rfl,rfl⟩:=zf hR hR';refine⟨L,ys,_,rfl,rfl,s3 _ _ e2,ly,?_⟩;refine⟨trivial,?_⟩;rw[bx (by decide)]
    refine fin (mX x c i0 b0) _ _ _ H3 ?_ s3 NZ;unfold outD at eo;rw[aR hi'] at eo;rw[<- eo,ci]; rfl
   ·simp only[List.set];walk_at "rd";refine⟨trivial,?_⟩;rw[aR (by simp)]
    have s4:=sm s3;refine⟨.inl ⟨rfl,_,dI.of (s4 _ _ e2)⟩,a,rfl,ex,fun H5 s5=>⟨L,ys,_,rfl,rfl,(s4.trans s5) _ _ e2,ly,?_⟩⟩;exact fin _ _ _ _ H5 (lng hj) (s4.trans s5) (At.str _)
 ·rintro σ H2 ⟨o5,o6,o7,ys,rfl,e2,x2,A2⟩;walk_at "rd";refine q L H2 (SX.same fL ((SX.of (sK.trans s1)).trans x2)) ?_;rw[eo];exact At.lst e2 (A2.mono cG)
def En:Sp:=fun vs H Q _=>∃(a:Addr) (v u:V) (x:eZ) (c r:Int) (b l n:Nat),vs=[.ref a,v,.int c,u]/\Tp H a n/\n<=100000000/\At (hid a H) (gR x) v/\At (hid a H) (.tuple ([(b:Int),(l:Int),r].map .int)) u/\kj x/\MT x/\1<=l/\b+l<=1000/\jj (L0 x c) (b+l) b/\mX x c (b+l) b=.int r/\∀H',SX a H H'->Tp H' a (n+1)->Q (.bl true) H'
theorem qU:bh ["_law_tape_here","_law_post_here","_law_come","_law_known_here","_law_begin","_law_length","_law_rests","_law_most","_law_fewer"] ["_law_tape_here","_law_post_here","_law_come","_law_known_here"] (aM oE):=(by walk_at "c")
theorem CJ (F:iY K "_law_known" "_law_known" oE f fd) (B:Bi mg) (aO:Ct P w K mg base k "_law_draw" ["_law_tape_here","_law_many"] gP) (Ar:Ct P w K mg base k "_law_told" ["_law_post_here","_law_come","_law_most"] J0) (j8:Ct P w K mg base k "_law_same" ["_law_found","_law_due"] (GZ 5)):bV P w K mg base ig (k+1) f fd ["_law_tape_here","_law_post_here","_law_come","_law_known_here"] En:=by
 refine F.ok qU (by rintro vs H Q E ⟨a,v,u,x,c,r,b,l,n,rfl,_⟩; rfl) (fun cdv A outer s H vs Q E hr h=>?_)
 obtain⟨a,v,u,x,c,r,b,l,n,rfl,tp,hn,a1,a2,hx,hN,hl,hbl,hR,hD,q⟩:=h;have ND:=qU.nd;refine⟨_,(aq (cW (pv 3) (cF (K:=K) (n:=3) rfl rfl (aG (aA (i:=4) ND rfl (by walk_at "o")) (aG (aA (i:=5) ND rfl (by walk_at "o")) (aG (aA (i:=6) ND rfl (by walk_at "o")) cD))))) (aq (aQ (i:=7) ND rfl (by walk_at "o") (bA aZ (bH (aa (aH a_ (pv 4) (pv 5)) (aa ao aj))) (pf aO hr (aa (pv 0) (aa ao aj))) (fun _ _=>rfl))) (aq (dJ (rN (fu (pf j8 hr (aa (pf Ar hr (aa (pv 1) (aa (pv 2) (aa (pv 7) aj)))) (aa (bH (aa (bf (aa (pv 4) (aa (pv 5) aj))) (aa (pv 6) aj))) aj))))) (aK (bc jY)) bT) (aq (aQ (i:=8) ND rfl (by walk_at "o") (aH cB (aH a_ (pv 4) (pv 5)) ao)) (aK (bc (V9 (fG fU (pv 8) ao (bu _)) (rQ (fG (Cv hr.units) (pf Ar hr (aa (pv 1) (aa (pv 2) (aa (pv 8) aj)))) (bH (aa bQ (aa bQ aj))) (bu _)))))))))),?_⟩
 walk_at "rd";obtain⟨ud,us,rfl,g1,g2⟩:=bC a2;cases du (cs:=[(b:Int),(l:Int),r]) g2;have g1':=cG _ _ g1;refine⟨ud,_,rfl,cY.of g1',rfl,?_⟩;walk_at "rd";refine⟨(by decide),fun p1 H1 f1 s1 e1=>?_⟩
 have n1:=tp.ne f1;refine cz.of (tp.same s1) (by omega) (by decide) (by decide) fun y1 H2 l2 u2 t2 s2=>?_
 obtain⟨ms,hms,Dr⟩:=fY (ts:=[(b:Int)+l,1000]) l2 u2
 obtain⟨m,em,hm1,hm2⟩:∃m:Nat,ms=(m:Int)/\m<=1000/\b+l<=m:=by
  simp only[cA,jJ,or_false] at hms;rcases hms with rfl | rfl
  ·exact⟨b+l,by omega,by omega,by omega⟩
  ·exact⟨1000,rfl,by omega,by omega⟩
 refine Ix.lst (s2.get n1 e1) Dr ?_;rw[em];have x2:SX a H H2:=(SX.of s1).trans s2;have b1:=a1.mono x2;refine⟨v,x,c,m,b+l,b,rfl,b1.mono cG,hx,hN,hm1,hR,fun p3 H3 s3 a3=>⟨(by decide),fun p4 H4 f4 s4 e4=>⟨(by decide),fun p5 H5 f5 s5 e5=>?_⟩⟩⟩
 have eo:outD x c m (b+l) b=[.tuple ([(b:Int),(l:Int)].map .int),.int r]:=by
  unfold outD;rw[aR hm2,hD];show[PyData.tuple [.int b,.int (((b+l:Nat):Int)-b)],_]=_;rw[show((b+l:Nat):Int)-b=l by omega]; rfl
 rw[eo] at a3
 have hS:SD 5 (.list [.tuple ([(b:Int),(l:Int)].map .int),.int r]):=SD.lst (by show 2<=1000; decide) fun e he=>by
  simp only[cA,jJ,or_false] at he;rcases he with rfl | rfl
  ·exact SD.ints (by show 2<=1000; decide)
  ·exact SD.int _
 have Nf:=s4.trans s5;refine Sm.of (a3.mono Nf) (At.lst e5 (ak.cons (At.tup (s5 _ _ e4) (bB [(b:Int),(l:Int)])) (ak.cons (At.int _) ak.nil))) hS (by decide) fun H6 s6=>?_
 refine⟨_,rfl,?_⟩;rw[bx (show ¬(!true)=true by decide)]
 have Yj:=s3.trans (Nf.trans s6);have x6:SX a H H6:=x2.trans (SX.of Yj);have t6:=t2.same Yj;by_cases c1:(b:Int)+l-1=0
 ·rw[aR (jo c1)];exact q H6 x6 t6
 rw[bx (by simpa using c1)]
 refine⟨v,x,c,b+l-1,b+l,b,by rw[show((b+l-1:Nat):Int)=(b:Int)+l-1 by omega],(b1.mono (SX.of Yj)).mono cG,hx,hN,by omega,hR,fun p7 H7 s7 a7=>⟨(by decide),fun p8 H8 f8 s8 e8=>?_⟩⟩
 have eo':outD x c (b+l-1) (b+l) b=[.str "long",.str "long"]:=by
  unfold outD;rw[bx (by omega)]
 rw[eo'] at a7;refine⟨_,_,a7.mono s8,At.lst e8 (ak.cons (At.str _) (ak.cons (At.str _) ak.nil)),rfl,rfl,by decide +kernel,by decide +kernel,by decide +kernel,?_⟩
 have eq:PyData.eqv (.list [.str "long",.str "long"]) (.list [.str "long",.str "long"])=true:=by decide
 rw[eq];exact q H8 (x6.trans (SX.of (s7.trans s8))) (t6.same (s7.trans s8))
theorem J_ {L:Nat->PyData} {b l:Nat} (hl:1<=l) (h1:L b=L (b+l)) (h2:∀i j,i<j->j<b+l->L i≠L j):jj L (b+l) b:=by
 refine⟨?_,fun j hj=>?_⟩
 ·unfold lr;rw[List.find?_range_eq_some];refine⟨jo h1,rJ.mpr (by omega),fun j hj=>?_⟩
  rw[jV (by rw[<- h1]; exact h2 j b hj (by omega))]; rfl
 ·unfold lr;rw[List.find?_eq_none];intro i hi;rw[decide_eq_true_eq];exact h2 i j (rJ.mp hi) hj
def pG:List Int:=[0,0,0,0,0]
def z3:List (List Int):=[[0,0,0],[0,0,0],[0,0,0]]
theorem JW {w r s t w' r' s' t':Int} {cs cs':List Int} {us us':List (List Int)} (h:jM ⟨w,r,cs,s,t,us⟩=jM ⟨w',r',cs',s',t',us'⟩):w=w'/\s=s'/\t=t'/\r=r':=by
 simp only[jM,PyData.tuple.injEq,List.cons.injEq,PyData.int.injEq] at h;exact⟨h.1,h.2.2.2.1,h.2.2.2.2.1,h.2.1⟩
def xF (p m:Int) (e la:Nat):eZ:=⟨p,m,0,0,la,e,0,0,[]⟩
def oY (a b:Int):Int:=if b<a then b else a
theorem Gb {p m c W s:Int} {e la:Nat} {us:List (List Int)}:g8 (xF p m e la) ⟨W,0,pG,s,0,us⟩ c 12=0:=by
 unfold g8;split
 ·rfl
 ·rfl
theorem Il {p m c W s:Int} {e la:Nat} {us:List (List Int)} (hW:0<=W) (hm:W<=m) (hc:0<=c):fH (xF p m e la) ⟨W,0,pG,s,0,us⟩ c=⟨oY (W+c) m,0,pG,iG e s,0,(bI (xF p m e la) ⟨W,0,pG,s,0,us⟩ c).take 3⟩:=by
 unfold fH;rw[Gb]
 have ht:bR (xF p m e la) ⟨W,0,pG,s,0,us⟩ c=oY (W+c) m-W:=by
  unfold bR oY;show(if(if 0>m-W then 0 else m-W)<c then(if 0>m-W then 0 else m-W) else c)=_
  repeat' split <;> try omega
 have hd:cX (xF p m e la) ⟨W,0,pG,s,0,us⟩ c=0:=by
  unfold cX;rw[ht];show(if(0+0)*p<W+(oY (W+c) m-W) then(0+0)*p else W+(oY (W+c) m-W))=0
  have:0<=oY (W+c) m:=by unfold oY; split <;> omega
  rw[show((0:Int)+0)*p=0 by simp]
  split <;> omega
 show cg _ _ _=_;unfold cg;rw[hd,ht];show(⟨W+(oY (W+c) m-W)-0,0,pG,iG e s,_,_⟩:eV)=_;rw[show W+(oY (W+c) m-W)-0=oY (W+c) m by omega]
 rfl
theorem G_ {e n:Nat} (he:1<=e):iG e ((n % e:Nat):Int)=(((n+1) % e:Nat):Int):=by
 have h:=Nat.mod_lt n he;unfold iG;by_cases z:n % e+1<e
 ·rw[aR (by omega)]
  have:(n+1) % e=n % e+1:=by rw[Nat.add_mod,Nat.mod_eq_of_lt (show 1<e by omega),Nat.mod_eq_of_lt z]
  omega
 ·rw[bx (by omega)]
  have e1:n % e+1=e:=by omega
  have:(n+1) % e=0:=by
   have h2:=Nat.div_add_mod n e;have:n+1=e*(n / e+1):=by rw[Nat.mul_add,Nat.mul_one]; omega
   rw[this,Nat.mul_mod_right]
  omega
theorem sZ {p m c:Int} {e la:Nat} (he:1<=e) (hm:0<=m) (hc:0<=c):∀n:Nat,∃us,iH (xF p m e la) (st0 (xF p m e la)) c n=⟨oY (c*n) m,0,pG,((n % e:Nat):Int),0,us⟩
 | 0=>by
  refine⟨z3,?_⟩
  have:oY (c*(0:Nat)) m=0:=by
   unfold oY;rw[show c*((0:Nat):Int)=0 by simp,bx (by omega)]
  rw[this,Nat.zero_mod]; rfl
 | n+1=>by
  obtain⟨us,eq⟩:=sZ (p:=p) (la:=la) he hm hc n;have h0:0<=c*(n:Int):=Int.mul_nonneg hc (by omega)
  have e1:c*((n+1:Nat):Int)=c*n+c:=by rw[show((n+1:Nat):Int)=(n:Int)+1 by omega,Int.mul_add,Int.mul_one]
  refine⟨(bI (xF p m e la) ⟨oY (c*n) m,0,pG,((n % e:Nat):Int),0,us⟩ c).take 3,?_⟩;show fH _ (iH _ _ _ n) c=_;rw[eq,Il (by unfold oY; split <;> omega) (by unfold oY; split <;> omega) hc,G_ he,e1]
  have:oY (oY (c*n) m+c) m=oY (c*n+c) m:=by unfold oY; repeat' split <;> try omega
  rw[this]
theorem xQ {p m c:Int} {e la:Nat} (he:1<=e) (hm:0<=m) (hc:0<=c) (n:Nat):L0 (xF p m e la) c n=jM ⟨oY (c*n) m,0,pG,((n % e:Nat):Int),0,z3⟩:=by
 obtain⟨us,eq⟩:=sZ (p:=p) (la:=la) he hm hc n;unfold L0 LI;rw[eq];have h:=Nat.mod_lt n he;have:Ak (xF p m e la) ⟨oY (c*n) m,0,pG,((n % e:Nat):Int),0,us⟩=⟨oY (c*n) m,0,pG,if(e:Int)-1<((n % e:Nat):Int) then(e:Int)-1 else((n % e:Nat):Int),0,z3⟩:=rfl
 rw[this,bx (by omega)]
theorem Ma {p m c:Int} {e la b:Nat} (he:1<=e) (hm:0<=m) (hc:0<=c) (h1:(c=0/\b=0)\/(0<c/\m<=c*b/\∀i:Nat,i<b->c*i<m)):jj (L0 (xF p m e la) c) (b+e) b:=by
 refine J_ he ?_ fun i j hij hj hE=>?_
 ·rw[xQ he hm hc,xQ he hm hc,Nat.add_mod_right]
  have:oY (c*b) m=oY (c*((b+e:Nat):Int)) m:=by
   rcases h1 with⟨rfl,_⟩ | ⟨c1,c2,_⟩
   ·rw[Int.zero_mul,Int.zero_mul]
   ·have:c*(b:Int)<=c*((b+e:Nat):Int):=Int.mul_le_mul_of_nonneg_left (by omega) hc
    unfold oY; repeat' split <;> try omega
  rw[this]
 ·rw[xQ he hm hc,xQ he hm hc] at hE;obtain⟨e1,e2,_⟩:=JW hE
  have far:j-i<e->False:=fun z=>by
   have:=Nat.sub_mod_eq_zero_of_mod_eq (m:=j) (n:=i) (k:=e) (by omega)
   rw[Nat.mod_eq_of_lt z] at this;omega
  rcases h1 with⟨rfl,rfl⟩ | ⟨c1,c2,c3⟩
  ·exact far (by omega)
  ·by_cases z:i<b
   ·have h3:=c3 i z;have h4:c*(i:Int)<c*(j:Int):=Int.mul_lt_mul_of_pos_left (by omega) c1
    unfold oY at e1
    repeat' split at e1 <;> try omega
   ·exact far (by omega)
theorem Mr {x:eZ} {st:eV} {c:Int} {n:Nat} (h:∀i,i<n->g8 x (iH x st c i) c 12=0):uG x st c n=List.replicate n 0:=by
 unfold uG;refine Kf (by simp) fun i h1 h2=>?_
 simp only[List.getElem_map,Ho,List.getElem_replicate];exact h i (by simpa using h1)
theorem Im {p m c:Int} {e la:Nat} (he:1<=e) (hm:0<=m) (hc:0<=c) (i b:Nat):mX (xF p m e la) c i b=.int 0:=by
 have hz:uG (xF p m e la) (st0 (xF p m e la)) c i=List.replicate i 0:=Mr fun j _=>by
  obtain⟨us,eq⟩:=sZ (p:=p) (la:=la) he hm hc j;rw[eq]; exact Gb
 unfold mX;rw[hz,bx (by simp)]
 have:z7 (List.replicate i 0)=[]:=by
  unfold z7;rw[Km.mpr];(· rfl);intro j hj;simp[iy,Oh];split <;> rfl
 rw[this]; rfl
def xC (p V st:Int) (la u:Nat) (d:Int):eZ:=⟨p,1000,0,1,la,1,u,d,[[⟨"wait",1,"over",V,st⟩]]⟩
theorem Vd {V st h T c dn:Int} {us:List (List Int)} (hs:1<=st) (hh:h=0\/h=1):fQ [[⟨"wait",1,"over",V,st⟩]] 0 1 h ([c,dn,T]::us)=if V<T then 1 else h:=by
 have ht:lA "wait" 1 ([c,dn,T]::us)=T:=by
  have:lA "wait" 1 ([c,dn,T]::us)=T+0:=rfl;omega
 have Xv:says ⟨"wait",1,"over",V,st⟩ h ([c,dn,T]::us)=if V<T then some (h+st) else none:=by
  unfold says;simp only[ht];rw[bx (by decide)]
  by_cases z:V<T
  ·rw[aR (.inl ⟨trivial,by omega⟩),aR z]
  ·rw[bx,bx z];rintro(⟨_,y⟩ | ⟨y,_⟩)
   ·omega
   ·exact absurd y (by decide)
 have hr:cQ h ([c,dn,T]::us) [⟨"wait",1,"over",V,st⟩]=if V<T then h+st else h:=by
  by_cases z:V<T
  ·rw[aR z] at Xv;unfold cQ;rw[Xv,aR z]
  ·rw[bx z] at Xv;unfold cQ;rw[Xv,bx z]; rfl
 have:fQ [[⟨"wait",1,"over",V,st⟩]] 0 1 h ([c,dn,T]::us)=(if 1<(if 0>(cQ h ([c,dn,T]::us) [⟨"wait",1,"over",V,st⟩]) then 0 else(cQ h ([c,dn,T]::us) [⟨"wait",1,"over",V,st⟩])) then 1 else(if 0>(cQ h ([c,dn,T]::us) [⟨"wait",1,"over",V,st⟩]) then 0 else(cQ h ([c,dn,T]::us) [⟨"wait",1,"over",V,st⟩]))):=rfl
 rw[this,hr]
 repeat' split <;> try omega
theorem k_ {p V st d W r t:Int} {la u:Nat} {cs:List Int} {us:List (List Int)} {T h:Int} (hs:1<=st) (hW:0<=W/\W+1<=1000) (hh:h=0\/h=1)
  (hd:(if bJ ⟨W,r,cs,0,t,us⟩*p<W+1 then bJ ⟨W,r,cs,0,t,us⟩*p else W+1)=W+1-T) (hsum:bJ ⟨W,r,cs,0,t,us⟩+(cs.drop 1++[0]).sum=h) :
  g8 (xC p V st la u d) ⟨W,r,cs,0,t,us⟩ 1 12=(if t=0/\V<T then 1-h else 0)/\∃us',cg (xC p V st la u d) ⟨W,r,cs,0,t,us⟩ 1=⟨T,bJ ⟨W,r,cs,0,t,us⟩,cs.drop 1++[0],0,if 0>t-1 then 0 else t-1,us'⟩:=by
 have ht:bR (xC p V st la u d) ⟨W,r,cs,0,t,us⟩ 1=1:=by
  unfold bR;show(if(if 0>1000-W then 0 else 1000-W)<1 then(if 0>1000-W then 0 else 1000-W) else 1)=1
  repeat' split <;> try omega
 have hdn:cX (xC p V st la u d) ⟨W,r,cs,0,t,us⟩ 1=W+1-T:=by
  unfold cX;rw[ht];exact hd
 refine⟨?_,⟨((bI (xC p V st la u d) ⟨W,r,cs,0,t,us⟩ 1).take 3),?_⟩⟩
 ·have e1:g8 (xC p V st la u d) ⟨W,r,cs,0,t,us⟩ 1 12=if gH 1 0 t=true then kY (xC p V st la u d) (bJ ⟨W,r,cs,0,t,us⟩+(cs.drop 1++[0]).sum) 12 (bI (xC p V st la u d) ⟨W,r,cs,0,t,us⟩ 1) else 0:=rfl
  have e2:gH 1 0 t=decide (t=0):=rfl;have e3:bI (xC p V st la u d) ⟨W,r,cs,0,t,us⟩ 1=[1,cX (xC p V st la u d) ⟨W,r,cs,0,t,us⟩ 1,W+bR (xC p V st la u d) ⟨W,r,cs,0,t,us⟩ 1-cX (xC p V st la u d) ⟨W,r,cs,0,t,us⟩ 1]::us:=rfl;have e4:∀bW,kY (xC p V st la u d) h 12 bW=if 12<fQ [[⟨"wait",1,"over",V,st⟩]] 0 1 h bW-h then 12 else fQ [[⟨"wait",1,"over",V,st⟩]] 0 1 h bW-h:=fun _=>rfl
  rw[e1,hsum,e2,e3,e4,ht,hdn,Vd hs hh,show W+1-(W+1-T)=T by omega]
  by_cases z:t=0
  ·rw[aR (jo z)];by_cases y:V<T
   ·rw[aR y,bx (show ¬12<1-h by omega),aR ⟨z,y⟩]
   ·rw[bx y,bx (show ¬12<h-h by omega),bx (fun q=>y q.2)]; omega
  ·rw[bx (by simpa using z),bx (fun q=>z q.1)]
 ·unfold cg;rw[ht,hdn];show(⟨W+1-(W+1-T),_,_,_,_,_⟩:eV)=_;rw[show W+1-(W+1-T)=T by omega]; rfl
def un (j:Nat):List Int:=pG.set j 1
structure X5 (V la u n:Nat) (s:eV):Prop where
 s0:s.s=0
 a:n<=V->s.w=n/\s.r=0/\s.cs=pG/\s.t=0
 b:V<n->n<=V+1+la->s.w=n/\s.r=0/\s.cs=un (V+1+la-n)/\s.t=((V+1+u-n:Nat):Int)
 c:V+1+la<n->s.w=0/\s.r=1/\s.cs=pG/\s.t=((V+1+u-n:Nat):Int)
theorem Ao {p st d:Int} {V la u:Nat} (hs:1<=st) (hp:1000<=p) (hV:V<=900) (ha:la<=4):∀n:Nat,X5 V la u n (iH (xC p V st la u d) (st0 (xC p V st la u d)) 1 n)/\g8 (xC p V st la u d) (iH (xC p V st la u d) (st0 (xC p V st la u d)) 1 n) 1 12=if n=V then 1 else 0:=by
 have key:∀n s,X5 V la u n s->X5 V la u (n+1) (fH (xC p V st la u d) s 1)/\g8 (xC p V st la u d) s 1 12=if n=V then 1 else 0:=by
  rintro n ⟨W,r,cs,s,t,us⟩ ⟨h0,hA,hB,hC⟩;simp only at h0 hA hB hC;subst h0;rcases zq V n with z | z
  ·rcases zq (V+1+la) n with y | y
   ·obtain⟨rfl,rfl,rfl,et⟩:=hC y;obtain⟨c1,us',c2⟩:=k_ (p:=p) (V:=V) (st:=st) (d:=d) (W:=0) (r:=1) (t:=t) (la:=la) (u:=u) (cs:=pG) (us:=us) (T:=0) (h:=1) hs (by omega) (.inr rfl) (by show(if(1+0)*p<0+1 then(1+0)*p else 0+1)=_; rw[show((1:Int)+0)*p=p by simp,bx (by omega)]; rfl) rfl
    have e:g8 (xC p V st la u d) ⟨0,1,pG,0,t,us⟩ 1 12=0:=by rw[c1,bx (by omega)]
    refine⟨?_,by rw[e,bx (by omega)]⟩
    unfold fH;rw[e,c2];refine⟨rfl,fun q=>by omega,fun q1 q2=>by omega,fun q=>⟨rfl,rfl,rfl,?_⟩⟩
    show(if 0>t-1 then 0 else t-1)=_
    split <;> omega
   ·obtain⟨rfl,rfl,XD,et⟩:=hB z y;have hk:V+1+la-n<=4:=by omega
    by_cases q0:V+1+la-n=0
    ·rw[q0] at XD;subst XD;obtain⟨c1,us',c2⟩:=k_ (p:=p) (V:=V) (st:=st) (d:=d) (W:=n) (r:=0) (t:=t) (la:=la) (u:=u) (cs:=un 0) (us:=us) (T:=0) (h:=1) hs (by omega) (.inr rfl) (by show(if(0+1)*p<(n:Int)+1 then(0+1)*p else(n:Int)+1)=_; rw[show((0:Int)+1)*p=p by simp,bx (by omega)]; omega) rfl
     have e:g8 (xC p V st la u d) ⟨n,0,un 0,0,t,us⟩ 1 12=0:=by rw[c1,bx (by omega)]
     refine⟨?_,by rw[e,bx (by omega)]⟩
     unfold fH;rw[e,c2];refine⟨rfl,fun q=>by omega,fun q1 q2=>by omega,fun q=>⟨rfl,rfl,rfl,?_⟩⟩
     show(if 0>t-1 then 0 else t-1)=_
     split <;> omega
    ·obtain⟨j,hj⟩:∃j,V+1+la-n=j+1:=⟨V+1+la-n-1,by omega⟩
     rw[hj] at XD;subst XD
     have hu:∀j,j+1<=4->(un (j+1)).getD 0 0=0/\(un (j+1)).drop 1++[0]=un j/\(un j).sum=1:=fun j hj=>by
      rcases(show j=0\/j=1\/j=2\/j=3 by omega) with rfl | rfl | rfl | rfl <;> decide
     obtain⟨u1,u2,u3⟩:=hu j (by omega)
     have er:bJ ⟨n,0,un (j+1),0,t,us⟩=0:=by show 0+(un (j+1)).getD 0 0=0; omega
     obtain⟨c1,us',c2⟩:=k_ (p:=p) (V:=V) (st:=st) (d:=d) (W:=n) (r:=0) (t:=t) (la:=la) (u:=u) (cs:=un (j+1)) (us:=us) (T:=n+1) (h:=1) hs (by omega) (.inr rfl) (by rw[er,Int.zero_mul,aR (by omega)]; omega) (by rw[er,u2]; omega)
     have e:g8 (xC p V st la u d) ⟨n,0,un (j+1),0,t,us⟩ 1 12=0:=by rw[c1]; split <;> rfl
     refine⟨?_,by rw[e,bx (by omega)]⟩
     unfold fH;rw[e,c2,er,u2];refine⟨rfl,fun q=>by omega,fun q1 q2=>⟨by show(n:Int)+1=((n+1:Nat):Int); omega,rfl,?_,?_⟩,fun q=>by omega⟩
     ·show un j=un (V+1+la-(n+1));rw[show V+1+la-(n+1)=j by omega]
     ·show(if 0>t-1 then 0 else t-1)=_
      split <;> omega
  ·obtain⟨rfl,rfl,rfl,rfl⟩:=hA z;obtain⟨c1,us',c2⟩:=k_ (p:=p) (V:=V) (st:=st) (d:=d) (W:=n) (r:=0) (t:=0) (la:=la) (u:=u) (cs:=pG) (us:=us) (T:=n+1) (h:=0) hs (by omega) (.inl rfl) (by show(if(0+0)*p<(n:Int)+1 then(0+0)*p else(n:Int)+1)=_; rw[show((0:Int)+0)*p=0 by simp,aR (by omega)]; omega) rfl
   by_cases q0:n=V
   ·have e:g8 (xC p V st la u d) ⟨n,0,pG,0,0,us⟩ 1 12=1:=by rw[c1,aR ⟨rfl,by omega⟩]; rfl
    refine⟨?_,by rw[e,aR q0]⟩
    unfold fH;rw[e,c2]
    have hu:∀a,a<=4->(pG.drop 1++[0]).take a++[(pG.drop 1++[0]).getD a 0+1]++(pG.drop 1++[0]).drop (a+1)=un a:=fun a ha=>by
     rcases(show a=0\/a=1\/a=2\/a=3\/a=4 by omega) with rfl | rfl | rfl | rfl | rfl <;> decide
    refine⟨rfl,fun q=>by omega,fun q1 q2=>⟨by show(n:Int)+1=((n+1:Nat):Int); omega,rfl,?_,?_⟩,fun q=>by omega⟩
    ·show(pG.drop 1++[0]).take la++[(pG.drop 1++[0]).getD la 0+1]++(pG.drop 1++[0]).drop (la+1)=_;rw[hu la ha,show V+1+la-(n+1)=la by omega]
    ·show(u:Int)=_;omega
   ·have e:g8 (xC p V st la u d) ⟨n,0,pG,0,0,us⟩ 1 12=0:=by rw[c1,bx (fun q=>by omega)]
    refine⟨?_,by rw[e,bx q0]⟩
    unfold fH;rw[e,c2];exact⟨rfl,fun q=>⟨by show(n:Int)+1=((n+1:Nat):Int); omega,rfl,rfl,rfl⟩,fun q1 q2=>by omega,fun q=>by omega⟩
 have all:∀n,X5 V la u n (iH (xC p V st la u d) (st0 (xC p V st la u d)) 1 n):=fun n=>by
  induction n with
  | zero=>exact⟨rfl,fun _=>⟨rfl,rfl,rfl,rfl⟩,fun q=>by omega,fun q=>by omega⟩
  | succ n ih=>exact(key n _ ih).1
 exact fun n=>⟨all n,(key n _ (all n)).2⟩
theorem IV {p V st d:Int} {la u:Nat}:nC (xC p V st la u d)=[0,0,0]:=by
 simp[nC,eQ,xC]
theorem Mu {p st d:Int} {V la u b:Nat} (hs:1<=st) (hp:1000<=p) (hV:V<=900) (ha:la<=4) (hb:(b=V+la+2/\u+1<=la+2)\/(b=V+u+1/\la+2<=u+1)):jj (L0 (xC p V st la u d) 1) (b+1) b:=by
 have hA:=fun n=>(Ao (d:=d) (u:=u) hs hp hV ha n).1
 have lf:∀n,L0 (xC p V st la u d) 1 n=jM ⟨(iH (xC p V st la u d) (st0 (xC p V st la u d)) 1 n).w,(iH (xC p V st la u d) (st0 (xC p V st la u d)) 1 n).r,(iH (xC p V st la u d) (st0 (xC p V st la u d)) 1 n).cs,0,(iH (xC p V st la u d) (st0 (xC p V st la u d)) 1 n).t,z3⟩:=fun n=>by
  unfold L0 LI Ak;rw[IV,(hA n).s0]; rfl
 refine J_ (bN _) ?_ fun i j hij hj hE=>?_
 ·rw[lf,lf];obtain⟨a1,a2,a3,a4⟩:=(hA b).c (by omega)
  obtain⟨b1,b2,b3,b4⟩:=(hA (b+1)).c (by omega)
  rw[a1,a2,a3,a4,b1,b2,b3,b4,show V+1+u-b=V+1+u-(b+1) by omega]
 ·rw[lf,lf] at hE;obtain⟨e1,_,e2,e3⟩:=JW hE;have h1:=(hA i).a;have h2:=(hA i).b;have h3:=(hA i).c;have k1:=(hA j).a;have k2:=(hA j).b;have k3:=(hA j).c;generalize iH (xC p V st la u d) (st0 (xC p V st la u d)) 1 i=si at *;generalize iH (xC p V st la u d) (st0 (xC p V st la u d)) 1 j=sj at *;rcases zq V i with z | z
  ·have z':V<j:=by omega
   rcases zq (V+1+la) i with y | y
   ·have:=(h3 y).2.2.2;have:=(k3 (by omega)).2.2.2
    omega
   ·have q1:=h2 z y;rcases zq (V+1+la) j with v | v
    ·have:=(k3 v).2.1;have:=q1.2.1;omega
    ·have:=(k2 z' v).1;have:=q1.1;omega
  ·have q1:=h1 z;rcases zq V j with z' | z'
   ·rcases zq (V+1+la) j with v | v
    ·have:=(k3 v).2.1;have:=q1.2.1;omega
    ·have:=(k2 z' v).1;have:=q1.1;omega
   ·have:=(k1 z').1;have:=q1.1;omega
theorem Sg {V k:Nat}:((List.range (V+(k+1))).filter fun i=>(if i=V then(1:Int) else 0) != 0)=[V]:=by
 rw[List.range_add,List.filter_append,Km.mpr (fun i hi=>?_),zT,Nat.add_comm k 1,List.range_add,lQ,List.filter_append]
 ·have e1:List.filter (fun i=>(if i=V then(1:Int) else 0) != 0) (List.map (fun x=>V+x) (List.range 1))=[V]:=by
   show List.filter _ [V+0]=[V];simp
  rw[e1,Km.mpr];(· rfl);intro i hi;obtain⟨y,hy,rfl⟩:=lg.mp hi;obtain⟨z,_,rfl⟩:=lg.mp hy;rw[bx (by omega)]; decide
 ·have:=rJ.mp hi;rw[bx (by omega)]; decide
theorem IK {p st d:Int} {V la u b:Nat} (hs:1<=st) (hp:1000<=p) (hV:V<=900) (ha:la<=4) (hb:V<b):mX (xC p V st la u d) 1 (b+1) b=.int ((V:Int)+1):=by
 have hz:uG (xC p V st la u d) (st0 (xC p V st la u d)) 1 (b+1)=(List.range (b+1)).map fun i=>if i=V then 1 else 0:=by
  unfold uG;exact List.map_congr_left fun i _=>(Ao (d:=d) (u:=u) hs hp hV ha i).2
 unfold mX;rw[hz,bx]
 ·congr 1
  unfold z7;have hl:((List.range (b+1)).map fun i=>if i=V then(1:Int) else 0).length=b+1:=by rw[dH,Hm]
  have e:(List.range (b+1)).filter (fun i=>((List.range (b+1)).map fun i=>if i=V then(1:Int) else 0).getD i 0 != 0)=[V]:=by
   obtain⟨k,hk⟩:∃k,b+1=V+(k+1):=⟨b-V,by omega⟩
   rw[<- Sg (V:=V) (k:=k),<- hk];refine List.filter_congr fun i hi=>?_;rw[iy,h_,List.getElem?_range (rJ.mp hi)]; rfl
  rw[hl,e];show dh 0 [(V:Int)+1]=_;show(if(V:Int)+1>0 then(V:Int)+1 else 0)=_
  rw[aR (by omega)]
 ·rw[List.any_eq_true];rintro⟨y,hy,h⟩;rw[<- List.map_drop] at hy;obtain⟨i,hi,rfl⟩:=lg.mp hy
  have:b<=i:=by
   obtain⟨n,hn,e⟩:=List.getElem_of_mem hi;rw[List.getElem_drop,Ho] at e;omega
  rw[bx (by omega)] at h
  cases h
def Ef:Sp:=fun vs H Q _=>∃(a:Addr) (n:Nat),vs=[.ref a]/\Tp H a n/\n<=100000/\∀H',Tp H' a (n+19)->SX a H H'->Q (.bl true) H'
theorem iw:bh ["_law_tape_here","_law_pace","_law_late","_law_every","_law_room","_law_come","_law_full","_law_begin","_law_over","_law_up","_law_rules_here","_law_post_here"] ["_law_tape_here"] (aM fW):=(by walk_at "c")
theorem nu (F:iY K "_law_rounds_right" "_law_rounds_right" fW f fd) (B:Bi mg) (aO:Ct P w K mg base k "_law_draw" ["_law_tape_here","_law_many"] gP) (vP:Ct P w K mg base k "_law_known" ["_law_tape_here","_law_post_here","_law_come","_law_known_here"] En):bV P w K mg base ig (k+1) f fd ["_law_tape_here"] Ef:=by
 refine F.ok iw (by rintro vs H Q E ⟨a,n,rfl,_⟩; rfl) (fun cdv A outer s H vs Q E hr h=>?_)
 obtain⟨a,n,rfl,tp,hn,q⟩:=h;have ND:=iw.nd;refine⟨_,(aq (Om (i:=1) (j:=2) (l:=3) rfl ND rfl rfl rfl rfl rfl rfl (aa (aH a_ ao (pf aO hr (aa (pv 0) (aa ao aj)))) (aa (pf aO hr (aa (pv 0) (aa ao aj))) (aa (aH a_ ao (pf aO hr (aa (pv 0) (aa ao aj)))) aj))) (by rfl)) (aq (aQ (i:=4) ND rfl (by walk_at "o") (bA aZ (bH (aa (pf aO hr (aa (pv 0) (aa ao aj))) (aa (pf aO hr (aa (pv 0) (aa ao aj))) (aa (pf aO hr (aa (pv 0) (aa ao aj))) aj)))) (pf aO hr (aa (pv 0) (aa ao aj))) (fun _ _=>rfl))) (aq (aQ (i:=5) ND rfl (by walk_at "o") (bA aZ (bH (aa ao (aa ao (aa (aH a_ ao (pf aO hr (aa (pv 0) (aa ao aj)))) (aa (aH gU ao ao) aj))))) (pf aO hr (aa (pv 0) (aa ao aj))) (fun _ _=>rfl))) (aq (aQ (i:=6) ND rfl (by walk_at "o") (bf (aa (pv 1) (aa (pv 4) (aa (bf (aa ao (aa ao aj))) (aa (pv 2) (aa (pv 3) (aa (bf (aa ao (aa ao aj))) (aa (bf aj) aj))))))))) (aq (aQ (i:=7) ND rfl (by walk_at "o") (b7 (bj pW (pv 5) ao (bu _)) (aH nj (aH cB (aH a_ (pv 4) (pv 5)) ao) (pv 5)) ao)) (aq (dJ (rN (fu (pf vP hr (aa (pv 0) (aa (pv 6) (aa (pv 5) (aa (bf (aa (pv 7) (aa (pv 3) (aa ao aj)))) aj))))))) (aK (bc jY)) bT) (aq (aQ (i:=8) ND rfl (by walk_at "o") (bA aZ (bH (aa (pf aO hr (aa (pv 0) (aa ao aj))) (aa (pf aO hr (aa (pv 0) (aa ao aj))) (aa (pf aO hr (aa (pv 0) (aa ao aj))) aj)))) (pf aO hr (aa (pv 0) (aa ao aj))) (fun _ _=>rfl))) (aq (aQ (i:=9) ND rfl (by walk_at "o") (pf aO hr (aa (pv 0) (aa ao aj)))) (aq (aQ (i:=10) ND rfl (by walk_at "o") (bf (aa (bf (aa (bf (aa bQ (aa ao (aa bQ (aa (pv 8) (aa (aH a_ ao (pf aO hr (aa (pv 0) (aa ao aj)))) aj)))))) aj)) aj))) (aq (aQ (i:=11) ND rfl (by walk_at "o") (bf (aa (aH a_ ao (pf aO hr (aa (pv 0) (aa ao aj)))) (aa ao (aa (bf (aa ao (aa ao aj))) (aa (pv 2) (aa ao (aa (bf (aa (pv 9) (aa (pf aO hr (aa (pv 0) (aa ao aj))) aj))) (aa (pv 10) aj))))))))) (aK (bc (pf vP hr (aa (pv 0) (aa (pv 11) (aa ao (aa (bf (aa (aH a_ (pv 8) (pb (dM rfl) B.max gJ (aa (aH a_ (pv 2) ao) (aa (aH a_ (pv 9) ao) aj)))) (aa ao (aa (aH a_ (pv 8) ao) aj)))) aj))))))))))))))))),?_⟩
 simp only[J6 7];have Jp:(10:Int) ^ Int.toNat 12=1000000000000:=by decide
 walk_at "rd";refine cz.of tp (by omega) (by decide) (by decide) fun y1 H1 l1 u1 t1 s1=>⟨_,_,rfl,rfl,?_⟩
 refine cz.of t1 (by omega) (by decide) (by decide) fun y2 H2 l2 u2 t2 s2=>?_
 refine cz.of t2 (by omega) (by decide) (by decide) fun y3 H3 l3 u3 t3 s3=>⟨_,_,rfl,rfl,_,_,_,rfl,?_⟩
 refine cz.of t3 (by omega) (by decide) (by decide) fun y4 H4 l4 u4 t4 s4=>?_
 refine cz.of t4 (by omega) (by decide) (by decide) fun y5 H5 l5 u5 t5 s5=>?_
 refine cz.of t5 (by omega) (by decide) (by decide) fun y6 H6 l6 u6 t6 s6=>⟨(by decide),fun p7 H7 f7 s7 e7=>?_⟩
 have n7:=t6.ne f7;refine cz.of (t6.same s7) (by omega) (by decide) (by decide) fun y8 H8 l8 u8 t8 s8=>?_
 obtain⟨m,hm,Dr⟩:=fY (ts:=[y4,y5,y6]) l8 u8
 have hm':0<=m/\m<900:=by
  simp only[cA,jJ,or_false] at hm;rcases hm with rfl | rfl | rfl <;> omega
 refine Ix.lst (s8.get n7 e7) Dr ?_;have x8:SX a H H8:=s1.trans (s2.trans (s3.trans (s4.trans (s5.trans (s6.trans ((SX.of s7).trans s8))))));clear hm Dr l8 u8;refine cz.of t8 (by omega) (by decide) (by decide) fun y9 H9 l9 u9 t9 s9=>⟨_,_,rfl,rfl,⟨by decide,by decide,by decide⟩,?_⟩
 rw[Jp];refine⟨(by decide),fun Yx qy PL uv e10=>?_⟩
 have n10:=t9.ne PL;refine cz.of (t9.same uv) (by omega) (by decide) (by decide) fun y11 ue Xu Xi Rq Jk=>?_
 obtain⟨c,hc,Dr⟩:=fY (ts:=[0,1,1+y9,1000000000000]) Xu Xi
 have hc':0<=c/\c<=1000000000000:=by
  simp only[cA,jJ,or_false] at hc;rcases hc with rfl | rfl | rfl | rfl <;> omega
 refine Ix.lst (Jk.get n10 e10) Dr ?_;clear hc Dr Xu Xi;have x11:SX a H ue:=x8.trans (s9.trans ((SX.of uv).trans Jk));obtain⟨e,he⟩:∃e:Nat,1+y3=(e:Int):=⟨(1+y3).toNat,by omega⟩
 obtain⟨la,hla⟩:∃la:Nat,y2=(la:Int):=⟨y2.toNat,by omega⟩
 rw[he,hla];refine⟨(by decide),fun p12 UJ WL s12 WR=>⟨(by decide),fun Ul Nj Tq kI Ir=>⟨(by decide),fun p14 Z5 WK BV Mi=>⟨(by decide),fun R7 M5 Us zb Jo=>?_⟩⟩⟩⟩
 have x15:SX a H M5:=x11.trans (SX.of (s12.trans (kI.trans (BV.trans zb))));have t15:=Rq.same (s12.trans (kI.trans (BV.trans zb)));have aF:At (hid a M5) (gR (xF (1+y1) m e la)) (.ref R7):=At.tup (by rw[bF ((Rq.same (s12.trans (kI.trans BV))).ne Us)]; exact Jo) (ak.cons (At.int _) (ak.cons (At.int _) (ak.cons (At.tup (by rw[bF (Rq.ne WL)]; exact(kI.trans (BV.trans zb)) _ _ WR) (bB [0,0])) (ak.cons (At.int _) (ak.cons (At.int _) (ak.cons (At.tup (by rw[bF ((Rq.same s12).ne Tq)]; exact(BV.trans zb) _ _ Ir) (bB [0,0])) (ak.cons (At.tup (by rw[bF ((Rq.same (s12.trans kI)).ne WK)]; exact zb _ _ Mi) ak.nil) ak.nil)))))))
 obtain⟨b,hb,hb9,hbe⟩:∃b:Nat,((c=0/\b=0)\/(0<c/\m<=c*b/\∀i:Nat,i<b->c*i<m))/\b<=900/\(b:Int)=if 0<c then(m+c-1) / c else 0:=by
  by_cases z:0<c
  ·have h1:=Int.mul_ediv_add_emod (m+c-1) c;have h2:=zy (m+c-1) z;have h3:=zu (m+c-1) (show c≠0 by omega)
   have h4:0<=(m+c-1) / c:=Int.ediv_nonneg (by omega) (by omega)
   have h5:(m+c-1) / c<=900:=by
    exact Int.ediv_le_of_le_mul z (by omega)
   refine⟨((m+c-1) / c).toNat,.inr ⟨z,?_,fun i hi=>?_⟩,by omega,by rw[aR z]; omega⟩
   ·rw[Int.toNat_of_nonneg h4]; omega
   ·have:c*(i:Int)<=c*((m+c-1) / c-1):=Int.mul_le_mul_of_nonneg_left (by omega) (by omega)
    rw[Int.mul_sub,Int.mul_one] at this;omega
  ·exact⟨0,.inl ⟨by omega,rfl⟩,by omega,by rw[bx z]; rfl⟩
 refine mJ.of (fun σ' H'=>H'=M5/\σ'=[some (V.ref a),some (V.int (1+y1)),some (V.int la),some (V.int e),some (V.int m),some (V.int c),some (V.ref R7),some (V.int b),none,none,none,none]) ?_ ?_
 rotate_left 1
 ·intro N hN;walk_at "rd";by_cases z:0<c
  ·rw[aR (jo z)];rw[aR z] at hbe;refine⟨⟨z,Int.lt_of_le_of_lt hc'.2 (by decide)⟩,?_⟩
   rw[<- hbe];exact hN _ _ ⟨rfl,rfl⟩
  ·rw[bx (by simpa using z)]
   rw[bx z] at hbe;rw[<- hbe];exact hN _ _ ⟨rfl,rfl⟩
 rintro σ' H' ⟨rfl,rfl⟩;walk_at "rd";refine⟨(by decide),fun Yw UG XC yE Ng=>?_⟩
 have t16:=t15.same yE;have hps:kj (xF (1+y1) m e la):=⟨by show la<=4; omega,by show 0<=1+y1/\1+y1<=1000000; omega,by show 0<=100; decide,fun rs hrs=>by cases hrs⟩
 have hpn:MT (xF (1+y1) m e la):=⟨by show 0<=900; decide,fun r hr=>by cases hr⟩
 refine⟨a,_,_,xF (1+y1) m e la,c,0,b,e,_,rfl,t16,by omega,aF.mono (SX.of yE),At.tup (by rw[bF (t15.ne XC)]; exact Ng) (bB [(b:Int),(e:Int),0]),hps,hpn,by omega,by omega,Ma (by omega) hm'.1 hc'.1 hb,Im (by omega) hm'.1 hc'.1 _ _,fun H17 VH t17=>⟨_,rfl,?_⟩⟩
 rw[bx (show ¬(!true)=true by decide)]
 have x17:SX a H H17:=x15.trans ((SX.of yE).trans VH);clear aF Jo Mi Ir WR Ng hb hbe;refine cz.of t17 (by omega) (by decide) (by decide) fun z4 G4 l4 u4 t4 s4=>?_
 refine cz.of t4 (by omega) (by decide) (by decide) fun z5 G5 l5 u5 t5 s5=>?_
 refine cz.of t5 (by omega) (by decide) (by decide) fun z6 G6 l6 u6 t6 s6=>⟨(by decide),fun p7 G7 f7 s7 e7=>?_⟩
 have n7:=t6.ne f7;refine cz.of (t6.same s7) (by omega) (by decide) (by decide) fun z8 G8 l8 u8 t8 s8=>?_
 obtain⟨Vi,Y7,Dr⟩:=fY (ts:=[z4,z5,z6]) l8 u8
 obtain⟨vn,rfl,hV⟩:∃vn:Nat,Vi=(vn:Int)/\vn<900:=by
  refine⟨Vi.toNat,?_⟩;simp only[cA,jJ,or_false] at Y7;rcases Y7 with rfl | rfl | rfl <;> omega
 refine Ix.lst (s8.get n7 e7) Dr ?_;have x8':SX a H G8:=x17.trans (s4.trans (s5.trans (s6.trans ((SX.of s7).trans s8))));clear Y7 Dr l8 u8 l4 u4 l5 u5 l6 u6;refine cz.of t8 (by omega) (by decide) (by decide) fun z9 G9 l9 u9 t9 s9=>?_
 obtain⟨u,rfl⟩:∃u:Nat,z9=(u:Int):=⟨z9.toNat,by omega⟩
 refine cz.of t9 (by omega) (by decide) (by decide) fun st' G10 l10 u10 M_ uv=>?_
 refine⟨_,_,rfl,rfl,(by decide),fun r1 K1 y1' k1 h1=>⟨(by decide),fun r2 K2 y2' k2 h2=>⟨(by decide),fun r3 K3 y3' k3 h3=>?_⟩⟩⟩
 have m1:=M_.ne y1';have m2:=(M_.same k1).ne y2';have m3:=(M_.same (k1.trans k2)).ne y3';refine cz.of (M_.same (k1.trans (k2.trans k3))) (by omega) (by decide) (by decide) fun Ug G11 Xu Xi Vt RD=>⟨_,_,rfl,rfl,(by decide),fun r4 K4 y4' k4 h4=>?_⟩
 have m4:=Vt.ne y4';refine cz.of (Vt.same k4) (by omega) (by decide) (by decide) fun U_ G12 Wo u12 Vs Hc=>⟨(by decide),fun r5 K5 y5' k5 h5=>⟨(by decide),fun r6 K6 y6' k6 h6=>?_⟩⟩
 have m5:=Vs.ne y5';have m6:=(Vs.same k5).ne y6';have g1:SX a K1 K6:=(SX.of (k2.trans k3)).trans (RD.trans ((SX.of k4).trans (Hc.trans (SX.of (k5.trans k6)))));have g2:SX a K2 K6:=(SX.of k3).trans (RD.trans ((SX.of k4).trans (Hc.trans (SX.of (k5.trans k6)))));have g3:SX a K3 K6:=RD.trans ((SX.of k4).trans (Hc.trans (SX.of (k5.trans k6))));have g4:SX a K4 K6:=Hc.trans (SX.of (k5.trans k6));have Vr:=Vs.same (k5.trans k6);have aC:At (hid a K6) (gR (xC (1000+Ug) vn (1+st') la u U_)) (.ref r6):=At.tup (by rw[bF m6]; exact h6) (ak.cons (At.int _) (ak.cons (At.int _) (ak.cons (At.tup (by rw[bF m4]; exact g4.get m4 h4) (bB [0,1])) (ak.cons (At.int _) (ak.cons (At.int _) (ak.cons (At.tup (by rw[bF m5]; exact k6 _ _ h5) (bB [(u:Int),U_])) (ak.cons (At.tup (by rw[bF m3]; exact g3.get m3 h3) (ak.cons (At.tup (by rw[bF m2]; exact g2.get m2 h2) (ak.cons (At.tup (by rw[bF m1]; exact g1.get m1 h1) (ak.cons (At.str _) (ak.cons (At.int _) (ak.cons (At.str _) (ak.cons (At.int _) (ak.cons (At.int _) ak.nil)))))) ak.nil)) ak.nil)) ak.nil)))))))
 obtain⟨b',hb',ebe⟩:∃b':Nat,((b'=vn+la+2/\u+1<=la+2)\/(b'=vn+u+1/\la+2<=u+1))/\(vn:Int)+(if(u:Int)+1>la+2 then(u:Int)+1 else la+2)=(b':Int):=by
  by_cases z:(u:Int)+1>la+2
  ·exact⟨vn+u+1,.inr ⟨rfl,by omega⟩,by rw[aR z]; omega⟩
  ·exact⟨vn+la+2,.inl ⟨rfl,by omega⟩,by rw[bx z]; omega⟩
 refine⟨_,_,rfl,rfl,_,_,rfl,rfl,_,_,rfl,rfl,(by decide),fun p7' G13 Zc RC WQ=>?_⟩
 rw[ebe] at WQ
 have hps:kj (xC (1000+Ug) vn (1+st') la u U_):=⟨by show la<=4; omega,by show 0<=1000+Ug/\1000+Ug<=1000000; omega,by show 1<=100; decide,fun rs hrs r hr=>by
  cases fX.mp hrs;cases fX.mp hr
  exact⟨by simp,by show 1<=1/\1<=4; decide,by show 0<=(vn:Int)/\(vn:Int)<=1000000000000; omega,fun z=>absurd z (show ¬("over" : Str) = "each" by decide)⟩⟩
 have hpn:MT (xC (1000+Ug) vn (1+st') la u U_):=⟨by show 1<=900; decide,fun r hr=>hps.g _ jd r hr⟩
 exact⟨a,_,_,xC (1000+Ug) vn (1+st') la u U_,1,(vn:Int)+1,b',1,_,rfl,Vr.same RC,by omega,aC.mono (SX.of RC),At.tup (by rw[bF (Vr.ne Zc)]; exact WQ) (bB [(b':Int),((1:Nat):Int),(vn:Int)+1]),hps,hpn,bN _,by omega,Mu (by omega) (by omega) (by omega) (by omega) hb',IK (by omega) (by omega) (by omega) (by omega) (by omega),fun H' s' t'=>q H' t' (x8'.trans (s9.trans (uv.trans ((SX.of k1).trans (g1.trans ((SX.of RC).trans s'))))))⟩
def Bx:Sp:=fun vs H Q _=>∃(a:Addr) (n:Nat),vs=[.ref a]/\Tp H a n/\n<=900000/\∀v H',Tp H' a (n+7)->SX a H H'->Q (.int v) H'
theorem vm:bh ["_law_tape_here","_law_great"] ["_law_tape_here"] (aM rB):=(by walk_at "c")
theorem HJ (F:iY K "_law_near" "_law_near" rB f fd) (B:Bi mg) (aO:Ct P w K mg base k "_law_draw" ["_law_tape_here","_law_many"] gP) (cP:Ct P w K mg base k "_law_units" ["_law_tape_here"] jl):bV P w K mg base ig (k+1) f fd ["_law_tape_here"] Bx:=by
 refine F.ok vm (by rintro vs H Q E ⟨a,n,rfl,_⟩; rfl) (fun cdv A outer s H vs Q E hr h=>?_)
 obtain⟨a,n,rfl,tp,hn,q⟩:=h;have ND:=vm.nd;refine⟨_,(aq (aQ (i:=1) ND rfl (by walk_at "o") (aH cB (aH gU ao ao) (pf aO hr (aa (pv 0) (aa ao aj))))) (aK (bc (bA aZ (bH (aa (pv 1) (aa (aH cB (aH gU ao ao) (pf aO hr (aa (pv 0) (aa (aH gU ao ao) aj)))) (aa (pf cP hr (aa (pv 0) aj)) aj)))) (pf aO hr (aa (pv 0) (aa ao aj))) (fun _ _=>rfl))))),?_⟩
 have e6:(10:Int) ^ Int.toNat 6=1000000:=by decide
 walk_at "rd";refine⟨⟨by decide,by decide,by decide⟩,cz.of tp (by omega) (by decide) (by decide) fun y1 H1 l1 u1 t1 s1=>⟨_,_,rfl,rfl,?_⟩⟩
 refine⟨⟨by decide,by decide,by decide⟩,⟨by decide,by decide,by decide⟩,cz.of t1 (by omega) (by decide) (by decide) fun y2 H2 l2 u2 t2 s2=>⟨_,_,rfl,rfl,?_⟩⟩
 refine p_.of t2 (by omega) fun y3 H3 l3 u3 t3 s3=>⟨(by decide),fun p4 H4 f4 s4 e4=>?_⟩
 have n4:=t3.ne f4;refine cz.of (t3.same s4) (by omega) (by decide) (by decide) fun y5 H5 l5 u5 t5 s5=>?_
 obtain⟨v,_,Dr⟩:=fY (ts:=[10 ^ Int.toNat 13-y1,10 ^ Int.toNat 13-y2,y3]) l5 u5;refine Ix.lst (s5.get n4 e4) Dr ?_;exact q v H5 t5 (s1.trans (s2.trans (s3.trans ((SX.of s4).trans s5))))
theorem TV.Wh {x:eZ} {st:eV} {c fr:Int} (hx:Ux x) (hs:TV st) (hfr:0<=fr):TV (cL x (cg x st c) (g8 x st c fr)):=by
 have hc5:=hs.is.c;have h0:=wJ _ hs.cn;have h1:=hs.r;have h2:=hs.sm;have hlo:=hx.lo;have hhi:=hx.hi
 have hwb:0<=fQ x.eN x.lo x.hi (st.r+st.cs.sum) (bI x st c)/\fQ x.eN x.lo x.hi (st.r+st.cs.sum) (bI x st c)<=12:=by
  unfold fQ;simp only
  repeat' split <;> try omega
 have hbd:0<=st.r+st.cs.sum+g8 x st c fr/\st.r+st.cs.sum+g8 x st c fr<=12:=by
  unfold g8;rw[gB hc5];split
  ·unfold kY;split <;> omega
  ·omega
 have Ur:(st.cs.drop 1++[0]).length=5:=by simp[hc5]
 have hW:=qM (x:=x) (st:=cg x st c) (ch:=g8 x st c fr) hx.a (zj hc5 hs.r hs.cn) Ur (Ah hs.cn) (by show 0<=bJ st+(st.cs.drop 1++[0]).sum+g8 x st c fr; rw[gB hc5]; exact hbd.1)
 refine⟨DY hx.is (sy hs.is),hW.r,hW.cn,?_,?_⟩
 ·show(cL x (cg x st c) (g8 x st c fr)).r+_<=12;have:=hW.sm;have e:(cg x st c).r+(cg x st c).cs.sum=st.r+st.cs.sum:=gB hc5;rw[e] at this;show(cL x (cg x st c) (g8 x st c fr)).r+(cL x (cg x st c) (g8 x st c fr)).cs.sum<=12;omega
 ·show 0<=(cL x (cg x st c) (g8 x st c fr)).t;rw[hW.t];have:=hx.u;have:=hx.d;have:=hs.t;show 0<=(if g8 x st c fr=0 then(if 0>st.t-1 then 0 else st.t-1) else if 0<g8 x st c fr then x.u else x.d)
  repeat' split <;> try omega
def Ep:Sp:=fun vs H Q _=>∃(a:Addr) (n:Nat),vs=[.ref a]/\Tp H a n/\n<=100000/\∀H',Tp H' a (n+1000)->SX a H H'->Q (.bl true) H'
theorem jb:bh ["_law_tape_here","_law_post_here","_law_stand_here","_law_seen","_law_turn","_law_come","_law_free","_law_due"] ["_law_tape_here"] (aM gC):=(by walk_at "c")
theorem oW (F:iY K "_law_great_right" "_law_great_right" gC f fd) (B:Bi mg) (aO:Ct P w K mg base k "_law_draw" ["_law_tape_here","_law_many"] gP) (cP:Ct P w K mg base k "_law_units" ["_law_tape_here"] jl) (Aw:Ct P w K mg base k "_law_near" ["_law_tape_here"] Bx) (Mx:Ct P w K mg base k "_law_post" ["_law_tape_here"] J5) (Jd:Ct P w K mg base k "_law_stand" ["_law_tape_here"] Eg) (My:Ct P w K mg base k "_law_beat" ["_law_post_here","_law_stand_here","_law_come","_law_free"] Em) (jD:Qp P w K mg base k "beat" ["post","stand","come","free"] 12 wN) (j8:Ct P w K mg base k "_law_same" ["_law_found","_law_due"] (GZ 5)):bV P w K mg base ig (k+1) f fd ["_law_tape_here"] Ep:=by
 refine F.ok jb (by rintro vs H Q E ⟨a,n,rfl,_⟩; rfl) (fun cdv A outer s H vs Q E hr h=>?_)
 obtain⟨a,n,rfl,tp,hn,q⟩:=h;have ND:=jb.nd;refine⟨_,(aq (oO (i:=1) (j:=2) rfl ND rfl rfl (by decide) rfl rfl (aa (pf Mx hr (aa (pv 0) aj)) (aa (pf Jd hr (aa (pv 0) aj)) aj)) (by rfl)) (aq (aQ (i:=3) ND rfl (by walk_at "o") (pt (cO) B.tuple cJ (aa (jw (N':=["_law_k","_law_tape_here"]) (js:=[0]) rfl (cN (by rfl) B.range (aa ao aj)) vX.mk1 rfl (by decide) rfl (fun fp s' H'=>(pt (cO) B.tuple cJ (aa (jw (N':=["_law_j","_law_tape_here"]) (js:=[1]) rfl (cN (by rfl) B.range (aa ao aj)) vX.mk1 rfl (by decide) rfl (fun fp s' H'=>(pf Aw hr (aa (pv 1) aj)))) aj)))) aj))) (aq (aQ (i:=2) ND rfl (by walk_at "o") (aH kJ (aH kJ (bf (aa (pf Aw hr (aa (pv 0) aj)) aj)) (c7 ir (pv 2) (dG ao) (dG ao))) (bf (aa (pv 3) aj)))) (aq (gG PassesOwn.never rfl (cN (by rfl) B.range (aa ao aj)) (aA (i:=4) ND rfl (by walk_at "o")) (aq (oO (i:=5) (j:=6) rfl ND rfl rfl (by decide) rfl rfl (aa (pf cP hr (aa (pv 0) aj)) (aa (pf aO hr (aa (pv 0) (aa ao aj))) aj)) (by rfl)) (aq (aQ (i:=7) ND rfl (by walk_at "o") (pf My hr (aa (pv 1) (aa (pv 2) (aa (pv 5) (aa (pv 6) aj)))))) (aq (dJ (rN (fu (pf j8 hr (aa (pfa jD hr (aa (pv 1) (aa (pv 2) (aa (pv 5) (aa (pv 6) aj))))) (aa (pv 7) aj))))) (aK (bc jY)) bT) (aK (aQ (i:=2) ND rfl (by walk_at "o") (bA aZ (pv 7) ao (fun _ _=>rfl)))))))) (aK (bc jY)))))),?_⟩
 walk_at "rd";refine⟨a,n,rfl,tp,by omega,fun pp x H1 hx a1 t1 s1=>⟨a,_,rfl,t1,by omega,fun ps st H2 hs a2 t2 s2=>⟨_,_,rfl,?_⟩⟩⟩
 obtain⟨N,hN⟩:∃N,N=n+400+60:=⟨_,rfl⟩;rw[<- hN] at t2;refine xV (n:=3) (fun R hR=>hR) (by decide) fun acc hacc=>?_
 have ca:acc≠a:=t2.ne hacc;refine⟨fun i ys H'=>∃us:List (List Int),us.length=i/\(∀u∈us,u.length=3)/\ak (hid acc (hid a H')) (us.map cZ) ys/\ys.length=i/\H' acc=some (.lst ys)/\Tp H' a (N+21*i)/\SX a H2 H',?_,?_,?_⟩
 ·exact⟨[],rfl,fun u h=>by simp at h,ak.nil,rfl,az,t2.d_ ca,(SX.refl a H2).d_ hacc ca⟩
 ·rintro i ys H3 hi ⟨us,l3,u3,a3,y3,c3,t3,s3⟩;show Ui _ _ [some _,some (.ref a)] H3 _;walk_at "rd";refine xV (n:=3) (fun R hR=>hR) (by decide) fun XM LQ=>?_
  have cb:XM≠a:=t3.ne LQ;have cc:XM≠acc:=fun z=>by rw[z,c3] at LQ; cases LQ
  refine⟨fun j zs H'=>∃cs:List Int,cs.length=j/\zs=cs.map V.int/\H' XM=some (.lst zs)/\Tp H' a (N+21*i+7*j)/\SX a H3 H',⟨[],rfl,rfl,az,t3.d_ cb,(SX.refl a H3).d_ LQ cb⟩,?_,?_⟩
  ·rintro j zs H4 hj ⟨cs,l4,rfl,c4,t4,s4⟩;show lB Bx [] E0 _ [some _,some (.ref a)] H4 _;walk_at "rd";refine⟨a,_,rfl,t4,by omega,fun v H5 t5 s5=>⟨s5.get cb c4,by rw[dH]; exact bD (by omega),cs++[v],by rw[gF,l4]; rfl,by rw[lQ]; rfl,az,(t5.d_ cb).mono (by omega),(s4.trans s5).d_ LQ cb⟩⟩
  ·rintro zs H4 ⟨cs,l4,rfl,c4,t4,s4⟩;refine⟨XM,_,rfl,c4,fun t ht=>?_⟩;have ta:t≠a:=t4.ne ht;have c5:=s4.get ca c3;have tc:t≠acc:=fun z=>by subst z; rw[ht] at c5; cases c5
   refine⟨by rw[aV (Ne.symm tc)]; exact c5,bD (by omega),us++[cs],by rw[gF,l3]; rfl,fun u hu=>?_,?_,by rw[gF,y3]; rfl,az,((t4.d_ ta).d_ ca).mono (by omega),(((s3.trans s4).trans (SX.of (aL ht _))).d_ hacc ca)⟩
   ·rcases uz.mp hu with z | z
    ·exact u3 u z
    ·rw[fX.mp z]; exact l4
   ·rw[bM ca,eY,bM ta,bM tc,lQ];have fr:(hid acc (hid a H4)) t=none:=by rw[bF tc,bF ta]; exact ht
    exact ak.append ((a3.mono (aJ.hid s4)).mono (aL fr _)) (ak.cons (At.tup az (bB cs)) ak.nil)
 rintro ys H3 ⟨us,l3,u3,a3,y3,c3,t3,s3⟩;refine⟨acc,ys,rfl,c3,fun l hl=>?_⟩;have la:l≠a:=t3.ne hl
 have A1:At (hid a (upd H3 l (.tup ys))) (.tuple (us.map cZ)) (.ref l):=by
  rw[bM la];have fr:hid a H3 l=none:=by rw[bF la]; exact hl
  exact At.tup az ((a3.mono cG).mono (aL fr _))
 have s4:SX a H2 (upd H3 l (.tup ys)):=s3.trans (SX.of (aL hl _));have t4:=t3.same (aL hl (.tup ys));generalize upd H3 l (.tup ys)=H4 at A1 s4 t4 ⊢;refine⟨a,_,rfl,t4,by omega,fun wv H5 t5 s5=>⟨(by decide),fun p6 H6 f6 s6 e6=>?_⟩⟩
 have x6:SX a H2 H6:=s4.trans (s5.trans (SX.of s6));have b2:=(a2.mono x6).mono cG;obtain⟨sa,sb,sc,eps,g1,g2,g3⟩:=iZ b2;cases eps;refine⟨ps,_,rfl,g1,fun p7 H7 s7 e7=>?_⟩;rw[show jK [V.int st.w,V.int st.r,V.ref sb,V.int st.s,V.int st.t,V.ref sc] (some 1) (some 5)=[V.int st.r,V.ref sb,V.int st.s,V.int st.t] from rfl] at e7;refine⟨p6,p7,_,_,rfl,rfl,s7 _ _ e6,e7,(show 5<=sizeLine by decide),fun p8 H8 s8 e8=>⟨(by decide),fun p9 H9 f9 s9 e9=>⟨p8,p9,_,_,rfl,rfl,s9 _ _ e8,e9,(show 6<=sizeLine by decide),fun Yx qy uv e10=>?_⟩⟩⟩
 have J8:=s7.trans (s8.trans (s9.trans uv));have M_:Tp qy a (N+21*3+7):=(t5.same s6).same J8;obtain⟨ta,tb,tc,et,_⟩:=id M_;have A2:At qy (.tuple (us.map cZ)) (.ref l):=(A1.mono (s5.trans (SX.of (s6.trans J8)))).mono cG;obtain⟨st1,e1⟩:∃st1:eV,st1=⟨wv,st.r,st.cs,st.s,st.t,us⟩:=⟨_,rfl⟩
 have B0:At qy (jM st1) (.ref Yx):=by
  rw[e1];exact At.tup e10 (ak.cons (At.int _) (ak.cons (At.int _) (ak.cons (At.tup (J8 _ _ g2) (bB _)) (ak.cons (At.int _) (ak.cons (At.int _) (ak.cons A2 ak.nil))))))
 have W0:TV st1:=by
  rw[e1];exact⟨⟨hs.c,l3,u3⟩,hs.r,hs.cn,hs.sm,hs.t.1⟩
 have x10:SX a H qy:=s1.trans (s2.trans (x6.trans (SX.of J8)));have P0:At (hid a qy) (gR x) (.ref pp):=a1.mono (s2.trans (x6.trans (SX.of J8)));clear A1 A2 e1 g1 g2 g3 e6 e7 e8 e9 e10 a3 b2 a2;show uo _ _ _ _ _ _;rw[mK];walk_at "rd";refine FK.of (n:=6) (by decide) (by decide) (fun i σ H'=>∃(u:V) (st':eV) (o3 o4 o5 o6 o7:Option V),σ=[some (.ref a),some (.ref pp),some u,o3,o4,o5,o6,o7]/\At (hid a H') (jM st') u/\TV st'/\Tp H' a (N+70+5*i)/\SX a qy H') ⟨_,st1,_,_,_,_,_,rfl,At.nJ et _ _ (qC _) B0,W0,M_,SX.refl _ _⟩ ?_ ?_
 ·rintro i σ G1 hi ⟨u,st',o3,o4,o5,o6,o7,rfl,c1,w1,Yd,x1⟩;walk_at "rd";refine p_.of Yd (by omega) fun y1 G2 lo1 up1 t2' x2=>?_
  refine cz.of t2' (by omega) (by decide) (by decide) fun y2 G3 lo2 up2 t3' x3=>⟨_,_,rfl,?_⟩
  have X_:=x2.trans x3;have c3:=c1.mono X_;have P3:=P0.mono (x1.trans X_);refine⟨_,u,x,st',y1,y2,rfl,P3.mono cG,c3.mono cG,hx,w1,lo2,fun p4 u4 G4 z4 A4 e4=>?_⟩;refine⟨_,u,x,st',y1,y2,rfl,(P3.mono (SX.of z4)).mono cG,(c3.mono (SX.of z4)).mono cG,hx.is,w1.is,fun p5 u5 G5 z5 A5 e5=>?_⟩;have w2:=TV.Wh hx w1 (c:=y1) lo2
  have hS:SD 5 (.tuple [jM (cL x (cg x st' y1) (g8 x st' y1 y2)),.int (cX x st' y1),.int (y1-bR x st' y1),.int (g8 x st' y1 y2)]):=SD.tup (by show 4<=1000; decide) fun e he=>by
   simp only[cA,jJ,or_false] at he;rcases he with rfl | rfl | rfl | rfl
   ·exact SD.stn w2.is
   ·exact SD.int _
   ·exact SD.int _
   ·exact SD.int _
  have D4:=At.tup e4 (ak.cons A4 (ak.cons (At.int _) (ak.cons (At.int _) (ak.cons (At.int _) ak.nil))));have D5:=At.tup e5 (ak.cons A5 (ak.cons (At.int _) (ak.cons (At.int _) (ak.cons (At.int _) ak.nil))));refine Sm.of D5 (D4.mono z5) hS (by decide) fun G6 z6=>⟨_,rfl,?_⟩
  rw[bx (by decide)]
  have Xg:=z5.trans z6;refine Ix.tup (Xg _ _ e4) (v:=u4) rfl ?_;have Vr:=t3'.same (z4.trans Xg);obtain⟨qa,qb,qc,eq,_⟩:=id Vr;exact⟨u4,_,_,_,_,_,_,rfl,At.nJ eq _ _ (qC _) (A4.mono Xg),w2,Vr.mono (by omega),x1.trans (X_.trans (SX.of (z4.trans Xg)))⟩
 ·rintro σ G1 ⟨u,st',o3,o4,o5,o6,o7,rfl,c1,w1,Yd,x1⟩;walk_at "rd";exact q G1 (Yd.mono (by omega)) (x10.trans x1)
def Ek (K:PySem.W.Frag):Sp:=fun vs H Q _=>∃(p:Addr) (ns:List Int),vs=[.ref p]/\Nh K H p (ns.map V.int)/\ns.length<=63/\∀H',Q (.bl true) H'
theorem J7:bh ["_law_script","_law_cells","_law_k","_law_tape_here"] ["_law_script"] (aM qY):=(by walk_at "c")
theorem Sh (F:iY K "law" "law" qY f fd) (B:Bi mg) (DN:Ct P w K mg base k "_law_folded" ["_law_script","_law_many"] (yV K)) (Mw:Ct P w K mg base k "_law_tape" ["_law_script","_law_k"] (J1 K)) (pF:Ct P w K mg base k "_law_rounds_right" ["_law_tape_here"] Ef) (qu:Ct P w K mg base k "_law_great_right" ["_law_tape_here"] Ep):bV P w K mg base ig (k+1) f fd ["_law_script"] (Ek K):=by
 refine F.ok J7 (by rintro vs H Q E ⟨p,ns,rfl,_⟩; rfl) (fun cdv A outer s H vs Q E hr h=>?_)
 obtain⟨p,ns,rfl,hS,hl,q⟩:=h;have ND:=J7.nd;refine⟨_,(aq (aQ (i:=1) ND rfl (by walk_at "o") (pf DN hr (aa (pv 0) (aa ao aj)))) (aq (gG PassesOwn.never rfl (cN (by rfl) B.range (aa (pb (dM rfl) B.max gJ (aa ao (aa (pb (ji (K:=K) rfl) B.len tZ (aa (pv 1) aj)) aj))) aj)) (aA (i:=2) ND rfl (by walk_at "o")) (aq (aQ (i:=3) ND rfl (by walk_at "o") (pf Mw hr (aa (pv 1) (aa (pv 2) aj)))) (aK (dJ (PW.pt (Fb (rN (fu (pf pF hr (aa (pv 3) aj)))) (wW (rN (fu (pf qu hr (aa (pv 3) aj))))))) (aK (bc jY)) bT)))) (aK (bc jY)))),?_⟩
 walk_at "rd";refine⟨p,ns,rfl,hS,hl,fun pc cs H1 s1 e1 l1=>?_⟩
 obtain⟨n,hn,hn8⟩:∃n:Nat,(if(cs.length:Int)>2 then(cs.length:Int) else 2)=(n:Int)/\n<=8:=by
  refine⟨(if(cs.length:Int)>2 then(cs.length:Int) else 2).toNat,?_,?_⟩ <;> (split <;> omega)
 show uo _ _ _ _ _ _;refine Mg (n:=n) (fun R hR=>?_) (by omega) (fun i σ H'=>∃o1 o2:Option V,σ=[some (.ref p),some (.ref pc),o1,o2]/\H' pc=some (.lst (cs.map V.int))) ⟨_,_,rfl,e1⟩ ?_ ?_
 ·walk_at "rd";refine⟨pc,_,rfl,.inl (dI.of e1),?_⟩;rw[dH];walk_at "rd";rw[hn];exact hR
 ·rintro i σ H2 hi ⟨o1,o2,rfl,e2⟩;walk_at "rd";refine⟨pc,cs,_,rfl,dI.of e2,by omega,by omega,fun a H3 f3 s3 t3=>?_⟩
  have npc:pc≠a:=fun z=>by rw[<- z,e2] at f3; cases f3
  refine⟨a,_,rfl,t3,by omega,fun H4 t4 s4=>⟨_,rfl,?_⟩⟩
  rw[bx (by decide)]
  refine⟨a,_,rfl,t4,by omega,fun H5 t5 s5=>⟨_,rfl,?_⟩⟩
  rw[bx (by decide)]
  exact⟨_,_,rfl,(s4.trans s5).get npc (s3 _ _ e2)⟩
 ·rintro σ H2 ⟨o1,o2,rfl,e2⟩;walk_at "rd";exact q H2
end
theorem Xh {us:List Value} {n:Nat} (h:us.length=n+1):∃a r,us=a::r/\r.length=n:=by
 cases us with
 | nil=>cases h
 | cons a r=>exact⟨a,r,rfl,Nat.succ.inj h⟩
theorem M8 {us:List Value} (h:us.length=1):∃a,us=[a]:=by
 obtain⟨a,r,rfl,g⟩:=Xh h;cases List.length_eq_zero_iff.mp g;exact⟨a,rfl⟩
theorem Nu {us:List Value} (h:us.length=2):∃a a0,us=[a,a0]:=by
 obtain⟨a,r,rfl,g⟩:=Xh h;obtain⟨a0,rfl⟩:=M8 g;exact⟨a,a0,rfl⟩
theorem GD {us:List Value} (h:us.length=3):∃a a0 a1,us=[a,a0,a1]:=by
 obtain⟨a,r,rfl,g⟩:=Xh h;obtain⟨a0,a1,rfl⟩:=Nu g;exact⟨a,a0,a1,rfl⟩
theorem Uh {us:List Value} (h:us.length=4):∃a a0 a1 a2,us=[a,a0,a1,a2]:=by
 obtain⟨a,r,rfl,g⟩:=Xh h;obtain⟨a0,a1,a2,rfl⟩:=GD g;exact⟨a,a0,a1,a2,rfl⟩
theorem all_mk {l:PySem.W.OpenLaw} {w:World} {K:PySem.W.Frag} {h:Heap} {mg:Str->Option Value} {fa:Addr} (X:K.In h) (G:h.Ns mainGlobals mg) (hfa:mg "law" = some (.ref fa))
  {f0:Addr} (e0:jG K "needed" qX f0)
  {f1:Addr} (e1:jG K "most_ahead" jm f1)
  {f2:Addr} (e2:jG K "lean" BP f2)
  {f3:Addr} (e3:jG K "lean_triple" iJ f3)
  {f4:Addr} (e4:jG K "wish" BL f4)
  {f5:Addr} (e5:jG K "rule_wish" jR f5)
  {f6:Addr} (e6:jG K "row_says" lH f6)
  {f7:Addr} (e7:jG K "hands_of" lM f7)
  {f8 T8:Addr} (e8:UL K "beat" BR f8 T8 12)
  {f9:Addr} (e9:jG K "since_and_look" fV f9)
  {PL:Addr} (e10:jG K "change_of" jU PL)
  {f11:Addr} (Jq:jG K "with_change" iI f11)
  {WL:Addr} (Jp:jG K "sent_home" jQ WL)
  {Tq:Addr} (Ir:jG K "played" qW Tq)
  {WK:Addr} (Mi:jG K "round_of" lJ WK)
  {Us:Addr} (Jo:jG K "rests_at" lK Us)
  {XC:Addr} (Ng:jG K "_law_tape" rm XC)
  {f17:Addr} (ZF:jG K "_law_draw" rC f17)
  {f18:Addr} (ZD:jG K "_law_folded" lL f18)
  {f19:Addr} (ZC:jG K "_law_units" oh f19)
  {f20:Addr} (Zz:jG K "_law_row" wQ f20)
  {f21:Addr} (Zy:jG K "_law_rules" oA f21)
  {f22:Addr} (Zx:jG K "_law_post" rn f22)
  {f23:Addr} (Zw:jG K "_law_stand" ou f23)
  {f24:Addr} (Zv:jG K "_law_row_wish" jn f24)
  {f25:Addr} (Zu:jG K "_law_wish" qZ f25)
  {f26:Addr} (Zt:jG K "_law_beat" rD f26)
  {f27:Addr} (Zr:jG K "_law_same" mW f27)
  {f28:Addr} (Zq:jG K "_law_refused" jT f28)
  {f29:Addr} (Zo:jG K "_law_told" q_ f29)
  {f30:Addr} (Zn:jG K "_law_known" oE f30)
  {f31:Addr} (Zm:jG K "_law_rounds_right" fW f31)
  {f32:Addr} (Zk:jG K "_law_near" rB f32)
  {f33:Addr} (Zj:jG K "_law_great_right" gC f33)
  {f34:Addr} (Zi:jG K "law" qY f34)
  {aD:Addr} (uQ:PySem.W.nsIn K mainGlobals "TooLong" = some (some (.ref aD)))
  {bO:Addr} (yK:PySem.W.nsIn K mainGlobals "HandError" = some (some (.ref bO)))
  {d8:Addr} (Jx:PySem.W.nsIn K mainGlobals "Beyond" = some (some (.ref d8)))
  {d9:Addr} (Jy:PySem.W.nsIn K mainGlobals "BadAsk" = some (some (.ref d9)))
  {dD:Addr} (Gz:PySem.W.nsIn K mainGlobals "BadLoad" = some (some (.ref dD)))
  {dC:Addr} (Gy:PySem.W.nsIn K mainGlobals "BadText" = some (some (.ref dC)))
  {dB:Addr} (Gx:PySem.W.nsIn K mainGlobals "BadYard" = some (some (.ref dB)))
  {d7:Addr} (Jw:PySem.W.nsIn K mainGlobals "NoName" = some (some (.ref d7)))
  {dz:Addr} (Gw:PySem.W.nsIn K mainGlobals "TooMany" = some (some (.ref dz)))
  {dw:Addr} (Gv:PySem.W.nsIn K mainGlobals "TooWide" = some (some (.ref dw)))
  (wu:PySem.W.excIn K aD Ve "ValueError.__new__" = true)
  (wF:PySem.W.exmOne K (.ref aD) (.ref aD)=some true)
  (wG:PySem.W.exmOne K (.ref aD) (.ref bO)=some true)
  (Dp:PySem.W.findIn K (.ref aD) "__getattribute__" = some (some (.builtin "BaseException.__getattribute__")))
  (Dn:PySem.W.findIn K (.ref aD) "__getattr__" = some none)
  (Dm:PySem.W.findIn K (.ref aD) "__class__" = some (some (.builtin "object.__class__")))
  (Dj:PySem.W.hasDictIn K aD=true)
  (Dl:PySem.W.subIn K (.ref aD) (.type "BaseException")=some true)
  (Dk:PySem.W.mroIn K aD (.type "object")=some true)
  (wD:PySem.W.kitOne K (.ref aD) (.ref dD)=some false)
  (yI:PySem.W.kitOne K (.ref aD) (.ref d8)=some false)
  (wB:PySem.W.kitOne K (.ref aD) (.ref dB)=some false)
  (yH:PySem.W.kitOne K (.ref aD) (.ref d7)=some false)
  (wA:PySem.W.kitOne K (.ref aD) (.ref aD)=some true)
  (wy:PySem.W.kitOne K (.ref aD) (.ref dw)=some false)
  (wz:PySem.W.kitOne K (.ref aD) (.ref dz)=some false)
  (yJ:PySem.W.kitOne K (.ref aD) (.ref d9)=some false)
  (wC:PySem.W.kitOne K (.ref aD) (.ref dC)=some false)
  (qL:PySem.W.kitOne K (.ref aD) (.ref bO)=some true)
  (Va:PySem.W.kitOne K (.ref aD) (.type "ValueError")=some true)
  (zg5:PySem.W.specialIn K (.builtin "object.__class__") "__get__" = some (some (.builtin "getset_descriptor.__get__")))
  (zh5:PySem.W.takesIn K (.builtin "object.__class__")=some true)
  (Nq:Nb K "tuple")
  (U4:Nb K "max")
  (U3:Nb K "min")
  (yG:Nb K "enumerate")
  (UT:Nb K "zip")
  (UW:Nb K "sum")
  (Rf:Nb K "list")
  (Bj:Nb K "reversed")
  (Nr:Nb K "range")
  (U5:Nb K "len")
  (U7:Nb K "any")
  (U9:Nb K "abs")
  (U6:Nb K "int")
  (v8:Nb K "isinstance")
  (U0:Nb K "str")
  (U8:Nb K "all")
  (Rg:Nb K "bool")
  (v_:Nb K "ValueError")
  {JF JD JC:Tok} (O7:NT K "WHATS" [.str "come" JF,.str "done" JD,.str "wait" JC])
  (Sy:Bg K "OVER" "over")
  (O8:Bg K "UNDER" "under")
  (SJ:Bg K "EACH" "each")
  (xK:Ni K "MOST_HANDS" 12)
  (su:Ni K "TRIPLES_SEEN" 3) :
  ∃fd:FuncData,(∀(s:Shared) (v:Value),BindsTo s fd ⟨[v],[]⟩ [("_law_script",v)])/\∀base:Heap,K.In base->base.Ns mainGlobals mg->bV l.prog w K mg base ig 11 fa fd ["_law_script"] (Ek K):=by
 obtain⟨h0⟩:=e0.has X G (ps:=["post"]) fun _ _ _ _ _ _ us hl=>by obtain⟨_,rfl⟩:=M8 hl; rfl
 obtain⟨h1⟩:=e1.has X G (ps:=["rows","what"]) fun _ _ _ _ _ _ us hl=>by obtain⟨_,_,rfl⟩:=Nu hl; rfl
 obtain⟨h2⟩:=e2.has X G (ps:=["post","stand"]) fun _ _ _ _ _ _ us hl=>by obtain⟨_,_,rfl⟩:=Nu hl; rfl
 obtain⟨h3⟩:=e3.has X G (ps:=["triple","place","wants"]) fun _ _ _ _ _ _ us hl=>by obtain⟨_,_,_,rfl⟩:=GD hl; rfl
 obtain⟨h4⟩:=e4.has X G (ps:=["post","hands","newest"]) fun _ _ _ _ _ _ us hl=>by obtain⟨_,_,_,rfl⟩:=GD hl; rfl
 obtain⟨h5⟩:=e5.has X G (ps:=["rule","hands","newest"]) fun _ _ _ _ _ _ us hl=>by obtain⟨_,_,_,rfl⟩:=GD hl; rfl
 obtain⟨h6⟩:=e6.has X G (ps:=["row","hands","newest"]) fun _ _ _ _ _ _ us hl=>by obtain⟨_,_,_,rfl⟩:=GD hl; rfl
 obtain⟨h7⟩:=e7.has X G (ps:=["stand"]) fun _ _ _ _ _ _ us hl=>by obtain⟨_,rfl⟩:=M8 hl; rfl
 obtain⟨h8⟩:=e8.has X G (ps:=["post","stand","come","free"]) (fun _ _ _ _ _ _ _ us hl=>by
  rw[m7] at hl;obtain⟨_,_,_,_,rfl⟩:=Uh hl
  exact⟨_,rfl,rfl⟩) fun _ _ _ _ _ _ _ us hl=>by
  obtain⟨_,_,_,rfl⟩:=GD (Nat.succ.inj ((gF).symm.trans hl));exact⟨_,rfl,rfl⟩
 obtain⟨h9⟩:=e9.has X G (ps:=["post","since","rest"]) fun _ _ _ _ _ _ us hl=>by obtain⟨_,_,_,rfl⟩:=GD hl; rfl
 obtain⟨h10⟩:=e10.has X G (ps:=["post","hands","newest","free"]) fun _ _ _ _ _ _ us hl=>by obtain⟨_,_,_,_,rfl⟩:=Uh hl; rfl
 obtain⟨h11⟩:=Jq.has X G (ps:=["post","stand","change"]) fun _ _ _ _ _ _ us hl=>by obtain⟨_,_,_,rfl⟩:=GD hl; rfl
 obtain⟨h12⟩:=Jp.has X G (ps:=["ready","called","many"]) fun _ _ _ _ _ _ us hl=>by obtain⟨_,_,_,rfl⟩:=GD hl; rfl
 obtain⟨h13⟩:=Ir.has X G (ps:=["post","stand","load"]) fun _ _ _ _ _ _ us hl=>by obtain⟨_,_,_,rfl⟩:=GD hl; rfl
 obtain⟨h14⟩:=Mi.has X G (ps:=["post","stand","come","most"]) fun _ _ _ _ _ _ us hl=>by obtain⟨_,_,_,_,rfl⟩:=Uh hl; rfl
 obtain⟨h15⟩:=Jo.has X G (ps:=["post","stand","come","most"]) fun _ _ _ _ _ _ us hl=>by obtain⟨_,_,_,_,rfl⟩:=Uh hl; rfl
 obtain⟨h16⟩:=Ng.has X G (ps:=["_law_script","_law_k"]) fun _ _ _ _ _ _ us hl=>by obtain⟨_,_,rfl⟩:=Nu hl; rfl
 obtain⟨h17⟩:=ZF.has X G (ps:=["_law_tape_here","_law_many"]) fun _ _ _ _ _ _ us hl=>by obtain⟨_,_,rfl⟩:=Nu hl; rfl
 obtain⟨h18⟩:=ZD.has X G (ps:=["_law_script","_law_many"]) fun _ _ _ _ _ _ us hl=>by obtain⟨_,_,rfl⟩:=Nu hl; rfl
 obtain⟨h19⟩:=ZC.has X G (ps:=["_law_tape_here"]) fun _ _ _ _ _ _ us hl=>by obtain⟨_,rfl⟩:=M8 hl; rfl
 obtain⟨h20⟩:=Zz.has X G (ps:=["_law_tape_here","_law_small"]) fun _ _ _ _ _ _ us hl=>by obtain⟨_,_,rfl⟩:=Nu hl; rfl
 obtain⟨h21⟩:=Zy.has X G (ps:=["_law_tape_here","_law_small"]) fun _ _ _ _ _ _ us hl=>by obtain⟨_,_,rfl⟩:=Nu hl; rfl
 obtain⟨h22⟩:=Zx.has X G (ps:=["_law_tape_here"]) fun _ _ _ _ _ _ us hl=>by obtain⟨_,rfl⟩:=M8 hl; rfl
 obtain⟨h23⟩:=Zw.has X G (ps:=["_law_tape_here"]) fun _ _ _ _ _ _ us hl=>by obtain⟨_,rfl⟩:=M8 hl; rfl
 obtain⟨h24⟩:=Zv.has X G (ps:=["_law_row_here","_law_hands","_law_newest"]) fun _ _ _ _ _ _ us hl=>by obtain⟨_,_,_,rfl⟩:=GD hl; rfl
 obtain⟨h25⟩:=Zu.has X G (ps:=["_law_post_here","_law_hands","_law_newest"]) fun _ _ _ _ _ _ us hl=>by obtain⟨_,_,_,rfl⟩:=GD hl; rfl
 obtain⟨h26⟩:=Zt.has X G (ps:=["_law_post_here","_law_stand_here","_law_come","_law_free"]) fun _ _ _ _ _ _ us hl=>by obtain⟨_,_,_,_,rfl⟩:=Uh hl; rfl
 obtain⟨Jl⟩:=Zr.has X G (ps:=["_law_found","_law_due"]) fun _ _ _ _ _ _ us hl=>by obtain⟨_,_,rfl⟩:=Nu hl; rfl
 obtain⟨h28⟩:=Zq.has X G (ps:=["_law_caught"]) fun _ _ _ _ _ _ us hl=>by obtain⟨_,rfl⟩:=M8 hl; rfl
 obtain⟨h29⟩:=Zo.has X G (ps:=["_law_post_here","_law_come","_law_most"]) fun _ _ _ _ _ _ us hl=>by obtain⟨_,_,_,rfl⟩:=GD hl; rfl
 obtain⟨h30⟩:=Zn.has X G (ps:=["_law_tape_here","_law_post_here","_law_come","_law_known_here"]) fun _ _ _ _ _ _ us hl=>by obtain⟨_,_,_,_,rfl⟩:=Uh hl; rfl
 obtain⟨h31⟩:=Zm.has X G (ps:=["_law_tape_here"]) fun _ _ _ _ _ _ us hl=>by obtain⟨_,rfl⟩:=M8 hl; rfl
 obtain⟨h32⟩:=Zk.has X G (ps:=["_law_tape_here"]) fun _ _ _ _ _ _ us hl=>by obtain⟨_,rfl⟩:=M8 hl; rfl
 obtain⟨h33⟩:=Zj.has X G (ps:=["_law_tape_here"]) fun _ _ _ _ _ _ us hl=>by obtain⟨_,rfl⟩:=M8 hl; rfl
 have B:Bi mg:=⟨PySem.W.mg_none_of X G Nq,PySem.W.mg_none_of X G U4,PySem.W.mg_none_of X G U3,PySem.W.mg_none_of X G yG,PySem.W.mg_none_of X G UT,PySem.W.mg_none_of X G UW,PySem.W.mg_none_of X G Rf,PySem.W.mg_none_of X G Bj,PySem.W.mg_none_of X G Nr,PySem.W.mg_none_of X G U5,PySem.W.mg_none_of X G U7,PySem.W.mg_none_of X G U9,PySem.W.mg_none_of X G U6,PySem.W.mg_none_of X G v8,PySem.W.mg_none_of X G U0,PySem.W.mg_none_of X G U8,PySem.W.mg_none_of X G Rg,PySem.W.mg_none_of X G v_⟩;have O:Co K mg:=⟨(let ⟨a,n,_,z,m⟩:=O7; ⟨a,PySem.W.mg_of X G z,⟨_,m,rfl,rfl⟩,fun H=>.inr ⟨_,_,n,m,rfl,rfl,(by show 3<=sizeLine; decide),(.cons ⟨_,rfl⟩ (.cons ⟨_,rfl⟩ (.cons ⟨_,rfl⟩ .nil)))⟩⟩),Sy.gs X G,O8.gs X G,SJ.gs X G,xK.gi X G,su.gi X G⟩
 have jA:=Uc.of Dp Dn Dm zg5 zh5 Dj Dl Dk;have Z:ZL K mg aD:=⟨PySem.W.mg_of X G uQ,wu,wF⟩;have Y:ZM K mg bO d8 d9 dD dC dB d7 aD dz dw:=⟨PySem.W.mg_of X G yK,PySem.W.mg_of X G Jx,PySem.W.mg_of X G Jy,PySem.W.mg_of X G Gz,PySem.W.mg_of X G Gy,PySem.W.mg_of X G Gx,PySem.W.mg_of X G Jw,PySem.W.mg_of X G uQ,PySem.W.mg_of X G Gw,PySem.W.mg_of X G Gv,wG,jA.1,jA.2,wD,yI,wB,yH,wA,wy,wz,yJ,wC,qL,Va⟩;obtain⟨oc,od,an,sl,kV,dc,pm,cd,ct,ea,el,ec,ek0⟩:=Zi;have e:=hfa.symm.trans (PySem.W.mg_of X G ea);cases e;refine⟨PySem.W.fnOf "law" "law" (dU qY) (cT qY) (aM qY) .none kV dc pm an cd ct,fun s v=>.of_eq rfl,fun base _ _=>?_⟩;have F:=L_ (st:=qY) el ec ek0;have uN:=h18.ct l.prog w base (Ad (k:=0) h18.F B);have Az:=h16.ct l.prog w base (HF (k:=0) h16.F B);have cU:=h17.ct l.prog w base (HN (k:=0) h17.F B);have jC:=h1.ct l.prog w base (uA (k:=0) h1.F B);have tX:=h0.ct l.prog w base (Hz (k:=1) h0.F B O (jC.mono (by decide)))
 have iU:=h3.ct l.prog w base (rW (k:=0) h3.F B);have DK:=h2.ct l.prog w base (O2 (k:=2) h2.F B (tX.mono (by decide)) (iU.mono (by decide)))
 have gm:=h9.ct l.prog w base (nq (k:=0) h9.F);have mj:=h6.ct l.prog w base (Aa (k:=0) h6.F B O);have j7:=h5.ct l.prog w base (xr (k:=1) h5.F (mj.mono (by decide)))
 have DG:=h4.ct l.prog w base (O1 (k:=2) h4.F B (j7.mono (by decide)))
 have j9:=h10.ct l.prog w base (xx (k:=3) h10.F B (DG.mono (by decide)))
 have my:=h7.ct l.prog w base (Ae (k:=0) h7.F B);have j6:=h12.ct l.prog w base (xq (k:=0) h12.F B);have iT:=h11.ct l.prog w base (rT (k:=1) h11.F B (j6.mono (by decide)))
 have jD:=h8.ct l.prog w base (O3 (k:=4) h8.F B O (gm.mono (by decide)) (j9.mono (by decide)) (my.mono (by decide)) (iT.mono (by decide)))
 have gq:=h14.ctE l.prog w base (Ab (k:=5) h14.F B Z (DK.mono (by decide)) (jD.mono (by decide)))
 have tW:=h13.ct l.prog w base (Hy (k:=5) h13.F B (jD.mono (by decide)))
 have mq:=h15.ctE l.prog w base (Ac (k:=6) h15.F B (gq.mono (by decide)) (tW.mono (by decide)))
 have tY:=h28.ct l.prog w base (xu (k:=0) h28.F B Y);have Ay:=h29.ct l.prog w base (HD (k:=7) h29.F B Y (gq.mono (by decide)) (mq.mono (by decide)) (tY.mono (by decide)))
 have uM:=Jl.ct l.prog w base (Cz (k:=0) Jl.F);have uL:=Jl.ct l.prog w base (jg (k:=1) 0 Jl.F B (uM.mono (by decide)))
 have uK:=Jl.ct l.prog w base (jg (k:=2) 1 Jl.F B (uL.mono (by decide)))
 have uJ:=Jl.ct l.prog w base (jg (k:=3) 2 Jl.F B (uK.mono (by decide)))
 have uI:=Jl.ct l.prog w base (jg (k:=4) 3 Jl.F B (uJ.mono (by decide)))
 have lF:=Jl.ct l.prog w base (jg (k:=5) 4 Jl.F B (uI.mono (by decide)))
 have yg:=h30.ct l.prog w base (CJ (k:=8) h30.F B (cU.mono (by decide)) (Ay.mono (by decide)) (lF.mono (by decide)))
 have lu:=h31.ct l.prog w base (nu (k:=9) h31.F B (cU.mono (by decide)) (yg.mono (by decide)))
 have fM:=h19.ct l.prog w base (Cw (k:=1) h19.F B (cU.mono (by decide)))
 have Ba:=h32.ct l.prog w base (HJ (k:=2) h32.F B (cU.mono (by decide)) (fM.mono (by decide)))
 have DP:=h20.ct l.prog w base (K9 (k:=2) h20.F B (cU.mono (by decide)) (fM.mono (by decide)))
 have yf:=h21.ct l.prog w base (CG (k:=3) h21.F B (cU.mono (by decide)) (DP.mono (by decide)))
 have A_:=h22.ct l.prog w base (HH (k:=4) h22.F B (cU.mono (by decide)) (fM.mono (by decide)) (yf.mono (by decide)))
 have ye:=h23.ct l.prog w base (Cy (k:=2) h23.F B (cU.mono (by decide)) (fM.mono (by decide)))
 have qw:=h24.ct l.prog w base (uD (k:=0) h24.F B);have Ax:=h25.ct l.prog w base (HB (k:=1) h25.F B (qw.mono (by decide)))
 have Bb:=h26.ct l.prog w base (HQ (k:=2) h26.F B (Ax.mono (by decide)))
 have mz:=h33.ct l.prog w base (oW (k:=6) h33.F B (cU.mono (by decide)) (fM.mono (by decide)) (Ba.mono (by decide)) (A_.mono (by decide)) (ye.mono (by decide)) (Bb.mono (by decide)) (jD.mono (by decide)) (lF.mono (by decide)))
 exact Sh (k:=10) F B (uN.mono (by decide)) (Az.mono (by decide)) (lu.mono (by decide)) (mz.mono (by decide))
theorem walk {l:PySem.W.OpenLaw} {q:Program} {loose:List Str} {XP:(Str->Option Value)->Heap->Prop} {YP:World->Heap->Prop} {d:DefRec} {K:Params->PySem.W.Frag} (hn:l.most=some 63) (hdf:d.params.defaults=[])
  (hY:∀(w:World) (h:Heap),YP w h->(K w.params).In h)
  (F:∀(w:World) (mg:Str->Option Value) (fa:Addr) (h:Heap),(K w.params).In h->h.Ns mainGlobals mg->mg d.name=some (.ref fa) ->
   ∃fd:FuncData,(∀(s:Shared) (u:Value),BindsTo s fd ⟨[u],[]⟩ [("_law_script",u)])/\∀base:Heap,(K w.params).In base->base.Ns mainGlobals mg->bV l.prog w (K w.params) mg base ig 11 fa fd ["_law_script"] (Ek (K w.params))) :
  PySem.W.WalkO q loose XP YP l.row.toRowW d [] (fun f vs=>PySem.call f vs):=
 L2.Nt (n:=63) (k:=11) (x:="_law_script") (CX:=fun _=>ig) (sp:=fun w=>Ek (K w.params)) hn (by decide) hdf ⟨rfl,by decide,by decide,rfl⟩ hY F (fun _ _ a ns hl hO hS=>⟨a,ns,rfl,Nh.of hS hO,hl,fun _=>rfl⟩) fun _ _ _ _ _ z=>z
end Z0
structure PySem.W.Fast:Prop where(tw10722144711511057914 tw10587136170343207700 tw1535061915503174953 tw17424725994397647565 tw16670137255522740544 tw120561435980904443 tw2651901374270677593 tw8815805376456351007 tw2225709676727666330 tw18442386900445302232 tw7074820783372505297 tw3628659075527387727 tw11704183201525058019 tw1711224157561047038 tw13942119156375017397 tw4167702151087498374 tw2062339688300877248 tw12165414586978638265 tw9594210970155269749 tw10021066710669207018 tw4530456216027042175 tw9885363862882335065 tw10306853304301099502 tw7241436565656851510 tw5106268371231381801 tw14995604532625369889 tw3732677016322546993 tw1121832173352573688 tw14935284575221700130 tw8914882348826783960 tw13305631878037893009 tw14670414952921512983 tw14698044440492326045 tw6564263329676190728 tw15294075501825537418 tw5549342781218909863 tw4768180492546038027 tw16565735711795825118 tw18055806186960135200 tw15953173333536034971 tw3720924492658163332 tw7929123098044509257 tw16798010810183020141 tw13936533824553031471 tw8896581747105479104 tw11965027084389293516 tw11321714524532194445 tw11233862091644285276 tw3336613626660521988 tw16479967275367006139 tw4627684921366145856 tw17367721302707928953 tw5263947841085100266 tw13949742873395247117 tw4147973303456945224 tw13513342454660455793 tw3105312892872066575 tw17162254815559756191 tw6576979839840625853 tw6371816552413302860 tw7515183309119954048 tw5541576261099927204 tw11799532117015954949 tw7351941963518637053 tw15451116368196496717 tw1535168765567160995 tw4020568413144906538 tw4875309914100974388 tw1778772269030195694 tw12607642340784442354 tw14180845437018441059 tw5854006174820227745 tw7574977848300535929 tw6069950153075631766 tw9523885133484124609 tw6844467215953324191 tw11977618712975569061 tw10786385022598139520 tw5447198555274941721 tw11655630545986997199 tw6113188408610190068 tw4398352607724962107 tw10744146050027993571 tw3725080360022585993 tw10362386667295832830 tw13598919094479669591 tw1328346153771740523 tw3826380181903314044 tw11447399521747832767 tw1115803253416320937 tw17077762901620459009 tw8550595148868486322 tw18008392900636149239 tw793631028353670115 tw5510734926826474358 tw827053008527645156 tw15433658472881157897 tw1146777962606966967 tw7242912111535973413 tw11557007309954268419 tw5547275294517442370 tw2513909974070928503 tw10281319617488012988 tw4434967980398548378 tw9705371126567743759 tw14918916986215978345 tw11011204368600109354 tw7563929273772957428 tw16387847535857792994 tw8197327654835587806 tw8757452011682265377 tw6643998072128651636 tw710223326971526888 tw8564787782673143498 tw8491403640606346962 tw5983673153643728985 tw14379355809321863266 tw5209145094568581068 tw17715677881907297516 tw968303455241035548 tw11675369735235648975 tw14400667208478053493 tw16716009769875534443 tw22199160497150729 tw18003915871922729237 tw1871871184030333448 tw13851294409395935701 tw15678584233848925270 tw12267697494681913128 tw16035265933507968649 tw6509991043536807935 tw10663072287757590251 tw8352930112327970500 tw8571402484966197289 tw10971433894155696541 tw1991494021009127510 tw14726618890265490935 tw11240556954295950494 tw1729087451494676820 tw15277921024431248872 tw14472807233317520224 tw7259676372971845930 tw18363737828084026324 tw1832030952542826068 tw13352181035433222505 tw14781412732098969339 tw9955173868479707041 tw5229086174104685173 tw1036937033430152112 tw6200403917381994675 tw16621869935098686497 tw8859581041084019098 tw14820269618846035279 tw13966951195858622038 tw9809166127326768361 tw63027408559902128 tw16136337479721677178 tw8316145399552658956 tw9598334721876483466 tw11152831741665036897 tw12167955115996127509 tw9715646410514078748 tw5044449998255624342 tw633728302740234933 tw1834615902375575304 tw11055363279863505936 tw853993688639301208 tw6793996581416675346 tw9989695259460582137 tw9965218948425367256 tw10047769222362679432 tw7428738427271548088 tw9161181000806203179 tw2352176091034728321 tw5615142507580654603 tw9596846977595225282 tw13004976443151997148 tw5116377732088049301 tw8370159907489404588 tw16303386551138488787 tw17632671982476860031 tw3622214414180001746 tw2248765642526168699 tw5618755808628871684 tw5283826621175905006 tw6105200695052462477 tw3382520118777443886 tw2506140070856064709 tw11935617468509720016 tw9473196256645406177 tw16144994456348030857 tw12212228654353443116 tw2251491835192014943 tw13673835203815432823 tw16113058464471375874 tw7406921008344610552 tw15145766316933549352 tw2062273176744142843 tw13790401548175812522 tw16585993392212457598 tw10008231536273463957 tw12430159309111033260 tw14071732704255632032 tw18097753383845507473 tw1802506537435280084 tw4926908160568209672 tw4558418694577517276 tw1153632796235654500 tw4940942545309881169 tw5039718959272168528 tw7809857479646039570 tw18391860645719999528 tw18167330744535539725 tw8204624102753814153 tw16263542901934489855 tw9447623812349078747 tw18122215553466972184 tw5034597693783648475 tw6039546816654472226 tw15787913943501437638 tw8886832872051149828 tw2382701446710288815 tw12178853964300464020 tw4534191795750698528 tw10520610682469965088 tw10512737537795515970 tw13517091700303273290 tw3334731161513451432 tw4721699565343857035 tw15959817437937532441 tw17491150638148893382 tw10387713023040800257 tw4091503968587355203 tw6556812039338839178 tw11440173069224290503 tw9542622752407894653 tw18306978357950327945 tw7897918259105447359 tw11417538180055081359 tw17586673964688057643 tw17180099320203376475 tw1303761118111957500 tw4518655970018312632 tw6332158218316411475 tw9632551800150454895 tw18130360116393930640 tw12710847638616372099 tw712190848373972395 tw10809673665171768963 tw4531199753939765336 tw9565313523770501093 tw2788022283801163304 tw5207333412778563524 tw809359338736130839 tw8068310429618467851 tw5835343256288543796 tw1008385554127139424 tw17002074860557792871 tw5741838537540684562 tw6282790603192537079 tw6673560656538275989 tw180499944469752660 tw3701462730507330316 tw12890162659891871080 tw18164150636124277653 tw12527959887348511769 tw16597836798745918666 tw14030670020472223823 tw12936196153464027748 tw18128309944888082319 tw4743817654685778520 tw12873693880046080732 tw11445576826346840009 tw2710208065428990537 tw8027707961670308465 tw17090116589979474859 tw7581259961507428904 tw10775475197803580242 tw2565517768575568631 tw17303019139086667864 tw11829421314114755414 tw16469534663610357764 tw12328375048037772816 tw3765646695428632572 tw14090458510974566724 tw12871471734176186144 tw5254724666543995173 tw7594839179354672977 tw11831976687984776163 tw13341601204259262808 tw14850963928345071196 tw17117246392739033805 tw8764802301284248247 tw662874488545464495 tw3705741489059010755 tw12397672576920781492 tw9057435305377421169 tw10982513874184410638 tw2191893725944891825 tw10007658640798125674 tw17915220792516768818 tw7747746650767031496 tw4980901559341762797 tw7437314935887523565 tw8178492654736356367 tw3612304064781690293 tw10070137677131767470 tw8608301856352316360 tw3858333298287086775 tw7951673183135359017 tw12116779967112644922 tw4672033156418307960 tw11164505519925940043 tw8790642866569793962 tw6750476212823629941 tw4935280580998137521 tw685906719124431094 tw7175956238517879274 tw4568590088682103304 tw7606358522789166401 tw15064270460628991698 tw10270221859903329807 tw1299880421302512041 tw7178295950723720746 tw13578199956689374485 tw8215716523932557973 tw9529168183948284311 tw14866320825089470763 tw8086694954395700606 tw15996041379122881049 tw8488779472780380266 tw15320570967514701163 tw5146547833399260641 tw11204644013403823822 tw9436461407042358619 tw13876683814851935233 tw2930296155179907119 tw7309285602876920277 tw8404874572234640788 tw11683629456228004722 tw15061568786966222064 tw11920676166393965769 tw6651034218347889980 tw4862389655696917776 tw17343124262931947537 tw6579125801754485793 tw18244541610740886943 tw7052100263526488427 tw11949198169335304464 tw17613886312331948157 tw16708259573196068238 tw17016925951507755025 tw176604960108790121 tw7770577128491890163 tw7838945330271503788 tw10382189458955549625 tw11560982677592380978 tw3601790967228174611 tw6431729609873704897 tw8849586698895201731:True)
open PySem PySem.W PyProof.Rows
local macro_rules | `(tactic| walk_at "fd")=>`(tactic| (refine' L2.UL.mk ?a ?b ?c ?d ?e; (case a=>k_is); (case b=>k_is); (case c=>k_is); (case d=>k_is); (case e=>k_is)))
local macro_rules | `(tactic| walk_at "fn")=>`(tactic| (refine' L2.jG.mk ?a ?b ?c ?d; (case a=>k_is); (case b=>k_is); (case c=>k_is); (case d=>k_is)))
local macro_rules | `(tactic| walk_at "nb")=>`(tactic| (unfold L2.Nb; k_is))
local macro_rules | `(tactic| walk_at "ni")=>`(tactic| (refine' L2.Ni.mk ?a; (case a=>k_is)))
local macro_rules | `(tactic| walk_at "ns")=>`(tactic| (refine' L2.Bg.mk ?a; (case a=>k_is)))
local macro_rules | `(tactic| walk_at "nt")=>`(tactic| (refine' L2.NT.mk ?a ?b; (case a=>k_is); (case b=>k_is)))
set_option maxRecDepth 100000 in
set_option maxHeartbeats 0 in
theorem PySem.Challenge.cw_waithands_k98_whole_long_rounds_and_grea_holds : PySem.Challenge.rw_waithands_k98_whole_long_rounds_and_grea.Holds := by
 w_on; o_law; k_head; (case hw=>w_witness2)
 k_fill
 refine Z0.walk (l:=PySem.Challenge.rw_waithands_k98_whole_long_rounds_and_grea) rfl rfl (fun w h Y=>PySem.W.kIn_of Y) ?F
 case F=>
  intro w mg fa h KX G hmg;refine' Z0.all_mk KX G hmg ?e0 ?e1 ?e2 ?e3 ?e4 ?e5 ?e6 ?e7 ?e8 ?e9 ?e10 ?Jq ?Jp ?Ir ?Mi ?Jo ?Ng ?ZF ?ZD ?ZC ?Zz ?Zy ?Zx ?Zw ?Zv ?Zu ?Zt ?Zr ?Zq ?Zo ?Zn ?Zm ?Zk ?Zj ?Zi ?e35 ?XH ?e37 ?e38 ?e39 ?e40 ?e41 ?e42 ?e43 ?e44 ?XF ?e46 ?e47 ?WN ?e49 ?e50 ?e51 ?e52 ?e53 ?e54 ?e55 ?Ut ?e57 ?e58 ?e59 ?e60 ?e61 ?e62 ?e63 ?e64 ?e65 ?e66 ?e67 ?e68 ?e69 ?e70 ?e71 ?e72 ?e73 ?e74 ?e75 ?e76 ?e77 ?e78 ?e79 ?e80 ?e81 ?e82 ?e83 ?e84 ?e85 ?e86 ?e87 ?e88 ?e89 ?e90
  case e0 | e1 | e2 | e3 | e4 | e5 | e6 | e7=>walk_at "fn"
  case e8=>walk_at "fd"
  case e9 | e10 | Jq | Jp | Ir | Mi | Jo | Ng | ZF | ZD | ZC | Zz | Zy | Zx | Zw | Zv | Zu | Zt | Zr | Zq | Zo | Zn | Zm | Zk | Zj | Zi=>walk_at "fn"
  case e35 | XH | e37 | e38 | e39 | e40 | e41 | e42 | e43 | e44=>k_is
  case XF=>k_exc
  case e46 | e47=>kts_exm
  case WN | e49 | e50 | e51 | e52 | e53=>k_is
  case e54 | e55 | Ut | e57 | e58 | e59 | e60 | e61 | e62 | e63 | e64=>kit_is
  case e65 | e66=>k_is
  case e67 | e68 | e69 | e70 | e71 | e72 | e73 | e74 | e75 | e76 | e77 | e78 | e79 | e80 | e81 | e82 | e83 | e84=>walk_at "nb"
  case e85=>walk_at "nt"
  case e86 | e87 | e88=>walk_at "ns"
  case e89 | e90=>walk_at "ni"

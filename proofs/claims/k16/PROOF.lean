import PyProof.Rows.All
import Wide.All
import OpenK.AllK
import Wide.FinOn
import Lean
import PyProof.EqAt
import PyProof.EqKinds
import PyProof.TupleCall
import PyProof.P3In
import PyProof.NeData
import KE.KMinKey
import PyProof.Rows.CallKwBuiltin
import PyProof.LayNew
import PyProof.EnumFor
import PyProof.EnumMake
import PyProof.EnumStmt
import KE.KRevIter
import KE.KRevSl
import PyProof.StationsW
import PyProof.RulesAs
import KE.KTryMore
import PyProof.Rows.TopTwo
import PyProof.NsDelKeeps
import PyProof.ExcArgsOwn
import KE.KIsAll
import PyProof.AutoListH
import PyProof.SetRoads
import PyProof.SetNew
import PyProof.ListRange
import PyProof.Rows.TupDisplay
import PyProof.Draws
import PyProof.ZipIter
import PyProof.TupleIter
import PyProof.AttrMissSeq
import KE.KDictOf
import PySem.Challenge.RW_waithands_k16_plays_again_and_shared
set_option Elab.async false
set_option linter.all false
set_option maxRecDepth 100000
section
open PySem PySem.Spec PyProof.Rows
abbrev aW:=@wpAny_bind
abbrev bD:=@Nat.le_refl
abbrev fM:=@Heap.get?_push_of_some
abbrev jg:=@List.getElem?_eq_getElem
abbrev bR:=@wpAny_pure
abbrev eY:=@List.length_map
abbrev oK:=@List.getD_eq_getElem?_getD
abbrev dZ:=@List.mem_cons
abbrev eQ:=@Heap.lt_size
abbrev j_:=@Heap.get?_push_size
abbrev dR:=@List.length_append
abbrev dz:=@List.getElem?_map
abbrev fY:=@List.mem_append_right
abbrev iM:=@List.getElem?_eq_some_iff
abbrev dI:=@List.size_toArray
abbrev gO:=@lookup_relabel_local
abbrev aX:=@if_neg
abbrev fP:=@List.mem_singleton
abbrev fO:=@List.mem_cons_self
abbrev gQ:=@List.mem_cons_of_mem
abbrev bc:=@if_pos
abbrev dH:=@Nat.ne_of_lt
abbrev iK:=@of_decide_eq_true
abbrev dG:=@Nat.zero_le
abbrev nR:=@Option.map_eq_some_iff
abbrev jh:=@List.not_mem_nil
abbrev fK:=@Nat.le_trans
abbrev lD:=@Nat.lt_of_lt_of_le
abbrev lC:=@Bool.false_ne_true
abbrev dN:=@wpAny_mono
abbrev j9:=@List.lookup_cons
abbrev jJ:=@decide_eq_false
abbrev rQ:=@Heap.get?_update_other
abbrev lB:=@List.mem_append
abbrev iB:=@wpAny_field
abbrev nQ:=@List.length_cons
abbrev lu:=@decide_eq_true
abbrev lg:=@Heap.size_push
abbrev pI:=@List.length_take
abbrev pH:=@List.all_eq_true
abbrev jH:=@Nat.le_of_lt
abbrev qF:=@List.take_length
abbrev Al:=@List.getElem?_append_right
abbrev rP:=@wpAny_newObj_type
abbrev rO:=@Int.toNat_natCast
abbrev vK:=@List.mem_of_getElem?
abbrev uq:=@wpAny_Call_Name_kw
abbrev qD:=@List.append_nil
abbrev yq:=@List.length_replicate
abbrev mX:=@List.mem_map
abbrev yp:=@List.mem_iff_getElem
abbrev uo:=@Bool.and_eq_true
abbrev Dp:=@List.getElem?_append_left
abbrev Ak:=@Heap.get?_update_self
abbrev rN:=@wpAny_seqItems
abbrev rM:=@Nat.lt_irrefl
abbrev ym:=@wpAny_truthy_bool
abbrev yj:=@wpAny_call_entry
abbrev Aj:=@of_decide_eq_false
abbrev HD:=@wpAny_callSpecial?_slot
abbrev yh:=@List.map_append
abbrev Dn:=@List.replicate_succ
abbrev rK:=@wpAny_of_eq
abbrev yg:=@List.take_succ
abbrev yf:=@List.mem_range
abbrev Dm:=@Int.emod_lt_of_pos
abbrev ye:=@wpAny_standAt
abbrev Kq:=@Option.isSome_iff_exists
abbrev Dl:=@List.getElem_mem
abbrev HB:=@wpAny_setField_rec
abbrev Hz:=@wpAny_pyIter_tuple
abbrev Dk:=@Int.emod_nonneg
abbrev Ai:=@wpAny_holding
abbrev Ah:=@List.map_cons
abbrev Hy:=@Nat.lt_succ_of_lt
abbrev Hx:=@List.flatten_cons
abbrev Kp:=@List.mem_append_left
abbrev Oe:=@Array.getElem?_eq_some_iff
abbrev Ag:=@Nat.sub_self
abbrev Hw:=@List.drop_length
abbrev rJ:=@congrArg
abbrev Hv:=@List.forIn_cons
abbrev Hu:=@Bool.eq_iff_iff
abbrev yd:=@wpAny_rule
abbrev Ko:=@Bool.false_eq_true
abbrev Af:=@Int.le_refl
abbrev Ht:=@wpAny_setField
abbrev Km:=@wpAny_pyIter_list
abbrev Kl:=@List.length_range
abbrev Kh:=@Nat.lt_succ_self
abbrev Kg:=@List.length_drop
abbrev Hs:=@List.sum_cons
abbrev Dj:=@wpAny_letGo
abbrev Od:=@List.mem_of_mem_take
abbrev Kf:=@wpAny_specialOf
abbrev Ke:=@wpAny_passesOwn
abbrev Kd:=@wpAny_execs_nil
abbrev Kc:=@List.nil_append
abbrev Ar:=@List.length_nil
abbrev wI:=@Nat.lt_trans
abbrev wH:=@Int.zero_add
abbrev Aq:=@wpAny_tryCatch
abbrev Fy:=@List.getElem?_drop
abbrev Kv:=@List.drop_eq_getElem_cons
abbrev Fw:=@wpAny_pyIter_enum
abbrev wG:=@Nat.le_succ
abbrev Ku:=@List.getElem?_replicate
abbrev Fv:=@List.cons_append
abbrev Ks:=@Int.eq_ofNat_of_zero_le
abbrev Kr:=@wpAny_pyIter_rangeiter
abbrev Ao:=@Nat.ne_of_gt
abbrev An:=@Nat.lt_or_ge
abbrev Am:=@List.map_map
end
namespace L2
open PySem PySem.Spec PyProof.Rows
abbrev Key:=Sum Int Str
def QL:Key->Value->Bool
 | .inl k,v=>Value.isInt k v
 | .inr x,v=>Value.isStrOf x v
def Yb (w:World):Key->Int
 | .inl k=>hashInt k
 | .inr x=>hashStr w x
theorem cz:∀{k:Key} {v:Value},QL k v=true->(∃i t,k=Sum.inl i/\v=Value.int i t)\/(∃x t,k=Sum.inr x/\v=Value.str x t)
 | .inl i,v,h=>by
  obtain⟨t,e⟩:=Value.isInt_shape (k:=i) (v:=v) h
  exact .inl ⟨i,t,rfl,e⟩
 | .inr x,v,h=>by
  obtain⟨t,e⟩:=Value.isStrOf_shape (x:=x) (v:=v) h
  exact .inr ⟨x,t,rfl,e⟩
theorem S8 (a b:Int):decide ((Sum.inl a:Key)=Sum.inl b)=(a==b):=by
 by_cases e:a=b
 ·subst e; simp
 ·have h:¬(Sum.inl a:Key)=Sum.inl b:=fun q=>e (Sum.inl.inj q)
  rw[jJ h]
  exact(beq_eq_false_iff_ne.mpr e).symm
theorem SQ (a b:Str):decide ((Sum.inr a:Key)=Sum.inr b)=decide (a=b):=by
 by_cases e:a=b
 ·subst e; simp
 ·have h:¬(Sum.inr a:Key)=Sum.inr b:=fun q=>e (Sum.inr.inj q)
  rw[jJ h,jJ e]
theorem S7 (a:Int) (b:Str):decide ((Sum.inl a:Key)=Sum.inr b)=false:=jJ (fun q=>nomatch q)
theorem S5 (a:Str) (b:Int):decide ((Sum.inr a:Key)=Sum.inl b)=false:=jJ (fun q=>nomatch q)
def Ge (prog:Program) (w:World):PySem.KeyKind prog w Key where
 is:=QL
 hash:=Yb w
 inj:=fun v a b ha hb=>by
  rcases cz ha with⟨i,t,rfl,rfl⟩ | ⟨x,t,rfl,rfl⟩
  ·rcases cz hb with⟨j,u,rfl,e⟩ | ⟨y,u,rfl,e⟩
   ·injection e with e1 _; rw[e1]
   ·exact nomatch e
  ·rcases cz hb with⟨j,u,rfl,e⟩ | ⟨y,u,rfl,e⟩
   ·exact nomatch e
   ·injection e with e1 _; rw[e1]
 byValue:=fun k v h=>by
  rcases cz h with⟨i,t,rfl,rfl⟩ | ⟨x,t,rfl,rfl⟩ <;> rfl
 pyHash:=fun hv h=>by
  rcases cz hv with⟨i,t,rfl,rfl⟩ | ⟨x,t,rfl,rfl⟩
  ·exact wpAny_pyHash_int h
  ·exact wpAny_pyHash_str h
 eqBool:=fun hu hv h=>by
  rcases cz hu with⟨i,t,rfl,rfl⟩ | ⟨x,t,rfl,rfl⟩
  ·rcases cz hv with⟨j,u,rfl,rfl⟩ | ⟨y,u,rfl,rfl⟩
   ·rw[S8] at h; exact wpAny_eqBool_int h
   ·rw[S7] at h; exact SeqAt.EqAt.int_str i t y u _ _ _ _ h
  ·rcases cz hv with⟨j,u,rfl,rfl⟩ | ⟨y,u,rfl,rfl⟩
   ·rw[S5] at h; exact SeqAt.EqAt.str_int x t j u _ _ _ _ h
   ·rw[SQ] at h; exact wpAny_eqBool_str h
 «strs»:=fun k x t v h=>by
  rcases cz h with⟨i,u,rfl,e⟩ | ⟨y,u,rfl,e⟩
  ·exact nomatch e
  ·injection e with e1 _
   subst e1
   cases v <;> rfl
inductive V where
 | non | bl (b:Bool) | int (i:Int) | str (x:Str) | Jv (b:Array UInt8) | flt (b:UInt64) | ref (a:Addr) | ty (n:String)
 deriving DecidableEq
def RelV:V->Value->Prop
 | .non,u=>u=Value.none
 | .bl b,u=>u=Value.bool b
 | .int i,u=>∃t,u=Value.int i t
 | .str x,u=>∃t,u=Value.str x t
 | .Jv b,u=>∃t,u=Value.bytes b t
 | .flt b,u=>∃t,u=Value.float b t
 | .ref a,u=>u=Value.ref a
 | .ty n,u=>u=Value.type n
abbrev Vals:List V->List Value->Prop:=Paired RelV
theorem Vals.length {xs:List V} {us:List Value} (r:Vals xs us):xs.length=us.length:=Paired.length r
theorem Vals.get:∀{xs:List V} {us:List Value} {i:Nat} {x:V},Vals xs us->xs[i]?=some x->∃u,us[i]?=some u/\RelV x u
 | _,_,_,_,.nil,e=>by simp at e
 | _,_,0,_,.cons r _,e=>by simp at e; subst e; exact⟨_,rfl,r⟩
 | _,_,i+1,x,.cons _ t,e=>by
  obtain⟨u,h1,h2⟩:=Vals.get (i:=i) (x:=x) t (by simpa using e)
  exact⟨u,by simpa using h1,h2⟩
theorem Vals.set {x:V} {u:Value} (r:RelV x u):∀{xs:List V} {us:List Value} (i:Nat),Vals xs us->Vals (xs.set i x) (us.set i u)
 | _,_,_,.nil=>.nil
 | _,_,0,.cons _ t=>.cons r t
 | _,_,i+1,.cons q t=>.cons q (Vals.set r i t)
theorem Vals.append:∀{xs ys:List V} {us ws:List Value},Vals xs us->Vals ys ws->Vals (xs++ys) (us++ws)
 | _,_,_,_,.nil,s=>s
 | _,_,_,_,.cons r t,s=>.cons r (Vals.append t s)
theorem Vals.take:∀{xs:List V} {us:List Value} (n:Nat),Vals xs us->Vals (xs.take n) (us.take n)
 | _,_,0,_=>.nil
 | _,_,_+1,.nil=>.nil
 | _,_,n+1,.cons r t=>.cons r (Vals.take n t)
theorem Vals.drop:∀{xs:List V} {us:List Value} (n:Nat),Vals xs us->Vals (xs.drop n) (us.drop n)
 | _,_,0,r=>r
 | _,_,_+1,.nil=>.nil
 | _,_,n+1,.cons _ t=>Vals.drop n t
def zK:Option V->Option Value->Prop
 | some v,some u=>RelV v u
 | none,none=>True
 | _,_=>False
def KV {κ:Type}:List (κ×V)->List (κ×Value)->Prop:=Paired fun(p:κ×V) (q:κ×Value)=>p.1=q.1/\RelV p.2 q.2
def kV:Key->V
 | .inl i=>.int i
 | .inr x=>.str x
inductive HO where
 | lst (xs:List V)
 | tup (xs:List V)
 | dK (kvs:List (Key×V)) | dT (kvs:List (List Key×V))
 | set (S:Int->Bool) (n:Nat)
 | ins (C dx:Addr) (fs:List (Str×V))
 | own (x:Addr)
 | xd (fs:List (Str×V))
 | met (f x:Addr)
 | T_ (lo hi:Int)
 | zb (o:Obj) (u:HO)
 | Qn (ps:Array Value)
 | ext (φ:Heap->Prop)
abbrev Hp:=Addr->Option HO
def upd (H:Hp) (a:Addr) (o:HO):Hp:=fun b=>if b=a then some o else H b
theorem az {H:Hp} {a:Addr} {o:HO}:upd H a o a=some o:=by unfold upd; rw[bc rfl]
theorem aJ {H:Hp} {a b:Addr} {o:HO} (h:b≠a):upd H a o b=H b:=by unfold upd; rw[aX h]
theorem bH {H:Hp} {a b:Addr} {o:HO} (h:H a=some o) (h':H b=none):a≠b:=by
 intro e; subst e; rw[h] at h'; cases h'
section
variable (P:Program) (w:World)
def bZ (H:Hp) (h:Heap) (a:Addr):HO->Prop
 | .lst xs=>xs.length<=sizeLine/\∃(its:List Value) (n:Nat),Vals xs its/\h.get? a=some { cls:=.type "list",data:=.seq its.toArray n }
 | .tup xs=>xs.length<=sizeLine/\∃its:List Value,Vals xs its/\IsTup h a its.toArray
 | .dK kvs=>kvs.length<=sizeLine/\(a==sysModules)=false/\∃vs,KV kvs vs/\h.DictOf (Ge P w) a vs
 | .dT kvs=>kvs.length<=sizeLine/\(a==sysModules)=false/\∃xs:List (List Key×Addr×Value),
   Paired (fun(p:List Key×V) (q:List Key×Addr×Value)=>p.1=q.1/\H q.2.1=some (.tup (p.1.map kV))/\RelV p.2 q.2.2) kvs xs /\
   ∃o es ep,h.get? a=some o/\o.ExactDict/\o.data=.dict es ep/\es.toList=xs.map (entryOfKey (tupleKind (Ge P w)))/\(xs.map (·.1)).Nodup
 | .set S n=>h.SetOf (intKind P w) a S n
 | .ins C dx fs=>H dx=some (.own a)/\fs.length<=1000/\dx≠a/\h.get? a=some (PySem.W.instObj C dx) /\
   ∃mA,h.Ns1 dx mA/\(∀f,zK (fs.lookup f) (mA f))/\PySem.Within mA (fs.map (·.1))
 | .own _=>∃o,h.get? a=some o
 | .xd fs=>∃mA,h.Ns1 a mA/\∀f,zK (fs.lookup f) (mA f)
 | .T_ lo hi=>∃t u v,h.get? a=some { cls:=.type "range",data:=.fields #[.int lo t,.int hi u,.int 1 v] }
 | .zb o u=>h.get? a=some o/\bZ H h a u
 | .Qn ps=>h.get? a=some { cls:=.none,data:=.fields ps }
 | .met f x=>h.get? a=some (PySem.W.methodObj (.ref f) (.ref x))
 | .ext φ=>φ h/\(∃o,h.get? a=some o)/\∀h1 h2:Heap,φ h1->(∀o,h1.get? a=some o->h2.get? a=some o)->φ h2
def j0 (H:Hp) (h:Heap):Prop:=∀a o,H a=some o->bZ P w H h a o
end
section
variable {P:Program} {w:World} {H H':Hp} {h h':Heap} {a:Addr} {o:HO}
theorem bZ.lt (x:bZ P w H h a o):a<h.objs.size:=by
 cases o with
 | lst xs=>obtain⟨_,_,_,_,e⟩:=x; exact eQ e
 | tup xs=>obtain⟨_,_,_,p⟩:=x; exact p.lt
 | dK kvs=>obtain⟨_,_,_,_,o,_,_,e,_⟩:=x; exact eQ e
 | dT kvs=>obtain⟨_,_,_,_,o,_,_,e,_⟩:=x; exact eQ e
 | set S n=>obtain⟨o,_,_,_,e,_⟩:=x; exact eQ e
 | ins C dx fs=>obtain⟨_,_,_,e,_⟩:=x; exact eQ e
 | own y=>obtain⟨_,e⟩:=x; exact eQ e
 | xd fs=>obtain⟨_,⟨_,_,_,e,_⟩,_⟩:=x; exact eQ e
 | T_ lo hi=>obtain⟨_,_,_,e⟩:=x; exact eQ e
 | zb ob u=>obtain⟨e,_⟩:=x; exact eQ e
 | Qn ps=>exact eQ (show h.get? a=some _ from x)
 | met f y=>exact eQ (show h.get? a=some _ from x)
 | ext φ=>obtain⟨_,⟨_,e⟩,_⟩:=x; exact eQ e
theorem Paired.O_ {α β:Type} {F G:α->β->Prop}:∀{l₁:List α} {l₂:List β},Paired F l₁ l₂->(∀a b,F a b->G a b)->Paired G l₁ l₂
 | _,_,.nil,_=>.nil
 | _,_,.cons r t,f=>.cons (f _ _ r) (Paired.O_ t f)
theorem bZ.stay (x:bZ P w H h a o) (k:∀b u,(b=a\/H b=some (.own a))->h.get? b=some u->h'.get? b=some u)
  (ho:∀b,H b=some (.own a)->H' b=some (.own a)) (ht:∀b xs,H b=some (.tup xs)->H' b=some (.tup xs)):bZ P w H' h' a o:=by
 induction o with
 | lst xs=>obtain⟨z,its,n,r,e⟩:=x; exact⟨z,its,n,r,k _ _ (.inl rfl) e⟩
 | tup xs=>obtain⟨z,its,r,ob,e,c⟩:=x; exact⟨z,its,r,ob,k _ _ (.inl rfl) e,c⟩
 | dK kvs=>obtain⟨z,y,vs,r,ob,es,ep,e,c⟩:=x; exact⟨z,y,vs,r,ob,es,ep,k _ _ (.inl rfl) e,c⟩
 | dT kvs=>
  obtain⟨z,y,xs,r,ob,es,ep,e,c⟩:=x
  exact⟨z,y,xs,Paired.O_ r fun p q z=>⟨z.1,ht _ _ z.2.1,z.2.2⟩,ob,es,ep,k _ _ (.inl rfl) e,c⟩
 | set S n=>obtain⟨ob,es,ep,t,e,c⟩:=x; exact⟨ob,es,ep,t,k _ _ (.inl rfl) e,c⟩
 | ins C dx fs=>
  obtain⟨d,z,ne,e,mA,⟨od,es,ep,e2,c⟩,r⟩:=x
  exact⟨ho _ d,z,ne,k _ _ (.inl rfl) e,mA,⟨od,es,ep,k _ _ (.inr d) e2,c⟩,r⟩
 | own y=>obtain⟨ob,e⟩:=x; exact⟨ob,k _ _ (.inl rfl) e⟩
 | xd fs=>obtain⟨mA,⟨od,es,ep,e,c⟩,r⟩:=x; exact⟨mA,⟨od,es,ep,k _ _ (.inl rfl) e,c⟩,r⟩
 | T_ lo hi=>obtain⟨t,u,v,e⟩:=x; exact⟨t,u,v,k _ _ (.inl rfl) e⟩
 | zb ob u ih=>obtain⟨e,q⟩:=x; exact⟨k _ _ (.inl rfl) e,ih q⟩
 | Qn ps=>
  have e:h.get? a=some { cls:=.none,data:=.fields ps }:=x
  show h'.get? a=some { cls:=.none,data:=.fields ps }
  exact k a _ (.inl rfl) e
 | met f y=>
  have e:h.get? a=some (PySem.W.methodObj (.ref f) (.ref y)):=x
  show h'.get? a=some (PySem.W.methodObj (.ref f) (.ref y))
  exact k a _ (.inl rfl) e
 | ext φ=>obtain⟨p,⟨o,e⟩,st⟩:=x; exact⟨st _ _ p fun o q=>k _ _ (.inl rfl) q,⟨o,k _ _ (.inl rfl) e⟩,st⟩
theorem j0.lt (x:j0 P w H h) (e:H a=some o):a<h.objs.size:=(x a o e).lt
theorem j0.fresh (x:j0 P w H h) (e:h.objs.size<=a):H a=none:=by
 cases q:H a with
 | none=>rfl
 | some u=>exact absurd (lD (x.lt q) e) (rM _)
theorem j0.kept (x:j0 P w H h) (k:∀b u,h.get? b=some u->h'.get? b=some u):j0 P w H h':=fun a o e=>
 (x a o e).stay (fun b u _ q=>k b u q) (fun _ q=>q) fun _ _ q=>q
theorem j0.laid (x:j0 P w H h) (k:∀b u,h.get? b=some u->h'.get? b=some u) (hp:h.objs.size<=a) (new:bZ P w (upd H a o) h' a o):j0 P w (upd H a o) h':=fun b u e=>by
 have hn:=x.fresh hp
 by_cases hb:b=a
 ·subst hb; rw[az] at e; cases e; exact new
 ·rw[aJ hb] at e
  exact(x b u e).stay (fun c v _ q=>k c v q) (fun c q=>by rw[aJ (bH q hn)]; exact q) fun c xs q=>by rw[aJ (bH q hn)]; exact q
end
def Rd (H:Hp) (a:Addr) (u:HO):Prop:=H a=some u\/∃o,H a=some (.zb o u)
theorem Rd.ok {P:Program} {w:World} {H:Hp} {h:Heap} {a:Addr} {u:HO} (r:Rd H a u) (x:j0 P w H h):bZ P w H h a u:=by
 rcases r with r | ⟨o,r⟩
 ·exact x a u r
 ·obtain⟨_,q⟩:=x a _ r
  exact q
def W4:Option HO->Prop
 | some (.lst _)=>True
 | some (.dK _)=>True
 | some (.dT _)=>True
 | some (.set _ _)=>True
 | some (.ins _ _ _)=>True
 | some (.ext _)=>True
 | _=>False
section
variable {P:Program} {w:World} {H:Hp} {h h':Heap} {x e:Addr} {o':HO}
theorem j0.write (ok:j0 P w H h) (mu:W4 (H x)) (he:e=x\/H e=some (.own x)) (k:∀b u,b≠e->h.get? b=some u->h'.get? b=some u) (heo:∃u,h'.get? e=some u)
  (new:bZ P w (upd H x o') h' x o'):j0 P w (upd H x o') h':=fun b u q=>by
 have VL:∀c y,H c=some (.own y)->c≠x:=fun c y r z=>by subst z; rw[r] at mu; exact mu
 have XS:∀c xs,H c=some (.tup xs)->c≠x:=fun c xs r z=>by subst z; rw[r] at mu; exact mu
 by_cases hb:b=x
 ·subst hb; rw[az] at q; cases q; exact new
 ·rw[aJ hb] at q
  by_cases hbe:b=e
  ·have q':H b=some (.own x):=by
    rcases he with z | z
    ·exact absurd (hbe.trans z) hb
    ·rw[hbe]; exact z
   rw[q] at q'; cases q'
   obtain⟨v,hv⟩:=heo
   exact⟨v,by rw[hbe]; exact hv⟩
  ·refine(ok b u q).stay (fun c v hc r=>k c v ?_ r) (fun c r=>by rw[aJ (VL c b r)]; exact r) fun c xs r=>by rw[aJ (XS c xs r)]; exact r
   rcases hc with rfl | hc
   ·exact hbe
   ·rintro rfl
    rcases he with z | z
    ·exact VL c b hc z
    ·rw[hc] at z; cases z; exact hb rfl
end
structure Un (fs ex:List Addr) (H H':Hp) (h h':Heap):Prop where
 keep:∀b o,h.get? b=some o->H b=none->b∉fs->b∉ex->h'.get? b=some o
 slot:∀b o,h.get? b=some o->H b=none->b∈fs->b∉ex->∃sl,h'.get? b=some { o with slots:=sl }
 free:∀b o,h.get? b=some o->H b=none->b∉ex->H' b=none
 there:∀b o,h.get? b=some o->b∉ex->∃o',h'.get? b=some o'
 tups:∀b xs,H b=some (.tup xs)->H' b=some (.tup xs)
 vQ:∀b o u,H b=some (.zb o u)->H' b=some (.zb o u)
 xM:∀b ps,H b=some (.Qn ps)->∃more,H' b=some (.Qn (ps++more))
section
variable {fs fs' ex ex':List Addr} {H H1 H2:Hp} {h h1 h2 h':Heap} {a x e:Addr} {o:HO}
theorem Un.any (u:Un fs ex H H1 h h1) {b:Addr} {ob:Obj} (q:h.get? b=some ob) (n:H b=none) (hx:b∉ex):∃sl,h1.get? b=some { ob with slots:=sl }:=by
 by_cases hb:b∈fs
 ·exact u.slot b ob q n hb hx
 ·exact⟨ob.slots,u.keep b ob q n hb hx⟩
theorem Un.kept (k:∀b u,h.get? b=some u->h'.get? b=some u):Un fs ex H H h h':=
 ⟨fun b ob q _ _ _=>k b ob q,fun b ob q _ _ _=>⟨ob.slots,k b ob q⟩,fun _ _ _ n _=>n,fun b ob q _=>⟨ob,k b ob q⟩,fun _ _ q=>q,fun _ _ _ q=>q,fun _ ps q=>⟨#[],by rw[q]; simp⟩⟩
theorem Un.refl:Un fs ex H H h h:=Un.kept fun _ _ q=>q
theorem Un.laid (k:∀b u,h.get? b=some u->h'.get? b=some u) (hp:h.objs.size<=a) (hn:H a=none):Un fs ex H (upd H a o) h h' where
 keep:=fun b u q _ _ _=>k b u q
 slot:=fun b u q _ _ _=>⟨u.slots,k b u q⟩
 free:=fun b u q n _=>by rw[aJ (dH (lD (eQ q) hp))]; exact n
 there:=fun b u q _=>⟨u,k b u q⟩
 tups:=fun b xs q=>by rw[aJ (bH q hn)]; exact q
 vQ:=fun b u xs q=>by rw[aJ (bH q hn)]; exact q
 xM:=fun b ps q=>⟨#[],by rw[aJ (bH q hn),q]; simp⟩
theorem Un.write (mu:W4 (H x)) (he:e=x\/H e=some (.own x)) (k:∀b u,b≠e->h.get? b=some u->h'.get? b=some u) (heo:∃u,h'.get? e=some u):Un fs ex H (upd H x o) h h':=by
 have hx:∀b,H b=none->b≠x:=fun b n z=>by subst z; rw[n] at mu; exact mu
 have hb:∀b,H b=none->b≠e:=fun b n z=>by
  subst z
  rcases he with r | r
  ·exact hx b n r
  ·rw[n] at r; cases r
 have hm:∀b u,H b=some u->¬W4 (some u)->b≠x:=fun b u q nm z=>by subst z; rw[q] at mu; exact nm mu
 refine⟨fun b u q n _ _=>k b u (hb b n) q,fun b u q n _ _=>⟨u.slots,k b u (hb b n) q⟩,fun b u q n _=>by rw[aJ (hx b n)]; exact n,fun b u q _=>?_,
  fun b xs q=>by rw[aJ (hm b _ q fun z=>z)]; exact q,fun b u xs q=>by rw[aJ (hm b _ q fun z=>z)]; exact q,fun b ps q=>⟨#[],by rw[aJ (hm b _ q fun z=>z),q]; simp⟩⟩
 by_cases hbe:b=e
 ·subst hbe; exact heo
 ·exact⟨u,k b u hbe q⟩
end
def Ws (h:Heap) (H:Hp):List Addr:=(List.range h.objs.size).filter fun a=>(H a).isSome
def yZ (h:Heap) (H:Hp):Heap:=PySem.W.hideAll h (Ws h H)
theorem Ip (h:Heap) (H:Hp):(yZ h H).objs.size=h.objs.size:=PySem.W.hideAll_size _ _
theorem Mi {h:Heap} {H:Hp} {b:Addr} {o:Obj} (e:h.get? b=some o) (n:H b=none):(yZ h H).get? b=some o:=
 PySem.W.hideAll_get _ e fun hm=>by
  have q:(H b).isSome=true:=(List.mem_filter.mp hm).2
  rw[n] at q; simp at q
theorem O4 {h:Heap} {H:Hp} {b:Addr} {o:Obj} (e:(yZ h H).get? b=some o):h.get? b=some o/\H b=none:=by
 have e':h.get? b=some o:=PySem.W.of_hideAll (Ws h H) e
 refine⟨e',?_⟩
 cases q:H b with
 | none=>rfl
 | some x=>
  have hm:b∈Ws h H:=List.mem_filter.mpr ⟨yf.mpr (eQ e'),by simp[q]⟩
  have z:(yZ h H).get? b=none:=PySem.W.hideAll_none (Ws h H) hm
  rw[z] at e; cases e
def Qd (g h:Heap) (L:Addr):List (Addr×Obj):=(List.range h.objs.size).filterMap fun a=>if a=L\/(g.get? a).isSome=true then none else(h.get? a).map fun o=>(a,o)
def rest (g h:Heap) (L d:Addr):List (Addr×Obj):=(Qd g h L).filter fun p=>decide (p.1≠d)
structure Mod (K:PySem.W.Frag) (mg:Str->Option Value) (base:Heap):Prop where
 QK:K.In base
 glob:base.Ns mainGlobals mg
 blt:∃mb,base.Ns builtinsNs mb/\∀x:Str,x ≠ "__name__" -> mb x=bootBuiltins x
 nolimit:base.NoLimit
structure Cx where
 prog:Program
 w:World
 K:PySem.W.Frag
 mg:Str->Option Value
 base:Heap
 A:Around
 N:List Str
 s₀:Shared
 H₀:Hp
 env:Env
 outer:List Env
 stack:List Env
 ex:List Addr
 fn:Str->Bool
 calm:Bool
 pn:List (Addr×Obj)
 xe:Value->Shared->Prop
def frs (l:List Env):List Addr:=l.filterMap (·.frame)
abbrev Cx.fs (X:Cx):List Addr:=frs X.outer
def WX (sc:Scope) (x:Str):Prop:=sc.names.lookup x=some .local\/sc.names.lookup x=some .cell\/sc.names.lookup x=some .free
def Loc (sc:Scope) (x:Str):Prop:=sc.names.lookup x=some .local\/sc.names.lookup x=some .cell
def Look (env:Env) (h:Heap) (m:Str->Option Value) (x:Str) (u:Value):Prop:=
 (env.kindOf x=some .local/\m x=some u)\/((env.kindOf x=some .cell\/env.kindOf x=some .free)/\∃c,env.cells.lookup x=some c/\h.IsCell c (some u))
structure Cx.Ok (X:Cx):Prop where
 mod:Mod X.K X.mg X.base
 kind:X.env.scope.kind=.function
 glob:X.env.globals=mainGlobals
 blt:X.env.builtins=builtinsNs
 above:X.s₀.heap.objs.size<=X.env.locals
 inj:∀x y c,X.env.cells.lookup x=some c->X.env.cells.lookup y=some c->x=y
 has:∀x,(X.env.kindOf x=some .cell\/X.env.kindOf x=some .free)->∃c,X.env.cells.lookup x=some c
 cab:∀x c,X.fn x=true->X.env.cells.lookup x=some c->X.s₀.heap.objs.size<=c
 hd:X.calm=true->X.A.handled=none
 frames:X.A.frames=some X.stack
 Vb:X.stack=X.outer\/(X.stack=X.env::X.outer/\X.env.frame=some X.env.locals)
 Wb:∀b∈X.ex,b≠X.env.locals/\∀x c,X.env.cells.lookup x=some c->c≠b
 bs:∀b o,X.base.get? b=some o->X.s₀.heap.get? b=some o/\X.H₀ b=none
 MK:X.base.objs.size<=X.s₀.heap.objs.size
 DP:∀b o,X.base.get? b=some o->b∉X.ex
 Ea:∀b∈X.ex,b∉X.fs
 rZ:X.s₀.heap.FunFrames X.base X.outer
 Tg:∀b∈X.fs,X.H₀ b=none
structure Inv (X:Cx) (pins:List (Addr×Obj)) (σ:List (Option V)) (H:Hp) (s:Shared):Prop where
 ok:X.Ok
 os:s.os=X.s₀.os
 bare:AllBare s.gens
 base:Un X.fs X.ex X.H₀ H X.s₀.heap s.heap
 loc:∃m,s.heap.Ns X.env.locals m/\∀(i:Nat) (x:Str) (v:V),X.N[i]?=some x->σ[i]?=some (some v)->WX X.env.scope x->∃u,RelV v u/\Look X.env s.heap m x u
 cell:∀x c,X.env.cells.lookup x=some c->∃v,s.heap.IsCell c v
 free:H X.env.locals=none
 jz:∀x c,X.env.cells.lookup x=some c->H c=none
 pin:∀p∈X.pn++pins,s.heap.get? p.1=some p.2/\H p.1=none/\p.1≠X.env.locals/\p.1∉X.fs/\∀v,p.2.data≠.cell v
 hok:j0 X.prog X.w H s.heap
 len:σ.length=X.N.length
section
variable {X:Cx} {pins:List (Addr×Obj)} {σ:List (Option V)} {H H':Hp} {s:Shared} {h':Heap}
theorem Cx.Ok.X3 (ok:X.Ok) {b:Addr} {o:Obj} (e:X.base.get? b=some o):b∉X.fs:=fun hb=>by
 have:=(ok.rZ.mem hb).1
 rw[e] at this; cases this
theorem Inv.bs (I:Inv X pins σ H s):∀b o,X.base.get? b=some o->s.heap.get? b=some o/\H b=none:=fun b o e=>
 ⟨I.base.keep b o (I.ok.bs b o e).1 (I.ok.bs b o e).2 (I.ok.X3 e) (I.ok.DP b o e),I.base.free b o (I.ok.bs b o e).1 (I.ok.bs b o e).2 (I.ok.DP b o e)⟩
theorem Inv.bk (I:Inv X pins σ H s):∀b o,X.base.get? b=some o->s.heap.get? b=some o:=fun b o e=>(I.bs b o e).1
theorem Inv.mod (I:Inv X pins σ H s):Mod X.K X.mg X.base:=I.ok.mod
theorem Inv.vB (I:Inv X pins σ H s):X.K.In s.heap:=I.ok.mod.QK.keeps I.bk
theorem Inv.fr (I:Inv X pins σ H s):∃m,Fr X.base X.env.locals s.heap m:=
 let ⟨m,hn,_⟩:=I.loc
 ⟨m,hn,I.bk,fK I.ok.MK I.ok.above⟩
theorem Inv.lt (I:Inv X pins σ H s):X.env.locals<s.heap.objs.size:=let ⟨_,hn,_⟩:=I.loc; hn.lt
theorem Inv.sz (I:Inv X pins σ H s):X.s₀.heap.objs.size<=s.heap.objs.size:=fK I.ok.above (jH I.lt)
theorem Inv.XX (I:Inv X pins σ H s) {a:Addr} (h:s.heap.objs.size<=a):a∉X.fs:=fun hb=>by
 obtain⟨_,o,ho,_⟩:=I.ok.rZ.mem hb
 exact absurd (lD (eQ ho) (fK I.sz h)) (rM _)
theorem Inv.Tv (I:Inv X pins σ H s):∀x c,X.env.cells.lookup x=some c->c≠X.env.locals:=fun x c e z=>by
 obtain⟨v,o,ho,hd⟩:=I.cell x c e
 obtain⟨m,⟨o',es,ep,ho',hd',_⟩,_⟩:=I.loc
 rw[z,ho'] at ho; cases ho; rw[hd'] at hd; cases hd
theorem Inv.rZ (I:Inv X pins σ H s):s.heap.FunFrames X.base X.outer:=by
 have all:∀(l:List Env),(∀b∈frs l,b∈X.fs)->X.s₀.heap.FunFrames X.base l->s.heap.FunFrames X.base l:=by
  intro l
  induction l with
  | nil=>intro _ _; trivial
  | cons env r ih=>
   intro hs hl
   obtain⟨hk,⟨L,o,hf,hn,ho,hd⟩,hr⟩:=hl
   have hL:L∈X.fs:=hs L (by unfold frs; rw[List.filterMap_cons,hf]; exact fO)
   obtain⟨sl,e⟩:=I.base.slot L o ho (I.ok.Tg L hL) hL fun z=>I.ok.Ea L z hL
   exact⟨hk,⟨L,_,hf,hn,e,hd⟩,ih (fun b hb=>hs b (by unfold frs; rw[List.filterMap_cons,hf]; exact gQ _ hb)) hr⟩
 exact all X.outer (fun _ hb=>hb) I.ok.rZ
theorem Inv.stack (I:Inv X pins σ H s):s.heap.FunFrames X.base X.stack:=by
 rcases I.ok.Vb with e | ⟨e,hf⟩
 ·rw[e]; exact I.rZ
 ·rw[e]
  obtain⟨m,hn,_⟩:=I.loc
  refine .cons (by rw[I.ok.kind]; decide) hf hn ?_ I.rZ
  exact Heap.get?_none_of_le (fK I.ok.MK I.ok.above)
theorem Inv.CV (I:Inv X pins σ H s):∀b∈frs X.stack,b∈X.env.locals::X.fs:=fun b hb=>by
 rcases I.ok.Vb with e | ⟨e,hf⟩
 ·rw[e] at hb; exact gQ _ hb
 ·rw[e] at hb
  unfold frs at hb
  rw[List.filterMap_cons,hf] at hb
  exact hb
theorem Inv.sr (I:Inv X pins σ H s):∀b∈frs X.stack,H b=none:=fun b hb=>by
 rcases dZ.mp (I.CV b hb) with e | hb
 ·rw[e]; exact I.free
 ·obtain⟨_,o,ho,_⟩:=I.ok.rZ.mem hb
  exact I.base.free b o ho (I.ok.Tg b hb) fun z=>I.ok.Ea b z hb
theorem Inv.step {g':Array GenState} {t':Nat} {d':Drawn} {ch:List Addr} (I:Inv X pins σ H s)
  (hch:∀b∈ch,(b∈X.ex\/X.s₀.heap.objs.size<=b)/\b≠X.env.locals/\(∀x c,X.env.cells.lookup x=some c->c≠b)/\∀p∈X.pn++pins,p.1≠b)
  (keep:∀b o,b≠X.env.locals->b∉X.fs->b∉ch->s.heap.get? b=some o->H b=none->h'.get? b=some o)
  (slot:∀b o,b≠X.env.locals->b∈X.fs->b∉ch->s.heap.get? b=some o->H b=none->∃sl,h'.get? b=some { o with slots:=sl }) (free:∀b o,b∉ch->s.heap.get? b=some o->H b=none->H' b=none)
  (there:∀b o,b∉ch->s.heap.get? b=some o->∃o',h'.get? b=some o')
  (tups:∀b xs,H b=some (.tup xs)->H' b=some (.tup xs)) (vQ:∀b o u,H b=some (.zb o u)->H' b=some (.zb o u)) (xM:∀b ps,H b=some (.Qn ps)->∃more,H' b=some (.Qn (ps++more)))
  (ns:∀m,s.heap.Ns X.env.locals m->h'.Ns X.env.locals m) (hok:j0 X.prog X.w H' h') (hg:AllBare g') :
  Inv X pins σ H' { s with heap:=h',gens:=g',drawn:=d',toks:=t' }:=by
 have Z6:∀b o,X.s₀.heap.get? b=some o->b≠X.env.locals:=fun b o e=>dH (lD (eQ e) I.ok.above)
 have Wz:∀b o,X.s₀.heap.get? b=some o->b∉X.ex->b∉ch:=fun b o e hx hb=>by
  rcases(hch b hb).1 with z | z
  ·exact hx z
  ·exact absurd (lD (eQ e) z) (rM _)
 have cellK:∀x c,X.env.cells.lookup x=some c->∀v,s.heap.IsCell c v->h'.IsCell c v:=fun x c e v ⟨o,ho,hd⟩=>by
  have VP:c∉ch:=fun z=>(hch c z).2.2.1 x c e rfl
  by_cases hc:c∈X.fs
  ·obtain⟨sl,q⟩:=slot c o (I.Tv x c e) hc VP ho (I.jz x c e)
   exact⟨_,q,hd⟩
  ·exact⟨o,keep c o (I.Tv x c e) hc VP ho (I.jz x c e),hd⟩
 refine⟨I.ok,I.os,hg,⟨fun b o e n hb hx=>?_,fun b o e n hb hx=>?_,fun b o e n hx=>?_,fun b o e hx=>?_,fun b xs e=>tups b xs (I.base.tups b xs e),fun b o xs e=>vQ b o xs (I.base.vQ b o xs e),fun b ps e=>?_⟩,?_,fun x c e=>?_,?_,fun x c e=>?_,fun p hp=>?_,hok,I.len⟩
 ·exact keep b o (Z6 b o e) hb (Wz b o e hx) (I.base.keep b o e n hb hx) (I.base.free b o e n hx)
 ·obtain⟨sl,e1⟩:=I.base.slot b o e n hb hx
  obtain⟨sl',e2⟩:=slot b _ (Z6 b o e) hb (Wz b o e hx) e1 (I.base.free b o e n hx)
  exact⟨sl',e2⟩
 ·obtain⟨o',e1⟩:=I.base.there b o e hx
  exact free b o' (Wz b o e hx) e1 (I.base.free b o e n hx)
 ·obtain⟨o',e1⟩:=I.base.there b o e hx
  exact there b o' (Wz b o e hx) e1
 ·obtain⟨m1,e1⟩:=I.base.xM b ps e
  obtain⟨m2,e2⟩:=xM b _ e1
  exact⟨m1++m2,by rw[e2,Array.append_assoc]⟩
 ·obtain⟨m,hn,hl⟩:=I.loc
  refine⟨m,ns m hn,fun i x v e1 e2 e3=>?_⟩
  obtain⟨u,r,l⟩:=hl i x v e1 e2 e3
  refine⟨u,r,?_⟩
  rcases l with l | ⟨k,c,e,z⟩
  ·exact .inl l
  ·exact .inr ⟨k,c,e,cellK x c e _ z⟩
 ·obtain⟨v,z⟩:=I.cell x c e
  exact⟨v,cellK x c e v z⟩
 ·obtain⟨m,⟨o,_,_,ho,_⟩,_⟩:=I.loc
  exact free _ o (fun z=>(hch _ z).2.1 rfl) ho I.free
 ·obtain⟨v,o,ho,hd⟩:=I.cell x c e
  exact free c o (fun z=>(hch c z).2.2.1 x c e rfl) ho (I.jz x c e)
 ·obtain⟨e,n,ne,nf,d⟩:=I.pin p hp
  have VP:p.1∉ch:=fun z=>(hch p.1 z).2.2.2 p hp rfl
  exact⟨keep p.1 p.2 ne nf VP e n,free p.1 p.2 VP e n,ne,nf,d⟩
theorem Inv.un {t':Nat} (I:Inv X pins σ H s) (u:Un X.fs [] H H' s.heap h') (hok:j0 X.prog X.w H' h'):Inv X pins σ H' { s with heap:=h',toks:=t' }:=by
 obtain⟨m,⟨o,es,ep,ho,r⟩,_⟩:=id I.loc
 obtain⟨sl,hL⟩:=u.any ho I.free (by simp)
 exact I.step (g':=s.gens) (d':=s.drawn) (ch:=[]) (fun _ z=>nomatch z) (fun b o _ hb _ e n=>u.keep b o e n hb (by simp)) (fun b o _ hb _ e n=>u.slot b o e n hb (by simp)) (fun b o _ e n=>u.free b o e n (by simp)) (fun b o _ e=>u.there b o e (by simp)) u.tups u.vQ u.xM (fun m' hm=>by
  obtain⟨o',es',ep',ho',r'⟩:=hm
  rw[ho] at ho'; cases ho'
  exact⟨_,es',ep',hL,r'⟩) hok I.bare
theorem Inv.call {g':Array GenState} {t':Nat} {d':Drawn} {ch:List Addr} (I:Inv X pins σ H s) (u:Un (frs X.stack) ch H H' s.heap h') (hok:j0 X.prog X.w H' h') (hg:AllBare g')
  (hch:∀b∈ch,(b∈X.ex\/X.s₀.heap.objs.size<=b)/\b≠X.env.locals/\(∀x c,X.env.cells.lookup x=some c->c≠b)/\∀p∈X.pn++pins,p.1≠b) :
  Inv X pins σ H' { s with heap:=h',gens:=g',drawn:=d',toks:=t' }:=by
 obtain⟨m,⟨o,es,ep,ho,r⟩,_⟩:=id I.loc
 obtain⟨sl,hL⟩:=u.any ho I.free fun z=>(hch _ z).2.1 rfl
 exact I.step (ch:=ch) hch (fun b o hL hb hc e n=>u.keep b o e n (fun z=>(dZ.mp (I.CV b z)).elim hL hb) hc) (fun b o _ _ hc e n=>u.any e n hc) (fun b o hc e n=>u.free b o e n hc) (fun b o hc e=>u.there b o e hc) u.tups u.vQ u.xM (fun m' hm=>by
  obtain⟨o',es',ep',ho',r'⟩:=hm
  rw[ho] at ho'; cases ho'
  exact⟨_,es',ep',hL,r'⟩) hok hg
theorem Inv.turned {t':Nat} {it:Addr} (I:Inv X pins σ H s) (k:∀b o,b≠it->s.heap.get? b=some o->h'.get? b=some o) (hn:H it=none) (hL:it≠X.env.locals)
  (h1:it∈X.ex\/X.s₀.heap.objs.size<=it) (h2:∀x c,X.env.cells.lookup x=some c->c≠it) (h3:∀p∈X.pn++pins,p.1≠it):Inv X pins σ H { s with heap:=h',toks:=t' }:=by
 have Z5:∀b u,H b=some u->b≠it:=fun b u e z=>by rw[z,hn] at e; cases e
 refine I.step (g':=s.gens) (d':=s.drawn) (ch:=[it]) (fun b hb=>?_) (fun b o _ _ hc e _=>k b o (fun z=>hc (by simp[z])) e) (fun b o _ _ hc e _=>⟨o.slots,k b o (fun z=>hc (by simp[z])) e⟩) (fun _ _ _ _ n=>n)
  (fun b o hc e=>⟨o,k b o (fun z=>hc (by simp[z])) e⟩) (fun _ _ e=>e) (fun _ _ _ e=>e) (fun b ps e=>⟨#[],by rw[e]; simp⟩) (fun m hm=>?_) (fun b u e=>?_) I.bare
 ·have e:b=it:=by simpa using hb
  subst e
  exact⟨h1,hL,h2,h3⟩
 ·obtain⟨o,es,ep,ho,r⟩:=hm
  exact⟨o,es,ep,k _ o (Ne.symm hL) ho,r⟩
 ·refine(I.hok b u e).stay (fun c v hc q=>k c v ?_ q) (fun _ q=>q) fun _ _ q=>q
  rcases hc with z | z
  ·rw[z]; exact Z5 b u e
  ·exact Z5 c _ z
theorem Inv.tok (I:Inv X pins σ H s) (t:Nat):Inv X pins σ H { s with toks:=t }:=I.un (h':=s.heap) (t':=t) Un.refl I.hok
theorem Inv.kept {t':Nat} (I:Inv X pins σ H s) (k:∀b u,s.heap.get? b=some u->h'.get? b=some u):Inv X pins σ H { s with heap:=h',toks:=t' }:=I.un (Un.kept k) (I.hok.kept k)
theorem Inv.laid {a:Addr} {o:HO} {t':Nat} (I:Inv X pins σ H s) (k:∀b u,s.heap.get? b=some u->h'.get? b=some u) (hp:s.heap.objs.size<=a) (new:bZ X.prog X.w (upd H a o) h' a o) :
  Inv X pins σ (upd H a o) { s with heap:=h',toks:=t' }:=I.un (Un.laid k hp (I.hok.fresh hp)) (I.hok.laid k hp new)
theorem Inv.write {x e:Addr} {o:HO} {t':Nat} (I:Inv X pins σ H s) (mu:W4 (H x)) (he:e=x\/H e=some (.own x)) (k:∀b u,b≠e->s.heap.get? b=some u->h'.get? b=some u) (heo:∃u,h'.get? e=some u)
  (new:bZ X.prog X.w (upd H x o) h' x o):Inv X pins σ (upd H x o) { s with heap:=h',toks:=t' }:=I.un (Un.write mu he k heo) (I.hok.write mu he k heo new)
theorem Inv.weak {σ':List (Option V)} (I:Inv X pins σ H s) (hl:σ'.length=σ.length) (w:∀(i:Nat) v,σ'[i]?=some (some v)->σ[i]?=some (some v)):Inv X pins σ' H s:=
 ⟨I.ok,I.os,I.bare,I.base,let ⟨m,hn,hl'⟩:=I.loc; ⟨m,hn,fun i x v e1 e2 e3=>hl' i x v e1 (w i v e2) e3⟩,I.cell,I.free,I.jz,I.pin,I.hok,hl.trans I.len⟩
theorem Inv.FP {QC:List (Addr×Obj)} (I:Inv X pins σ H s) (h:∀p∈QC,s.heap.get? p.1=some p.2/\H p.1=none/\p.1≠X.env.locals/\p.1∉X.fs/\∀v,p.2.data≠.cell v):Inv X QC σ H s:=
 ⟨I.ok,I.os,I.bare,I.base,I.loc,I.cell,I.free,I.jz,fun p hp=>(lB.mp hp).elim (fun z=>I.pin p (Kp _ z)) (h p),I.hok,I.len⟩
theorem Bk {N:List Str} (hN:N.Nodup) {i j:Nat} {x:Str} (a:N[i]?=some x) (b:N[j]?=some x):i=j:=by
 obtain⟨h1,e1⟩:=iM.mp a
 obtain⟨h2,e2⟩:=iM.mp b
 exact(List.getElem_inj hN).mp (e1.trans e2.symm)
theorem Hj {M:Model} {A:Around} {E:Value->Shared->Prop} {i:Nat} {x:Str} {v:V} {u:Value} {Q:Unit->Shared->Prop} (I:Inv X pins σ H s) (hN:X.N.Nodup) (hi:X.N[i]?=some x) (hx:Loc X.env.scope x) (r:RelV v u)
  (h:∀s',Inv X pins (σ.set i (some v)) H s'->(∃a,Heap.SameBut a s.heap s'.heap/\(a=X.env.locals\/X.env.cells.lookup x=some a))->Q () s') (hf:X.fn x=true\/X.env.scope.names.lookup x=some .local:=by first | exact .inl rfl | exact .inr rfl | assumption):wpAny M A (storeName X.env x u) Q E s:=by
 obtain⟨m,hn,hl⟩:=id I.loc
 have hcls:(X.env.scope.kind==.class || (X.env.scope.kind==.module&&X.env.locals != X.env.globals))=false:=by rw[I.ok.kind]; rfl
 have V4:i<σ.length:=by rw[I.len]; exact(iM.mp hi).1
 have Tv:=I.Tv
 have tracked:∀{a:Addr} {h':Heap},(∃o,s.heap.get? a=some o/\H a=none)->Heap.SameBut a s.heap h'->j0 X.prog X.w H h':=fun {a h'} ha hs b ob e=>by
  obtain⟨_,_,hfree⟩:=ha
  refine(I.hok b ob e).stay (fun c w' hc q=>(hs.2 c ?_).trans q) (fun _ q=>q) fun _ _ q=>q
  rintro rfl
  rcases hc with rfl | hc
  ·rw[hfree] at e; cases e
  ·rw[hfree] at hc; cases hc
 rcases hx with hk | hk
 ·refine wpAny_storeName_local hk hn (fun h' hn' hs=>?_) hcls
  obtain⟨oL,_,_,hoL,_⟩:=id hn
  refine h _ ⟨I.ok,I.os,I.bare,⟨fun b o e n hb hx=>?_,fun b o e n hb hx=>?_,I.base.free,fun b o e hx=>?_,I.base.tups,I.base.vQ,I.base.xM⟩,⟨_,hn',fun j y v' e1 e2 e3=>?_⟩,fun y c e=>?_,I.free,I.jz,fun p hp=>?_,tracked ⟨oL,hoL,I.free⟩ hs,by simpa using I.len⟩ ⟨_,hs,.inl rfl⟩
  ·exact(hs.2 b (dH (lD (eQ e) I.ok.above))).trans (I.base.keep b o e n hb hx)
  ·obtain⟨sl,e1⟩:=I.base.slot b o e n hb hx
   exact⟨sl,(hs.2 b (dH (lD (eQ e) I.ok.above))).trans e1⟩
  ·obtain⟨o',e1⟩:=I.base.there b o e hx
   exact⟨o',(hs.2 b (dH (lD (eQ e) I.ok.above))).trans e1⟩
  ·by_cases hj:j=i
   ·subst hj
    rw[hi] at e1; cases e1
    rw[List.getElem?_set_self V4] at e2
    cases e2
    exact⟨u,r,.inl ⟨hk,by simp⟩⟩
   ·rw[List.getElem?_set_ne (Ne.symm hj)] at e2
    obtain⟨u',r',q⟩:=hl j y v' e1 e2 e3
    refine⟨u',r',?_⟩
    rcases q with⟨k,e⟩ | ⟨k,c,e,z⟩
    ·refine .inl ⟨k,?_⟩
     have:y≠x:=fun e=>hj (Bk hN e1 (e▸hi))
     simp[this,e]
    ·exact .inr ⟨k,c,e,z.sameBut hs (Tv y c e)⟩
  ·obtain⟨w',z⟩:=I.cell y c e
   exact⟨w',z.sameBut hs (Tv y c e)⟩
  ·obtain⟨e,n,ne,nf,d⟩:=I.pin p hp
   exact⟨(hs.2 p.1 ne).trans e,n,ne,nf,d⟩
 ·have hfn:X.fn x=true:=by
   rcases hf with z | z
   ·exact z
   ·rw[z] at hk; cases hk
  obtain⟨c,hc⟩:=I.ok.has x (.inl hk)
  obtain⟨w',z⟩:=I.cell x c hc
  refine wpAny_storeName_cell I.ok.kind hk hc z (fun h' hc' hs=>?_)
  obtain⟨oc,hoc,Yj⟩:=id z
  refine h { s with heap:=h' } ⟨I.ok,I.os,I.bare,⟨fun b o e n hb hx=>?_,fun b o e n hb hx=>?_,I.base.free,fun b o e hx=>?_,I.base.tups,I.base.vQ,I.base.xM⟩,⟨m,hn.sameBut hs (Ne.symm (Tv x c hc)),fun j y v' e1 e2 e3=>?_⟩,fun y c' e=>?_,I.free,I.jz,fun p hp=>?_,tracked ⟨oc,hoc,I.jz x c hc⟩ hs,by simpa using I.len⟩ ⟨c,hs,.inr hc⟩
  ·exact(hs.2 b (dH (lD (eQ e) (I.ok.cab x c hfn hc)))).trans (I.base.keep b o e n hb hx)
  ·obtain⟨sl,e1⟩:=I.base.slot b o e n hb hx
   exact⟨sl,(hs.2 b (dH (lD (eQ e) (I.ok.cab x c hfn hc)))).trans e1⟩
  ·obtain⟨o',e1⟩:=I.base.there b o e hx
   exact⟨o',(hs.2 b (dH (lD (eQ e) (I.ok.cab x c hfn hc)))).trans e1⟩
  ·by_cases hj:j=i
   ·subst hj
    rw[hi] at e1; cases e1
    rw[List.getElem?_set_self V4] at e2
    cases e2
    exact⟨u,r,.inr ⟨.inl hk,c,hc,hc'⟩⟩
   ·rw[List.getElem?_set_ne (Ne.symm hj)] at e2
    obtain⟨u',r',q⟩:=hl j y v' e1 e2 e3
    refine⟨u',r',?_⟩
    rcases q with q | ⟨k,c',e,z'⟩
    ·exact .inl q
    ·refine .inr ⟨k,c',e,z'.sameBut hs ?_⟩
     rintro rfl
     exact hj (Bk hN e1 (I.ok.inj _ _ _ e hc▸hi))
  ·by_cases hcc:c'=c
   ·subst hcc; exact⟨_,hc'⟩
   ·obtain⟨w2,z2⟩:=I.cell y c' e
    exact⟨w2,z2.sameBut hs hcc⟩
  ·obtain⟨e,n,ne,nf,d⟩:=I.pin p hp
   refine⟨(hs.2 p.1 ?_).trans e,n,ne,nf,d⟩
   intro q
   rw[q,hoc] at e
   have q':oc=p.2:=Option.some.inj e
   exact d w' (by rw[<- q']; exact Yj)
theorem jq {M:Model} {A:Around} {E:Value->Shared->Prop} {i:Nat} {x:Str} {v:V} {u:Value} {Q:Unit->Shared->Prop} (I:Inv X pins σ H s) (hN:X.N.Nodup) (hi:X.N[i]?=some x) (hx:Loc X.env.scope x) (r:RelV v u)
  (h:∀s',Inv X pins (σ.set i (some v)) H s'->Q () s') (hf:X.fn x=true\/X.env.scope.names.lookup x=some .local:=by first | exact .inl rfl | exact .inr rfl | assumption):wpAny M A (storeName X.env x u) Q E s:=
 Hj I hN hi hx r (fun s' I' _=>h s' I') hf
theorem Inv.call' {s':Shared} {ch:List Addr} (I:Inv X pins σ H s) (ho:s'.os=s.os) (u:Un (frs X.stack) ch H H' s.heap s'.heap) (hok:j0 X.prog X.w H' s'.heap) (hg:AllBare s'.gens)
  (hch:∀b∈ch,(b∈X.ex\/X.s₀.heap.objs.size<=b)/\b≠X.env.locals/\(∀x c,X.env.cells.lookup x=some c->c≠b)/\∀p∈X.pn++pins,p.1≠b):Inv X pins σ H' s':=by
 obtain⟨h',g',d',t',o'⟩:=s'
 have e:o'=s.os:=ho
 subst e
 exact I.call (g':=g') (t':=t') (d':=d') u hok hg hch
end
abbrev XK:=Value->Option Addr->Hp->Prop
abbrev St:=List (Option V)
abbrev VK:=V->Hp->Prop
abbrev TE:=St->Hp->VK->Prop
abbrev TT:=St->Hp->(Bool->Hp->Prop)->Prop
abbrev TA:=St->Hp->(List V->Hp->Prop)->Prop
structure Ends where
 nx:St->Hp->Prop
 rt:VK
 bk:St->Hp->Prop:=fun _ _=>False
 ct:St->Hp->Prop:=fun _ _=>False
abbrev TS:=Ends->St->Hp->Prop
def EP (X:Cx) (pins:List (Addr×Obj)) (σ:St) (Q:VK) (u:Value) (s':Shared):Prop:=∃v H',Inv X pins σ H' s'/\RelV v u/\Q v H'
def TP (X:Cx) (pins:List (Addr×Obj)) (σ:St) (Q:Bool->Hp->Prop) (b:Bool) (s':Shared):Prop:=∃H',Inv X pins σ H' s'/\Q b H'
def AP (X:Cx) (pins:List (Addr×Obj)) (σ:St) (Q:List V->Hp->Prop) (us:List Value) (s':Shared):Prop:=∃vs H',Inv X pins σ H' s'/\Vals vs us/\Q vs H'
def SP (X:Cx) (pins:List (Addr×Obj)) (D:Ends) (f:Flow) (s':Shared):Prop:=
 match f with
 | .next=>∃σ' H',Inv X pins σ' H' s'/\D.nx σ' H'
 | .brk=>∃σ' H',Inv X pins σ' H' s'/\D.bk σ' H'
 | .cont=>∃σ' H',Inv X pins σ' H' s'/\D.ct σ' H'
 | .ret u=>∃v σ' H',Inv X pins σ' H' s'/\RelV v u/\D.rt v H'
structure PE (X:Cx) (e:Expr) (t:TE):Prop where
 mk ::
 go :
 ∀(pins:List (Addr×Obj)) (s:Shared) (σ:St) (H:Hp) (Q:VK),Inv X pins σ H s->t σ H Q->wpAny (model X.prog X.w) X.A (eval e X.env) (EP X pins σ Q) X.xe s
instance {X:Cx} {e:Expr} {t:TE}:CoeFun (PE X e t) (fun _=>
 ∀(pins:List (Addr×Obj)) (s:Shared) (σ:St) (H:Hp) (Q:VK),Inv X pins σ H s->t σ H Q->wpAny (model X.prog X.w) X.A (eval e X.env) (EP X pins σ Q) X.xe s):=⟨PE.go⟩
structure PT (X:Cx) (e:Expr) (t:TT):Prop where
 mk ::
 go :
 ∀(pins:List (Addr×Obj)) (s:Shared) (σ:St) (H:Hp) (Q:Bool->Hp->Prop),Inv X pins σ H s->t σ H Q->wpAny (model X.prog X.w) X.A (isTrue e X.env (eval e X.env)) (TP X pins σ Q) X.xe s
instance {X:Cx} {e:Expr} {t:TT}:CoeFun (PT X e t) (fun _=>
 ∀(pins:List (Addr×Obj)) (s:Shared) (σ:St) (H:Hp) (Q:Bool->Hp->Prop),Inv X pins σ H s->t σ H Q->wpAny (model X.prog X.w) X.A (isTrue e X.env (eval e X.env)) (TP X pins σ Q) X.xe s):=⟨PT.go⟩
structure PW (X:Cx) (e:Expr) (t:TT):Prop where
 mk ::
 go :
 ∀(whole:Sem Value) (pins:List (Addr×Obj)) (s:Shared) (σ:St) (H:Hp) (Q:Bool->Hp->Prop),Inv X pins σ H s->t σ H Q->wpAny (model X.prog X.w) X.A (isTrue e X.env whole) (TP X pins σ Q) X.xe s
instance {X:Cx} {e:Expr} {t:TT}:CoeFun (PW X e t) (fun _=>
 ∀(whole:Sem Value) (pins:List (Addr×Obj)) (s:Shared) (σ:St) (H:Hp) (Q:Bool->Hp->Prop),Inv X pins σ H s->t σ H Q->wpAny (model X.prog X.w) X.A (isTrue e X.env whole) (TP X pins σ Q) X.xe s):=⟨PW.go⟩
theorem PW.pt {X:Cx} {e:Expr} {t:TT} (h:PW X e t):PT X e t:=.mk <| h _
structure PA (X:Cx) (es:List Expr) (t:TA):Prop where
 mk ::
 go :
 ∀(pos:Pos) (pins:List (Addr×Obj)) (s:Shared) (σ:St) (H:Hp) (Q:List V->Hp->Prop),Inv X pins σ H s->t σ H Q->wpAny (model X.prog X.w) X.A (spliced (backTo pos (starEach es X.env))) (AP X pins σ Q) X.xe s
instance {X:Cx} {es:List Expr} {t:TA}:CoeFun (PA X es t) (fun _=>
 ∀(pos:Pos) (pins:List (Addr×Obj)) (s:Shared) (σ:St) (H:Hp) (Q:List V->Hp->Prop),Inv X pins σ H s->t σ H Q->wpAny (model X.prog X.w) X.A (spliced (backTo pos (starEach es X.env))) (AP X pins σ Q) X.xe s):=⟨PA.go⟩
structure PS (X:Cx) (st:Stmt) (t:TS):Prop where
 mk ::
 go :
 ∀(pins:List (Addr×Obj)) (s:Shared) (σ:St) (H:Hp) (D:Ends),Inv X pins σ H s->t D σ H->wpAny (model X.prog X.w) X.A (exec st X.env) (SP X pins D) X.xe s
instance {X:Cx} {st:Stmt} {t:TS}:CoeFun (PS X st t) (fun _=>
 ∀(pins:List (Addr×Obj)) (s:Shared) (σ:St) (H:Hp) (D:Ends),Inv X pins σ H s->t D σ H->wpAny (model X.prog X.w) X.A (exec st X.env) (SP X pins D) X.xe s):=⟨PS.go⟩
structure zL (X:Cx) (st:List Stmt) (t:TS):Prop where
 mk ::
 go :
 ∀(pins:List (Addr×Obj)) (s:Shared) (σ:St) (H:Hp) (D:Ends),Inv X pins σ H s->t D σ H->wpAny (model X.prog X.w) X.A (execs st X.env) (SP X pins D) X.xe s
instance {X:Cx} {st:List Stmt} {t:TS}:CoeFun (zL X st t) (fun _=>
 ∀(pins:List (Addr×Obj)) (s:Shared) (σ:St) (H:Hp) (D:Ends),Inv X pins σ H s->t D σ H->wpAny (model X.prog X.w) X.A (execs st X.env) (SP X pins D) X.xe s):=⟨zL.go⟩
theorem bN {α:Type} {t:Sem α} {Q Q':α->Shared->Prop} {M:Model} {A:Around} {E:Value->Shared->Prop} {s:Shared} (h:wpAny M A t Q E s) (hQ:∀a s,Q a s->Q' a s):wpAny M A t Q' E s:=dN h hQ fun _ _ x=>x
section
variable {X:Cx}
def oW (i:Nat):TE:=fun σ H Q=>match σ[i]? with
 | some (some v)=>Q v H
 | _=>False
theorem oW.ex {i:Nat} {σ:St} {H:Hp} {Q:VK} (h:oW i σ H Q):∃v,σ[i]?=some (some v)/\Q v H:=by
 unfold oW at h
 split at h
 ·rename_i v e
  exact⟨v,e,h⟩
 ·exact h.elim
def tC (v:V):TE:=fun _ H Q=>Q v H
theorem RT {i:Nat} {x:Str} {pos:Pos} (hN:X.N[i]?=some x) (hv:WX X.env.scope x) (hd:(x==("__debug__" : Str))=false:=by decide) (hcd:(x==("__classdict__" : Str))=false:=by decide):PE X (.Name x pos) (oW i):=by
 refine .mk ?_
 intro pins s σ H Q I h
 obtain⟨v,e,h⟩:=oW.ex h
 obtain⟨m,hn,hl⟩:=I.loc
 obtain⟨u,r,l⟩:=hl i x v hN e hv
 have fin:EP X pins σ Q u s:=⟨v,H,I,r,h⟩
 rcases l with⟨hk,hm⟩ | ⟨hk,c,hc,hcell⟩
 ·exact wpAny_Name (wpAny_loadName_local I.ok.kind hk hn hm fin) hd
 ·rcases hk with hk | hk
  ·exact wpAny_Name (wpAny_loadName_cell I.ok.kind hk hc hcell fin) hd
  ·exact wpAny_Name (wpAny_loadName_free I.ok.kind hk hc hcell fin hcd) hd
theorem ao {i j pos}:PE X (.Constant (.int i) j pos) (tC (.int i)):=.mk <| fun _ _ _ H _ I h=>wpAny_Constant_int ⟨.int i,H,I.tok _,⟨_,rfl⟩,h⟩
theorem fU {b j pos}:PE X (.Constant (.bool b) j pos) (tC (.bl b)):=.mk <| fun _ _ _ H _ I h=>Constant_bool ⟨.bl b,H,I,rfl,h⟩
theorem yz {j pos}:PE X (.Constant .none j pos) (tC .non):=.mk <| fun _ _ _ H _ I h=>Constant_none ⟨.non,H,I,rfl,h⟩
theorem gb {x j pos}:PE X (.Constant (.str x) j pos) (tC (.str x)):=.mk <| fun _ _ _ H _ I h=>Calls.Constant_str ⟨.str x,H,I.tok _,⟨_,rfl⟩,h⟩
def Gl (X:Cx) (x:Str):Prop:=X.env.kindOf x=some .globalImplicit
theorem pN {E:Value->Shared->Prop} {pins:List (Addr×Obj)} {s:Shared} {σ:St} {H:Hp} {x:Str} {u:Value} {pos:Pos} {Q:Value->Shared->Prop} (I:Inv X pins σ H s) (hg:Gl X x) (hm:X.mg x=some u) (h:Q u s)
  (hd:(x==("__debug__" : Str))=false:=by decide):wpAny (model X.prog X.w) X.A (eval (.Name x pos) X.env) Q E s:=
 Calls.Name_function_global I.ok.kind hg (Calls.loadGlobal_global (by rw[I.ok.glob]; exact I.mod.glob.keeps I.bk) hm h) hd
theorem jj {E:Value->Shared->Prop} {pins:List (Addr×Obj)} {s:Shared} {σ:St} {H:Hp} {x:Str} {u:Value} {pos:Pos} {Q:Value->Shared->Prop} (I:Inv X pins σ H s) (hg:Gl X x) (hm:X.mg x=none) (hv:bootBuiltins x=some u) (h:Q u s)
  (hn:x ≠ "__name__" := by decide) (hd:(x==("__debug__" : Str))=false:=by decide):wpAny (model X.prog X.w) X.A (eval (.Name x pos) X.env) Q E s:=by
 obtain⟨mb,h1,h2⟩:=I.mod.blt
 exact Calls.Name_function_global I.ok.kind hg (Calls.loadGlobal_builtin (by rw[I.ok.glob]; exact I.mod.glob.keeps I.bk) hm (by rw[I.ok.blt]; exact h1.keeps I.bk) ((h2 x hn).trans hv) h) hd
theorem sy {x:Str} {v:V} {u:Value} {pos:Pos} (hg:Gl X x) (hm:X.mg x=some u) (r:RelV v u) (hd:(x==("__debug__" : Str))=false:=by decide):PE X (.Name x pos) (tC v):=
 .mk <| fun _ _ _ H _ I h=>pN I hg hm ⟨v,H,I,r,h⟩ hd
theorem Ou {x:Str} {v:V} {u:Value} {pos:Pos} (hg:Gl X x) (hm:X.mg x=none) (hv:bootBuiltins x=some u) (r:RelV v u) (hn:x ≠ "__name__" := by decide) (hd:(x==("__debug__" : Str))=false:=by decide):PE X (.Name x pos) (tC v):=
 .mk <| fun _ _ _ H _ I h=>jj I hg hm hv ⟨v,H,I,r,h⟩ hn hd
variable {a b:Expr} {ta tb:TE} {pos:Pos}
def tB (t:TE):TT:=fun σ H Q=>t σ H fun x H1=>∃c,x=.bl c/\Q c H1
theorem bT {e:Expr} {t:TE} (h:PE X e t) (he:∀whole,isTrue e X.env whole=(do let v <- whole; standAt e.pos; holding [v] (truthy v)):=by intro _; rfl):PT X e (tB t):=by
 refine .mk ?_
 intro pins s σ H Q I hw
 refine isTrue_plain (bN (h pins s σ H _ I hw) fun v s1 ⟨x,H1,I1,r1,q1⟩=>?_) (he _)
 obtain⟨d,rfl,q⟩:=q1
 cases r1
 exact ym ⟨H1,I1,q⟩
variable {tA Wu:TT} {rest:List Expr}
def U9 (t u:TT):TT:=fun σ H Q=>t σ H fun c H1=>if c=true then u σ H1 Q else Q false H1
def Zx (t u:TT):TT:=fun σ H Q=>t σ H fun c H1=>if c=true then Q true H1 else u σ H1 Q
def U6 (t:TT):TT:=fun σ H Q=>t σ H fun c H1=>Q (!c) H1
theorem FJ (ha:PT X a tA):PW X (.BoolOp .And [a] pos) tA:=by
 refine .mk ?_
 intro wh pins s σ H Q I h
 refine isTrue_and (bN (ha pins s σ H Q I h) fun c s1 e=>?_)
 cases c with
 | true=>exact isTrue_and_nil e
 | false=>exact e
theorem jK (ha:PT X a tA):PW X (.BoolOp .Or [a] pos) tA:=by
 refine .mk ?_
 intro wh pins s σ H Q I h
 refine isTrue_or (bN (ha pins s σ H Q I h) fun c s1 e=>?_)
 cases c with
 | false=>exact isTrue_or_nil e
 | true=>exact e
theorem Kw (ha:PT X a tA) (hb:PW X (.BoolOp .And (b::rest) pos) Wu):PW X (.BoolOp .And (a::b::rest) pos) (U9 tA Wu):=by
 refine .mk ?_
 intro wh pins s σ H Q I h
 refine isTrue_and (bN (ha pins s σ H _ I h) fun c s1 qx=>?_)
 obtain⟨H1,I1,q1⟩:=qx
 cases c with
 | true=>exact hb wh pins s1 σ H1 Q I1 q1
 | false=>exact⟨H1,I1,q1⟩
theorem pJ (ha:PT X a tA) (hb:PW X (.BoolOp .Or (b::rest) pos) Wu):PW X (.BoolOp .Or (a::b::rest) pos) (Zx tA Wu):=by
 refine .mk ?_
 intro wh pins s σ H Q I h
 refine isTrue_or (bN (ha pins s σ H _ I h) fun c s1 qx=>?_)
 obtain⟨H1,I1,q1⟩:=qx
 cases c with
 | true=>exact⟨H1,I1,q1⟩
 | false=>exact hb wh pins s1 σ H1 Q I1 q1
theorem fZ (ha:PT X a tA):PT X (.UnaryOp .Not a pos) (U6 tA):=by
 refine .mk ?_
 intro pins s σ H Q I h
 exact isTrue_not (ha pins s σ H (fun c H1=>Q (!c) H1) I h)
def Qx (ta tb:TE):TE:=fun σ H Q=>ta σ H fun x H1=>∃c,x=.bl c/\if c=true then tb σ H1 Q else Q (.bl false) H1
def Xf (ta tb:TE):TE:=fun σ H Q=>ta σ H fun x H1=>∃c,x=.bl c/\if c=true then Q (.bl true) H1 else tb σ H1 Q
def Qs (ta:TE):TE:=fun σ H Q=>ta σ H fun x H1=>∃c,x=.bl c/\Q (.bl (!c)) H1
theorem jM {op} {t:TE} (h:PE X a t):PE X (.BoolOp op [a] pos) t:=.mk <| fun pins s σ H Q I hw=>BoolOp_one (h pins s σ H Q I hw)
theorem cR (ha:PE X a ta) (hb:PE X (.BoolOp .And (b::rest) pos) tb):PE X (.BoolOp .And (a::b::rest) pos) (Qx ta tb):=by
 refine .mk ?_
 intro pins s σ H Q I h
 refine BoolOp_and (bN (ha pins s σ H _ I h) fun v s1 qx=>?_)
 obtain⟨x,H1,I1,r1,q1⟩:=qx
 obtain⟨c,rfl,q1⟩:=q1
 cases r1
 refine ym ?_
 cases c with
 | true=>exact hb pins s1 σ H1 Q I1 q1
 | false=>exact⟨.bl false,H1,I1,rfl,q1⟩
theorem RV (ha:PE X a ta):PE X (.UnaryOp .Not a pos) (Qs ta):=by
 refine .mk ?_
 intro pins s σ H Q I h
 refine UnaryOp_ (bN (ha pins s σ H _ I h) fun v s1 qx=>?_)
 obtain⟨x,H1,I1,r1,q1⟩:=qx
 obtain⟨c,rfl,q1⟩:=q1
 cases r1
 exact not_of (ym ⟨.bl (!c),H1,I1,rfl,q1⟩)
def Xg (t:TT) (ta tb:TE):TE:=fun σ H Q=>t σ H fun c H1=>if c=true then ta σ H1 Q else tb σ H1 Q
theorem cu {c:Expr} (hc:PT X c tA) (ha:PE X a ta) (hb:PE X b tb):PE X (.IfExp c a b pos) (Xg tA ta tb):=by
 refine .mk ?_
 intro pins s σ H Q I h
 refine wpAny_IfExp (bN (hc pins s σ H _ I h) fun d s1 qx=>?_)
 obtain⟨H1,I1,q1⟩:=qx
 cases d with
 | true=>exact ha pins s1 σ H1 Q I1 q1
 | false=>exact hb pins s1 σ H1 Q I1 q1
end
def fQ (K:PySem.W.Frag) (H:Hp) (a:Addr) (xs:List V):Prop:=
 Rd H a (.lst xs) \/
  ∃(o:Obj) (its:Array Value) (n:Nat),K.lookup a=some o/\o.cls=.type "list" /\ o.dict=none/\o.data=.seq its n/\its.size<=sizeLine/\Vals xs its.toList
def bW (K:PySem.W.Frag) (H:Hp) (a:Addr) (xs:List V):Prop:=
 Rd H a (.tup xs) \/
  ∃(o:Obj) (its:Array Value) (n:Nat),K.lookup a=some o/\o.cls=.type "tuple" /\ o.data=.seq its n/\its.size<=sizeLine/\Vals xs its.toList
def Za:Value->Option V
 | .none=>some .non
 | .bool b=>some (.bl b)
 | .int i _=>some (.int i)
 | .str x _=>some (.str x)
 | .bytes b _=>some (.Jv b)
 | .float b _=>some (.flt b)
 | .ref a=>some (.ref a)
 | .type n=>some (.ty n)
 | _=>none
theorem RelV.abs {x:V} {u:Value} (r:RelV x u):Za u=some x:=by
 cases x with
 | non=>cases r; rfl
 | bl _=>cases r; rfl
 | int _=>obtain⟨t,rfl⟩:=r; rfl
 | str _=>obtain⟨t,rfl⟩:=r; rfl
 | Jv _=>obtain⟨t,rfl⟩:=r; rfl
 | flt _=>obtain⟨t,rfl⟩:=r; rfl
 | ref _=>cases r; rfl
 | ty _=>cases r; rfl
theorem RelV.inj {x y:V} {u:Value} (r:RelV x u) (q:RelV y u):x=y:=Option.some.inj (r.abs.symm.trans q.abs)
theorem Vals.inj:∀{xs ys:List V} {us:List Value},Vals xs us->Vals ys us->xs=ys
 | _,_,_,.nil,.nil=>rfl
 | _,_,_,.cons r t,.cons r' t'=>by rw[r.inj r',Vals.inj t t']
section
variable {X:Cx} {pins:List (Addr×Obj)} {σ:St} {H:Hp} {s:Shared} {a:Addr} {xs ys:List V}
theorem fQ.of {K:PySem.W.Frag} (h:H a=some (.lst xs)):fQ K H a xs:=.inl (.inl h)
theorem bW.of {K:PySem.W.Frag} (h:H a=some (.tup xs)):bW K H a xs:=.inl (.inl h)
theorem Inv.list (I:Inv X pins σ H s) (h:fQ X.K H a xs):∃its:List Value,Vals xs its/\PlainL s.heap a its.toArray/\xs.length<=sizeLine:=by
 rcases h with h | ⟨o,its,n,hk,hc,hd,hs,hz,r⟩
 ·obtain⟨z,its,n,r,e⟩:=h.ok I.hok
  exact⟨its,r,⟨_,n,e,rfl,rfl,rfl⟩,z⟩
 ·refine⟨its.toList,r,⟨o,n,I.vB a o hk,hc,hd,by simpa using hs⟩,?_⟩
  have e:=r.length
  simp only[Array.length_toList] at e
  omega
theorem Inv.tuple (I:Inv X pins σ H s) (h:bW X.K H a xs):∃its:List Value,Vals xs its/\IsTup s.heap a its.toArray/\xs.length<=sizeLine:=by
 rcases h with h | ⟨o,its,n,hk,hc,hs,hz,r⟩
 ·obtain⟨z,its,r,p⟩:=h.ok I.hok
  exact⟨its,r,p,z⟩
 ·refine⟨its.toList,r,⟨o,I.vB a o hk,hc,n,by simpa using hs⟩,?_⟩
  have e:=r.length
  simp only[Array.length_toList] at e
  omega
theorem Inv.Bw (I:Inv X pins σ H s) (h:fQ X.K H a xs) (h':fQ X.K H a ys):xs=ys:=by
 obtain⟨its,r,⟨o,n,e,_,_,d⟩,_⟩:=I.list h
 obtain⟨its',r',⟨o',n',e',_,_,d'⟩,_⟩:=I.list h'
 rw[e] at e'; cases e'
 rw[d] at d'
 injection d' with d1 _
 have:its=its':=by simpa using rJ Array.toList d1
 subst this
 exact r.inj r'
theorem Inv.qi (I:Inv X pins σ H s) (h:bW X.K H a xs) (h':bW X.K H a ys):xs=ys:=by
 obtain⟨its,r,⟨o,e,_,n,d⟩,_⟩:=I.tuple h
 obtain⟨its',r',⟨o',e',_,n',d'⟩,_⟩:=I.tuple h'
 rw[e] at e'; cases e'
 rw[d] at d'
 injection d' with d1 _
 have:its=its':=by simpa using rJ Array.toList d1
 subst this
 exact r.inj r'
end
abbrev Cx.wish (X:Cx) (E:Value->Shared->Prop):Cx:={ X with xe:=E }
abbrev Cx.Ua (X:Cx):Cx:=X.wish fun _ _=>False
theorem Cx.Ok.wish {X:Cx} (ok:X.Ok) (E:Value->Shared->Prop):(X.wish E).Ok:=
 ⟨ok.mod,ok.kind,ok.glob,ok.blt,ok.above,ok.inj,ok.has,ok.cab,ok.hd,ok.frames,ok.Vb,ok.Wb,ok.bs,ok.MK,ok.DP,ok.Ea,ok.rZ,ok.Tg⟩
theorem Cx.Ok.kh {X:Cx} {E:Value->Shared->Prop} (ok:(X.wish E).Ok):X.Ok:=
 ⟨ok.mod,ok.kind,ok.glob,ok.blt,ok.above,ok.inj,ok.has,ok.cab,ok.hd,ok.frames,ok.Vb,ok.Wb,ok.bs,ok.MK,ok.DP,ok.Ea,ok.rZ,ok.Tg⟩
section
variable {X:Cx} {pins:List (Addr×Obj)} {σ:St} {H:Hp} {s:Shared} {E:Value->Shared->Prop}
theorem Inv.wish (I:Inv X pins σ H s) (E:Value->Shared->Prop):Inv (X.wish E) pins σ H s:=⟨I.ok.wish E,I.os,I.bare,I.base,I.loc,I.cell,I.free,I.jz,I.pin,I.hok,I.len⟩
theorem Inv.kh (I:Inv (X.wish E) pins σ H s):Inv X pins σ H s:=⟨I.ok.kh,I.os,I.bare,I.base,I.loc,I.cell,I.free,I.jz,I.pin,I.hok,I.len⟩
theorem SP.kh {D:Ends} {f:Flow} {s':Shared} (h:SP (X.wish E) pins D f s'):SP X pins D f s':=by
 cases f with
 | next=>obtain⟨σ',H',I,q⟩:=h; exact⟨σ',H',I.kh,q⟩
 | brk=>obtain⟨σ',H',I,q⟩:=h; exact⟨σ',H',I.kh,q⟩
 | cont=>obtain⟨σ',H',I,q⟩:=h; exact⟨σ',H',I.kh,q⟩
 | ret u=>obtain⟨v,σ',H',I,r,q⟩:=h; exact⟨v,σ',H',I.kh,r,q⟩
theorem zL.Ua {st:List Stmt} {t:TS} (h:zL X.Ua st t):zL X st t:=.mk <| fun pins s σ H D I hw=>
 dN (h pins s σ H D (I.wish _) hw) (fun _ _ q=>q.kh) fun _ _ z=>False.elim z
end
section
variable {X:Cx} {st:Stmt} {rest:List Stmt} {t u:TS} {e:Expr} {te:TE} {pos:Pos}
def EY:TS:=fun D σ H=>D.nx σ H
def Hh (t u:TS):TS:=fun D σ H=>t { D with nx:=u D } σ H
theorem bz:zL X [] EY:=.mk <| fun _ _ σ H _ I h=>Kd ⟨σ,H,I,h⟩
theorem aq (h1:PS X st t) (h2:zL X rest u):zL X (st::rest) (Hh t u):=by
 refine .mk ?_
 intro pins s σ H D I h
 refine wpAny_execs_cons (bN (h1 pins s σ H { D with nx:=u D } I h) fun f s1 q=>?_)
 cases f with
 | next=>
  obtain⟨σ',H',I',q⟩:=q
  exact h2 pins s1 σ' H' D I' q
 | ret v=>exact q
 | brk=>exact q
 | cont=>exact q
theorem aC (h1:PS X st t):zL X [st] t:=by
 refine .mk ?_
 intro pins s σ H D I h
 refine wpAny_execs_cons (bN (h1 pins s σ H D I h) fun f s1 q=>?_)
 cases f with
 | next=>exact Kd q
 | ret v=>exact q
 | brk=>exact q
 | cont=>exact q
theorem Inv.quiet {pins:List (Addr×Obj)} {σ:St} {H:Hp} {s:Shared} (I:Inv X pins σ H s):interactive X.env=false:=by simp[interactive,I.ok.kind]
def Qv (te:TE):TS:=fun D σ H=>te σ H fun _ H1=>D.nx σ H1
theorem iW (he:PE X e te) (hs:swapsWith e none pos.line X.env=pure false:=by rfl):PS X (.Expr e pos) (Qv te):=by
 refine .mk ?_
 intro pins s σ H D I h
 exact wpAny_Expr_any (bN (he pins s σ H _ I h) fun v s1 ⟨x,H1,I1,r1,q1⟩=>⟨σ,H1,I1,q1⟩) I.quiet hs
def Nt (te:TE):TS:=fun D σ H=>te σ H D.rt
theorem aK (he:PE X e te):PS X (.Return (some e) pos) (Nt te):=by
 refine .mk ?_
 intro pins s σ H D I h
 exact wpAny_Return_some (bN (he pins s σ H _ I h) fun v s1 ⟨x,H1,I1,r1,q1⟩=>⟨x,σ,H1,I1,r1,q1⟩)
def U3:TS:=fun D _ H=>D.rt .non H
def Nu (c:TT) (t u:TS):TS:=fun D σ H=>c σ H fun b H1=>if b=true then t D σ H1 else u D σ H1
theorem bQ {c:Expr} {a b:List Stmt} {tc:TT} (hc:PT X c tc) (ha:zL X a t) (hb:zL X b u):PS X (.If c a b pos) (Nu tc t u):=by
 refine .mk ?_
 intro pins s σ H D I h
 refine wpAny_If (bN (hc pins s σ H _ I h) fun d s1 qx=>?_)
 obtain⟨H1,I1,q1⟩:=qx
 cases d with
 | true=>exact ha pins s1 σ H1 D I1 q1
 | false=>exact hb pins s1 σ H1 D I1 q1
end
abbrev TG:=V->St->Hp->(St->Hp->Prop)->Prop
abbrev MN:=List V->St->Hp->(St->Hp->Prop)->Prop
structure PG (X:Cx) (target:Expr) (t:TG):Prop where
 mk ::
 go :
 ∀(pins:List (Addr×Obj)) (s:Shared) (σ:St) (H:Hp) (v:V) (u:Value) (Q:St->Hp->Prop),Inv X pins σ H s->RelV v u->t v σ H Q ->
  wpAny (model X.prog X.w) X.A (assign target X.env u) (fun _ s'=>∃σ' H',Inv X pins σ' H' s'/\Q σ' H') X.xe s
instance {X:Cx} {target:Expr} {t:TG}:CoeFun (PG X target t) (fun _=>
 ∀(pins:List (Addr×Obj)) (s:Shared) (σ:St) (H:Hp) (v:V) (u:Value) (Q:St->Hp->Prop),Inv X pins σ H s->RelV v u->t v σ H Q ->
  wpAny (model X.prog X.w) X.A (assign target X.env u) (fun _ s'=>∃σ' H',Inv X pins σ' H' s'/\Q σ' H') X.xe s):=⟨PG.go⟩
structure TY (X:Cx) (ts:List Expr) (t:MN):Prop where
 mk ::
 go :
 ∀(pins:List (Addr×Obj)) (s:Shared) (σ:St) (H:Hp) (vs:List V) (us:List Value) (Q:St->Hp->Prop),Inv X pins σ H s->Vals vs us->t vs σ H Q ->
  wpAny (model X.prog X.w) X.A (assignInOrder ((assignEach ts X.env).map (·.2)) us) (fun _ s'=>∃σ' H',Inv X pins σ' H' s'/\Q σ' H') X.xe s
instance {X:Cx} {ts:List Expr} {t:MN}:CoeFun (TY X ts t) (fun _=>
 ∀(pins:List (Addr×Obj)) (s:Shared) (σ:St) (H:Hp) (vs:List V) (us:List Value) (Q:St->Hp->Prop),Inv X pins σ H s->Vals vs us->t vs σ H Q ->
  wpAny (model X.prog X.w) X.A (assignInOrder ((assignEach ts X.env).map (·.2)) us) (fun _ s'=>∃σ' H',Inv X pins σ' H' s'/\Q σ' H') X.xe s):=⟨TY.go⟩
abbrev Jg:=V->V->V->Hp->(Hp->Prop)->Prop
structure Jh (X:Cx) (t:Jg):Prop where
 mk ::
 go :
 ∀(pins:List (Addr×Obj)) (s:Shared) (σ:St) (H:Hp) (o i v:V) (ov iv u:Value) (Q:Hp->Prop),Inv X pins σ H s->RelV o ov->RelV i iv->RelV v u->t o i v H Q ->
  wpAny (model X.prog X.w) X.A (setItem ov iv u) (fun _ s'=>∃H',Inv X pins σ H' s'/\Q H') X.xe s
instance {X:Cx} {t:Jg}:CoeFun (Jh X t) (fun _=>
 ∀(pins:List (Addr×Obj)) (s:Shared) (σ:St) (H:Hp) (o i v:V) (ov iv u:Value) (Q:Hp->Prop),Inv X pins σ H s->RelV o ov->RelV i iv->RelV v u->t o i v H Q ->
  wpAny (model X.prog X.w) X.A (setItem ov iv u) (fun _ s'=>∃H',Inv X pins σ H' s'/\Q H') X.xe s):=⟨Jh.go⟩
abbrev Ug:=V->V->Hp->VK->Prop
def W3 (X:Cx) (op:Operator) (t:Ug):Prop:=
 ∀(pins:List (Addr×Obj)) (s:Shared) (σ:St) (H:Hp) (x y:V) (v u:Value) (Q:VK),Inv X pins σ H s->RelV x v->RelV y u->t x y H Q ->
  wpAny (model X.prog X.w) X.A (inplaceOp op v u) (EP X pins σ Q) X.xe s
section
variable {X:Cx} {pos:Pos}
def cF (i:Nat):TG:=fun v σ H Q=>Q (σ.set i (some v)) H
theorem aD {i:Nat} {x:Str} (hN:X.N.Nodup) (hi:X.N[i]?=some x) (hx:Loc X.env.scope x) (hf:X.fn x=true\/X.env.scope.names.lookup x=some .local:=by first | exact .inl rfl | exact .inr rfl | assumption):PG X (.Name x pos) (cF i):=by
 refine .mk ?_
 intro pins s σ H v u Q I r h
 exact wpAny_assign_Name (jq I hN hi hx r (fun s' I'=>⟨_,H,I',h⟩) hf)
def y_:MN:=fun vs σ H Q=>match vs with
 | []=>Q σ H
 | _=>False
theorem y_.ex {vs:List V} {σ:St} {H:Hp} {Q:St->Hp->Prop} (h:y_ vs σ H Q):vs=[]/\Q σ H:=by
 cases vs with
 | nil=>exact⟨rfl,h⟩
 | cons a b=>exact h.elim
def jy (t:TG) (u:MN):MN:=fun vs σ H Q=>match vs with
 | v::r=>t v σ H fun σ' H'=>u r σ' H' Q
 | []=>False
theorem jy.ex {t:TG} {u:MN} {vs:List V} {σ:St} {H:Hp} {Q:St->Hp->Prop} (h:jy t u vs σ H Q):∃v r,vs=v::r/\t v σ H fun σ' H'=>u r σ' H' Q:=by
 cases vs with
 | nil=>exact h.elim
 | cons a b=>exact⟨a,b,rfl,h⟩
theorem b7:TY X [] y_:=by
 refine .mk ?_
 intro pins s σ H vs us Q I r h
 obtain⟨e,h⟩:=y_.ex h
 subst e
 cases r
 exact assignInOrder_nil ⟨σ,H,I,h⟩
theorem aF {e:Expr} {es:List Expr} {t:TG} {u:MN} (h1:PG X e t) (h2:TY X es u)
  (hs:(assignEach (e::es) X.env).map (·.2)=assign e X.env::(assignEach es X.env).map (·.2):=by rfl):TY X (e::es) (jy t u):=by
 refine .mk ?_
 intro pins s σ H vs us Q I r h
 obtain⟨v,vr,e1,h⟩:=jy.ex h
 subst e1
 cases r with
 | cons r rr=>
  rw[hs]
  refine assignInOrder_cons (bN (h1 pins s σ H _ _ _ I r h) fun _ s1 qx=>?_)
  obtain⟨σ1,H1,I1,q1⟩:=qx
  exact h2 pins s1 σ1 H1 _ _ Q I1 rr q1
def Ir (K:PySem.W.Frag) (n:Nat) (t:MN):TG:=fun v σ H Q=>∃a xs,v=.ref a/\bW K H a xs/\xs.length=n/\t xs σ H Q
theorem RQ {es:List Expr} {k:Nat} {t:MN} {n:Nat} (hc:X.calm=true) (h:TY X es t)
  (hn:(assignEach es X.env).length=n:=by rfl) (hst:(assignEach es X.env).findIdx? (·.1)=none:=by rfl):PG X (.Tuple es k pos) (Ir X.K n t):=by
 refine .mk ?_
 intro pins s σ H v u Q I r hw
 obtain⟨a,xs,e1,hq,hl,hw⟩:=hw
 subst e1
 cases r
 obtain⟨its,rv,ht,hz⟩:=I.tuple hq
 refine assign_Tuple_tuple (I.ok.hd hc) ht (by simp[hn,<- hl,rv.length]) hst fun h' hx=>?_
 have I1:Inv X pins σ H { s with heap:=h' }:=I.kept (t':=s.toks) fun b o e=>hx b o (dH (eQ e)) e
 exact h pins _ σ H xs _ Q I1 (by simpa using rv) hw
def V7 (to ti:TE) (t:Jg):TG:=fun v σ H Q=>to σ H fun o H1=>ti σ H1 fun i H2=>t o i v H2 fun H3=>Q σ H3
theorem Dt {o i:Expr} {to ti:TE} {t:Jg} (ho:PE X o to) (hi:PE X i ti) (hs:Jh X t)
  (ha:∀v,assign (.Subscript o i pos) X.env v=(do
   let ov <- holding [v] (eval o X.env)
   let iv <- holding [v,ov] (eval i X.env)
   standAt pos
   holding [v,ov,iv] (setItem ov iv v)
   release [v,ov,iv] []):=by intro _; rfl):PG X (.Subscript o i pos) (V7 to ti t):=by
 refine .mk ?_
 intro pins s σ H v u Q I r h
 rw[ha]
 refine aW (Ai (bN (ho pins s σ H _ I h) fun ov s1 qx=>?_))
 obtain⟨x,H1,I1,r1,q1⟩:=qx
 refine aW (Ai (bN (hi pins s1 σ H1 _ I1 q1) fun iv s2 qx=>?_))
 obtain⟨y,H2,I2,r2,q2⟩:=qx
 refine aW (ye (aW (Ai (bN (hs pins s2 σ H2 x y v ov iv u _ I2 r1 r2 r q2) fun _ s3 qx=>?_))))
 obtain⟨H3,I3,q3⟩:=qx
 exact wpAny_release ⟨σ,H3,I3,q3⟩
def zZ (te:TE) (g:TG):TS:=fun D σ H=>te σ H fun x H1=>g x σ H1 D.nx
theorem cQ {tg e:Expr} {te:TE} {g:TG} (he:PE X e te) (hg:PG X tg g) (hs:swapsWithSole [tg] e pos.line X.env=pure false:=by rfl) (hw:swappedStores [tg] e X.env=pure none:=by rfl)
  (h1:(assignEach [tg] X.env).map (·.2)=[assign tg X.env]:=by rfl):PS X (.Assign [tg] e pos) (zZ te g):=by
 refine .mk ?_
 intro pins s σ H D I h
 refine wpAny_Assign_stores (bN (he pins s σ H _ I h) fun v s1 ⟨x,H1,I1,r1,q1⟩=>?_) hs hw
 rw[h1]
 exact bN (hg pins s1 σ H1 x v _ I1 r1 q1) fun _ s2 q=>q
theorem aV {i:Nat} {x:Str} {e:Expr} {te:TE} {pos':Pos} (hN:X.N.Nodup) (hi:X.N[i]?=some x) (hx:Loc X.env.scope x) (he:PE X e te) (hs:swapsWith e (some (.Name x pos')) pos.line X.env=pure false:=by rfl) (hf:X.fn x=true\/X.env.scope.names.lookup x=some .local:=by first | exact .inl rfl | exact .inr rfl | assumption) :
  PS X (.Assign [.Name x pos'] e pos) (zZ te (cF i)):=by
 refine .mk ?_
 intro pins s σ H D I h
 refine wpAny_Assign_Name (bN (he pins s σ H _ I h) fun v s1 ⟨y,H1,I1,r1,q1⟩=>?_) hs
 exact jq I1 hN hi hx r1 (fun s2 I2=>⟨_,H1,I2,q1⟩) hf
def U5 (i j:Nat) (ta:TA):TS:=fun D σ H=>ta σ H fun vs H1=>∃v w,vs=[v,w]/\D.nx ((σ.set i (some v)).set j (some w)) H1
theorem uw {i j:Nat} {x y:Str} {a b:Expr} {ta:TA} {px py pt:Pos} {kt k2 XD} (hc:X.calm=true) (hN:X.N.Nodup) (hi:X.N[i]?=some x) (hj:X.N[j]?=some y) (hij:i≠j)
  (hx:X.env.scope.names.lookup x=some .local) (hy:X.env.scope.names.lookup y=some .local) (ha:PA X [a,b] ta)
  (hw:swappedStores [.Tuple [.Name x px,.Name y py] kt pt] (.Tuple [a,b] k2 XD) X.env=pure (some [x,y]))
  (hs:swapsWithSole [.Tuple [.Name x px,.Name y py] kt pt] (.Tuple [a,b] k2 XD) pos.line X.env=pure false:=by rfl) :
  PS X (.Assign [.Tuple [.Name x px,.Name y py] kt pt] (.Tuple [a,b] k2 XD) pos) (U5 i j ta):=by
 refine .mk ?_
 intro pins s σ H D I h
 rw[exec_Assign_arm]
 refine aW (ye ?_)
 rw[hs]
 refine aW (bR ?_)
 rw[aX (by decide)]
 refine aW (Tuple_ (bN (ha _ pins s σ H _ I h) fun us s1 qx=>?_))
 obtain⟨vs,H1,I1,r1,q1⟩:=qx
 obtain⟨v,w,e1,q1⟩:=q1
 subst e1
 obtain⟨u1,u2,rfl,rv,Hq⟩:∃u1 u2,us=[u1,u2]/\RelV v u1/\RelV w u2:=by
  cases r1 with
  | cons p q=>
   cases q with
   | cons p' q'=>
    cases q'
    exact⟨_,_,rfl,p,p'⟩
 refine rP ?_ (by show 2<=sizeLine; decide)
 have I2:Inv X pins σ H1 { s1 with heap:=s1.heap.push { cls:=.type "tuple",data:=.seq [u1,u2].toArray } }:=I1.kept (t':=s1.toks) fun b o e=>fM _ e
 rw[hw]
 refine aW (bR ?_)
 show wpAny (model X.prog X.w) X.A (do rule "assign.swapped-stores"; let items <- unpackItems (.ref s1.heap.objs.size) 2 none; assignInOrder [fun v=>bindName X.env y v,fun v=>bindName X.env x v] items.reverse; pure Flow.next) _ _ _
 refine aW (yd (aW (unpackItems_tuple (items:=#[u1,u2]) (I.ok.hd hc) (IsTup.new s1.heap _) fun h' hx'=>?_)))
 have I3:=I2.kept (h':=h') (t':=s1.toks) fun b o e=>hx' b o (dH (eQ e)) e
 show wpAny _ _ (assignInOrder [fun v=>bindName X.env y v,fun v=>bindName X.env x v] [u2,u1] >>= fun _=>pure Flow.next) _ _ _
 refine aW (assignInOrder_cons (wpAny_bindName (jq I3 hN hj (.inl hy) Hq (fun s2 I4=>?_) (.inr hy))))
 refine assignInOrder_cons (wpAny_bindName (jq I4 hN hi (.inl hx) rv (fun s3 I5=>assignInOrder_nil (bR ?_)) (.inr hx)))
 rw[List.set_comm _ _ (Ne.symm hij)] at I5
 exact⟨_,H1,I5,q1⟩
def U8 (i:Nat) (te:TE) (ti:Ug):TS:=fun D σ H=>∃x,σ[i]?=some (some x)/\te σ H fun y H1=>ti x y H1 fun z H2=>D.nx (σ.set i (some z)) H2
theorem yt {i:Nat} {x:Str} {e:Expr} {te:TE} {op:Operator} {ti:Ug} {pos':Pos} (hN:X.N.Nodup) (hi:X.N[i]?=some x) (hx:Loc X.env.scope x) (he:PE X e te) (ho:W3 X op ti) (hf:X.fn x=true\/X.env.scope.names.lookup x=some .local:=by first | exact .inl rfl | exact .inr rfl | assumption) :
  PS X (.AugAssign (.Name x pos') op e pos) (U8 i te ti):=by
 refine .mk ?_
 intro pins s σ H D I h
 obtain⟨v,e1,h⟩:=h
 obtain⟨m,hn,hl⟩:=I.loc
 have vis:WX X.env.scope x:=by rcases hx with k | k; exact .inl k; exact .inr (.inl k)
 obtain⟨u,r,l⟩:=hl i x v hi e1 vis
 refine wpAny_AugAssign_Name ?_
 have go:wpAny (model X.prog X.w) X.A (eval e X.env) (fun w s₂=>wpAny (model X.prog X.w) X.A (inplaceOp op u w) (fun r s₃=>wpAny (model X.prog X.w) X.A (storeName X.env x r) (fun _=>SP X pins D .next) X.xe s₃) X.xe s₂) X.xe s:=by
  refine bN (he pins s σ H _ I h) fun w s1 qx=>?_
  obtain⟨y,H1,I1,r1,q1⟩:=qx
  refine bN (ho pins s1 σ H1 v y u w _ I1 r r1 q1) fun z s2 qx=>?_
  obtain⟨zv,H2,I2,r2,q2⟩:=qx
  exact jq I2 hN hi hx r2 (fun s3 I3=>⟨_,H2,I3,q2⟩) hf
 rcases l with⟨hk,hm⟩ | ⟨hk,c,hc,hcell⟩
 ·exact wpAny_loadName_local I.ok.kind hk hn hm go
 ·rcases hk with hk | hk
  ·exact wpAny_loadName_cell I.ok.kind hk hc hcell go
  ·rcases hx with k | k
   ·have:X.env.scope.names.lookup x=some .free:=hk
    rw[k] at this; cases this
   ·have:X.env.scope.names.lookup x=some .free:=hk
    rw[k] at this; cases this
def Qw (to ti te:TE) (Nr:V->V->Hp->VK->Prop) (Wt:Ug) (Np:Jg):TS:=fun D σ H=>to σ H fun o H1=>ti σ H1 fun i H2=>Nr o i H2 fun x H3=>te σ H3 fun y H4=>Wt x y H4 fun z H5=>Np o i z H5 fun H6=>D.nx σ H6
def Wf (X:Cx) (t:V->V->Hp->VK->Prop):Prop:=
 ∀(pins:List (Addr×Obj)) (s:Shared) (σ:St) (H:Hp) (o i:V) (ov iv:Value) (Q:VK),Inv X pins σ H s->RelV o ov->RelV i iv->t o i H Q ->
  wpAny (model X.prog X.w) X.A (getItem ov iv) (EP X pins σ Q) X.xe s
theorem Oj {o i e:Expr} {to ti te:TE} {Nr:V->V->Hp->VK->Prop} {Wt:Ug} {Np:Jg} {op:Operator} {tpos:Pos} (ho:PE X o to) (hi:PE X i ti) (hg:Wf X Nr) (he:PE X e te) (hp:W3 X op Wt) (hs:Jh X Np)
  (ha:∀ov iv new,augStore i ov iv new=(do holding [new,ov,iv] (setItem ov iv new); release [new,ov,iv] []; pure .next):=by intros; rfl):PS X (.AugAssign (.Subscript o i tpos) op e pos) (Qw to ti te Nr Wt Np):=by
 refine .mk ?_
 intro pins s σ H D I h
 refine wpAny_AugAssign_SubscriptAny (bN (ho pins s σ H _ I h) fun ov s1 ⟨x1,H1,I1,r1,q1⟩=>?_) ha
 refine bN (hi pins s1 σ H1 _ I1 q1) fun iv s2 qx=>?_
 obtain⟨x2,H2,I2,r2,q2⟩:=qx
 refine bN (hg pins s2 σ H2 x1 x2 ov iv _ I2 r1 r2 q2) fun old s3 qx=>?_
 obtain⟨x3,H3,I3,r3,q3⟩:=qx
 refine bN (he pins s3 σ H3 _ I3 q3) fun v s4 qx=>?_
 obtain⟨x4,H4,I4,r4,q4⟩:=qx
 refine bN (hp pins s4 σ H4 x3 x4 old v _ I4 r3 r4 q4) fun new s5 qx=>?_
 obtain⟨x5,H5,I5,r5,q5⟩:=qx
 exact bN (hs pins s5 σ H5 x1 x2 x5 ov iv new _ I5 r1 r2 r5 q5) fun _ s6 ⟨H6,I6,q6⟩=>⟨σ,H6,I6,q6⟩
def Yd (f:Int->Int->Int):Ug:=fun x y H Q=>∃i j,x=.int i/\y=.int j/\Q (.int (f i j)) H
theorem Mg:W3 X .Add (Yd fun i j=>i+j):=by
 intro pins s σ H x y v u Q I r1 r2 h
 obtain⟨i,j,e1,e2,q⟩:=h
 subst e1; subst e2
 obtain⟨t,rfl⟩:=r1
 obtain⟨t',rfl⟩:=r2
 exact iadd_int ⟨.int _,H,I.tok _,⟨_,rfl⟩,q⟩
theorem DY:W3 X .Sub (Yd fun i j=>i-j):=by
 intro pins s σ H x y v u Q I r1 r2 h
 obtain⟨i,j,e1,e2,q⟩:=h
 subst e1; subst e2
 obtain⟨t,rfl⟩:=r1
 obtain⟨t',rfl⟩:=r2
 exact isub_int ⟨.int _,H,I.tok _,⟨_,rfl⟩,q⟩
end
section
variable {X:Cx} {pos:Pos}
end
structure It where
 go:Nat->Hp->Prop
 xG:Nat->Hp->V->Hp->Prop
 stop:Nat->Hp->Prop
def gH (X:Cx) (pins:List (Addr×Obj)) (H:Hp) (b:Addr):Prop:=
 H b=none/\b≠X.env.locals/\b∉X.fs/\(b∈X.ex\/X.s₀.heap.objs.size<=b)/\(∀x c,X.env.cells.lookup x=some c->c≠b)/\∀p∈X.pn++pins,p.1≠b
theorem Inv.uP {X:Cx} {pins:List (Addr×Obj)} {σ:St} {H H':Hp} {s:Shared} {b:Addr} (I:Inv X pins σ H s) (hb:s.heap.objs.size<=b) (hn:H' b=none):gH X pins H' b:=by
 refine⟨hn,Ao (lD I.lt hb),I.XX hb,.inr (fK I.sz hb),fun x c e z=>?_,fun p hp z=>?_⟩
 ·obtain⟨v,q⟩:=I.cell x c e
  exact absurd (lD q.lt (by rw[z]; exact hb)) (rM _)
 ·exact absurd (lD (eQ (I.pin p hp).1) (by rw[z]; exact hb)) (rM _)
structure Turn (P:Program) (w:World) (K:PySem.W.Frag) (tg:Expr) (J:It) (fp:List Addr) (it:Addr) (tn:Nat->Heap->Prop):Prop where
 mem:it∈fp
 obj:∀i h,tn i h->∀b∈fp,∃o,h.get? b=some o/\∀v,o.data≠.cell v
 keep:∀i h h',tn i h->(∀b∈fp,∀o,h.get? b=some o->h'.get? b=some o)->tn i h'
 item:∀(X:Cx),X.prog=P->X.w=w->X.K=K->X.calm=true->∀(i:Nat) (pins:List (Addr×Obj)) (s:Shared) (σ:St) (H:Hp) (E:Value->Shared->Prop),Inv X pins σ H s->(∀b∈fp,gH X pins H b)->tn i s.heap->J.go i H ->
  wpAny (model P w) X.A (pyNext (.ref it)) (fun r s1=>∃u,r=some u /\
   wpAny (model P w) X.A (letOwnedTupleGo tg (.ref it) u) (fun _ s2=>∃x H',Inv X pins σ H' s2/\RelV x u/\J.xG i H x H'/\tn (i+1) s2.heap/\∀b∈fp,H' b=none) E s1) E s
 done:∀(X:Cx),X.prog=P->X.w=w->X.K=K->X.calm=true->∀(i:Nat) (pins:List (Addr×Obj)) (s:Shared) (σ:St) (H:Hp) (E:Value->Shared->Prop),Inv X pins σ H s->(∀b∈fp,gH X pins H b)->tn i s.heap->J.stop i H ->
  wpAny (model P w) X.A (pyNext (.ref it)) (fun r s1=>r=none/\Inv X pins σ H s1) E s
 self:∀(A:Around) (i:Nat) (s:Shared) (Q:Value->Shared->Prop) (E:Value->Shared->Prop),tn i s.heap->Q (.ref it) s->wpAny (model P w) A (pyIter (.ref it)) Q E s
abbrev TI:=St->Hp->(It->Hp->Prop)->Prop
def PIE (X:Cx) (pins:List (Addr×Obj)) (σ:St) (tg:Expr) (R:It->Hp->Prop) (itv:Value) (s2:Shared):Prop:=
 ∃(it:Addr) (fp:List Addr) (tn:Nat->Heap->Prop) (J:It) (H':Hp),itv=.ref it/\Inv X pins σ H' s2/\Turn X.prog X.w X.K tg J fp it tn/\tn 0 s2.heap/\(∀b∈fp,gH X pins H' b)/\R J H'
structure PI (X:Cx) (tg iter:Expr) (wi:TI):Prop where
 mk ::
 go :
 ∀(pins:List (Addr×Obj)) (s:Shared) (σ:St) (H:Hp) (R:It->Hp->Prop),Inv X pins σ H s->wi σ H R ->
  wpAny (model X.prog X.w) X.A (eval iter X.env) (fun v s1=>wpAny (model X.prog X.w) X.A (pyIter v) (PIE X pins σ tg R) X.xe s1) X.xe s
instance {X:Cx} {tg iter:Expr} {wi:TI}:CoeFun (PI X tg iter wi) (fun _=>
 ∀(pins:List (Addr×Obj)) (s:Shared) (σ:St) (H:Hp) (R:It->Hp->Prop),Inv X pins σ H s->wi σ H R ->
  wpAny (model X.prog X.w) X.A (eval iter X.env) (fun v s1=>wpAny (model X.prog X.w) X.A (pyIter v) (PIE X pins σ tg R) X.xe s1) X.xe s):=⟨PI.go⟩
theorem Gn {M:Model} {A:Around} {E:Value->Shared->Prop} {s:Shared} {tg:Expr} {it:Addr} {u:Value} {o:Obj} {n:String} {vs:Array Value} {Q:Unit->Shared->Prop} (ho:s.heap.get? it=some o) (hc:o.cls=.type n) (hd:o.data=.fields vs)
  (hn:["enumerate","zip","dict_itemiterator","dict_reverseitemiterator","odict_iterator","itertools.zip_longest","itertools.pairwise"].contains n=false) (hQ:Q () s):wpAny M A (letOwnedTupleGo tg (.ref it) u) Q E s:=by
 unfold letOwnedTupleGo
 cases tg <;> first
  | exact bR hQ
  | (cases u <;> first
    | exact bR hQ
    | (refine aW (wpAny_load ho ?_)
       rw[hc,hd]
       show wpAny M A (if(["enumerate","zip","dict_itemiterator","dict_reverseitemiterator","odict_iterator","itertools.zip_longest","itertools.pairwise"].contains n&&vs[0]?==some (rawInt _))=true then _ else _) Q E s
       rw[aX (by intro h; rw[hn,Bool.false_and] at h; cases h)]
       exact bR hQ))
def Q3 (K:PySem.W.Frag) (a:Addr):It:=
 ⟨fun i H=>∃xs x,fQ K H a xs/\xs[i]?=some x,fun i H x H'=>H'=H/\∀xs,fQ K H a xs->xs[i]?=some x,fun i H=>∃xs,fQ K H a xs/\xs.length<=i⟩
def M3 (K:PySem.W.Frag) (a:Addr):It:=
 ⟨fun i H=>∃xs x,bW K H a xs/\xs[i]?=some x,fun i H x H'=>H'=H/\∀xs,bW K H a xs->xs[i]?=some x,fun i H=>∃xs,bW K H a xs/\xs.length<=i⟩
def Jx (lo:Int) (n:Nat):It:=⟨fun i _=>i<n,fun i H x H'=>H'=H/\x=.int (lo+i),fun i _=>n<=i⟩
theorem Hf {P:Program} {w:World} {K:PySem.W.Frag} {tg:Expr} (a it:Addr):Turn P w K tg (Q3 K a) [it] it (fun i h=>h.IsListIter it a i) where
 mem:=by simp
 obj:=fun i h st b hb=>by
  have e:b=it:=by simpa using hb
  subst e
  obtain⟨o,e,c,d⟩:=st
  exact⟨o,e,fun v z=>by rw[d] at z; cases z⟩
 keep:=fun i h h' st k=>st.at fun o e=>k it (by simp) o e
 item:=by
  intro X hP hw hK hc i pins s σ H E I hf st hg
  subst hP hw hK
  obtain⟨xs,x,hq,hx⟩:=hg
  obtain⟨its,rv,p,hz⟩:=I.list hq
  obtain⟨u,hu,ru⟩:=rv.get hx
  obtain⟨f0,f1,f2,f3,f4,f5⟩:=hf it (by simp)
  refine wpAny_pyNext_list_item st p.isList (x:=u) (by simpa using hu) fun h' st' sb=>?_
  have I1:Inv X pins σ H { s with heap:=h' }:=I.turned (t':=s.toks) (fun b o hb e=>(sb.2 b hb).trans e) f0 f1 f3 f4 f5
  obtain⟨o,e,c,d⟩:=id st'
  exact⟨u,rfl,Gn (s:={ s with heap:=h' }) e c d (by decide) ⟨x,H,I1,ru,⟨rfl,fun ys hy=>by rw[I.Bw hy hq]; exact hx⟩,st',fun b hb=>(hf b hb).1⟩⟩
 done:=by
  intro X hP hw hK hc i pins s σ H E I hf st hg
  subst hP hw hK
  obtain⟨xs,hq,hx⟩:=hg
  obtain⟨its,rv,p,hz⟩:=I.list hq
  obtain⟨f0,f1,f2,f3,f4,f5⟩:=hf it (by simp)
  have hl:=rv.length
  exact wpAny_pyNext_list_end (I.ok.hd hc) st p.isList (by simp; omega) fun h' eb=>⟨rfl,I.turned (t':=s.toks) (fun b o hb e=>eb b o hb e) f0 f1 f3 f4 f5⟩
 self:=fun _ _ _ _ _ st h=>wpAny_pyIter_listiter st h
theorem Cy {P:Program} {w:World} {K:PySem.W.Frag} {tg:Expr} (a it:Addr):Turn P w K tg (M3 K a) [it] it (fun i h=>h.IsTupleIter it a i) where
 mem:=by simp
 obj:=fun i h st b hb=>by
  have e:b=it:=by simpa using hb
  subst e
  obtain⟨o,e,c,d⟩:=st
  exact⟨o,e,fun v z=>by rw[d] at z; cases z⟩
 keep:=fun i h h' st k=>st.at fun o e=>k it (by simp) o e
 item:=by
  intro X hP hw hK hc i pins s σ H E I hf st hg
  subst hP hw hK
  obtain⟨xs,x,hq,hx⟩:=hg
  obtain⟨its,rv,p,hz⟩:=I.tuple hq
  obtain⟨u,hu,ru⟩:=rv.get hx
  obtain⟨f0,f1,f2,f3,f4,f5⟩:=hf it (by simp)
  refine wpAny_pyNext_tuple_item st (show s.heap.IsTuple a its.toArray from p) (x:=u) (by simpa using hu) fun h' st' sb=>?_
  have I1:Inv X pins σ H { s with heap:=h' }:=I.turned (t':=s.toks) (fun b o hb e=>(sb.2 b hb).trans e) f0 f1 f3 f4 f5
  obtain⟨o,e,c,d⟩:=id st'
  exact⟨u,rfl,Gn (s:={ s with heap:=h' }) e c d (by decide) ⟨x,H,I1,ru,⟨rfl,fun ys hy=>by rw[I.qi hy hq]; exact hx⟩,st',fun b hb=>(hf b hb).1⟩⟩
 done:=by
  intro X hP hw hK hc i pins s σ H E I hf st hg
  subst hP hw hK
  obtain⟨xs,hq,hx⟩:=hg
  obtain⟨its,rv,p,hz⟩:=I.tuple hq
  obtain⟨f0,f1,f2,f3,f4,f5⟩:=hf it (by simp)
  have hl:=rv.length
  exact wpAny_pyNext_tuple_end (I.ok.hd hc) st (show s.heap.IsTuple a its.toArray from p) (by simp; omega) fun h' eb=>⟨rfl,I.turned (t':=s.toks) (fun b o hb e=>eb b o hb e) f0 f1 f3 f4 f5⟩
 self:=fun _ _ _ _ _ st h=>wpAny_pyIter_tupleiter st h
theorem Cz {P:Program} {w:World} {K:PySem.W.Frag} {tg:Expr} (it:Addr) (lo:Int) (n:Nat):Turn P w K tg (Jx lo n) [it] it (fun i h=>IsRangeIter h it (lo+(i:Nat)*1) ((n:Int)-(i:Nat)) 1) where
 mem:=by simp
 obj:=fun i h st b hb=>by
  have e:b=it:=by simpa using hb
  subst e
  exact⟨_,st,fun v z=>by
   have z':Data.fields _=Data.cell v:=z
   cases z'⟩
 keep:=fun i h h' st k=>k it (by simp) _ st
 item:=by
  intro X hP hw hK hc i pins s σ H E I hf st hg
  subst hP hw hK
  obtain⟨f0,f1,f2,f3,f4,f5⟩:=hf it (by simp)
  have W:=Walks.range (prog:=X.prog) (w:=X.w) (I.ok.hd hc) it lo 1 n
  refine W.item i s _ _ hg st fun v h' tk hv st' kk=>?_
  obtain⟨t,rfl⟩:=hv
  have I1:Inv X pins σ H { s with heap:=h',toks:=tk }:=I.turned (fun b o hb e=>kk b o (by simpa using hb) e) f0 f1 f3 f4 f5
  refine⟨_,rfl,Gn (s:={ s with heap:=h',toks:=tk }) (n:="range_iterator") st' rfl rfl (by decide) ⟨.int (lo+i),H,I1,⟨t,?_⟩,⟨rfl,rfl⟩,st',fun b hb=>(hf b hb).1⟩⟩
  rw[Int.mul_one]
 done:=by
  intro X hP hw hK hc i pins s σ H E I hf st hg
  subst hP hw hK
  obtain⟨f0,f1,f2,f3,f4,f5⟩:=hf it (by simp)
  exact wpAny_pyNext_range_end (I.ok.hd hc) st (by have:n<=i:=hg; omega) fun h' eb=>⟨rfl,I.turned (t':=s.toks) (fun b o hb e=>eb b o hb e) f0 f1 f3 f4 f5⟩
 self:=fun _ _ _ _ _ st h=>Kr st h
section
variable {X:Cx} {tg:Expr}
def j8 (K:PySem.W.Frag) (tl:TE):TI:=fun σ H R=>tl σ H fun x H1=>∃a,x=.ref a/\(∃xs,fQ K H1 a xs)/\R (Q3 K a) H1
def uK (K:PySem.W.Frag) (tl:TE):TI:=fun σ H R=>tl σ H fun x H1=>∃a,x=.ref a/\(∃xs,bW K H1 a xs)/\R (M3 K a) H1
theorem Oq {l:Expr} {tl:TE} (hl:PE X l tl):PI X tg l (j8 X.K tl):=by
 refine .mk ?_
 intro pins s σ H R I h
 refine bN (hl pins s σ H _ I h) fun v s1 qx=>?_
 obtain⟨x,H1,I1,r1,q1⟩:=qx
 obtain⟨a,e,⟨xs,hq⟩,q⟩:=q1
 subst e
 cases r1
 obtain⟨its,rv,p,hz⟩:=I1.list hq
 refine Km p.isList ?_
 refine⟨s1.heap.objs.size,[s1.heap.objs.size],_,_,H1,rfl,I1.kept (t':=s1.toks) fun b o e=>fM _ e,Hf a _,⟨_,j_ _ rfl,rfl,rfl⟩,fun b hb=>?_,q⟩
 have e:b=s1.heap.objs.size:=by simpa using hb
 subst e
 exact I1.uP (bD _) (I1.hok.fresh (bD _))
theorem RN {l:Expr} {tl:TE} (hl:PE X l tl):PI X tg l (uK X.K tl):=by
 refine .mk ?_
 intro pins s σ H R I h
 refine bN (hl pins s σ H _ I h) fun v s1 qx=>?_
 obtain⟨x,H1,I1,r1,q1⟩:=qx
 obtain⟨a,e,⟨xs,hq⟩,q⟩:=q1
 subst e
 cases r1
 obtain⟨its,rv,p,hz⟩:=I1.tuple hq
 refine Hz (show s1.heap.IsTuple a its.toArray from p) ?_
 refine⟨s1.heap.objs.size,[s1.heap.objs.size],_,_,H1,rfl,I1.kept (t':=s1.toks) fun b o e=>fM _ e,Cy a _,⟨_,j_ _ rfl,rfl,rfl⟩,fun b hb=>?_,q⟩
 have e:b=s1.heap.objs.size:=by simpa using hb
 subst e
 exact I1.uP (bD _) (I1.hok.fresh (bD _))
theorem J9 {pins:List (Addr×Obj)} {σ:St} {H:Hp} {s:Shared} {R:It->Hp->Prop} {E:Value->Shared->Prop} {lo hi:Int} {t u v:Tok} {tk:Nat} (I:Inv X pins σ H s) (h1:-(2 ^ 62)<=lo) (h2:lo<2 ^ 62) (h3:-(2 ^ 62)<=hi) (h4:hi<2 ^ 62)
  (q:R (Jx lo (hi-lo).toNat) H):wpAny (model X.prog X.w) X.A (pyIter (.ref s.heap.objs.size)) (PIE X pins σ tg R) E { s with heap:=s.heap.push { cls:=.type "range",data:=.fields #[.int lo t,.int hi u,.int 1 v] },toks:=tk }:=by
 refine wpAny_pyIter_range (IsRange.new ..) (small_one h1 h2 h3 h4) ?_
 have I1:Inv X pins σ H { s with heap:=s.heap.push { cls:=.type "range",data:=.fields #[.int lo t,.int hi u,.int 1 v] },toks:=tk }:=I.kept fun b o e=>fM _ e
 refine⟨(s.heap.push { cls:=.type "range",data:=.fields #[.int lo t,.int hi u,.int 1 v] }).objs.size,[(s.heap.push { cls:=.type "range",data:=.fields #[.int lo t,.int hi u,.int 1 v] }).objs.size],_,_,H,rfl,
  I1.kept (t':=tk) fun b o e=>fM _ e,Cz _ lo (hi-lo).toNat,?_,fun b hb=>?_,q⟩
 ·have e1:lo+((0:Nat):Int)*1=lo:=by simp
  have e2:(((hi-lo).toNat:Nat):Int)-((0:Nat):Int)=Builtin.Range.rangeSize lo hi 1:=by rw[rangeSize_one]; split <;> omega
  show IsRangeIter _ _ (lo+((0:Nat):Int)*1) ((((hi-lo).toNat:Nat):Int)-((0:Nat):Int)) 1
  rw[e1,e2]
  exact j_ _ rfl
 ·have e:b=(s.heap.push { cls:=.type "range",data:=.fields #[.int lo t,.int hi u,.int 1 v] }).objs.size:=by simpa using hb
  subst e
  exact I1.uP (bD _) (I1.hok.fresh (bD _))
def wW (ta:TA):TI:=fun σ H R=>ta σ H fun vs H1=>∃j:Int,vs=[.int j]/\-(2 ^ 62)<=j/\j<2 ^ 62/\R (Jx 0 j.toNat) H1
theorem cM {a:Expr} {ta:TA} {p pos:Pos} (hg:Gl X "range") (hm:X.mg "range" = none) (ha:PA X [a] ta) (hs:starEach [a] X.env=[(false,eval a X.env)]:=by rfl):PI X tg (.Call (.Name "range" p) [a] [] pos) (wW ta):=by
 refine .mk ?_
 intro pins s σ H R I h
 refine Call_ (jj I hg hm boot_range (PyProof.Rows.callWith_type1 (bN (ha pos pins s σ H _ I h) fun us s1 ⟨vs,H1,I1,r1,q1⟩=>?_) hs rfl))
 obtain⟨j,e,q1,q2,q⟩:=q1
 subst e
 cases r1 with
 | cons r rr=>
  cases rr
  obtain⟨t,rfl⟩:=r
  exact call_range_1 (J9 I1 (by omega) (by omega) q1 q2 (by simpa using q))
def xN (wi:TI) (g:TG) (tb:TS):TS:=fun D σ H=>wi σ H fun J H1=>∃W:Nat->Nat->St->Hp->Prop,(∃m,W 0 m σ H1)/\∀i m σ H,W i m σ H ->
 (J.stop i H/\D.nx σ H)\/(J.go i H/\∃N:St->Hp->Prop,(∀σ' H',N σ' H'->∃m',m'<m/\W (i+1) m' σ' H')/\∀x H',J.xG i H x H'->g x σ H' fun σ2 H2=>tb { D with nx:=N,ct:=N,bk:=D.nx } σ2 H2)
def yx (fp:List Addr) (h:Heap):List (Addr×Obj):=fp.filterMap fun b=>(h.get? b).map fun o=>(b,o)
theorem bU {fp:List Addr} {h:Heap} {b:Addr} {o:Obj} (hb:b∈fp) (e:h.get? b=some o):(b,o)∈yx fp h:=List.mem_filterMap.mpr ⟨b,hb,by rw[e]; rfl⟩
theorem Ia {fp:List Addr} {h:Heap} {p:Addr×Obj} (hp:p∈yx fp h):p.1∈fp/\h.get? p.1=some p.2:=by
 obtain⟨b,hb,e⟩:=List.mem_filterMap.mp hp
 cases q:h.get? b with
 | none=>rw[q] at e; cases e
 | some o=>
  rw[q] at e
  have e':(b,o)=p:=Option.some.inj e
  subst e'
  exact⟨hb,q⟩
theorem Inv.pinned {pins:List (Addr×Obj)} {σ:St} {H:Hp} {s:Shared} {fp:List Addr} (I:Inv X pins σ H s) (hf:∀b∈fp,gH X pins H b) (ho:∀b∈fp,∃o,s.heap.get? b=some o/\∀v,o.data≠.cell v):Inv X (pins++yx fp s.heap) σ H s:=
 I.FP fun p hp=>(lB.mp hp).elim (fun z=>I.pin p (fY _ z)) fun z=>by
  obtain⟨hb,e⟩:=Ia z
  obtain⟨f0,f1,f2,_⟩:=hf p.1 hb
  obtain⟨o,e',d⟩:=ho p.1 hb
  rw[e] at e'; cases e'
  exact⟨e,f0,f1,f2,d⟩
theorem Inv.gM {pins pl:List (Addr×Obj)} {σ:St} {H:Hp} {s:Shared} (I:Inv X (pins++pl) σ H s):Inv X pins σ H s:=I.FP fun p hp=>I.pin p (fY _ (Kp _ hp))
theorem gR {iter:Expr} {body:List Stmt} {wi:TI} {g:TG} {tb:TS} {pos:Pos} (hp:PassesOwn (model X.prog X.w) X.A X.env X.xe) (hc:X.calm=true) (hi:PI X tg iter wi) (hg:PG X tg g) (hb:zL X body tb)
  (hs:∀x,foldedSetIterable iter X.env x=pure x:=by intro _; rfl):PS X (.For tg iter body [] pos) (xN wi g tb):=by
 refine .mk ?_
 intro pins s σ H D I h
 refine wpAny_For (bN (hi pins s σ H _ I h) fun v s1 h1=>bN h1 fun itv s2 h2=>?_) hs
 obtain⟨it,fp,tn,J,H2,e,I2,T,st2,f2,W,⟨m0,w0⟩,turn⟩:=h2
 subst e
 have stat:∀{H':Hp},(∀b∈fp,H' b=none)->∀b∈fp,gH X pins H' b:=fun hn b hb=>⟨hn b hb,(f2 b hb).2⟩
 refine codeAny_forLoop_any (fun n s'=>∃i σ' H',Inv X pins σ' H' s'/\tn i s'.heap/\(∀b∈fp,H' b=none)/\W i n σ' H') ?_ m0 ⟨0,σ,H2,I2,st2,fun b hb=>(f2 b hb).1,w0⟩
 rintro n s3 ⟨i,σ3,H3,I3,st3,fr3,w3⟩
 rcases turn i n σ3 H3 w3 with⟨stop,qn⟩ | ⟨go,N,hN,step⟩
 ·refine Ke hp (bN (T.done X rfl rfl rfl hc i pins s3 σ3 H3 X.xe I3 (stat fr3) st3 stop) fun r s4 qx=>?_)
  obtain⟨hr,I4⟩:=qx
  subst hr
  exact Kd ⟨σ3,H3,I4,qn⟩
 ·refine Ke hp (bN (T.item X rfl rfl rfl hc i pins s3 σ3 H3 X.xe I3 (stat fr3) st3 go) fun r s4 qx=>?_)
  obtain⟨u,hr,h4⟩:=qx
  subst hr
  refine Ke hp (bN h4 fun _ s5 qx=>?_)
  obtain⟨x,H5,I5,r5,y5,Nx,Th⟩:=qx
  have I5':=I5.pinned (stat Th) (T.obj _ _ Nx)
  refine Ke hp (bN (hg _ s5 σ3 H5 x u _ I5' r5 (step x H5 y5)) fun _ s6 qx=>?_)
  obtain⟨σ6,H6,I6,q6⟩:=qx
  refine Ke hp (bN (hb _ s6 σ6 H6 _ I6 q6) fun f s7 q7=>?_)
  have again:∀{σ7:St} {H7:Hp},Inv X (pins++yx fp s5.heap) σ7 H7 s7->N σ7 H7->∃m,m<n/\∃i σ' H',Inv X pins σ' H' s7/\tn i s7.heap/\(∀b∈fp,H' b=none)/\W i m σ' H':=fun {σ7 H7} I7 n7=>by
   obtain⟨m',hm,w7⟩:=hN σ7 H7 n7
   refine⟨m',hm,i+1,σ7,H7,I7.gM,T.keep _ _ _ Nx fun b hb o e=>(I7.pin (b,o) (fY _ (fY _ (bU hb e)))).1,fun b hb=>?_,w7⟩
   obtain⟨o,e,d⟩:=T.obj _ _ Nx b hb
   exact(I7.pin (b,o) (fY _ (fY _ (bU hb e)))).2.1
  cases f with
  | next=>obtain⟨σ7,H7,I7,n7⟩:=q7; exact again I7 n7
  | cont=>obtain⟨σ7,H7,I7,n7⟩:=q7; exact again I7 n7
  | brk=>obtain⟨σ7,H7,I7,q7⟩:=q7; exact⟨σ7,H7,I7.gM,q7⟩
  | ret v=>obtain⟨x7,σ7,H7,I7,r7,q7⟩:=q7; exact⟨x7,σ7,H7,I7.gM,r7,q7⟩
end
theorem Mq {K:PySem.W.Frag} {a:Addr} {xs:List V} {g:TG} {tb:TS} {D:Ends} {σ:St} {H:Hp} (Pv:Nat->St->Hp->Prop) (h0:Pv 0 σ H) (hl:∀i σ H,i<=xs.length->Pv i σ H->fQ K H a xs)
  (hs:∀i x σ H,xs[i]?=some x->Pv i σ H->g x σ H fun σ2 H2=>tb { D with nx:=Pv (i+1),ct:=Pv (i+1),bk:=D.nx } σ2 H2) (hd:∀σ H,Pv xs.length σ H->D.nx σ H) :
  ∃W:Nat->Nat->St->Hp->Prop,(∃m,W 0 m σ H)/\∀i m σ H,W i m σ H ->
   ((Q3 K a).stop i H/\D.nx σ H)\/((Q3 K a).go i H/\∃N:St->Hp->Prop,(∀σ' H',N σ' H'->∃m',m'<m/\W (i+1) m' σ' H')/\∀x H',(Q3 K a).xG i H x H'->g x σ H' fun σ2 H2=>tb { D with nx:=N,ct:=N,bk:=D.nx } σ2 H2):=by
 refine⟨fun i m σ H=>m=xs.length-i/\i<=xs.length/\Pv i σ H,⟨xs.length,by simp,dG _,h0⟩,?_⟩
 rintro i m σ H ⟨rfl,hi,p⟩
 have q:=hl i σ H hi p
 by_cases hlt:i<xs.length
 ·refine .inr ⟨⟨xs,xs[i],q,by simp[hlt]⟩,Pv (i+1),fun σ' H' p'=>⟨xs.length-(i+1),by omega,rfl,hlt,p'⟩,fun x H' y=>?_⟩
  obtain⟨e,y⟩:=y
  subst e
  exact hs i x σ _ (y xs q) p
 ·have e:i=xs.length:=by omega
  subst e
  exact .inl ⟨⟨xs,q,bD _⟩,hd σ H p⟩
theorem PL {K:PySem.W.Frag} {a:Addr} {xs:List V} {g:TG} {tb:TS} {D:Ends} {σ:St} {H:Hp} (Pv:Nat->St->Hp->Prop) (h0:Pv 0 σ H) (hl:∀i σ H,i<=xs.length->Pv i σ H->bW K H a xs)
  (hs:∀i x σ H,xs[i]?=some x->Pv i σ H->g x σ H fun σ2 H2=>tb { D with nx:=Pv (i+1),ct:=Pv (i+1),bk:=D.nx } σ2 H2) (hd:∀σ H,Pv xs.length σ H->D.nx σ H) :
  ∃W:Nat->Nat->St->Hp->Prop,(∃m,W 0 m σ H)/\∀i m σ H,W i m σ H ->
   ((M3 K a).stop i H/\D.nx σ H)\/((M3 K a).go i H/\∃N:St->Hp->Prop,(∀σ' H',N σ' H'->∃m',m'<m/\W (i+1) m' σ' H')/\∀x H',(M3 K a).xG i H x H'->g x σ H' fun σ2 H2=>tb { D with nx:=N,ct:=N,bk:=D.nx } σ2 H2):=by
 refine⟨fun i m σ H=>m=xs.length-i/\i<=xs.length/\Pv i σ H,⟨xs.length,by simp,dG _,h0⟩,?_⟩
 rintro i m σ H ⟨rfl,hi,p⟩
 have q:=hl i σ H hi p
 by_cases hlt:i<xs.length
 ·refine .inr ⟨⟨xs,xs[i],q,by simp[hlt]⟩,Pv (i+1),fun σ' H' p'=>⟨xs.length-(i+1),by omega,rfl,hlt,p'⟩,fun x H' y=>?_⟩
  obtain⟨e,y⟩:=y
  subst e
  exact hs i x σ _ (y xs q) p
 ·have e:i=xs.length:=by omega
  subst e
  exact .inl ⟨⟨xs,q,bD _⟩,hd σ H p⟩
theorem wZ {lo:Int} {n:Nat} {g:TG} {tb:TS} {D:Ends} {σ:St} {H:Hp} (Pv:Nat->St->Hp->Prop) (h0:Pv 0 σ H)
  (hs:∀i σ H,i<n->Pv i σ H->g (.int (lo+i)) σ H fun σ2 H2=>tb { D with nx:=Pv (i+1),ct:=Pv (i+1),bk:=D.nx } σ2 H2) (hd:∀σ H,Pv n σ H->D.nx σ H) :
  ∃W:Nat->Nat->St->Hp->Prop,(∃m,W 0 m σ H)/\∀i m σ H,W i m σ H ->
   ((Jx lo n).stop i H/\D.nx σ H)\/((Jx lo n).go i H/\∃N:St->Hp->Prop,(∀σ' H',N σ' H'->∃m',m'<m/\W (i+1) m' σ' H')/\∀x H',(Jx lo n).xG i H x H'->g x σ H' fun σ2 H2=>tb { D with nx:=N,ct:=N,bk:=D.nx } σ2 H2):=by
 refine⟨fun i m σ H=>m=n-i/\i<=n/\Pv i σ H,⟨n,by simp,dG _,h0⟩,?_⟩
 rintro i m σ H ⟨rfl,hi,p⟩
 by_cases hlt:i<n
 ·refine .inr ⟨hlt,Pv (i+1),fun σ' H' p'=>⟨n-(i+1),by omega,rfl,hlt,p'⟩,fun x H' y=>?_⟩
  obtain⟨e,y⟩:=y
  subst e y
  exact hs i σ _ hlt p
 ·have e:i=n:=by omega
  subst e
  exact .inl ⟨bD _,hd σ H p⟩
abbrev R2:=V->V->Hp->VK->Prop
structure mU (X:Cx) (f:Value->Value->Sem Value) (r:R2):Prop where
 mk ::
 go :
 ∀(pins:List (Addr×Obj)) (s:Shared) (σ:St) (H:Hp) (x y:V) (v u:Value) (Q:VK),Inv X pins σ H s->RelV x v->RelV y u->r x y H Q ->
  wpAny (model X.prog X.w) X.A (f v u) (EP X pins σ Q) X.xe s
instance {X:Cx} {f:Value->Value->Sem Value} {r:R2}:CoeFun (mU X f r) (fun _=>
 ∀(pins:List (Addr×Obj)) (s:Shared) (σ:St) (H:Hp) (x y:V) (v u:Value) (Q:VK),Inv X pins σ H s->RelV x v->RelV y u->r x y H Q ->
  wpAny (model X.prog X.w) X.A (f v u) (EP X pins σ Q) X.xe s):=⟨mU.go⟩
structure Wd (X:Cx) (f:Value->Sem Value) (r:V->Hp->VK->Prop):Prop where
 mk ::
 go :
 ∀(pins:List (Addr×Obj)) (s:Shared) (σ:St) (H:Hp) (x:V) (v:Value) (Q:VK),Inv X pins σ H s->RelV x v->r x H Q ->
  wpAny (model X.prog X.w) X.A (f v) (EP X pins σ Q) X.xe s
instance {X:Cx} {f:Value->Sem Value} {r:V->Hp->VK->Prop}:CoeFun (Wd X f r) (fun _=>
 ∀(pins:List (Addr×Obj)) (s:Shared) (σ:St) (H:Hp) (x:V) (v:Value) (Q:VK),Inv X pins σ H s->RelV x v->r x H Q ->
  wpAny (model X.prog X.w) X.A (f v) (EP X pins σ Q) X.xe s):=⟨Wd.go⟩
structure cL (X:Cx) (f:Value) (r:List V->Hp->VK->Prop):Prop where
 mk ::
 go :
 ∀(pins:List (Addr×Obj)) (s:Shared) (σ:St) (H:Hp) (xs:List V) (us:List Value) (Q:VK),Inv X pins σ H s->Vals xs us->r xs H Q ->
  wpAny (model X.prog X.w) X.A (call f us) (EP X pins σ Q) X.xe s
instance {X:Cx} {f:Value} {r:List V->Hp->VK->Prop}:CoeFun (cL X f r) (fun _=>
 ∀(pins:List (Addr×Obj)) (s:Shared) (σ:St) (H:Hp) (xs:List V) (us:List Value) (Q:VK),Inv X pins σ H s->Vals xs us->r xs H Q ->
  wpAny (model X.prog X.w) X.A (call f us) (EP X pins σ Q) X.xe s):=⟨cL.go⟩
def Rb (r:R2) (ta tb:TE):TE:=fun σ H Q=>ta σ H fun x H1=>tb σ H1 fun y H2=>r x y H2 Q
def Zv (r:V->Hp->VK->Prop) (ta:TE):TE:=fun σ H Q=>ta σ H fun x H1=>r x H1 Q
def rI (C:Int->Int->Prop) (g:Int->Int->V):R2:=fun x y H Q=>∃i j,x=.int i/\y=.int j/\C i j/\Q (g i j) H
def Ob (g:Int->Int->V):R2:=fun x y H Q=>∃i j,x=.int i/\y=.int j/\Q (g i j) H
def rU (g:Int->V):V->Hp->VK->Prop:=fun x H Q=>∃i,x=.int i/\Q (g i) H
section
variable {X:Cx} {a b c:Expr} {ta tb tc:TE} {pos:Pos}
theorem TF (ha:PE X a ta) (hb:PE X b tb) {pins:List (Addr×Obj)} {s:Shared} {σ:St} {H:Hp} {R:V->V->Hp->Prop} (I:Inv X pins σ H s)
  (h:ta σ H fun x H1=>tb σ H1 fun y H2=>R x y H2) {Q:Value->Shared->Prop} {f:Value->Value->Sem Value}
  (hf:∀v u s2 x y H2,Inv X pins σ H2 s2->RelV x v->RelV y u->R x y H2->wpAny (model X.prog X.w) X.A (f v u) Q X.xe s2) :
  wpAny (model X.prog X.w) X.A (eval a X.env) (fun v s₁=>wpAny (model X.prog X.w) X.A (eval b X.env) (fun u s₂=>wpAny (model X.prog X.w) X.A (f v u) Q X.xe s₂) X.xe s₁) X.xe s:=by
 refine bN (ha pins s σ H _ I h) fun v s1 qx=>?_
 obtain⟨x,H1,I1,r1,q1⟩:=qx
 refine bN (hb pins s1 σ H1 _ I1 q1) fun u s2 qx=>?_
 obtain⟨y,H2,I2,r2,q2⟩:=qx
 exact hf v u s2 x y H2 I2 r1 r2 q2
theorem aU {op:Operator} {r:R2} (ho:mU X (binaryOp op) r) (ha:PE X a ta) (hb:PE X b tb):PE X (.BinOp a op b pos) (Rb r ta tb):=by
 refine .mk ?_
 intro pins s σ H Q I h
 exact wpAny_BinOp (TF ha hb I h fun v u s2 x y H2 I2 rx ry q=>ho pins s2 σ H2 x y v u Q I2 rx ry q)
theorem QD {op:UnaryOp} {r:V->Hp->VK->Prop} (ho:Wd X (unaryOp op) r) (ha:PE X a ta):PE X (.UnaryOp op a pos) (Zv r ta):=by
 refine .mk ?_
 intro pins s σ H Q I h
 exact UnaryOp_ (bN (ha pins s σ H _ I h) fun v s1 ⟨x,H1,I1,r1,q1⟩=>ho pins s1 σ H1 x v Q I1 r1 q1)
theorem VG {f:Value->Value->Sem Value} {C:Int->Int->Prop} {g:Int->Int->Int}
  (rule:∀(i j:Int) (t u:Tok) (s:Shared) (Q:Value->Shared->Prop) (E:Value->Shared->Prop),C i j->Q (.int (g i j) s.toks) { s with toks:=s.toks+1 }->wpAny (model X.prog X.w) X.A (f (.int i t) (.int j u)) Q E s) :
  mU X f (rI C fun i j=>.int (g i j)):=by
 refine .mk ?_
 intro pins s σ H x y v u Q I rx ry h
 obtain⟨i,j,rfl,rfl,hc,q⟩:=h
 obtain⟨t,rfl⟩:=rx
 obtain⟨t',rfl⟩:=ry
 exact rule i j t t' s _ _ hc ⟨.int (g i j),H,I.tok _,⟨_,rfl⟩,q⟩
theorem VF {f:Value->Value->Sem Value} {g:Int->Int->Int}
  (rule:∀(i j:Int) (t u:Tok) (s:Shared) (Q:Value->Shared->Prop) (E:Value->Shared->Prop),Q (.int (g i j) s.toks) { s with toks:=s.toks+1 }->wpAny (model X.prog X.w) X.A (f (.int i t) (.int j u)) Q E s) :
  mU X f (Ob fun i j=>.int (g i j)):=by
 refine .mk ?_
 intro pins s σ H x y v u Q I rx ry h
 obtain⟨i,j,rfl,rfl,q⟩:=h
 obtain⟨t,rfl⟩:=rx
 obtain⟨t',rfl⟩:=ry
 exact rule i j t t' s _ _ ⟨.int (g i j),H,I.tok _,⟨_,rfl⟩,q⟩
theorem OJ {f:Value->Value->Sem Value} {g:Int->Int->Bool}
  (rule:∀(i j:Int) (t u:Tok) (s:Shared) (Q:Value->Shared->Prop) (E:Value->Shared->Prop),Q (.bool (g i j)) s->wpAny (model X.prog X.w) X.A (f (.int i t) (.int j u)) Q E s) :
  mU X f (Ob fun i j=>.bl (g i j)):=by
 refine .mk ?_
 intro pins s σ H x y v u Q I rx ry h
 obtain⟨i,j,rfl,rfl,q⟩:=h
 obtain⟨t,rfl⟩:=rx
 obtain⟨t',rfl⟩:=ry
 exact rule i j t t' s _ _ ⟨.bl (g i j),H,I,rfl,q⟩
def Zr (i j:Int):Prop:=0<j/\j<1073741824
def Zq (i j:Int):Prop:=0<=j/\j<=1000000/\i.natAbs<2 ^ 64
def Qi (i j:Int):Prop:=(-(2 ^ 64)<i/\i<2 ^ 64)\/(-(2 ^ 64)<j/\j<2 ^ 64)
theorem Qi.ok {i j:Int} (h:Qi i j):IntMulOk i j:=by
 rcases h with⟨h1,h2⟩ | ⟨h1,h2⟩
 ·exact .of_left (intBits_le_64 h1 h2)
 ·exact .of_right (intBits_le_64 h1 h2)
theorem bB:mU X (binaryOp .Add) (Ob fun i j=>.int (i+j)):=VF fun _ _ _ _ _ _ _ q=>add_int q
theorem gU:mU X (binaryOp .Sub) (Ob fun i j=>.int (i-j)):=VF fun _ _ _ _ _ _ _ q=>sub_int q
theorem jN:mU X (binaryOp .Mult) (rI Qi fun i j=>.int (i*j)):=VG fun _ _ _ _ _ _ _ hc q=>mul_int q hc.ok
theorem Oz:mU X (binaryOp .FloorDiv) (rI Zr fun i j=>.int (i / j)):=VG fun i j _ _ _ _ _ hc q=>by
 have h1:(0:Int)<j:=hc.1
 have h2:j<1073741824:=hc.2
 exact floordiv_int (by omega) (by rw[Int.fdiv_eq_ediv_of_nonneg i (by omega)]; exact q) (.inl (PyProof.noPylong_small (by omega)))
theorem lF:mU X (binaryOp .Mod) (rI (fun _ j=>0<j) fun i j=>.int (i % j)):=VG fun i j _ _ _ _ _ hc q=>by
 have h1:(0:Int)<j:=hc
 exact mod_int' (by omega) (by rw[Int.fmod_eq_emod_of_nonneg i (by omega)]; exact q)
theorem nW:mU X (binaryOp .Pow) (rI Zq fun i j=>.int (i ^ j.toNat)):=VG fun _ _ _ _ _ _ _ hc q=>pow_int_small hc.1 hc.2.1 hc.2.2 q
theorem unI {f:Value->Sem Value} {g:Int->Int}
  (rule:∀(i:Int) (t:Tok) (s:Shared) (Q:Value->Shared->Prop) (E:Value->Shared->Prop),Q (.int (g i) s.toks) { s with toks:=s.toks+1 }->wpAny (model X.prog X.w) X.A (f (.int i t)) Q E s) :
  Wd X f (rU fun i=>.int (g i)):=by
 refine .mk ?_
 intro pins s σ H x v Q I rx h
 obtain⟨i,rfl,q⟩:=h
 obtain⟨t,rfl⟩:=rx
 exact rule i t s _ _ ⟨.int (g i),H,I.tok _,⟨_,rfl⟩,q⟩
theorem Jz:Wd X (unaryOp .USub) (rU fun i=>.int (-i)):=unI fun _ _ _ _ _ q=>neg_int q
end
def Ho:V->V->Bool
 | .non,.non=>true | .non,.int _=>true | .int _,.non=>true | .non,.bl _=>true | .bl _,.non=>true | .non,.str _=>true | .str _,.non=>true
 | .int _,.int _=>true | .bl _,.bl _=>true | .str _,.str _=>true | .Jv _,.Jv _=>true
 | .int _,.str _=>true | .str _,.int _=>true | .bl _,.str _=>true | .str _,.bl _=>true
 | _,_=>false
def Vu:R2:=fun x y H Q=>Ho x y=true/\Q (.bl (decide (x=y))) H
def Vs:R2:=fun x y H Q=>Ho x y=true/\Q (.bl (!decide (x=y))) H
theorem Gw {i j:Int}:decide (V.int i=V.int j)=(i==j):=by
 rw[Hu]
 simp
theorem Mt {i j:Bool}:decide (V.bl i=V.bl j)=(i==j):=by
 rw[Hu]
 simp
theorem Gv {i j:Str}:decide (V.str i=V.str j)=(i==j):=by
 rw[Hu]
 simp
theorem Gx {i j:Array UInt8}:decide (V.Jv i=V.Jv j)=(i.toList==j.toList):=by
 rw[Hu]
 cases i
 cases j
 simp
section
variable {X:Cx} {a b c:Expr} {ta tb tc:TE} {pos:Pos}
theorem bx {pins:List (Addr×Obj)} {σ:St} {H:Hp} {s:Shared} {Q:VK} {k k':Bool} (I:Inv X pins σ H s) (q:Q (.bl k) H) (e:k=k'):EP X pins σ Q (.bool k') s:=by
 subst e
 exact⟨.bl k,H,I,rfl,q⟩
theorem gP:mU X (compareOp .Eq) Vu:=by
 refine .mk ?_
 intro pins s σ H x y v u Q I rx ry h
 obtain⟨hs,q⟩:=h
 cases x with
 | non=>
  cases rx
  cases y with
  | non=>cases ry; exact PySem.EqNone.eq_none_none (bx I q (by simp))
  | bl j=>cases ry; exact PySem.EqNone.eq_none_bool (bx I q (by simp))
  | int j=>obtain⟨t',rfl⟩:=ry; exact PySem.EqNone.eq_none_int (bx I q (by simp))
  | str j=>obtain⟨t',rfl⟩:=ry; exact PySem.EqNone.eq_none_str (bx I q (by simp))
  | _=>exact absurd (show false=true from hs) lC
 | bl i=>
  cases rx
  cases y with
  | non=>cases ry; exact PySem.EqNone.eq_bool_none (bx I q (by simp))
  | bl j=>cases ry; exact eq_bool (bx I q Mt)
  | str j=>obtain⟨t',rfl⟩:=ry; exact PySem.EqMixed.eq_bool_str (bx I q (by simp))
  | _=>exact absurd (show false=true from hs) lC
 | int i=>
  obtain⟨t,rfl⟩:=rx
  cases y with
  | non=>cases ry; exact PySem.EqNone.eq_int_none (bx I q (by simp))
  | int j=>obtain⟨t',rfl⟩:=ry; exact eq_int (bx I q Gw)
  | str j=>obtain⟨t',rfl⟩:=ry; exact PySem.EqMixed.eq_int_str (bx I q (by simp))
  | _=>exact absurd (show false=true from hs) lC
 | str i=>
  obtain⟨t,rfl⟩:=rx
  cases y with
  | non=>cases ry; exact PySem.EqNone.eq_str_none (bx I q (by simp))
  | bl j=>cases ry; exact PySem.EqMixed.eq_str_bool (bx I q (by simp))
  | int j=>obtain⟨t',rfl⟩:=ry; exact PySem.EqMixed.eq_str_int (bx I q (by simp))
  | str j=>obtain⟨t',rfl⟩:=ry; exact eq_str (bx I q Gv)
  | _=>exact absurd (show false=true from hs) lC
 | Jv i=>
  obtain⟨t,rfl⟩:=rx
  cases y with
  | Jv j=>obtain⟨t',rfl⟩:=ry; exact PySem.W.eq_bytes (bx I q Gx)
  | _=>exact absurd (show false=true from hs) lC
 | _=>cases y <;> exact absurd (show false=true from hs) lC
theorem uy:mU X (compareOp .NotEq) Vs:=by
 refine .mk ?_
 intro pins s σ H x y v u Q I rx ry h
 obtain⟨hs,q⟩:=h
 cases x with
 | non=>
  cases rx
  cases y with
  | non=>cases ry; exact PySem.EqNone.ne_none_none (bx I q (by simp))
  | bl j=>cases ry; exact PySem.EqNone.ne_none_bool (bx I q (by simp))
  | int j=>obtain⟨t',rfl⟩:=ry; exact PySem.EqNone.ne_none_int (bx I q (by simp))
  | str j=>obtain⟨t',rfl⟩:=ry; exact PySem.EqNone.ne_none_str (bx I q (by simp))
  | _=>exact absurd (show false=true from hs) lC
 | bl i=>
  cases rx
  cases y with
  | non=>cases ry; exact PySem.EqNone.ne_bool_none (bx I q (by simp))
  | bl j=>cases ry; exact ne_bool (bx I q (rJ not Mt))
  | str j=>obtain⟨t',rfl⟩:=ry; exact PySem.EqMixed.ne_bool_str (bx I q (by simp))
  | _=>exact absurd (show false=true from hs) lC
 | int i=>
  obtain⟨t,rfl⟩:=rx
  cases y with
  | non=>cases ry; exact PySem.EqNone.ne_int_none (bx I q (by simp))
  | int j=>obtain⟨t',rfl⟩:=ry; exact ne_int (bx I q (rJ not Gw))
  | str j=>obtain⟨t',rfl⟩:=ry; exact PySem.EqMixed.ne_int_str (bx I q (by simp))
  | _=>exact absurd (show false=true from hs) lC
 | str i=>
  obtain⟨t,rfl⟩:=rx
  cases y with
  | non=>cases ry; exact PySem.EqNone.ne_str_none (bx I q (by simp))
  | bl j=>cases ry; exact PySem.EqMixed.ne_str_bool (bx I q (by simp))
  | int j=>obtain⟨t',rfl⟩:=ry; exact PySem.EqMixed.ne_str_int (bx I q (by simp))
  | str j=>obtain⟨t',rfl⟩:=ry; exact ne_str (bx I q (rJ not Gv))
  | _=>exact absurd (show false=true from hs) lC
 | Jv i=>
  obtain⟨t,rfl⟩:=rx
  cases y with
  | Jv j=>obtain⟨t',rfl⟩:=ry; exact PySem.W.ne_bytes (bx I q (rJ not Gx))
  | _=>exact absurd (show false=true from hs) lC
 | _=>cases y <;> exact absurd (show false=true from hs) lC
theorem Az:mU X (compareOp .Lt) (Ob fun i j=>.bl (decide (i<j))):=OJ fun _ _ _ _ _ _ _ q=>lt_int q
theorem A_:mU X (compareOp .LtE) (Ob fun i j=>.bl (decide (i<=j))):=OJ fun _ _ _ _ _ _ _ q=>le_int q
theorem Ba:mU X (compareOp .Gt) (Ob fun i j=>.bl (decide (j<i))):=OJ fun _ _ _ _ _ _ _ q=>gt_int q
theorem QF:mU X (compareOp .GtE) (Ob fun i j=>.bl (decide (j<=i))):=OJ fun _ _ _ _ _ _ _ q=>ge_int q
theorem Ox:mU X (compareOp .IsNot) (fun x y H Q=>y=.non/\Q (.bl (!decide (x=.non))) H):=by
 refine .mk ?_
 intro pins s σ H x y v u Q I rx ry h
 obtain⟨rfl,q⟩:=h
 cases ry
 refine isnot_none_gen (bx I q ?_)
 cases x <;> first
  | (cases rx; rfl)
  | (obtain⟨t,rfl⟩:=rx; rfl)
theorem bu (b:Expr) {op:CmpOp} (h:op≠.In:=by decide) (h2:op≠.NotIn:=by decide):behindInMarks op b=false:=by
 have e1:(op==CmpOp.In)=false:=by cases op <;> first | rfl | exact absurd rfl h
 have e2:(op==CmpOp.NotIn)=false:=by cases op <;> first | rfl | exact absurd rfl h2
 cases b <;> simp[behindInMarks,e1,e2]
theorem ig {op:CmpOp} {r:R2} (ho:mU X (compareOp op) r) (ha:PE X a ta) (hb:PE X b tb) (hm:behindInMarks op b=false):PE X (.Compare a [op] [b] pos) (Rb r ta tb):=by
 refine .mk ?_
 intro pins s σ H Q I h
 exact wpAny_Compare1 (TF ha hb I h fun v u s2 x y H2 I2 rx ry q=>ho pins s2 σ H2 x y v u Q I2 rx ry q) hm
def JL (t:TE):TT:=fun σ H Q=>t σ H fun x H'=>∃k,x=.bl k/\Q k H'
theorem bf {op:CmpOp} {r:R2} (ho:mU X (compareOp op) r) (ha:PE X a ta) (hb:PE X b tb) (hm:behindInMarks op b=false):PT X (.Compare a [op] [b] pos) (JL (Rb r ta tb)):=by
 refine .mk ?_
 intro pins s σ H Q I h
 refine wpAny_isTrue_Compare1 (bN (ha pins s σ H _ I h) fun v s1 ⟨x,H1,I1,r1,q1⟩=>bN (hb pins s1 σ H1 _ I1 q1) fun u s2 ⟨y,H2,I2,r2,q2⟩=>
  bN (ho pins s2 σ H2 x y v u _ I2 r1 r2 q2) fun c s3 ⟨z,H3,I3,r3,k,e,q3⟩=>?_) hm
 subst e
 cases r3
 exact ym ⟨H3,I3,q3⟩
def CP (r r':R2) (ta tb tc:TE):TE:=fun σ H Q=>ta σ H fun x H1=>tb σ H1 fun y H2=>r x y H2 fun z H3=>∃k,z=.bl k /\
 (if k=true then tc σ H3 fun w' H4=>r' y w' H4 Q else Q (.bl false) H3)
theorem K7 {op op':CmpOp} {r r':R2} (ho:mU X (compareOp op) r) (ho':mU X (compareOp op') r') (ha:PE X a ta) (hb:PE X b tb) (hc:PE X c tc)
  (hm:lastMarks [op,op'] [b,c]=false:=by with_unfolding_all rfl):PE X (.Compare a [op,op'] [b,c] pos) (CP r r' ta tb tc):=by
 refine .mk ?_
 intro pins s σ H Q I h
 refine Compare_chain (bN (ha pins s σ H _ I h) fun v s1 ⟨x,H1,I1,r1,q1⟩=>chain_link (bN (hb pins s1 σ H1 _ I1 q1) fun u s2 ⟨y,H2,I2,r2,q2⟩=>
  bN (ho pins s2 σ H2 x y v u _ I2 r1 r2 q2) fun d s3 ⟨z,H3,I3,r3,k,e,q3⟩=>?_)) hm
 subst e
 cases r3
 refine ym ?_
 cases k with
 | false=>exact ite_ff ⟨.bl false,H3,I3,rfl,q3⟩
 | true=>exact ite_tt (chain_last (bN (hc pins s3 σ H3 _ I3 q3) fun w' s4 ⟨z',H4,I4,r4,q4⟩=>ho' pins s4 σ H4 y z' u w' Q I4 r2 r4 q4))
theorem Kz {op op':CmpOp} {r r':R2} (ho:mU X (compareOp op) r) (ho':mU X (compareOp op') r') (ha:PE X a ta) (hb:PE X b tb) (hc:PE X c tc)
  (hm:lastMarks [op,op'] [b,c]=false:=by with_unfolding_all rfl):PT X (.Compare a [op,op'] [b,c] pos) (JL (CP r r' ta tb tc)):=by
 refine .mk ?_
 intro pins s σ H Q I h
 refine isTrue_chain (bN (ha pins s σ H _ I h) fun v s1 ⟨x,H1,I1,r1,q1⟩=>test_link (bN (hb pins s1 σ H1 _ I1 q1) fun u s2 ⟨y,H2,I2,r2,q2⟩=>
  bN (ho pins s2 σ H2 x y v u _ I2 r1 r2 q2) fun d s3 ⟨z,H3,I3,r3,k,e,q3⟩=>?_)) hm
 subst e
 cases r3
 refine ym ?_
 cases k with
 | false=>
  obtain⟨k',e',q'⟩:=q3
  cases e'
  exact ite_ff ⟨H3,I3,q'⟩
 | true=>
  refine ite_tt (test_last (bN (hc pins s3 σ H3 _ I3 q3) fun w' s4 ⟨z',H4,I4,r4,q4⟩=>bN (ho' pins s4 σ H4 y z' u w' _ I4 r2 r4 q4) fun d' s5 qx=>?_))
  obtain⟨z2,H5,I5,r5,k2,e2,q5⟩:=qx
  subst e2
  cases r5
  exact ym ⟨H5,I5,q5⟩
def Zc (K:PySem.W.Frag) (x:V) (H:Hp) (k:Bool):Prop:=
 match x with
 | .non=>k=false
 | .bl b=>k=b
 | .int i=>k=(i != 0)
 | .str y=>y.length<=sizeLine/\k=((y.length:Int) != 0)
 | .Jv y=>y.size<=sizeLine/\k=((y.size:Int) != 0)
 | .ref p=>(∃xs,fQ K H p xs/\k = !xs.isEmpty)\/(∃xs,bW K H p xs/\k = !xs.isEmpty)\/∃kvs,H p=some (.dK kvs)/\k = !kvs.isEmpty
 | _=>False
theorem uJ:(sizeLine:Nat)<2 ^ 63:=by rw[sizeLine_eq]; decide
theorem vals1 {x:V} {us:List Value} (r:Vals [x] us):∃u,us=[u]/\RelV x u:=by
 cases r with
 | cons r1 r2=>cases r2; exact⟨_,rfl,r1⟩
theorem vals2 {x y:V} {us:List Value} (r:Vals [x,y] us):∃u w',us=[u,w']/\RelV x u/\RelV y w':=by
 cases r with
 | cons r1 r2=>
  cases r2 with
  | cons r3 r4=>cases r4; exact⟨_,_,rfl,r1,r3⟩
theorem BW:cL X (.builtin "abs") (fun xs H Q=>∃i,xs=[.int i]/\Q (.int (if i<0 then -i else i)) H):=by
 refine .mk ?_
 intro pins s σ H xs us Q I r h
 obtain⟨i,rfl,q⟩:=h
 obtain⟨u,rfl,t,rfl⟩:=vals1 r
 exact call_abs_int fun u tk=>⟨.int (if i<0 then -i else i),H,I.tok _,⟨_,rfl⟩,q⟩
theorem jA (hc:X.calm=true):cL X (.builtin "max") (fun xs H Q=>∃i j,xs=[.int i,.int j]/\Q (.int (if j>i then j else i)) H):=by
 refine .mk ?_
 intro pins s σ H xs us Q I r h
 obtain⟨i,j,rfl,q⟩:=h
 obtain⟨u,w',rfl,⟨t,rfl⟩,⟨t',rfl⟩⟩:=vals2 r
 refine max_two_ints (I.ok.hd hc) fun h' tk k=>⟨_,H,I.kept k,?_,q⟩
 by_cases hj:j>i
 ·rw[bc hj,bc hj]; exact⟨_,rfl⟩
 ·rw[aX hj,aX hj]; exact⟨_,rfl⟩
theorem eO (hc:X.calm=true):cL X (.builtin "min") (fun xs H Q=>∃i j,xs=[.int i,.int j]/\Q (.int (if j<i then j else i)) H):=by
 refine .mk ?_
 intro pins s σ H xs us Q I r h
 obtain⟨i,j,rfl,q⟩:=h
 obtain⟨u,w',rfl,⟨t,rfl⟩,⟨t',rfl⟩⟩:=vals2 r
 refine min_two_ints (I.ok.hd hc) fun h' tk k=>⟨_,H,I.kept k,?_,q⟩
 by_cases hj:j<i
 ·rw[bc hj,bc hj]; exact⟨_,rfl⟩
 ·rw[aX hj,aX hj]; exact⟨_,rfl⟩
end
structure T3 (h:Heap) (x dx C:Addr) (mA:Str->Option Value):Prop where
 obj:h.get? x=some (PySem.W.instObj C dx)
 ns:h.Ns1 dx mA
 ne:dx≠x
theorem Ik {h:Heap} {dx:Addr} {mA:Str->Option Value} (n:h.Ns1 dx mA):∃od,h.get? dx=some od/\∀name,PySem.W.lookIn name od=some (mA name):=by
 obtain⟨o,es,ep,ho,hd,hk,_,hm⟩:=n
 refine⟨o,ho,fun name=>?_⟩
 have e:=hm name
 unfold nsFind findBy at e
 rw[<- Array.find?_toList] at e
 unfold PySem.W.lookIn
 rw[hd]
 dsimp only
 split
 ·rename_i y q
  rw[q] at e
  exact rJ some e
 ·rename_i q
  rw[q] at e
  have a:es.toList.any (·.refKey)=false:=by
   rw[List.any_eq_false]
   intro y hy
   obtain⟨z,t,hkey⟩:=hk y (Array.mem_toList_iff.mp hy)
   simp[DictEntry.refKey,hkey]
  have a':¬es.toList.any (·.refKey)=true:=by rw[a]; exact lC
  rw[aX a']
  exact rJ some e
theorem T3.look {h:Heap} {x dx C:Addr} {mA:Str->Option Value} (I:T3 h x dx C mA):∃od,PySem.W.InstAt h x (PySem.W.instObj C dx) C (some od)/\∀name,PySem.W.lookIn name od=some (mA name):=
 let ⟨od,ho,hl⟩:=Ik I.ns
 ⟨od,⟨I.obj,rfl,rfl,ho⟩,hl⟩
section
variable {prog:Program} {w:World} {A:Around} {E:Value->Shared->Prop} {s:Shared} {K:PySem.W.Frag} {x dx C f:Addr} {mA:Str->Option Value} {name:Str} {v:Value}
end
theorem zK.some_of {v:V} {o:Option Value} (r:zK (some v) o):∃u,o=some u/\RelV v u:=by
 cases o with
 | none=>exact(show False from r).elim
 | some u=>exact⟨u,rfl,r⟩
section
variable {P:Program} {w:World} {H H':Hp} {h h':Heap} {a C dx:Addr} {fs fs':List (Str×V)}
theorem PB (hok:j0 P w H h) (e:H a=some (.ins C dx fs)):∃mA,T3 h a dx C mA/\(∀f,zK (fs.lookup f) (mA f))/\PySem.Within mA (fs.map (·.1))/\fs.length<=1000/\H dx=some (.own a):=by
 obtain⟨d,z,ne,ob,mA,n,r,q⟩:=(show bZ P w H h a (.ins C dx fs) from hok a _ e)
 exact⟨mA,⟨ob,n,ne⟩,r,q,z,d⟩
end
structure Zo (K:PySem.W.Frag) (C:Addr):Prop where
 pg:PySem.W.plainGet K C Str.empty=true
 hd:PySem.W.hasDictIn K C=true
 po:PySem.W.plainOver K C=true
 sa:PySem.W.findIn K (.ref C) "__setattr__" = some (some (.builtin "object.__setattr__"))
theorem Zo.get {K:PySem.W.Frag} {C:Addr} (c:Zo K C) (f:Str):PySem.W.plainGet K C f=true:=c.pg
structure Con (K:PySem.W.Frag) (C:Addr) (f:Str) (v:V) (u:Value):Prop where
 at_:PySem.W.findIn K (.ref C) f=some (some u)
 rel:RelV v u
 get:PySem.W.specialIn K u "__get__" = some none
 cp:PySem.W.copiedNames.contains f=false
structure Meth (K:PySem.W.Frag) (C:Addr) (m:Str) (f:Addr):Prop where
 at_:PySem.W.findIn K (.ref C) m=some (some (.ref f))
 fn:PySem.W.isFn K (.ref f)=true
 kp:PySem.W.keepIn K (.ref f)=true
section
variable {X:Cx} {pins:List (Addr×Obj)} {σ:St} {H:Hp} {s:Shared} {a C dx:Addr} {fs:List (Str×V)} {f:Str} {v:V} {A:Around} {E:Value->Shared->Prop}
end
section
variable {X:Cx} {o e value:Expr} {f:Str} {pos pos' tpos:Pos} {ta tv:TE}
end
section
variable {X:Cx} {pins:List (Addr×Obj)} {σ:St} {H:Hp} {s:Shared} {A:Around} {E:Value->Shared->Prop} {Q:Value->Shared->Prop} {c:Value} {b:Bool}
inductive qU (K:PySem.W.Frag) (H:Hp):V->Value->Prop where
 | non:qU K H .non (.type "NoneType")
 | bl (x:Bool):qU K H (.bl x) (.type "bool")
 | int (i:Int):qU K H (.int i) (.type "int")
 | str (x:Str):qU K H (.str x) (.type "str")
 | flt (x:UInt64):qU K H (.flt x) (.type "float")
 | lst {a:Addr} {xs:List V} (e:H a=some (.lst xs)):qU K H (.ref a) (.type "list")
 | zb {a:Addr} {o:Obj} {xs:List V} (e:H a=some (.zb o (.lst xs))):qU K H (.ref a) (.type "list")
 | tup {a:Addr} {xs:List V} (e:H a=some (.tup xs)):qU K H (.ref a) (.type "tuple")
 | dK {a:Addr} {kvs:List (Key×V)} (e:H a=some (.dK kvs)):qU K H (.ref a) (.type "dict")
 | dT {a:Addr} {kvs:List (List Key×V)} (e:H a=some (.dT kvs)):qU K H (.ref a) (.type "dict")
 | ins {a C dx:Addr} {fs:List (Str×V)} (e:H a=some (.ins C dx fs)) (cl:Zo K C) (ha:PySem.W.findIn K (.ref C) "__class__" = some (some (.builtin "object.__class__")))
   (hn:PySem.W.specialIn K (.builtin "object.__class__") "__get__" = some (some (.builtin "getset_descriptor.__get__"))) (htk:PySem.W.takesIn K (.builtin "object.__class__")=some true)
   (hm:PySem.W.mroIn K C (.type "object")=some true):qU K H (.ref a) (.ref C)
theorem Im {x:V} {u t:Value} (I:Inv X pins σ H s) (rx:RelV x u) (ty:qU X.K H x t) (e:PySem.W.kitOne X.K t c=some b) (h:∀tk,Q (.bool b) { s with toks:=tk }) :
  wpAny (model X.prog X.w) A (call (.builtin "isinstance") [u,c]) Q E s:=by
 cases ty with
 | non=>cases(show u=Value.none from rx); exact PySem.W.kia_one PySem.W.kitx_none I.vB True.intro e (fun z=>nomatch z) h
 | bl y=>cases(show u=Value.bool y from rx); exact PySem.W.kia_one PySem.W.kitx_bool I.vB True.intro e (fun z=>nomatch z) h
 | int i=>obtain⟨t,q⟩:=(show ∃t,u=Value.int i t from rx); cases q; exact PySem.W.kia_one PySem.W.kitx_int I.vB True.intro e (fun z=>nomatch z) h
 | str y=>obtain⟨t,q⟩:=(show ∃t,u=Value.str y t from rx); cases q; exact PySem.W.kia_one PySem.W.kitx_str I.vB True.intro e (fun z=>nomatch z) h
 | flt y=>obtain⟨t,q⟩:=(show ∃t,u=Value.float y t from rx); cases q; exact PySem.W.kia_one PySem.W.kitx_float I.vB True.intro e (fun z=>nomatch z) h
 | @lst a xs ea=>
  cases(show u=Value.ref a from rx)
  obtain⟨_,_,n,_,h1⟩:=(show bZ X.prog X.w H s.heap a (.lst xs) from I.hok a _ ea)
  exact PySem.W.kia_one PySem.W.kitx_list I.vB ⟨_,h1,rfl⟩ e (fun z=>nomatch z) h
 | @zb a ob xs ea=>
  cases(show u=Value.ref a from rx)
  obtain⟨_,_,_,n,_,h1⟩:=(show bZ X.prog X.w H s.heap a (.zb ob (.lst xs)) from I.hok a _ ea)
  exact PySem.W.kia_one PySem.W.kitx_list I.vB ⟨_,h1,rfl⟩ e (fun z=>nomatch z) h
 | @tup a xs ea=>
  cases(show u=Value.ref a from rx)
  obtain⟨_,_,_,p⟩:=(show bZ X.prog X.w H s.heap a (.tup xs) from I.hok a _ ea)
  obtain⟨o,h1,h2,_⟩:=p
  exact PySem.W.kia_one PySem.W.kitx_tuple I.vB ⟨o,h1,h2⟩ e (fun z=>nomatch z) h
 | @dK a kvs ea=>
  cases(show u=Value.ref a from rx)
  obtain⟨_,_,vs,_,p⟩:=(show bZ X.prog X.w H s.heap a (.dK kvs) from I.hok a _ ea)
  obtain⟨o,es,ep,h1,h2,_⟩:=p
  exact PySem.W.kia_one PySem.W.kitx_dict I.vB ⟨o,h1,h2.1⟩ e (fun z=>nomatch z) h
 | @dT a kvs ea=>
  cases(show u=Value.ref a from rx)
  obtain⟨_,_,xs,_,o,es,ep,h1,h2,_⟩:=(show bZ X.prog X.w H s.heap a (.dT kvs) from I.hok a _ ea)
  exact PySem.W.kia_one PySem.W.kitx_dict I.vB ⟨o,h1,h2.1⟩ e (fun z=>nomatch z) h
 | @ins a C dx fs ea cl ha hn htk hm=>
  cases(show u=Value.ref a from rx)
  obtain⟨mA,O,_⟩:=PB I.hok ea
  obtain⟨od,J,_⟩:=O.look
  exact PySem.W.kia_one (PySem.W.kitx_own (cl.get _) cl.hd ha hn htk hm) I.vB J e (fun z=>nomatch z) h
end
structure eU (k:Nat) (A:Around):Prop where
 hd:A.handled=none
 dp:A.depth+3*k+5<recursionLimit
 un:A.units+16*k+200<cLine
 gd:A.guards=some []
theorem eU.mono {j k:Nat} {A:Around} (r:eU k A) (h:j<=k):eU j A:=⟨r.hd,by have:=r.dp; omega,by have:=r.un; omega,r.gd⟩
theorem eU.deeper {k:Nat} {A:Around} (r:eU (k+1) A) (env:Env):eU k (A.deeper env):=
 ⟨r.hd,by have:=r.dp; show A.depth+1+3*k+5<_; omega,by have:=r.un; show A.units+3+16*k+200<_; omega,by first | exact r.gd | (simpa[Around.deeper,Around.under,Code.guards,Code.isGuard,guardIds,pushGuards] using r.gd)⟩
theorem eU.depth {k:Nat} {A:Around} (r:eU k A):A.depth<recursionLimit:=by have:=r.dp; omega
theorem eU.units {k:Nat} {A:Around} (r:eU k A):A.units+64<cLine:=by have:=r.un; omega
theorem eU.Q9 {k:Nat} {A:Around} (r:eU k A):A.units<cLine:=by have:=r.un; omega
def CJ:TA:=fun _ H Q=>Q [] H
def oY (ta:TE) (tr:TA):TA:=fun σ H Q=>ta σ H fun x H1=>tr σ H1 fun xs H2=>Q (x::xs) H2
section
variable {X:Cx} {e:Expr} {es:List Expr} {te:TE} {t:TA} {pos:Pos}
theorem aj:PA X [] CJ:=.mk <| fun _ _ _ _ H Q I h=>Calls.spliced_nil ⟨[],H,I,.nil,h⟩
theorem Ov (ha:PE X e te) (hr:PA X es t) (hs:starEach (e::es) X.env=(false,eval e X.env)::starEach es X.env:=by rfl):PA X (e::es) (oY te t):=by
 refine .mk ?_
 intro pos pins s σ H Q I h
 rw[hs]
 show wpAny _ _ (spliced ((false,eval e X.env)::backTo pos (starEach es X.env))) _ _ s
 refine Calls.spliced_cons (bN (ha pins s σ H _ I h) fun u s1 qx=>?_)
 obtain⟨x,H1,I1,r1,q1⟩:=qx
 exact bN (hr pos pins s1 σ H1 _ I1 q1) fun us s2 ⟨xs,H2,I2,r2,q2⟩=>⟨x::xs,H2,I2,.cons r1 r2,q2⟩
def Ra (t:TA):TE:=fun σ H Q=>t σ H fun xs H1=>xs.length<=sizeLine/\∀p,H1 p=none->Q (.ref p) (upd H1 p (.tup xs))
def U7 (t:TA):TE:=fun σ H Q=>t σ H fun xs H1=>xs.length<=sizeLine/\∀p,H1 p=none->Q (.ref p) (upd H1 p (.lst xs))
theorem KZ {x1} (h:PA X es t):PE X (.Tuple es x1 pos) (Ra t):=by
 refine .mk ?_
 intro pins s σ H Q I hq
 refine wpAny_Tuple_spliced (bN (h pos pins s σ H _ I hq) fun us s1 ⟨xs,H1,I1,r,z,q⟩=>⟨by rw[<- r.length]; exact z,?_⟩)
 have hf:H1 s1.heap.objs.size=none:=I1.hok.fresh (bD _)
 refine⟨.ref s1.heap.objs.size,upd H1 s1.heap.objs.size (.tup xs),I1.laid (t':=s1.toks) (fun b u e=>fM _ e) (bD _) ?_,rfl,q _ hf⟩
 exact⟨z,us,r,⟨_,j_ _ rfl,rfl,_,rfl⟩⟩
theorem K3 (h:PA X es t):PE X (.List es pos) (U7 t):=by
 refine .mk ?_
 intro pins s σ H Q I hq
 refine wpAny_List_spliced (bN (h pos pins s σ H _ I hq) fun us s1 ⟨xs,H1,I1,r,z,q⟩=>⟨by rw[<- r.length]; exact z,?_⟩)
 have hf:H1 s1.heap.objs.size=none:=I1.hok.fresh (bD _)
 refine⟨.ref s1.heap.objs.size,upd H1 s1.heap.objs.size (.lst xs),I1.laid (t':=s1.toks) (fun b u e=>fM _ e) (bD _) ?_,rfl,q _ hf⟩
 exact⟨z,us,0,r,j_ _ rfl⟩
end
abbrev Sp:=List V->Hp->VK->XK->Prop
abbrev G8:=List Env->Hp->Shared->XK->Value->Shared->Prop
structure Qh (P:Program) (w:World) (K:PySem.W.Frag) (mg:Str->Option Value) (base:Heap) (A:Around) (outer:List Env) (s:Shared) (H:Hp):Prop where
 frames:A.frames=some outer
 mod:Mod K mg base
 bs:∀b o,base.get? b=some o->s.heap.get? b=some o/\H b=none
 MK:base.objs.size<=s.heap.objs.size
 rZ:s.heap.FunFrames base outer
 Tg:∀b∈frs outer,H b=none
 hok:j0 P w H s.heap
 bare:AllBare s.gens
def CE (outer:List Env) (P:Program) (w:World) (H:Hp) (s:Shared) (Q:VK) (u:Value) (s':Shared):Prop:=
 ∃v H',s'.os=s.os/\AllBare s'.gens/\Un (frs outer) [] H H' s.heap s'.heap/\j0 P w H' s'.heap/\RelV v u/\Q v H'
def CR (CX:G8) (outer:List Env) (P:Program) (w:World) (H:Hp) (s:Shared) (Q:VK) (E:XK) (r:Result) (s':Shared):Prop:=
 match r with
 | .ok (.ret u)=>CE outer P w H s Q u s'
 | .ok _=>False
 | .error e=>CX outer H s E e s'
structure bG (P:Program) (w:World) (K:PySem.W.Frag) (mg:Str->Option Value) (base:Heap) (CX:G8) (k:Nat) (f:Addr) (fd:FuncData) (ps:List Str) (sp:Sp):Prop where
 len:∀vs H Q E,sp vs H Q E->vs.length=ps.length
 run:∀(A:Around) (outer:List Env) (s:Shared) (H:Hp) (args:Args) (us:List Value) (vs:List V) (Q:VK) (E:XK),eU k A->Qh P w K mg base A outer s H->BindsTo s fd args (ps.zip us)->Vals vs us->sp vs H Q E ->
  codeAny (model P w) A (.call (.ref f) args) (CR CX outer P w H s Q E) s
theorem bG.mono {P:Program} {w:World} {K:PySem.W.Frag} {mg:Str->Option Value} {base:Heap} {CX:G8} {j k:Nat} {f:Addr} {fd:FuncData} {ps:List Str} {sp:Sp} (F:bG P w K mg base CX j f fd ps sp) (h:j<=k) :
  bG P w K mg base CX k f fd ps sp:=⟨F.len,fun A outer s H args us vs Q E hr=>F.run A outer s H args us vs Q E (hr.mono h)⟩
section
variable {X:Cx} {pins:List (Addr×Obj)} {σ:St} {H:Hp} {s s':Shared}
theorem Inv.env0 (I:Inv X pins σ H s):Qh X.prog X.w X.K X.mg X.base X.A X.stack s H:=
 ⟨I.ok.frames,I.ok.mod,I.bs,fK I.ok.MK I.sz,I.stack,I.sr,I.hok,I.bare⟩
theorem Inv.after {Q:VK} {u:Value} (I:Inv X pins σ H s) (h:CE X.stack X.prog X.w H s Q u s'):EP X pins σ Q u s':=by
 obtain⟨v,H',os,bare,un,hok,r,q⟩:=h
 obtain⟨hh,g,d,t,os'⟩:=s'
 obtain rfl:os'=s.os:=os
 exact⟨v,H',I.call (h':=hh) (g':=g) (d':=d) (t':=t) (ch:=[]) un hok bare (fun b z=>absurd z (by simp)),r,q⟩
end
def mY (sp:Sp) (Ju:List V) (E:XK) (t:TA):TE:=fun σ H Q=>t σ H fun vs H1=>sp (vs++Ju) H1 Q E
def Binds (K:PySem.W.Frag) (fd:FuncData) (ps:List Str) (ds:List Value):Prop:=
 ∀(s:Shared) (us:List Value),K.In s.heap->(us++ds).length=ps.length->BindsTo s fd ⟨us,[]⟩ (ps.zip (us++ds))
theorem Binds.all {K:PySem.W.Frag} {fd:FuncData} {ps:List Str} (h:∀us:List Value,us.length=ps.length->bindArgs fd ⟨us,[]⟩=pure (ps.zip us)):Binds K fd ps []:=fun s us _ hl=>by
 rw[qD] at hl ⊢
 exact .of_eq (h us hl)
def Passes (CX:G8) (X:Cx) (E:XK):Prop:=∀(pins:List (Addr×Obj)) (σ:St) (H:Hp) (s:Shared) (e:Value) (s':Shared),Inv X pins σ H s->CX X.stack H s E e s'->X.xe e s'
section
variable {X:Cx} {CX:G8} {k:Nat} {f C:Addr} {fd:FuncData} {ps:List Str} {sp:Sp} {Ju:List V} {ds:List Value} {E:XK} {x m:Str} {p pos apos:Pos} {e o:Expr} {es:List Expr} {ta:TE} {t:TA}
theorem Rt {pins:List (Addr×Obj)} {σ:St} {H:Hp} {s:Shared} {Q:VK} {us:List Value} {vs:List V} (F:bG X.prog X.w X.K X.mg X.base CX k f fd ps sp) (hr:eU k X.A) (hb:Binds X.K fd ps ds) (hd:Vals Ju ds) (hx:Passes CX X E)
  (I:Inv X pins σ H s) (r:Vals vs us) (h:sp (vs++Ju) H Q E):wpAny (model X.prog X.w) X.A (call (.ref f) us) (EP X pins σ Q) X.xe s:=by
 have r2:Vals (vs++Ju) (us++ds):=r.append hd
 have hl:(us++ds).length=ps.length:=by rw[<- r2.length]; exact F.len _ _ _ _ h
 refine wpAny_call (codeAny_mono (F.run X.A X.stack s H ⟨us,[]⟩ (us++ds) (vs++Ju) Q E hr I.env0 (hb s us I.vB hl) r2 h) fun r s' hq=>?_)
 cases r with
 | error e=>exact hx pins σ H s e s' I hq
 | ok fl=>
  cases fl with
  | ret u=>exact I.after hq
  | next=>exact False.elim hq
  | brk=>exact False.elim hq
  | cont=>exact False.elim hq
theorem yD (F:bG X.prog X.w X.K X.mg X.base CX k f fd ps sp) (hr:eU k X.A) (hg:Gl X x) (hm:X.mg x=some (.ref f)) (hk:PySem.W.keepIn X.K (.ref f)=true) (hb:Binds X.K fd ps ds) (hd:Vals Ju ds) (hx:Passes CX X E)
  (ha:PA X (e::es) t) (hdb:(x==("__debug__" : Str))=false:=by decide) (he:starEach (e::es) X.env=(false,eval e X.env)::starEach es X.env:=by rfl) (hpl:(backTo pos (starEach es X.env)).any (·.1)=false:=by rfl) :
  PE X (.Call (.Name x p) (e::es) [] pos) (mY sp Ju E t):=by
 refine .mk ?_
 intro pins s σ H Q I h
 refine uq (pN I hg hm ?_ hdb)
 refine PySem.W.callWith_K (h₀:=X.base) I.ok.mod.QK hk (bN (ha pos pins s σ H _ I h) fun us s1 ⟨vs,H1,I1,r,q⟩=>⟨I1.vB,?_⟩) he hpl
 exact Rt F hr hb hd hx I1 r q
structure Mk (K:PySem.W.Frag) (C f:Addr):Prop where
 makes:PySem.W.makesIn K C=true
 init:PySem.W.findIn K (.ref C) "__init__" = some (some (.ref f))
 fn:PySem.W.isFn K (.ref f)=true
 kp:PySem.W.keepIn K (.ref C)=true
end
def PK (X:Cx) (kws:List Keyword) (t:TA):Prop:=
 ∀(pos:Pos) (pins:List (Addr×Obj)) (s:Shared) (σ:St) (H:Hp) (Q:List V->Hp->Prop),Inv X pins σ H s->t σ H Q->wpAny (model X.prog X.w) X.A (evalAll ((backToKw pos (keywordEach kws X.env)).map (·.2))) (AP X pins σ Q) X.xe s
section
variable {X:Cx} {CX:G8} {k:Nat} {f C:Addr} {fd:FuncData} {ps ks:List Str} {sp:Sp} {E:XK} {x m:Str} {p pos apos Pk:Pos} {e o:Expr} {es:List Expr} {kws:List Keyword} {te ta:TE} {t tk:TA} {nm:Option Str}
theorem RL:PK X [] CJ:=fun _ _ _ _ H Q I h=>wpAny_evalAll_nil ⟨[],H,I,.nil,h⟩
theorem Om (ha:PE X e te) (hr:PK X kws t):PK X (⟨nm,e,Pk⟩::kws) (oY te t):=by
 intro pos pins s σ H Q I h
 show wpAny _ _ (evalAll ((do let v <- eval e X.env; standAt pos; pure v)::(backToKw pos (keywordEach kws X.env)).map (·.2))) _ _ s
 refine wpAny_evalAll_cons (aW (bN (ha pins s σ H _ I h) fun u s1 ⟨x,H1,I1,r1,q1⟩=>aW (ye (bR ?_))))
 exact bN (hr pos pins s1 σ H1 _ I1 q1) fun us s2 ⟨xs,H2,I2,r2,q2⟩=>⟨x::xs,H2,I2,.cons r1 r2,q2⟩
structure Zf (K:PySem.W.Frag) (fd:FuncData) (ps ks:List Str) (g:List Value->List Value->List Value) (gV:List V->List V->List V):Prop where
 to:∀(s:Shared) (us ws:List Value),K.In s.heap->(g us ws).length=ps.length->BindsTo s fd ⟨us,ks.zip ws⟩ (ps.zip (g us ws))
 rel:∀{vs:List V} {us:List Value} {zs:List V} {ws:List Value},Vals vs us->Vals zs ws->Vals (gV vs zs) (g us ws)
variable {g:List Value->List Value->List Value} {gV:List V->List V->List V}
end
structure aQ (N P:List Str) (sc:Scope):Prop where
 kind:sc.kind=.function
 co:sc.isCoroutine=false
 gen:sc.isGenerator=false
 nd:N.Nodup
 pre:N.take P.length=P
 par:∀x∈P,sc.names.lookup x=some .local\/sc.names.lookup x=some .cell
 R7:∀y∈sc.names,y.2≠.free
theorem xg {kindOf:Str->Option NameKind} {x:Str}:∀{binds:List (Str×Value)} {m:Str->Option Value},(∀v,(x,v)∉binds)->bindL kindOf binds m x=m x
 | [],_,_=>rfl
 | (n,v)::r,m,h=>by
  unfold bindL
  rw[xg fun w hw=>h w (gQ _ hw)]
  split
  ·have:x≠n:=by rintro rfl; exact h v fO
   simp[this]
  ·rfl
theorem xm {kindOf:Str->Option NameKind} {x:Str}:∀{binds:List (Str×Value)} {m:Str->Option Value},(∀v,(x,v)∉binds)->bindC kindOf binds m x=m x
 | [],_,_=>rfl
 | (n,v)::r,m,h=>by
  unfold bindC
  rw[xm fun w hw=>h w (gQ _ hw)]
  split
  ·rfl
  ·have:x≠n:=by rintro rfl; exact h v fO
   simp[this]
theorem xj {kindOf:Str->Option NameKind} {x:Str} {v:Value}:∀{P:List Str} {vs:List Value} {i:Nat} {m:Str->Option Value},P.Nodup->P[i]?=some x->vs[i]?=some v->kindOf x=some .local ->
  bindL kindOf (P.zip vs) m x=some v
 | [],_,_,_,_,h,_,_=>by simp at h
 | _::_,[],_,_,_,_,h,_=>by simp at h
 | p::P,w::vs,0,m,nd,h1,h2,hk=>by
  simp at h1 h2; subst h1; subst h2
  show bindL kindOf ((p,w)::P.zip vs) m p=_
  unfold bindL
  rw[xg fun v hv=>(List.nodup_cons.mp nd).1 (List.of_mem_zip hv).1,bc hk]
  simp
 | p::P,w::vs,i+1,m,nd,h1,h2,hk=>by
  show bindL kindOf ((p,w)::P.zip vs) m x=_
  unfold bindL
  exact xj (i:=i) (List.nodup_cons.mp nd).2 (by simpa using h1) (by simpa using h2) hk
theorem xn {kindOf:Str->Option NameKind} {x:Str} {v:Value}:∀{P:List Str} {vs:List Value} {i:Nat} {m:Str->Option Value},P.Nodup->P[i]?=some x->vs[i]?=some v->kindOf x≠some .local ->
  bindC kindOf (P.zip vs) m x=some v
 | [],_,_,_,_,h,_,_=>by simp at h
 | _::_,[],_,_,_,_,h,_=>by simp at h
 | p::P,w::vs,0,m,nd,h1,h2,hk=>by
  simp at h1 h2; subst h1; subst h2
  show bindC kindOf ((p,w)::P.zip vs) m p=_
  unfold bindC
  rw[xm fun v hv=>(List.nodup_cons.mp nd).1 (List.of_mem_zip hv).1,aX hk]
  simp
 | p::P,w::vs,i+1,m,nd,h1,h2,hk=>by
  show bindC kindOf ((p,w)::P.zip vs) m x=_
  unfold bindC
  exact xn (i:=i) (List.nodup_cons.mp nd).2 (by simpa using h1) (by simpa using h2) hk
def start (N:List Str) (vs:List V):St:=vs.map some++List.replicate (N.length-vs.length) none
def fC (CX:G8) (P:Program) (w:World) (K:PySem.W.Frag) (mg:Str->Option Value) (base:Heap) (N:List Str) (qual:Str) (scope:Scope) (f:Addr) (cd:Value) (A:Around) (outer:List Env) (s:Shared) (H:Hp) (E:XK):Cx where
 prog:=P
 w:=w
 K:=K
 mg:=mg
 base:=base
 A:=A.deeper (envOfC qual scope s.heap.objs.size f cd)
 N:=N
 s₀:=s
 H₀:=H
 env:=envOfC qual scope s.heap.objs.size f cd
 outer:=outer
 stack:=envOfC qual scope s.heap.objs.size f cd::outer
 ex:=[]
 calm:=true
 fn:=fun _=>true
 pn:=[]
 xe:=fun e s'=>wpAny (model P w) (A.deeper (envOfC qual scope s.heap.objs.size f cd)) (leaving (envOfC qual scope s.heap.objs.size f cd) e) (fun _ s''=>CX outer H s E e s'') (fun e' s''=>CX outer H s E e' s'') s'
theorem BV {sc:Scope} {n:Nat} {x:Str} (h:sc.names.lookup x=some .cell):∃c,(cellsFrom n sc.names []).lookup x=some c:=by
 have q:=PySem.W.cellsFrom_some sc.names n [] (.inl h)
 exact Kq.mp q
theorem wU {CX:G8} {P:Program} {w:World} {K:PySem.W.Frag} {mg:Str->Option Value} {base:Heap} {N ps:List Str} {qual:Str} {scope:Scope} {f:Addr} {cd:Value} {A:Around} {outer:List Env} {s s1:Shared} {H:Hp} {E:XK} {us:List Value} {vs:List V}
  (S:aQ N ps scope) (hd:A.handled=none) (e0:Qh P w K mg base A outer s H) (hl:vs.length=ps.length) (r:Vals vs us)
  (x:InCallC s s.heap.objs.size (bindL (envOfC qual scope s.heap.objs.size f cd).kindOf (ps.zip us) fun _=>none) (cellsFrom (s.heap.objs.size+1) scope.names []) (bindC (envOfC qual scope s.heap.objs.size f cd).kindOf (ps.zip us) fun _=>none) s1) :
  Inv (fC CX P w K mg base N qual scope f cd A outer s H E) [] (start N vs) H s1:=by
 have hpl:ps.length<=N.length:=by have:=rJ List.length S.pre; rw[pI] at this; omega
 obtain⟨h1,tk,rfl,hk⟩:=x.done
 have VM:∀b:Addr,b∉(fC CX P w K mg base N qual scope f cd A outer s H E).ex:=fun b z=>absurd (show b∈([]:List Addr) from z) (by simp)
 refine⟨⟨e0.mod,S.kind,rfl,rfl,bD _,fun y z c h1 h2=>?_,fun y hy=>?_,fun y c _ h=>?_,fun _=>hd,Around.frames_deeper e0.frames,.inr ⟨rfl,rfl⟩,fun b z=>absurd z (VM b),e0.bs,e0.MK,fun b _ _=>VM b,fun b z=>absurd z (VM b),e0.rZ,e0.Tg⟩,
  rfl,e0.bare,Un.kept hk,⟨_,x.toInCall.ns,fun i y v h1 h2 h3=>?_⟩,fun y c h=>⟨_,x.cell y c h⟩,e0.hok.fresh (bD _),fun y c h=>?_,fun p hp=>absurd (show p∈([]:List (Addr×Obj)) from hp) (by simp),e0.hok.kept hk,?_⟩
 ·exact name_of_addr x.apart (PySem.mem_of_lookup h1) (PySem.mem_of_lookup h2)
 ·have hy:scope.names.lookup y=some .cell\/scope.names.lookup y=some .free:=hy
  rcases hy with hy | hy
  ·exact BV hy
  ·exact absurd rfl (S.R7 _ (PySem.mem_of_lookup hy))
 ·exact jH (x.above y c (PySem.mem_of_lookup h))
 ·have hi:i<vs.length:=by
   unfold start at h2
   by_cases hi:i<vs.length
   ·exact hi
   ·rw[Al (by simpa using hi)] at h2
    rw[Ku] at h2
    split at h2 <;> cases h2
  have ha:vs[i]?=some v:=by
   unfold start at h2
   rw[Dp (by simpa using hi),dz] at h2
   cases e:vs[i]? with
   | none=>rw[e] at h2; cases h2
   | some a=>rw[e] at h2; cases h2; rfl
  obtain⟨u,hu,rv⟩:=r.get ha
  have hp:ps[i]?=some y:=by
   rw[<- S.pre,List.getElem?_take_of_lt (by omega)]; exact h1
  have Z7:ps.Nodup:=by rw[<- S.pre]; exact S.nd.sublist (List.take_sublist _ _)
  refine⟨u,rv,?_⟩
  rcases S.par y (vK hp) with k | k
  ·exact .inl ⟨k,xj Z7 hp hu k⟩
  ·obtain⟨c,e⟩:=BV (n:=s.heap.objs.size+1) k
   refine .inr ⟨.inl k,c,e,?_⟩
   have q:=x.cell y c e
   rw[xn Z7 hp hu (by show scope.names.lookup y≠_; rw[k]; decide)] at q
   exact q
 ·exact e0.hok.fresh (jH (x.above y c (PySem.mem_of_lookup h)))
 ·unfold start
  show _=N.length
  rw[dR,eY,yq]
  omega
theorem QR {CX:G8} {P:Program} {w:World} {K:PySem.W.Frag} {mg:Str->Option Value} {base:Heap} {k:Nat} {f:Addr} {name qual:Str} {params:Arguments} {body:List Stmt} {scope:Scope} {dV kV doc pm cdv ct oc:Value} {an od:Option Addr}
  {osl:Array (Option Value)} {N ps:List Str} {sp:Sp} (lk:K.lookup f=some ⟨oc,od,.func (PySem.W.fnOf name qual params body scope dV kV doc pm an cdv ct),osl⟩) (hcd:PySem.W.codeIn K cdv qual=true) (S:aQ N ps scope)
  (len:∀vs H Q E,sp vs H Q E->vs.length=ps.length)
  (hbody:∀(A:Around) (outer:List Env) (s:Shared) (H:Hp) (vs:List V) (Q:VK) (E:XK),eU k (A.deeper (envOfC qual scope s.heap.objs.size f cdv))->sp vs H Q E ->
   ∃t,zL (fC CX P w K mg base N qual scope f cdv A outer s H E) body t/\t { nx:=fun _ H'=>Q .non H',rt:=Q } (start N vs) H) :
  bG P w K mg base CX (k+1) f (PySem.W.fnOf name qual params body scope dV kV doc pm an cdv ct) ps sp:=by
 refine⟨len,fun A outer s H args us vs Q E hr e0 hb r hsp=>?_⟩
 have hl:=len _ _ _ _ hsp
 have KX:K.In s.heap:=e0.mod.QK.keeps fun b o e=>(e0.bs b o e).1
 have lim:s.heap.NoLimit:=e0.mod.nolimit.keeps fun b o e=>(e0.bs b o e).1
 have hkind:∀y∈ps.zip us,scope.names.lookup y.1=some .local\/(scope.names.lookup y.1=some .cell/\((cellsFrom (s.heap.objs.size+1) scope.names []).lookup y.1).isSome=true):=fun⟨n,v⟩ hy=>by
  rcases S.par n (List.of_mem_zip hy).1 with q | q
  ·exact .inl q
  ·exact .inr ⟨q,PySem.W.cellsFrom_some _ _ _ (.inl q)⟩
 refine codeAny_call_function hr.depth (KX _ _ lk) rfl S.co S.gen rfl (PySem.W.codeRec_of KX hcd) (hb _ _ _ _ ?_)
 refine wpAny_newFunctionEnv_cells S.kind hkind fun env he s1 x=>?_
 subst he
 refine⟨lim.keeps x.toInCall.keep,codeAny_func ?_⟩
 obtain⟨t,ht,hq⟩:=hbody A outer s H vs Q E (hr.deeper _) hsp
 have I:Inv (fC CX P w K mg base N qual scope f cdv A outer s H E) [] (start N vs) H s1:=wU S hr.hd e0 hl r x
 refine dN (ht [] s1 (start N vs) H _ I hq) (fun fl s' hs=>?_) fun e s' hs=>hs
 have fin:∀{σ':St} {H':Hp} {v:V} {u:Value},Inv (fC CX P w K mg base N qual scope f cdv A outer s H E) [] σ' H' s'->RelV v u->Q v H'->CE outer P w H s Q u s':=
  fun {σ' H' v u} J rv q=>⟨v,H',J.os,J.bare,J.base,J.hok,rv,q⟩
 cases fl with
 | ret u=>
  obtain⟨v,σ',H',J,rv,q⟩:=hs
  exact fin J rv q
 | next=>
  obtain⟨σ',H',J,q⟩:=hs
  exact fin (v:=V.non) (u:=Value.none) J rfl q
 | brk=>
  obtain⟨_,_,_,q⟩:=hs
  exact False.elim q
 | cont=>
  obtain⟨_,_,_,q⟩:=hs
  exact False.elim q
section
variable {X:Cx} {x:Str} {p pos:Pos} {e:Expr} {es:List Expr} {t:TA} {id T:String} {r:List V->Hp->VK->Prop}
def Rg (r:List V->Hp->VK->Prop) (t:TA):TE:=fun σ H Q=>t σ H fun vs H1=>r vs H1 Q
theorem K8 (hc:cL X (.builtin id) r) (hg:Gl X x) (hm:X.mg x=none) (hv:bootBuiltins x=some (.builtin id)) (ha:PA X (e::es) t) (hn:x ≠ "__name__" := by decide) (hdb:(x==("__debug__" : Str))=false:=by decide)
  (he:starEach (e::es) X.env=(false,eval e X.env)::starEach es X.env:=by rfl) (hpl:(backTo pos (starEach es X.env)).any (·.1)=false:=by rfl):PE X (.Call (.Name x p) (e::es) [] pos) (Rg r t):=by
 refine .mk ?_
 intro pins s σ H Q I h
 refine uq (jj I hg hm hv ?_ hn hdb)
 exact PyProof.Rows.callWith_builtin1 (bN (ha pos pins s σ H _ I h) fun us s1 ⟨vs,H1,I1,r1,q1⟩=>hc pins s1 σ H1 vs us Q I1 r1 q1) he hpl
theorem HJ (hc:cL X (.type T) r) (hg:Gl X x) (hm:X.mg x=none) (hv:bootBuiltins x=some (.type T)) (ha:PA X (e::es) t) (hn:x ≠ "__name__" := by decide) (hdb:(x==("__debug__" : Str))=false:=by decide)
  (he:starEach (e::es) X.env=(false,eval e X.env)::starEach es X.env:=by rfl) (hpl:(backTo pos (starEach es X.env)).any (·.1)=false:=by rfl):PE X (.Call (.Name x p) (e::es) [] pos) (Rg r t):=by
 refine .mk ?_
 intro pins s σ H Q I h
 refine uq (jj I hg hm hv ?_ hn hdb)
 exact PyProof.Rows.callWith_type1 (bN (ha pos pins s σ H _ I h) fun us s1 ⟨vs,H1,I1,r1,q1⟩=>hc pins s1 σ H1 vs us Q I1 r1 q1) he hpl
end
end L2
namespace HT
open PySem PyProof.Rows
section
open PySem.SeqAt
open PySem.AutoSeq1 (wpAny_loadPart')
open PySem.MeetsSeq PySem.MeetsSeq2 PySem.MeetsSeq3
end
section
variable {prog:Program} {w:World} {A:Around} {E:Value->Shared->Prop} {s:Shared}
theorem P0 {t b:Addr} {vs ws:List Value} {Q:Value->Shared->Prop} (ht:IsTup s.heap t vs.toArray) (hb:IsTup s.heap b ws.toArray) (hv:vs≠[])
  (h1:ws=[]->Q (.ref t) s) (h2:ws≠[]->Q (.ref s.heap.objs.size) { s with heap:=s.heap.push { cls:=.type "tuple",data:=.seq (vs++ws).toArray } })
  (hsz:vs.length+ws.length<=sizeLine):wpAny (model prog w) A (binaryOp .Add (.ref t) (.ref b)) Q E s:=by
 obtain⟨⟨cls,dd,data,sl⟩,ho,hc,n,hd⟩:=id ht
 obtain⟨⟨cls2,dd2,data2,sl2⟩,ho2,hc2,n2,hd2⟩:=id hb
 simp only at hc hd hc2 hd2
 subst hc hd hc2 hd2
 have e:vs.toArray++ws.toArray=(vs++ws).toArray:=by simp
 by_cases hw:ws=[]
 ·exact concat_meets ⟨_,ho,rfl⟩ ⟨_,ho2,rfl⟩ noFill_tuple_add seq_tuple_add PySem.F.slot_tuple_add PySem.F.entry_tuple_add (PySem.F.args_tuple_add_2 _ _)
   (tuple_addW1 t b vs.toArray ws.toArray n n2 dd dd2 sl sl2 (by simpa using hv) (by simp[hw])) ⟨ho,ho2,h1 hw⟩
 ·refine concat_meets ⟨_,ho,rfl⟩ ⟨_,ho2,rfl⟩ noFill_tuple_add seq_tuple_add PySem.F.slot_tuple_add PySem.F.entry_tuple_add (PySem.F.args_tuple_add_2 _ _)
   (tuple_addW2 t b vs.toArray ws.toArray n n2 dd dd2 sl sl2 (by simpa using hv) (by simpa using hw) (by rw[dI,dI]; exact hsz)) ⟨ho,ho2,?_⟩
  rw[e]
  exact h2 hw
def d9 (n d:Nat):Option Int->Nat
 | none=>d
 | some v=>if v<0 then(v+(n:Int)).toNat else min v.toNat n
theorem Ab (n d:Nat):d9 n d none=d:=rfl
theorem Fq (n d k:Nat):d9 n d (some (k:Int))=min k n:=by
 show(if(k:Int)<0 then((k:Int)+(n:Int)).toNat else min (k:Int).toNat n)=min k n
 rw[aX (by omega),rO]
theorem Ro (n d:Nat) (hd:d<=n) (o:Option Int):d9 n d o<=n:=by
 cases o with
 | none=>exact hd
 | some v=>
  show(if v<0 then(v+(n:Int)).toNat else min v.toNat n)<=n
  by_cases hv:v<0
  ·rw[bc hv]; omega
  ·rw[aX hv]; exact Nat.min_le_right _ _
theorem GD (v:Int) (n d:Nat):(if v<0 then max (v+(n:Int)) 0 else min v (n:Int))=((d9 n d (some v):Nat):Int):=by
 show(if v<0 then max (v+(n:Int)) 0 else min v (n:Int))=(((if v<0 then(v+(n:Int)).toNat else min v.toNat n):Nat):Int)
 by_cases hv:v<0
 ·simp only[bc hv]; omega
 ·simp only[aX hv]; omega
theorem Er (lo hi:Option Int) (n:Nat):Builtin.Slice.sliceAdjust lo hi 1 (n:Int)=(((d9 n 0 lo:Nat):Int),((d9 n n hi:Nat):Int)):=by
 have h1:¬((1:Int)<0):=by omega
 unfold Builtin.Slice.sliceAdjust
 simp only[h1,if_false]
 refine Prod.ext ?_ ?_
 ·cases lo with
  | none=>rfl
  | some v=>exact GD v n 0
 ·cases hi with
  | none=>rfl
  | some v=>exact GD v n n
theorem Ds (i j:Nat):Builtin.Slice.slicePlaces (i:Int) (j:Int) 1=j-i:=by
 unfold Builtin.Slice.slicePlaces
 have h1:(1:Int)>0:=by omega
 simp only[h1,if_true,Int.ediv_one]
 split <;> omega
theorem tE {v:Value} {o:Option Int} {Q:Option Int->Shared->Prop} (p:IsPart v o) (h:Q o s):wpAny (model prog w) A (Builtin.Slice.slicePartIndex v) Q E s:=by
 cases p with
 | none=>exact slicePart_none h
 | int i t=>exact slicePart_int h
theorem jr {sl:Addr} {vl vu:Value} {lo hi:Option Int} {n:Nat} {Q:Int×Int×Nat->Shared->Prop} (hs:s.heap.IsSliceOf sl vl vu .none) (pl:IsPart vl lo) (pu:IsPart vu hi)
  (h:Q (((d9 n 0 lo:Nat):Int),1,d9 n n hi-d9 n 0 lo) s):wpAny (model prog w) A (Builtin.Slice.sliceApplied (.ref sl) (pure (n:Int))) Q E s:=by
 obtain⟨os,hos,hcs,hds⟩:=id hs
 unfold Builtin.Slice.sliceApplied Builtin.Slice.sliceFields
 refine aW (aW (iB hos hds (x:=vl) rfl (aW (iB hos hds (x:=vu) rfl (aW (iB hos hds (x:=.none) rfl (bR ?_)))))))
 refine aW (slicePart_none ?_)
 show wpAny _ _ (if((1:Int)==0)=true then _ else _) _ _ s
 rw[aX (by decide)]
 refine aW (tE pl (aW (tE pu (aW (bR ?_)))))
 show wpAny _ _ (match Builtin.Slice.sliceAdjust lo hi 1 (n:Int) with | (lo,hi)=>pure (lo,(1:Int),Builtin.Slice.slicePlaces lo hi 1)) _ _ s
 rw[Er lo hi n]
 show wpAny _ _ (pure (((d9 n 0 lo:Nat):Int),(1:Int),Builtin.Slice.slicePlaces ((d9 n 0 lo:Nat):Int) ((d9 n n hi:Nat):Int) 1)) _ _ s
 rw[Ds]
 exact bR h
theorem KQ (xs:Array Value) (i k:Nat):((List.range k).filterMap fun(m:Nat)=>xs[((i:Int)+(m:Int)*1).toNat]?).toArray=((xs.toList.drop i).take k).toArray:=by
 have e:(fun(m:Nat)=>xs[((i:Int)+(m:Int)*1).toNat]?)=fun m=>xs[i+m]?:=by
  funext m
  have:((i:Int)+(m:Int)*1).toNat=i+m:=by omega
  rw[this]
 rw[e]
 have:=pick_run xs i k
 rw[List.filterMap_map] at this
 have e2:((fun x=>xs[x]?)∘fun x=>i+x)=fun m=>xs[i+m]?:=rfl
 rw[e2] at this
 rw[this]
theorem pO {t sl:Addr} {items:Array Value} {vl vu:Value} {lo hi:Option Int} {Q:Value->Shared->Prop} (ht:IsTup s.heap t items) (hs:s.heap.IsSliceOf sl vl vu .none) (pl:IsPart vl lo) (pu:IsPart vu hi)
  (hw:¬(d9 items.size 0 lo=0/\d9 items.size items.size hi=items.size))
  (h:Q (.ref s.heap.objs.size) { s with heap:=s.heap.push { cls:=.type "tuple",data:=.seq ((items.toList.drop (d9 items.size 0 lo)).take (d9 items.size items.size hi-d9 items.size 0 lo)).toArray } })
  (hsz:items.size<=sizeLine):wpAny (model prog w) A (getItem (.ref t) (.ref sl)) Q E s:=by
 have Gm:sizeOk (.seq ((items.toList.drop (d9 items.size 0 lo)).take (d9 items.size items.size hi-d9 items.size 0 lo)).toArray):=by
  show((items.toList.drop (d9 items.size 0 lo)).take (d9 items.size items.size hi-d9 items.size 0 lo)).toArray.size<=sizeLine
  rw[dI,pI,Kg,Array.length_toList]
  omega
 have hj:d9 items.size items.size hi<=items.size:=Ro _ _ (bD _) hi
 obtain⟨os,hos,hcs,hds⟩:=id hs
 have hTs:s.TypeIs (.ref sl) "slice" := ⟨os,hos,hcs⟩
 unfold getItem
 try with_reducible refine Ai ?_
 first | refine aW (bR ?_) | skip
 refine aW (wpAny_sequenceKey ht.typeIs (by decide) ?_)
 refine aW (HD (name:=Str.ofString "__getitem__") ht.typeIs PyProof.Rows.slot_tuple_getitem
  (yj PyProof.Rows.slot_tuple_getitem ht.typeIs entry_tuple_getitem ?_ (args_tuple_getitem _ _)))
 show wpAny _ _ (Builtin.Tuple.tupleItemsOf (.ref t) >>= _) _ _ s
 refine aW (tupleItemsOf_ ht ?_)
 refine aW (wpAny_typeOf hTs ?_)
 rw[bc (by decide)]
 refine aW (jr hs pl pu ?_)
 have hno:¬((((d9 items.size 0 lo:Nat):Int)==0&&(1:Int)==1&&(d9 items.size items.size hi-d9 items.size 0 lo)==items.size)=true):=by
  intro q
  rw[uo,uo] at q
  have q1:((d9 items.size 0 lo:Nat):Int)=0:=eq_of_beq q.1.1
  have q2:d9 items.size items.size hi-d9 items.size 0 lo=items.size:=eq_of_beq q.2
  exact hw ⟨by omega,by omega⟩
 show wpAny _ _ (if(((d9 items.size 0 lo:Nat):Int)==0&&(1:Int)==1&&(d9 items.size items.size hi-d9 items.size 0 lo)==items.size)=true then _ else _) _ _ s
 rw[aX hno,KQ]
 first
  | exact aW (m:=Builtin.Tuple.tupleExact _) (rP (bR ⟨_,rfl,bR h⟩) Gm)
  | exact aW (m:=Builtin.Tuple.tupleExact _) (rP (aW (bR (bR ⟨_,rfl,bR h⟩))) Gm)
  | exact aW (aW (m:=Builtin.Tuple.tupleExact _) (rP (bR (bR ⟨_,rfl,bR h⟩)) Gm))
  | exact aW (aW (m:=Builtin.Tuple.tupleExact _) (rP (bR ⟨_,rfl,bR h⟩) Gm))
end
end HT
namespace L2
open PySem PySem.Spec PyProof.Rows
abbrev TO:=St->Hp->(Option Int->Hp->Prop)->Prop
structure PO (X:Cx) (e:Option Expr) (t:TO):Prop where
 mk ::
 go :
 ∀(pins:List (Addr×Obj)) (s:Shared) (σ:St) (H:Hp) (Q:Option Int->Hp->Prop),Inv X pins σ H s->t σ H Q ->
  wpAny (model X.prog X.w) X.A (evalPart e X.env) (fun u s'=>∃o H',Inv X pins σ H' s'/\IsPart u o/\Q o H') X.xe s
instance {X:Cx} {e:Option Expr} {t:TO}:CoeFun (PO X e t) (fun _=>
 ∀(pins:List (Addr×Obj)) (s:Shared) (σ:St) (H:Hp) (Q:Option Int->Hp->Prop),Inv X pins σ H s->t σ H Q ->
  wpAny (model X.prog X.w) X.A (evalPart e X.env) (fun u s'=>∃o H',Inv X pins σ H' s'/\IsPart u o/\Q o H') X.xe s):=⟨PO.go⟩
def Ez:TO:=fun _ H Q=>Q none H
def Qq (t:TE):TO:=fun σ H Q=>t σ H fun x H1=>∃i,x=.int i/\Q (some i) H1
section
variable {X:Cx} {e:Expr} {te:TE} {lo hi:Option Expr} {tl th:TO} {pos p2:Pos}
theorem ie:PO X none Ez:=by
 refine .mk ?_
 intro pins s σ H Q I h
 rw[evalPart_none]
 exact bR ⟨none,H,I,.none,h⟩
theorem h_ (h:PE X e te):PO X (some e) (Qq te):=by
 refine .mk ?_
 intro pins s σ H Q I hw
 rw[evalPart_some]
 refine bN (h pins s σ H _ I hw) fun u s1 qx=>?_
 obtain⟨x,H1,I1,r1,q1⟩:=qx
 obtain⟨i,rfl,q⟩:=q1
 obtain⟨t,rfl⟩:=r1
 exact⟨some i,H1,I1,.int i t,q⟩
structure Uh (X:Cx) (r:V->Option Int->Option Int->Hp->VK->Prop):Prop where
 mk ::
 go :
 ∀(pins:List (Addr×Obj)) (s:Shared) (σ:St) (H:Hp) (x:V) (v vl vu:Value) (lo hi:Option Int) (sl:Addr) (Q:VK),Inv X pins σ H s->RelV x v->s.heap.IsSliceOf sl vl vu .none->IsPart vl lo->IsPart vu hi->r x lo hi H Q ->
  ∃T id,typeLookup (.type T) "__getitem__" = pure (some (.builtin id))/\s.TypeIs v T/\wpAny (model X.prog X.w) X.A (getItem v (.ref sl)) (EP X pins σ Q) X.xe s
instance {X:Cx} {r:V->Option Int->Option Int->Hp->VK->Prop}:CoeFun (Uh X r) (fun _=>
 ∀(pins:List (Addr×Obj)) (s:Shared) (σ:St) (H:Hp) (x:V) (v vl vu:Value) (lo hi:Option Int) (sl:Addr) (Q:VK),Inv X pins σ H s->RelV x v->s.heap.IsSliceOf sl vl vu .none->IsPart vl lo->IsPart vu hi->r x lo hi H Q ->
  ∃T id,typeLookup (.type T) "__getitem__" = pure (some (.builtin id))/\s.TypeIs v T/\wpAny (model X.prog X.w) X.A (getItem v (.ref sl)) (EP X pins σ Q) X.xe s):=⟨Uh.go⟩
def Zw (r:V->Option Int->Option Int->Hp->VK->Prop) (te:TE) (tl th:TO):TE:=fun σ H Q=>te σ H fun x H1=>tl σ H1 fun l H2=>th σ H2 fun u H3=>r x l u H3 Q
theorem fj {r:V->Option Int->Option Int->Hp->VK->Prop} (hr:Uh X r) (he:PE X e te) (hl:PO X lo tl) (hu:PO X hi th):PE X (.Subscript e (.Slice lo hi none p2) pos) (Zw r te tl th):=by
 refine .mk ?_
 intro pins s σ H Q I h
 refine Subscript_ (bN (he pins s σ H _ I h) fun v s1 qx=>?_)
 obtain⟨x,H1,I1,r1,q1⟩:=qx
 refine wpAny_Slice (bN (hl pins s1 σ H1 _ I1 q1) fun vl s2 ⟨l,H2,I2,pl,q2⟩=>bN (hu pins s2 σ H2 _ I2 q2) fun vu s3 qx=>?_)
 obtain⟨u,H3,I3,pu,q3⟩:=qx
 rw[evalPart_none]
 refine bR ?_
 have I4:Inv X pins σ H3 { s3 with heap:=s3.heap.push { cls:=.type "slice",data:=.fields #[vl,vu,.none] } }:=I3.kept (t':=s3.toks) fun b ob q=>fM _ q
 obtain⟨T,id,hT,ht,hg⟩:=hr pins { s3 with heap:=s3.heap.push { cls:=.type "slice",data:=.fields #[vl,vu,.none] } } σ H3 x v vl vu l u s3.heap.objs.size Q I4 r1 (Heap.IsSliceOf.new ..) pl pu q3
 show wpAny (model X.prog X.w) X.A (subscriptTail e (.Slice lo hi none p2) v (.ref s3.heap.objs.size)) (EP X pins σ Q) X.xe { s3 with heap:=s3.heap.push { cls:=.type "slice",data:=.fields #[vl,vu,.none] } }
 exact tail_any (ops:=[.ref s3.heap.objs.size,v]) ht hT hg (by with_unfolding_all rfl)
def pR (xs:List V) (lo hi:Option Int):List V:=(xs.drop (HT.d9 xs.length 0 lo)).take (HT.d9 xs.length xs.length hi-HT.d9 xs.length 0 lo)
theorem rH (xs:List V) (lo hi:Option Int):(pR xs lo hi).length<=xs.length:=by
 unfold pR
 rw[pI,Kg]
 omega
def Xv (K:PySem.W.Frag):V->Option Int->Option Int->Hp->VK->Prop:=fun x lo hi H Q=>∃a xs,x=.ref a/\bW K H a xs /\
 ¬(HT.d9 xs.length 0 lo=0/\HT.d9 xs.length xs.length hi=xs.length)/\∀p,H p=none->Q (.ref p) (upd H p (.tup (pR xs lo hi)))
theorem Rm:Uh X (Xv X.K):=by
 refine .mk ?_
 intro pins s σ H x v vl vu lo hi sl Q I rx hs pl pu h
 obtain⟨a,xs,rfl,hx,hw,q⟩:=h
 cases rx
 obtain⟨its,r,ht,hz⟩:=I.tuple hx
 have hlen:its.toArray.size=xs.length:=by rw[dI]; exact r.length.symm
 refine⟨"tuple",_,PyProof.Rows.slot_tuple_getitem.lookup,ht.typeIs,?_⟩
 refine HT.pO ht hs pl pu (by rw[hlen]; exact hw) ?_ (by rw[hlen]; exact hz)
 rw[hlen]
 refine⟨.ref s.heap.objs.size,_,I.laid (t':=s.toks) (o:=.tup (pR xs lo hi)) (fun b ob q=>fM _ q) (bD _) ?_,rfl,q _ (I.hok.fresh (bD _))⟩
 exact⟨fK (rH xs lo hi) hz,_,(r.drop (HT.d9 xs.length 0 lo)).take (HT.d9 xs.length xs.length hi-HT.d9 xs.length 0 lo),IsTup.new _ _⟩
def Vw (K:PySem.W.Frag):R2:=fun x y H Q=>∃a b xs ys,x=.ref a/\y=.ref b/\bW K H a xs/\bW K H b ys/\xs≠[]/\xs.length+ys.length<=sizeLine /\
 (ys=[]->Q (.ref a) H)/\(ys≠[]->∀p,H p=none->Q (.ref p) (upd H p (.tup (xs++ys))))
theorem Vals.yK {xs:List V} {us:List Value} (r:Vals xs us):us=[]↔xs=[]:=by
 cases r with
 | nil=>simp
 | cons _ _=>simp
theorem OD:mU X (binaryOp .Add) (Vw X.K):=by
 refine .mk ?_
 intro pins s σ H x y v u Q I rx ry h
 obtain⟨a,b,xs,ys,rfl,rfl,ha,hb,hx,hz,q1,q2⟩:=h
 cases rx
 cases ry
 obtain⟨its,r1,p1,_⟩:=I.tuple ha
 obtain⟨its2,r2,p2,_⟩:=I.tuple hb
 refine HT.P0 p1 p2 (fun z=>hx (r1.yK.mp z)) (fun z=>⟨.ref a,H,I,rfl,q1 (r2.yK.mp z)⟩) (fun z=>?_) (by rw[<- r1.length,<- r2.length]; exact hz)
 refine⟨.ref s.heap.objs.size,_,I.laid (t':=s.toks) (o:=.tup (xs++ys)) (fun b ob q=>fM _ q) (bD _) ?_,rfl,q2 (fun w=>z (r2.yK.mpr w)) _ (I.hok.fresh (bD _))⟩
 exact⟨by rw[dR]; exact hz,_,r1.append r2,IsTup.new _ _⟩
end
def Py (n:Nat) (i:Int):Option Nat:=if 0<=i then(if i<n then some i.toNat else none) else if -(n:Int)<=i then some (i+n).toNat else none
def Cq {α:Type} (xs:List α) (i:Int):Option α:=(Py xs.length i).bind fun j=>xs[j]?
theorem Gg {n:Nat} {i:Int} {j:Nat} (h:Py n i=some j):seqIndex? i n=some j/\j<n/\-(n:Int)<=i/\i<n:=by
 unfold Py at h
 by_cases h0:0<=i
 ·rw[bc h0] at h
  by_cases h1:i<n
  ·rw[bc h1] at h
   have e:i.toNat=j:=Option.some.inj h
   exact⟨by rw[seqIndex_of h0 h1,e],by omega,by omega,h1⟩
  ·rw[aX h1] at h; cases h
 ·rw[aX h0] at h
  by_cases h1:-(n:Int)<=i
  ·rw[bc h1] at h
   have e:(i+n).toNat=j:=Option.some.inj h
   exact⟨by rw[seqIndex_neg (by omega) h1,e],by omega,h1,by omega⟩
  ·rw[aX h1] at h; cases h
theorem GP {α:Type} {xs:List α} {i:Int} {v:α} (h:Cq xs i=some v):∃j,seqIndex? i xs.length=some j/\xs[j]?=some v/\j<xs.length/\-(xs.length:Int)<=i/\i<xs.length:=by
 unfold Cq at h
 cases e:Py xs.length i with
 | none=>rw[e] at h; cases h
 | some j=>
  rw[e] at h
  obtain⟨h1,h2,h3,h4⟩:=Gg e
  exact⟨j,h1,h,h2,h3,h4⟩
theorem aP {α:Type} {xs:List α} {j:Nat} {v:α} (h:xs[j]?=some v):Cq xs (j:Int)=some v:=by
 have hj:j<xs.length:=(iM.mp h).1
 have e:Py xs.length (j:Int)=some j:=by
  unfold Py
  rw[bc (by omega),bc (by omega)]; simp
 unfold Cq; rw[e]; exact h
def Qf (b:Expr):Prop:=∀o i,subscripted b false o i=operate [o,i] (getItem o i)
structure MT (X:Cx) (r:R2):Prop where
 mk ::
 go :
 ∀(value slice:Expr) (pins:List (Addr×Obj)) (s:Shared) (σ:St) (H:Hp) (x y:V) (v u:Value) (Q:VK),Inv X pins σ H s->RelV x v->RelV y u->r x y H Q ->
  subscripted slice false v u=operate [v,u] (getItem v u)->wpAny (model X.prog X.w) X.A (subscriptTail value slice v u) (EP X pins σ Q) X.xe s
instance {X:Cx} {r:R2}:CoeFun (MT X r) (fun _=>
 ∀(value slice:Expr) (pins:List (Addr×Obj)) (s:Shared) (σ:St) (H:Hp) (x y:V) (v u:Value) (Q:VK),Inv X pins σ H s->RelV x v->RelV y u->r x y H Q ->
  subscripted slice false v u=operate [v,u] (getItem v u)->wpAny (model X.prog X.w) X.A (subscriptTail value slice v u) (EP X pins σ Q) X.xe s):=⟨MT.go⟩
def Wg (X:Cx) (id:String) (r:V->List V->Hp->VK->Prop):Prop:=
 ∀(pins:List (Addr×Obj)) (s:Shared) (σ:St) (H:Hp) (x:V) (xs:List V) (v:Value) (us:List Value) (Q:VK),Inv X pins σ H s->RelV x v->Vals xs us->r x xs H Q ->
  wpAny (model X.prog X.w) X.A (call (.builtin id) (v::us)) (EP X pins σ Q) X.xe s
section
variable {X:Cx} {a b:Expr} {ta tb:TE} {pos:Pos}
theorem MT.or {r r':R2} (h:MT X r) (h':MT X r'):MT X (fun x y H Q=>r x y H Q\/r' x y H Q):=by
 refine .mk ?_
 intro value slice pins s σ H x y v u Q I rx ry q hs
 rcases q with q | q
 ·exact h value slice pins s σ H x y v u Q I rx ry q hs
 ·exact h' value slice pins s σ H x y v u Q I rx ry q hs
theorem a_ {r:R2} (hr:MT X r) (ha:PE X a ta) (hb:PE X b tb) (hs:Qf b):PE X (.Subscript a b pos) (Rb r ta tb):=by
 refine .mk ?_
 intro pins s σ H Q I h
 exact Subscript_ (TF ha hb I h fun v u s2 x y H2 I2 rx ry q=>hr a b pins s2 σ H2 x y v u Q I2 rx ry q (hs _ _))
def XC (K:PySem.W.Frag):R2:=fun x y H Q=>∃p xs i v,x=.ref p/\y=.int i/\fQ K H p xs/\Cq xs i=some v/\Q v H
def Xz (K:PySem.W.Frag):R2:=fun x y H Q=>∃p xs i v,x=.ref p/\y=.int i/\bW K H p xs/\Cq xs i=some v/\Q v H
theorem Gf:MT X (XC X.K):=by
 refine .mk ?_
 intro value slice pins s σ H x y v u Q I rx ry h hs
 obtain⟨p,xs,i,z,rfl,rfl,hq,he,q⟩:=h
 cases rx
 obtain⟨t,rfl⟩:=ry
 obtain⟨its,r,pl,hz⟩:=I.list hq
 obtain⟨j,h1,h2,h3,h4,h5⟩:=GP he
 obtain⟨w,ew,Hq⟩:=r.get h2
 have hl:=r.length
 have hn:=uJ
 have fin:EP X pins σ Q w s:=⟨z,H,I,Hq,q⟩
 by_cases h0:0<=i
 ·have hj:i.toNat=j:=by
   rw[seqIndex_of h0 h5] at h1
   exact Option.some.inj h1
  exact item_listR pl.isList h0 (by omega) (by rw[hj]; simpa using ew) fin hs
 ·have hj:(i+(its.toArray.size:Int)).toNat=j:=by
   rw[seqIndex_neg (by omega) h4] at h1
   rw[dI,<- hl]
   exact Option.some.inj h1
  exact subscriptTail_builtinR (x:=w) pl.isList.typeIs slot_list_getitem.lookup
   (wpAny_getItem_list_neg (Q:=fun r s'=>r=w/\EP X pins σ Q r s') pl.isList (by omega) (by rw[dI] <;> omega) (by omega) (by rw[hj]; simpa using ew) ⟨rfl,fin⟩) hs
theorem S9:MT X (Xz X.K):=by
 refine .mk ?_
 intro value slice pins s σ H x y v u Q I rx ry h hs
 obtain⟨p,xs,i,z,rfl,rfl,hq,he,q⟩:=h
 cases rx
 obtain⟨t,rfl⟩:=ry
 obtain⟨its,r,pl,hz⟩:=I.tuple hq
 obtain⟨j,h1,h2,h3,h4,h5⟩:=GP he
 obtain⟨w,ew,Hq⟩:=r.get h2
 have hl:=r.length
 have hn:=uJ
 have fin:EP X pins σ Q w s:=⟨z,H,I,Hq,q⟩
 exact subscriptTail_builtinR (x:=w) pl.typeIs slot_tuple_getitem.lookup
  (getItem_tuple (j:=j) (Q:=fun r s'=>r=w/\EP X pins σ Q r s') pl (by omega) (by omega) (by rw[dI,<- hl]; exact h1) (by simpa using ew) ⟨rfl,fin⟩) hs
theorem DW (its:List Value) (n j:Nat) (u:Value):Obj.mapSeq (·.setIfInBounds j u) { cls:=.type "list",data:=.seq its.toArray n }={ cls:=.type "list",data:=.seq (its.set j u).toArray n }:=by
 simp[Obj.mapSeq]
theorem Inv.lst {pins:List (Addr×Obj)} {σ:St} {H:Hp} {s:Shared} {p:Addr} {xs:List V} (I:Inv X pins σ H s) (h:H p=some (.lst xs)) :
  ∃(its:List Value) (n:Nat),Vals xs its/\s.heap.get? p=some { cls:=.type "list",data:=.seq its.toArray n }/\xs.length<=sizeLine:=by
 obtain⟨z,its,n,r,e⟩:=I.hok p _ h
 exact⟨its,n,r,e,z⟩
theorem Inv.Sv {pins:List (Addr×Obj)} {σ:St} {H:Hp} {s:Shared} {p:Addr} {xs ys:List V} {its its':List Value} {n n':Nat} {f:Obj->Obj} (I:Inv X pins σ H s) (h:H p=some (.lst xs))
  (ho:s.heap.get? p=some { cls:=.type "list",data:=.seq its.toArray n }) (hf:f { cls:=.type "list",data:=.seq its.toArray n }={ cls:=.type "list",data:=.seq its'.toArray n' }) (r:Vals ys its') (hz:ys.length<=sizeLine) (t:Nat) :
  Inv X pins σ (upd H p (.lst ys)) { s with heap:=s.heap.update p f,toks:=t }:=by
 have e:(s.heap.update p f).get? p=some { cls:=.type "list",data:=.seq its'.toArray n' }:=by
  rw[Ak f ho (by rw[hf] <;> rfl),hf]
 refine I.write (x:=p) (e:=p) (by rw[h]; trivial) (.inl rfl) (fun b u hb q=>(rQ _ _ (Ne.symm hb)).trans q) ⟨_,e⟩ ?_
 exact⟨hz,its',n',r,e⟩
def Vq:V->V->V->Hp->(Hp->Prop)->Prop:=fun o i v H Q=>∃p xs k j,o=.ref p/\i=.int k/\H p=some (.lst xs)/\Py xs.length k=some j/\Q (upd H p (.lst (xs.set j v)))
theorem set_list:Jh X Vq:=by
 refine .mk ?_
 intro pins s σ H o i v ov iv u Q I ro ri rv h
 obtain⟨p,xs,k,j,rfl,rfl,hp,hj,q⟩:=h
 cases ro
 obtain⟨t,rfl⟩:=ri
 obtain⟨its,n,r,ho,hz⟩:=I.lst hp
 obtain⟨h1,h2,h3,h4⟩:=Gg hj
 have hl:=r.length
 have hn:=uJ
 have I':Inv X pins σ (upd H p (.lst (xs.set j v))) { s with heap:=s.heap.update p (Obj.mapSeq (·.setIfInBounds j u)) }:=
  I.Sv hp ho (DW its n j u) (r.set rv j) (by rw[List.length_set]; exact hz) s.toks
 by_cases h0:0<=k
 ·have hk:k.toNat=j:=by
   rw[seqIndex_of h0 h4] at h1
   exact Option.some.inj h1
  exact PySem.W.ki_setAt ho h0 (by omega) (by rw[dI,<- hl]; exact h4) (by rw[hk]; exact⟨_,I',q⟩)
 ·have hk:(k+(its.toArray.size:Int)).toNat=j:=by
   rw[seqIndex_neg (by omega) h3] at h1
   rw[dI,<- hl]
   exact Option.some.inj h1
  exact PySem.W.ki_setBack ho (by omega) (by rw[dI,<- hl]; exact h3) (by omega) (by rw[hk]; exact⟨_,I',q⟩)
theorem xW (lo hi:Option Int) (n:Nat):(sliceBounds lo hi none n).1=((HT.d9 n 0 lo:Nat):Int)/\(sliceBounds lo hi none n).2.1=((HT.d9 n n hi:Nat):Int)/\(sliceBounds lo hi none n).2.2=1:=by
 refine⟨?_,?_,rfl⟩
 ·cases lo with
  | none=>simp[sliceBounds,HT.d9]
  | some i=>
   simp only[sliceBounds,HT.d9,Option.getD_none,show(1:Int)>0 by decide,if_true]
   by_cases h:i<0
   ·simp only[h,if_true] <;> omega
   ·simp only[h,if_false] <;> omega
 ·cases hi with
  | none=>simp[sliceBounds,HT.d9]
  | some i=>
   simp only[sliceBounds,HT.d9,Option.getD_none,show(1:Int)>0 by decide,if_true]
   by_cases h:i<0
   ·simp only[h,if_true] <;> omega
   ·simp only[h,if_false] <;> omega
theorem vH (its:List Value) (lo hi:Option Int):slicePick its.toArray lo hi none=((its.drop (HT.d9 its.length 0 lo)).take (HT.d9 its.length its.length hi-HT.d9 its.length 0 lo)).toArray:=by
 obtain⟨h1,h2,h3⟩:=xW lo hi its.toArray.size
 unfold slicePick
 rw[h1,h2,h3]
 simp only[sliceRange_one,pick_run,dI] <;> rfl
def Xw (K:PySem.W.Frag):V->Option Int->Option Int->Hp->VK->Prop:=fun x lo hi H Q=>∃a xs,x=.ref a/\fQ K H a xs/\∀p,H p=none->Q (.ref p) (upd H p (.lst (pR xs lo hi)))
theorem Ny:Uh X (Xw X.K):=by
 refine .mk ?_
 intro pins s σ H x v vl vu lo hi sl Q I rx hs pl pu h
 obtain⟨a,xs,rfl,hx,q⟩:=h
 cases rx
 obtain⟨its,r,ht,hz⟩:=I.list hx
 have hlen:=r.length
 refine⟨"list",_,slot_list_getitem.lookup,ht.isList.typeIs,?_⟩
 refine wpAny_getItem_list_slice ht.isList hs pl pu .none (by simp) ?_ (by rw[dI] <;> omega)
 rw[vH,<- hlen]
 refine⟨.ref s.heap.objs.size,_,I.laid (t':=s.toks) (o:=.lst (pR xs lo hi)) (fun b ob q=>fM _ q) (bD _) ?_,rfl,q _ (I.hok.fresh (bD _))⟩
 exact⟨fK (rH xs lo hi) hz,_,0,(r.drop (HT.d9 xs.length 0 lo)).take (HT.d9 xs.length xs.length hi-HT.d9 xs.length 0 lo),j_ _ rfl⟩
theorem zu:cL X (.builtin "len") (fun xs H Q=>∃p ys,xs=[.ref p]/\(fQ X.K H p ys\/bW X.K H p ys)/\Q (.int ys.length) H):=by
 refine .mk ?_
 intro pins s σ H xs us Q I r h
 obtain⟨p,ys,rfl,hq,q⟩:=h
 obtain⟨u,rfl,rx⟩:=vals1 r
 cases rx
 have hn:=uJ
 rcases hq with hq | hq
 ·obtain⟨its,r',pl,hz⟩:=I.list hq
  have hlen:=r'.length
  exact Calls.call_len_list pl.isList (by simp only[dI] <;> omega) ⟨.int ys.length,H,I.tok _,⟨s.toks+1,by rw[dI,hlen]⟩,q⟩
 ·obtain⟨its,r',pl,hz⟩:=I.tuple hq
  have hlen:=r'.length
  exact len_tuple pl (by simp only[dI] <;> omega) ⟨.int ys.length,H,I.tok _,⟨s.toks+1,by rw[dI,hlen]⟩,q⟩
theorem pU:cL X (.type "list") (fun xs H Q=>∃p ys,xs=[.ref p]/\(fQ X.K H p ys\/bW X.K H p ys)/\∀l,H l=none->Q (.ref l) (upd H l (.lst ys))):=by
 refine .mk ?_
 intro pins s σ H xs us Q I r h
 obtain⟨p,ys,rfl,hq,q⟩:=h
 obtain⟨u,rfl,rx⟩:=vals1 r
 cases rx
 have fin:∀(its:List Value),Vals ys its->ys.length<=sizeLine->∀(h':Heap) (c':Nat),(∀b o',s.heap.get? b=some o'->h'.get? b=some o') ->
   h'.get? s.heap.objs.size=some { cls:=.type "list",dict:=none,data:=.seq its.toArray c',slots:=#[] }->EP X pins σ Q (.ref s.heap.objs.size) { s with heap:=h' }:=fun its r' hz h' c' kp e=>
  ⟨.ref s.heap.objs.size,_,I.laid (t':=s.toks) kp (bD _) (show bZ X.prog X.w _ h' _ (.lst ys) from⟨hz,its,c',r',e⟩),rfl,q _ (I.hok.fresh (bD _))⟩
 rcases hq with hq | hq
 ·obtain⟨its,r',pl,hz⟩:=I.list hq
  have hlen:=r'.length
  obtain⟨o,ho,hc,n,hd⟩:=pl.isList
  exact call_list_seq p (.inl rfl) ho hc hd (fun h' c' kp e=>fin its r' hz h' c' kp e) (by simp only[dI] <;> omega)
 ·obtain⟨its,r',pl,hz⟩:=I.tuple hq
  have hlen:=r'.length
  obtain⟨o,ho,hc,n,hd⟩:=pl
  exact call_list_seq p (.inr rfl) ho hc hd (fun h' c' kp e=>fin its r' hz h' c' kp e) (by simp only[dI] <;> omega)
theorem vR:cL X (.type "tuple") (fun xs H Q=>∃p ys,xs=[.ref p]/\((fQ X.K H p ys/\∀l,H l=none->Q (.ref l) (upd H l (.tup ys)))\/(bW X.K H p ys/\Q (.ref p) H))):=by
 refine .mk ?_
 intro pins s σ H xs us Q I r h
 obtain⟨p,ys,rfl,h⟩:=h
 obtain⟨u,rfl,rx⟩:=vals1 r
 cases rx
 rcases h with⟨hq,q⟩ | ⟨hq,q⟩
 ·obtain⟨its,r',pl,hz⟩:=I.list hq
  have hlen:=r'.length
  refine call_tuple_list pl.isList (fun h' kp=>?_) (by simp only[dI] <;> omega)
  have I1:Inv X pins σ H { s with heap:=h' }:=I.kept (t':=s.toks) kp
  have I2:Inv X pins σ (upd H h'.objs.size (.tup ys)) { s with heap:=h'.push { cls:=.type "tuple",data:=.seq its.toArray } }:=
   I1.laid (t':=s.toks) (fun b o e=>fM _ e) (bD _) (show bZ X.prog X.w _ _ _ (.tup ys) from⟨hz,its,r',IsTup.new _ _⟩)
  exact⟨.ref h'.objs.size,_,I2,rfl,q _ (I1.hok.fresh (bD _))⟩
 ·obtain⟨its,r',pl,hz⟩:=I.tuple hq
  exact call_tuple_same pl ⟨.ref p,H,I,rfl,q⟩
def Xd (K:PySem.W.Frag) (T:String) (x:V) (H:Hp):Prop:=match x with
 | .str _=>T = "str"
 | .int _=>T = "int"
 | .ref p=>(T = "list" /\ ∃xs,fQ K H p xs)\/(T = "tuple" /\ ∃o,K.lookup p=some o/\o.cls=.type "tuple" /\ o.dict=none) \/
   (T = "dict" /\ ((∃kvs,H p=some (.dK kvs))\/∃kvs,H p=some (.dT kvs)))\/(T = "set" /\ ∃S n,H p=some (.set S n))
 | _=>False
theorem JF {pins:List (Addr×Obj)} {σ:St} {H:Hp} {s:Shared} {T:String} {x:V} {v:Value} (I:Inv X pins σ H s) (r:RelV x v) (ty:Xd X.K T x H) :
  s.TypeIs v T/\∀a,v=.ref a->∃ob,s.heap.get? a=some ob/\ob.dict=none:=by
 cases x with
 | str z=>
  obtain⟨t,rfl⟩:=r
  cases(show T = "str" from ty)
  exact⟨typeIs_str s z t,fun _ e=>nomatch e⟩
 | int i=>
  obtain⟨t,rfl⟩:=r
  cases(show T = "int" from ty)
  exact⟨typeIs_int s i t,fun _ e=>nomatch e⟩
 | ref p=>
  cases r
  rcases ty with⟨rfl,xs,hq⟩ | ⟨rfl,o,hk,hc,hd⟩ | ⟨rfl,hk⟩ | ⟨rfl,S,n,hk⟩
  ·obtain⟨its,_,pl,_⟩:=I.list hq
   refine⟨pl.isList.typeIs,fun a e=>?_⟩
   cases e
   obtain⟨o,n,e,c,hd,_⟩:=pl
   exact⟨o,e,hd⟩
  ·refine⟨⟨o,I.vB p o hk,hc⟩,fun a e=>?_⟩
   cases e
   exact⟨o,I.vB _ o hk,hd⟩
  ·have z:∃o,s.heap.get? p=some o/\o.ExactDict:=by
    rcases hk with⟨kvs,hk⟩ | ⟨kvs,hk⟩
    ·obtain⟨_,_,_,_,o,_,_,e,ex,_⟩:=I.hok p _ hk
     exact⟨o,e,ex⟩
    ·obtain⟨_,_,_,_,o,_,_,e,ex,_⟩:=I.hok p _ hk
     exact⟨o,e,ex⟩
   obtain⟨o,e,ex⟩:=z
   refine⟨⟨o,e,ex.1⟩,fun a e2=>?_⟩
   cases e2
   exact⟨o,e,ex.2.1⟩
  ·obtain⟨o,_,_,_,e,ex,_⟩:=I.hok p _ hk
   refine⟨⟨o,e,ex.1⟩,fun a e2=>?_⟩
   cases e2
   exact⟨o,e,ex.2.1⟩
 | _=>exact False.elim ty
def Rh (K:PySem.W.Frag) (T:String) (r:V->List V->Hp->VK->Prop) (to:TE):TE:=fun σ H Q=>to σ H fun x H1=>Xd K T x H1/\r x [] H1 Q
def Xi (K:PySem.W.Frag) (T:String) (r:V->List V->Hp->VK->Prop) (to:TE) (t:TA):TE:=fun σ H Q=>to σ H fun x H1=>Xd K T x H1/\t σ H1 fun xs H2=>r x xs H2 Q
variable {o e:Expr} {es:List Expr} {to:TE} {t:TA} {name:Str} {apos cpos:Pos} {T id:String} {r:V->List V->Hp->VK->Prop}
theorem RW (pa:PlainAttrs T) (slot:Slot T name id) (hty:typeOf (.builtin id)=pure (.type "method_descriptor")) (hm:Wg X id r) (ho:PE X o to)
  (hbase:attributeBase o name X.env (eval o X.env)=eval o X.env:=by rfl) (hline:(apos.endLine==cpos.line)=true:=by rfl):PE X (.Call (.Attribute o name apos) [] [] cpos) (Rh X.K T r to):=by
 refine .mk ?_
 intro pins s σ H Q I h
 refine wpAny_Call_method0_late hbase hline (bN (ho pins s σ H _ I h) fun v s1 qx=>?_)
 obtain⟨x,H1,I1,r1,ty,q1⟩:=qx
 obtain⟨h1,h2⟩:=JF I1 r1 ty
 exact⟨T,id,pa,slot,hty,h1,h2,Calls.callWith_builtin rfl (PySem.evalArgs_none (hm pins s1 σ H1 x [] v [] Q I1 r1 .nil q1))⟩
theorem Vz (pa:PlainAttrs T) (slot:Slot T name id) (hty:typeOf (.builtin id)=pure (.type "method_descriptor")) (hm:Wg X id r) (ho:PE X o to) (ha:PA X (e::es) t)
  (hbase:attributeBase o name X.env (eval o X.env)=eval o X.env:=by rfl)
  (hfew:((backTo cpos (starEach (e::es) X.env)).all (fun x=>!x.1)&&(backToKw cpos (keywordEach [] X.env)).all (fun x=>x.1.isSome)
   && decide ((e::es).length+([]:List Keyword).length+(if([]:List Keyword).isEmpty then 0 else 1)<30))=true:=by rfl)
  (hline:(apos.endLine==cpos.line)=true:=by rfl) (hs:starEach (e::es) X.env=(false,eval e X.env)::starEach es X.env:=by rfl) (hplain:(backTo cpos (starEach es X.env)).any (·.1)=false:=by rfl) :
  PE X (.Call (.Attribute o name apos) (e::es) [] cpos) (Xi X.K T r to t):=by
 refine .mk ?_
 intro pins s σ H Q I h
 refine wpAny_Call_method_late hbase hfew hline rfl (bN (ho pins s σ H _ I h) fun v s1 qx=>?_)
 obtain⟨x,H1,I1,r1,ty,q1⟩:=qx
 obtain⟨h1,h2⟩:=JF I1 r1 ty
 refine⟨T,id,pa,slot,hty,h1,h2,?_⟩
 have hA:=ha cpos pins s1 σ H1 _ I1 q1
 rw[hs] at hA ⊢
 refine Calls.callWith_builtin (by show(false || (backTo cpos (starEach es X.env)).any (·.1))=false; rw[hplain] <;> rfl) (Calls.evalArgs_plain ?_)
 exact bN hA fun us s2 ⟨vs,H2,I2,r2,q2⟩=>hm pins s2 σ H2 x vs v us Q I2 r1 r2 q2
end
def W5 (X:Cx) (id:String) (r:V->List V->Hp->VK->Prop):Prop:=
 ∀(pins:List (Addr×Obj)) (s:Shared) (σ:St) (H:Hp) (x:V) (xs:List V) (v:Value) (us:List Value) (Q:VK),Inv X pins σ H s->RelV x v->Vals xs us->r x xs H Q ->
  wpAny (model X.prog X.w) X.A (call (.builtin id) (v::us)) (EP X pins σ Q) X.xe s
theorem Vals.un {x:V} {xs:List V} {us:List Value} (h:Vals (x::xs) us):∃u r,us=u::r/\RelV x u/\Vals xs r:=by
 cases h with
 | cons r t=>exact⟨_,_,rfl,r,t⟩
theorem Vals.no {us:List Value} (h:Vals [] us):us=[]:=by
 cases h
 rfl
theorem Vals.one {x:V} {us:List Value} (h:Vals [x] us):∃u,us=[u]/\RelV x u:=by
 obtain⟨u,r,rfl,h1,h⟩:=h.un
 cases h.no
 exact⟨u,rfl,h1⟩
theorem Vals.two {x y:V} {us:List Value} (h:Vals [x,y] us):∃u v,us=[u,v]/\RelV x u/\RelV y v:=by
 obtain⟨u,r,rfl,h1,h⟩:=h.un
 obtain⟨v,rfl,h2⟩:=h.one
 exact⟨u,v,rfl,h1,h2⟩
theorem Vals.zero:∀{us:List Value},Vals [] us->us=[]
 | _,.nil=>rfl
theorem Vals.eraseIdx:∀{xs:List V} {us:List Value} (i:Nat),Vals xs us->Vals (xs.eraseIdx i) (us.eraseIdx i)
 | _,_,_,.nil=>.nil
 | _,_,0,.cons _ t=>t
 | _,_,i+1,.cons r t=>.cons r (Vals.eraseIdx i t)
theorem Vals.reverse {xs:List V} {us:List Value} (h:Vals xs us):Vals xs.reverse us.reverse:=by
 induction h with
 | nil=>exact .nil
 | cons r t ih=>rw[List.reverse_cons,List.reverse_cons]; exact Vals.append ih (.cons r .nil)
theorem Vals.rep {xs:List V} {us:List Value} (h:Vals xs us):∀k:Nat,Vals (List.replicate k xs).flatten (List.replicate k us).flatten
 | 0=>.nil
 | k+1=>by
  rw[Dn,Dn,Hx,Hx]
  exact Vals.append h (Vals.rep h k)
theorem wQ {α:Type}:∀(l:List α) (i:Nat),(l.eraseIdx i).length<=l.length
 | [],_=>bD _
 | _::_,0=>wG _
 | _::r,i+1=>Nat.succ_le_succ (wQ r i)
theorem foldl_rep (its:List Value):∀(k:Nat) (acc:List Value),
  List.foldl (fun x1 x2=>x1++x2) acc.toArray (List.replicate k its.toArray)=(acc++(List.replicate k its).flatten).toArray
 | 0,acc=>by simp
 | k+1,acc=>by
  have e:acc.toArray++its.toArray=(acc++its).toArray:=by simp
  have e2:(acc++its)++(List.replicate k its).flatten=acc++(List.replicate (k+1) its).flatten:=by
   rw[Dn,Hx,List.append_assoc]
  rw[<- e2,<- foldl_rep its k (acc++its),<- e,Dn,List.foldl_cons]
section
variable {X:Cx} {pins:List (Addr×Obj)} {σ:St} {H:Hp} {s:Shared} {l b:Addr} {xs ys zs:List V}
theorem Inv.Pa {its its':List Value} {n:Nat} {f:Array Value->Array Value} {t':Nat} (I:Inv X pins σ H s) (hH:H l=some (.lst xs))
  (e:s.heap.get? l=some { cls:=.type "list",data:=.seq its.toArray n }) (hf:f its.toArray=its'.toArray) (hv:Vals ys its') (hz:ys.length<=sizeLine) :
  Inv X pins σ (upd H l (.lst ys)) { s with heap:=s.heap.update l (Obj.mapSeq f),toks:=t' }:=by
 have q:=PySem.IsL.update e f
 rw[hf] at q
 refine I.write (x:=l) (e:=l) (by rw[hH]; exact trivial) (.inl rfl) (fun b' u hb hu=>(rQ s.heap (Obj.mapSeq f) (Ne.symm hb)).trans hu) ⟨_,q⟩ ?_
 exact⟨hz,its',_,hv,q⟩
theorem Inv.Sw {its:List Value} {t':Nat} (I:Inv X pins σ H s) (hv:Vals ys its) (hz:ys.length<=sizeLine) :
  Inv X pins σ (upd H s.heap.objs.size (.lst ys)) { s with heap:=s.heap.push { cls:=.type "list",data:=.seq its.toArray },toks:=t' }:=
 I.laid (fun _ _ q=>fM _ q) (bD _) ⟨hz,its,0,hv,j_ _ rfl⟩
theorem Inv.fresh (I:Inv X pins σ H s):H s.heap.objs.size=none:=I.hok.fresh (bD _)
theorem Inv.LC (I:Inv X pins σ H s) (hH:H l=some (.lst xs)):xs.length<=sizeLine/\∃(its:List Value) (n:Nat),Vals xs its/\xs.length=its.length/\s.heap.get? l=some { cls:=.type "list",data:=.seq its.toArray n }:=by
 obtain⟨z,its,n,r,e⟩:=I.hok l _ hH
 exact⟨z,its,n,r,r.length,e⟩
theorem Lf {n:Nat} (h:n<=sizeLine):Builtin.List.listTooLong n=false:=by
 unfold Builtin.List.listTooLong
 exact jJ (by omega)
end
section
variable {X:Cx}
def Oc:V->List V->Hp->VK->Prop:=fun x vs H Q=>∃l xs y,x=.ref l/\vs=[y]/\H l=some (.lst xs)/\xs.length<sizeLine/\Q .non (upd H l (.lst (xs++[y])))
theorem gm:W5 X "list.append" Oc:=by
 intro pins s σ H x vs v us Q I rx rv h
 obtain⟨l,xs,y,rfl,rfl,hH,hz,q⟩:=h
 cases rx
 obtain⟨u,rfl,ru⟩:=rv.one
 obtain⟨z,its,n,r,hl,e⟩:=I.LC hH
 refine call_meets F.slot_list_append ⟨_,e,rfl⟩ F.entry_list_append (F.args_list_append_2 _ _) (PySem.list_append l its.toArray n u (by rw[dI]; omega)) ⟨e,?_⟩
 refine⟨.non,_,I.Pa (its':=its++[u]) hH e (by simp) (r.append (.cons ru .nil)) ?_,rfl,q⟩
 rw[dR,List.length_singleton]
 omega
def RC:V->List V->Hp->VK->Prop:=fun x vs H Q=>∃l xs i k y,x=.ref l/\vs=[.int i]/\H l=some (.lst xs)/\-(2 ^ 63)<=i/\i<2 ^ 63/\seqIndex? i xs.length=some k/\xs[k]?=some y/\Q y (upd H l (.lst (xs.eraseIdx k)))
theorem Lq:W5 X "list.pop" RC:=by
 intro pins s σ H x vs v us Q I rx rv h
 obtain⟨l,xs,i,k,y,rfl,rfl,hH,h1,h2,hk,hy,q⟩:=h
 cases rx
 obtain⟨u,rfl,ru⟩:=rv.one
 obtain⟨t,rfl⟩:=ru
 obtain⟨z,its,n,r,hl,e⟩:=I.LC hH
 obtain⟨w,hw,Hq⟩:=r.get hy
 refine call_meets F.slot_list_pop ⟨_,e,rfl⟩ F.entry_list_pop (F.args_list_pop_2 _ _)
  (MeetsSeq.list_pop_at l its.toArray n i t k w (fitsIndex_both h1 h2) (by rw[dI,<- hl]; exact hk) (by rw[<- Array.getElem?_toList]; exact hw) (by rw[dI]; omega)) ⟨e,?_⟩
 refine⟨y,_,I.Pa (its':=its.eraseIdx k) hH e ?_ (r.eraseIdx k) ?_,Hq,q⟩
 ·show its.toArray.eraseIdxIfInBounds k=(its.eraseIdx k).toArray
  rw[List.eraseIdxIfInBounds_toArray]
 ·have:=wQ xs k
  omega
def J_:V->List V->Hp->VK->Prop:=fun x vs H Q=>∃l xs,x=.ref l/\vs=[]/\H l=some (.lst xs)/\Q .non (upd H l (.lst xs.reverse))
theorem DR:W5 X "list.reverse" J_:=by
 intro pins s σ H x vs v us Q I rx rv h
 obtain⟨l,xs,rfl,rfl,hH,q⟩:=h
 cases rx
 have hus:=rv.zero
 subst hus
 obtain⟨z,its,n,r,hl,e⟩:=I.LC hH
 refine call_meets F.slot_list_reverse ⟨_,e,rfl⟩ F.entry_list_reverse (F.args_list_reverse_1 _) (AutoSeq1.list_reverse_list_0 l its.toArray n (by rw[dI]; omega)) ⟨e,?_⟩
 refine⟨.non,_,I.Pa (its':=its.reverse) hH e (by simp) r.reverse ?_,rfl,q⟩
 rw[List.length_reverse]
 omega
def RD:V->List V->Hp->VK->Prop:=fun x vs H Q=>∃l xs,x=.ref l/\vs=[]/\H l=some (.lst xs)/\Q .non (upd H l (.lst []))
theorem Lr:W5 X "list.clear" RD:=by
 intro pins s σ H x vs v us Q I rx rv h
 obtain⟨l,xs,rfl,rfl,hH,q⟩:=h
 cases rx
 have hus:=rv.zero
 subst hus
 obtain⟨z,its,n,r,hl,e⟩:=I.LC hH
 refine call_meets F.slot_list_clear ⟨_,e,rfl⟩ F.entry_list_clear (F.args_list_clear_1 _) (AutoSeq1.list_clear_list_0 l its.toArray n (by rw[dI]; omega)) ⟨e,?_⟩
 exact⟨.non,_,I.Pa (its':=[]) (ys:=[]) hH e rfl .nil (dG _),rfl,q⟩
def Xx:R2:=fun x y H Q=>∃l k xs,x=.ref l/\y=.int k/\H l=some (.lst xs)/\-(2 ^ 63)<=k/\k<2 ^ 63/\xs.length*k.toNat<=sizeLine /\
 ∀p,H p=none->Q (.ref p) (upd H p (.lst (List.replicate k.toNat xs).flatten))
theorem len_rep {α:Type} (xs:List α) (k:Nat):(List.replicate k xs).flatten.length=k*xs.length:=by
 induction k with
 | zero=>simp
 | succ k ih=>rw[Dn,Hx,dR,ih,Nat.succ_mul,Nat.add_comm]
theorem RX:mU X (binaryOp .Mult) Xx:=by
 refine .mk ?_
 intro pins s σ H x y v u Q I rx ry h
 obtain⟨l,k,xs,rfl,rfl,hH,h1,h2,hz,q⟩:=h
 cases rx
 obtain⟨t,rfl⟩:=ry
 obtain⟨z,its,n,r,hl,e⟩:=I.LC hH
 have hlen:its.toArray.size*k.toNat<=sizeLine:=by rw[dI,<- hl]; exact hz
 have Yk:¬its.toArray.size*k.toNat>(2 ^ 63-1) / 8:=by
  have:(sizeLine:Nat)<=(2 ^ 63-1) / 8:=by decide
  omega
 have hfit:¬(!Builtin.List.listFitsIndex k)=true:=by
  rw[fitsIndex_both h1 h2]
  exact lC
 have V3:¬Builtin.List.listTooLong (its.toArray.size*k.toNat)=true:=by
  rw[Lf hlen]
  exact lC
 have hnew:List.foldl (fun x1 x2=>x1++x2) #[] (List.replicate (if its.toArray.isEmpty=true then 0 else k.toNat) its.toArray)=(List.replicate k.toNat its).flatten.toArray:=by
  have f0:∀m:Nat,List.foldl (fun x1 x2=>x1++x2) #[] (List.replicate m its.toArray)=(List.replicate m its).flatten.toArray:=fun m=>by
   have:=foldl_rep its m []
   rw[Kc] at this
   exact this
  rw[f0]
  cases its with
  | nil=>simp
  | cons a r'=>rw[aX (by simp)]
 refine wpAny_binaryOp_repeat_ref (T:="list") (U:="int") (by decide) ⟨_,e,rfl⟩ (fun s'=>typeIs_int s' k t) noFill_list_mul F.fills_int_mul F.slot_int_rmul repeat_list F.slot_int_index.lookup
  (call_meets F.slot_int_rmul (typeIs_int s k t) F.entry_int_rmul (F.args_int_rmul_2 _ _) (int___rmul___int_list k t l its.toArray n)
   ⟨e,rfl,⟨_,e,rfl⟩,call_meets F.slot_list_mul ⟨_,e,rfl⟩ F.entry_list_mul (F.args_list_mul_2 _ _) (AutoListH.list___mul___list_int_3 l its.toArray n k t hfit Yk V3) ⟨e,?_⟩⟩)
 rw[hnew]
 exact⟨.ref _,_,I.Sw (t':=s.toks) (r.rep k.toNat) (by rw[len_rep,Nat.mul_comm]; exact hz),rfl,q _ I.fresh⟩
end
section
variable {prog:Program} {w:World} {A:Around} {E:Value->Shared->Prop} {s:Shared}
end
section
variable {X:Cx}
end
end L2
namespace Att
open PySem PySem.W PySem.Calls PyProof.Rows
theorem rY {P:Params} {h:Heap}:∀(ns:List Int) (vs:List Value),WellAll P h vs (ns.map WData.int)->IntsAre vs ns:=by
 intro ns
 induction ns with
 | nil=>
  intro vs w
  rw[List.map_nil] at w
  cases w
  exact .nil
 | cons n ns ih=>
  intro vs w
  rw[Ah] at w
  cases w with
  | cons a b=>
   cases a
   exact .cons _ _ (ih _ b)
theorem Hn {l:OpenLaw} {n:Nat} (hn:l.most=some n) {P:Params} {h:Heap} {args:List WData} {vals:List Value}
  (hpre:l.row.toRowW.claim.pre args=true) (hwl:WellAll P h vals args) :
  ∃a vs ns,vals=[Value.ref a]/\args=[WData.list (ns.map WData.int)]/\h.get? a=some { cls:=.type "list",data:=.seq vs.toArray }/\IntsAre vs ns/\ns.length<=n:=by
 have hsh:WShape.hasAll [] args [.list .int]=true:=(pre_splitW hpre).1
 have hc:l.pre.holds [] { args:=args }=true:=(pre_splitW hpre).2
 obtain⟨d,r,rfl,h1,h2⟩:=hasAllW_cons hsh
 obtain rfl:=hasAllW_nil h2
 obtain⟨xs,rfl,h3⟩:=hasW_list h1
 obtain⟨ns,rfl⟩:=items_int h3
 have hlen:ns.length<=n:=by
  unfold OpenLaw.pre at hc
  have h4:(WTm.not (.lt (.lit (.int (n:Int))) (.len (.arg 0)))).holds [] { args:=[.list (ns.map .int)] }=true:=by
   have h4:=(holds_andW hc).1
   rw[hn] at h4
   exact h4
  have h5:=condW_of h4 (w_not (w_lt w_lit (w_len_list (w_arg rfl))))
  rw[eY] at h5
  refine Nat.le_of_not_lt fun q=>?_
  have q':(n:Int)<((ns.length:Nat):Int):=by omega
  first
   | (rw[lu q'] at h5; exact absurd h5 (by decide))
   | (simp at h5; omega)
 cases hwl with
 | cons w1 w2=>
  cases w2
  cases w1 with
  | list ho hall=>exact⟨_,_,ns,rfl,rfl,ho,rY ns _ hall,hlen⟩
theorem HH (l:OpenLaw) (args:List WData):l.row.toRowW.claim.post args (.bool true) args=true:=
 postW_of (r:=l.row.toRowW) (X:=(true==true))
  (show WShape.has [] (.bool true) .bool=true by first | rfl | decide | simp[WShape.has,WShape.arms,WShape.armsAll])
  (show(WTm.eq .res (.lit (.bool true))).value [] { args:=args,res:=some (.bool true),after:=args }=some (.bool (true==true)) from w_eq_bool (w_res rfl) w_lit) rfl
theorem Cg {l:OpenLaw} {n:Nat} {q:Program} {loose:List Str} {XP:(Str->Option Value)->Heap->Prop} {YP:World->Heap->Prop} {d:DefRec}
  (hn:l.most=some n) (hdf:d.params.defaults=[])
  (call:∀(w:World) (s₀ s₁:Shared) (mg mb:Str->Option Value) (fa:Addr) (o:Obj) (pm cd doc:Value) (a:Addr) (vs:List Value) (ns:List Int),
   Ground q loose [] XP w s₀ mg mb s₁.heap->YP w s₁.heap ->
   s₁.heap.get? fa=some o->o.data=.func (docDef d.name d.params d.body d.scope pm cd doc)->s₁.heap.CodeRec cd d.name->mg d.name=some (.ref fa) ->
   s₁.heap.get? a=some { cls:=.type "list",data:=.seq vs.toArray }->IntsAre vs ns->ns.length<=n->s₁.gens = #[] ->
   codeAny (model l.prog w) callerA (.call (.ref fa) ⟨[.ref a],[]⟩) (fun r s'=>r=.ok (.ret (.bool true))/\OldK s₁.heap s'.heap/\s'.os=s₁.os/\AllBare s'.gens) s₁) :
  WalkO q loose XP YP l.row.toRowW d [] (fun f vs=>PySem.call f vs):=by
 intro w s₀ s₁ mg mb G Y fa o pm cd doc dV kV ho hd hcd hD hmg hg args vals as hpre hlay hrd hwl hlo
 obtain rfl:dV=.none:=Dflts.none hD hdf
 obtain rfl:kV=.none:=Dflts.noKw hD
 obtain⟨a,vs,ns,rfl,rfl,hobj,hints,hlen⟩:=Hn hn hpre hwl
 refine enter_call (codeAny_mono (call w s₀ s₁ mg mb fa o pm cd doc a vs ns G Y ho (fd_plain hd) hcd hmg hobj hints hlen hg) fun r s' hq=>?_)
 obtain⟨rfl,h2,h3,h4⟩:=hq
 exact⟨.inl ⟨.bool true,.bool true,[],rfl,fun _=>rfl,.bool true,HH l _,fun _=>⟨List.Pairwise.nil,fun _ hm=>(nomatch hm)⟩⟩,h2,h3,h4⟩
section
variable {prog:Program} {w:World} {A:Around} {E:Value->Shared->Prop} {s:Shared} {K:Frag}
def ledger (h:Heap) (L d:Addr):List (Addr×Obj):=(List.range h.objs.size).filterMap fun a=>if a=L\/a=d then none else(h.get? a).map fun o=>(a,o)
end
end Att
namespace L2
open PySem PySem.Spec PyProof.Rows
theorem vY:∀{vs:List Value} {ns:List Int},IntsAre vs ns->Vals (ns.map V.int) vs
 | _,_,.nil=>.nil
 | _,_,.cons n t h=>.cons ⟨t,rfl⟩ (vY h)
def Only (H:Hp):Prop:=∀b,H b=none\/∃o xs,H b=some (.zb o (.lst xs))
theorem L_ {P:Program} {w:World} {K:PySem.W.Frag} {mg mb:Str->Option Value} {CX:G8} {k:Nat} {fa a:Addr} {fd:FuncData} {x:Str} {sp:Sp} {s₁:Shared} {vs:List Value} {ns:List Int}
  (KX:K.In s₁.heap) (hns:s₁.heap.Ns mainGlobals mg) (hb:s₁.heap.Ns builtinsNs mb) (hbb:∀x:Str,x ≠ "__name__" -> mb x=bootBuiltins x) (hlim:s₁.heap.NoLimit) (hg:s₁.gens = #[])
  (ha:s₁.heap.get? a=some { cls:=.type "list",data:=.seq vs.toArray }) (hi:IntsAre vs ns) (hl:ns.length<=sizeLine) (hr:eU k callerA)
  (F:∀base:Heap,K.In base->base.Ns mainGlobals mg->bG P w K mg base CX k fa fd [x] sp) (hbind:∀(s:Shared) (u:Value),BindsTo s fd ⟨[u],[]⟩ [(x,u)])
  (hsp:∀H:Hp,Only H->fQ K H a (ns.map V.int)->sp [.ref a] H (fun v _=>v=.bl true) fun _ _ _=>False)
  (Ym:∀H e s',CX [] H s₁ (fun _ _ _=>False) e s'->False) :
  codeAny (model P w) callerA (.call (.ref fa) ⟨[.ref a],[]⟩) (fun r s'=>r=.ok (.ret (.bool true))/\OldK s₁.heap s'.heap/\s'.os=s₁.os/\AllBare s'.gens) s₁:=by
 have rv:=vY hi
 have lenV:=hi.length
 have core:∀H:Hp,Only H->fQ K H a (ns.map V.int)->j0 P w H s₁.heap->(∀b,H b≠none->b=a)->(H a≠none->K.lookup a=none) ->
   codeAny (model P w) callerA (.call (.ref fa) ⟨[.ref a],[]⟩) (fun r s'=>r=.ok (.ret (.bool true))/\OldK s₁.heap s'.heap/\s'.os=s₁.os/\AllBare s'.gens) s₁:=by
  intro H hO hS hok hA hK
  have GK:∀{b:Addr} {o:Obj},s₁.heap.get? b=some o->H b=none->(yZ s₁.heap H).get? b=some o:=fun e n=>Mi e n
  have VM:∀{b:Addr} {o:Obj} {es:Array DictEntry} {ep:Nat},s₁.heap.get? b=some o->o.data=.dict es ep->H b=none:=fun {b o es ep} e d=>by
   cases q:H b with
   | none=>rfl
   | some u=>
    have e':b=a:=hA b (by rw[q]; simp)
    subst e'
    rw[ha] at e; cases e
    have d':Data.seq vs.toArray _=Data.dict es ep:=d
    cases d'
  have Wy:∀{b:Addr} {m:Str->Option Value},s₁.heap.Ns b m->(yZ s₁.heap H).Ns b m:=fun {b m} ⟨o,es,ep,e,d,r⟩=>⟨o,es,ep,GK e (VM e d),d,r⟩
  have hKb:K.In (yZ s₁.heap H):=fun b o e=>GK (KX b o e) (by
   cases q:H b with
   | none=>rfl
   | some u=>
    have e':b=a:=hA b (by rw[q]; simp)
    subst e'
    rw[hK (by rw[q]; simp)] at e; cases e)
  have hM:Mod K mg (yZ s₁.heap H):=⟨hKb,Wy hns,⟨mb,Wy hb,hbb⟩,let ⟨mc,h1,h2⟩:=hlim; ⟨mc,Wy h1,h2⟩⟩
  have e0:Qh P w K mg (yZ s₁.heap H) callerA [] s₁ H:=⟨rfl,hM,fun b o e=>O4 e,Nat.le_of_eq (Ip _ _),trivial,fun b hb=>absurd (show b∈([]:List Addr) from hb) (by simp),hok,.of_eq hg⟩
  refine codeAny_mono ((F _ hKb (Wy hns)).run callerA [] s₁ H ⟨[.ref a],[]⟩ [.ref a] [.ref a] _ _ hr e0 (hbind s₁ (.ref a)) (.cons rfl .nil) (hsp H hO hS)) fun r s' h=>?_
  cases r with
  | error e=>exact(Ym H e s' h).elim
  | ok fl=>
   cases fl with
   | next=>exact False.elim h
   | brk=>exact False.elim h
   | cont=>exact False.elim h
   | ret u=>
    obtain⟨v,H',os,bare,un,hok',r',q⟩:=h
    have q':v=.bl true:=q
    subst q'
    obtain rfl:u=Value.bool true:=r'
    refine⟨rfl,OldK.of_keep fun b o e=>?_,os,bare⟩
    cases q:H b with
    | none=>exact un.keep b o e q (by intro z; exact absurd (show b∈([]:List Addr) from z) (by simp)) (by simp)
    | some u=>
     rcases hO b with z | ⟨ob,xs,z⟩
     ·rw[q] at z; cases z
     ·have z2:=un.vQ b ob _ z
      obtain⟨e1,_⟩:=hok b _ z
      obtain⟨e2,_⟩:=hok' b _ z2
      rw[e] at e1; cases e1
      exact e2
 cases hk:K.lookup a with
 | some o=>
  have e:=KX a o hk
  rw[ha] at e
  cases e
  refine core (fun _=>none) (fun _=>.inl rfl) (.inr ⟨_,vs.toArray,_,hk,rfl,rfl,rfl,by rw[dI,lenV]; exact hl,by simpa using rv⟩) (fun b u z=>by have z':(none:Option HO)=some u:=z; cases z') (fun b z=>absurd rfl z) fun z=>absurd rfl z
 | none=>
  refine core (fun b=>if b=a then some (.zb { cls:=.type "list",data:=.seq vs.toArray } (.lst (ns.map V.int))) else none) (fun b=>?_) (.inl (.inr ⟨{ cls:=.type "list",data:=.seq vs.toArray },bc rfl⟩)) (fun b u z=>?_) (fun b z=>?_) fun _=>hk
  ·by_cases hb:b=a
   ·exact .inr ⟨_,_,bc hb⟩
   ·exact .inl (aX hb)
  ·by_cases hb:b=a
   ·have z':=(bc hb).symm.trans z
    cases z'
    subst hb
    exact⟨ha,by rw[eY]; exact hl,vs,_,rv,ha⟩
   ·have z':=(aX hb).symm.trans z
    cases z'
  ·by_cases hb:b=a
   ·exact hb
   ·exact absurd (aX hb) z
abbrev KOf {K:PySem.W.Frag} {h:Heap} (_:K.In h):PySem.W.Frag:=K
theorem Nk {l:PySem.W.OpenLaw} {n k:Nat} {q:Program} {loose:List Str} {XP:(Str->Option Value)->Heap->Prop} {YP:World->Heap->Prop} {d:DefRec} {K:Params->PySem.W.Frag} {CX:World->G8} {sp:World->Sp} {x:Str}
  (hn:l.most=some n) (hn2:n<=sizeLine) (hdf:d.params.defaults=[]) (hr:eU k callerA)
  (hY:∀(w:World) (h:Heap),YP w h->(K w.params).In h)
  (F:∀(w:World) (mg:Str->Option Value) (fa:Addr) (h:Heap),(K w.params).In h->h.Ns mainGlobals mg->mg d.name=some (.ref fa) ->
   ∃fd:FuncData,(∀(s:Shared) (u:Value),BindsTo s fd ⟨[u],[]⟩ [(x,u)]) /\
    ∀base:Heap,(K w.params).In base->base.Ns mainGlobals mg->bG l.prog w (K w.params) mg base (CX w) k fa fd [x] (sp w))
  (hsp:∀(w:World) (H:Hp) (a:Addr) (ns:List Int),ns.length<=n->Only H->fQ (K w.params) H a (ns.map V.int)->sp w [.ref a] H (fun v _=>v=.bl true) fun _ _ _=>False)
  (Ym:∀(w:World) (H:Hp) (s:Shared) (e:Value) (s':Shared),CX w [] H s (fun _ _ _=>False) e s'->False) :
  PySem.W.WalkO q loose XP YP l.row.toRowW d [] (fun f vs=>PySem.call f vs):=by
 refine Att.Cg hn hdf fun w s₀ s₁ mg mb fa o pm cd doc a vs ns G Y ho hd hcd hmg hobj hints hlen hg=>?_
 have KX:=hY w _ Y
 obtain⟨fd,hb,hF⟩:=F w mg fa _ KX G.T.g hmg
 exact L_ KX G.T.g G.T.b G.T.builtins G.T.nolimit hg hobj hints (fK hlen hn2) hr hF hb (fun H hO hS=>hsp w H a ns hlen hO hS) fun H e s'=>Ym w H s₁ e s'
end L2
namespace L2
open PySem PySem.Spec PyProof.Rows
def cZ (s:Stmt):Arguments:=match s with
 | .FunctionDef _ a _ _ _ _ _ _ _ _=>a
 | _=>{ posonlyargs:=[],args:=[],vararg:=none,kwonlyargs:=[],kw_defaults:=[],kwarg:=none,defaults:=[] }
def cA (s:Stmt):List Stmt:=match s with
 | .FunctionDef _ _ b _ _ _ _ _ _ _=>b
 | _=>[]
def aG (s:Stmt):Scope:=match s with
 | .FunctionDef _ _ _ _ _ _ sc _ _ _=>sc
 | _=>{ kind:=.function,names:=[],isGenerator:=false,isCoroutine:=false }
abbrev gK:G8:=fun _ _ _ _ _ _=>False
abbrev E0:XK:=fun _ _ _=>False
theorem K9 {X:Cx}:Passes gK X E0:=fun _ _ _ _ _ _ _ h=>h.elim
structure gW (K:PySem.W.Frag) (x qual:Str) (st:Stmt) (f:Addr) (fd:FuncData):Prop where
 ex:∃(oc:Value) (od:Option Addr) (kV doc pm:Value) (an:Option Addr) (cdv ct:Value) (osl:Array (Option Value)),
  fd=PySem.W.fnOf x qual (cZ st) (cA st) (aG st) .none kV doc pm an cdv ct/\K.lookup f=some ⟨oc,od,.func fd,osl⟩/\PySem.W.codeIn K cdv qual=true
 kp:PySem.W.keepIn K (.ref f)=true
section
variable {P:Program} {w:World} {K:PySem.W.Frag} {mg:Str->Option Value} {base:Heap}
theorem gW.ok {x qual:Str} {st:Stmt} {f:Addr} {fd:FuncData} {N ps:List Str} {k:Nat} {sp:Sp} (F:gW K x qual st f fd) (S:aQ N ps (aG st)) (len:∀vs H Q E,sp vs H Q E->vs.length=ps.length)
  (hbody:∀(cdv:Value) (A:Around) (outer:List Env) (s:Shared) (H:Hp) (vs:List V) (Q:VK) (E:XK),eU k (A.deeper (envOfC qual (aG st) s.heap.objs.size f cdv))->sp vs H Q E ->
   ∃t,zL (fC gK P w K mg base N qual (aG st) f cdv A outer s H E).Ua (cA st) t/\t { nx:=fun _ H'=>Q .non H',rt:=Q } (start N vs) H):bG P w K mg base gK (k+1) f fd ps sp:=by
 obtain⟨oc,od,kV,doc,pm,an,cdv,ct,osl,rfl,lk,hcd⟩:=F.ex
 refine QR lk hcd S len fun A outer s H vs Q E hr hsp=>?_
 obtain⟨t,h,q⟩:=hbody cdv A outer s H vs Q E hr hsp
 exact⟨t,h.Ua,q⟩
theorem gW.binds {x qual:Str} {st:Stmt} {f:Addr} {fd:FuncData} {ps:List Str} (F:gW K x qual st f fd)
  (h:∀(kV doc pm:Value) (an:Option Addr) (cdv ct:Value) (us:List Value),us.length=ps.length->bindArgs (PySem.W.fnOf x qual (cZ st) (cA st) (aG st) .none kV doc pm an cdv ct) ⟨us,[]⟩=pure (ps.zip us)):Binds K fd ps []:=by
 obtain⟨oc,od,kV,doc,pm,an,cdv,ct,osl,rfl,lk,hcd⟩:=F.ex
 exact .all (h kV doc pm an cdv ct)
theorem Mp {x qual:Str} {st:Stmt} {f:Addr} {oc:Value} {od an:Option Addr} {osl:Array (Option Value)} {kV doc pm cdv ct:Value} (l:K.lookup f=some ⟨oc,od,.func (PySem.W.fnOf x qual (cZ st) (cA st) (aG st) .none kV doc pm an cdv ct),osl⟩)
  (c:PySem.W.codeIn K cdv qual=true) (k:PySem.W.keepIn K (.ref f)=true):gW K x qual st f (PySem.W.fnOf x qual (cZ st) (cA st) (aG st) .none kV doc pm an cdv ct):=⟨⟨oc,od,kV,doc,pm,an,cdv,ct,osl,rfl,l,c⟩,k⟩
end
theorem aZ {n:Nat} (h:n<=1000):n<sizeLine:=Nat.lt_of_le_of_lt h (by decide)
section
variable {X:Cx}
theorem pv (i:Nat) {x:Str} {pos:Pos} (hN:X.N[i]?=some x:=by rfl) (hv:WX X.env.scope x:=by first | exact Or.inl rfl | exact Or.inr (Or.inl rfl) | exact Or.inr (Or.inr rfl)) (hd:(x==("__debug__" : Str))=false:=by decide)
  (hcd:(x==("__classdict__" : Str))=false:=by decide):PE X (.Name x pos) (oW i):=RT hN hv hd hcd
end
def aA (H H':Hp):Prop:=∀b o,H b=some o->H' b=some o
theorem aA.refl (H:Hp):aA H H:=fun _ _ h=>h
theorem aA.trans {H H1 H2:Hp} (a:aA H H1) (b:aA H1 H2):aA H H2:=fun c o h=>b c o (a c o h)
section
variable {κ:Type} [DecidableEq κ]
def oU (kvs:List (κ×V)) (k:κ):Option V:=(kvs.find? fun kv=>decide (kv.1=k)).map (·.2)
def putK (kvs:List (κ×V)) (k:κ) (v:V):List (κ×V):=
 if(kvs.any fun kv=>decide (kv.1=k))=true then kvs.map (fun kv=>if kv.1=k then(kv.1,v) else kv) else kvs++[(k,v)]
theorem zT {p:κ×V} {r:List (κ×V)} {k:κ} (e:p.1=k):oU (p::r) k=some p.2:=by simp[oU,List.find?_cons,e]
theorem zU {p:κ×V} {r:List (κ×V)} {k:κ} (e:¬p.1=k):oU (p::r) k=oU r k:=by simp[oU,List.find?_cons,e]
theorem sV (k:κ):∀kvs:List (κ×V),(kvs.any fun kv=>decide (kv.1=k))=(oU kvs k).isSome
 | []=>rfl
 | p::r=>by
  rw[List.any_cons]
  by_cases e:p.1=k
  ·simp only[zT e,lu e,Bool.true_or,Option.isSome_some]
  ·rw[zU e,jJ e,Bool.false_or]; exact sV k r
theorem Ky {kvs:List (κ×V)} {k:κ} (v:V) (h:oU kvs k=none):putK kvs k v=kvs++[(k,v)]:=by
 unfold putK
 rw[sV,h]
 exact aX (by decide)
theorem zK.wR {o:Option V} {u:Option Value} (r:zK o u):o.isSome=u.isSome:=by
 cases o with
 | none=>cases u with
  | none=>rfl
  | some _=>exact(show False from r).elim
 | some _=>cases u with
  | none=>exact(show False from r).elim
  | some _=>rfl
end
section
variable {P:Program} {w:World} {H:Hp} {h:Heap} {a:Addr}
end
section
variable {X:Cx} {pins:List (Addr×Obj)} {σ:St} {H:Hp} {s:Shared} {a:Addr} {y v:V} {u r:Value} {o:Option V} {A:Around} {E:Value->Shared->Prop}
theorem Inv.big (I:Inv X pins σ H s):sysModules<s.heap.objs.size:=by
 have h:mainGlobals<s.heap.objs.size:=(I.mod.glob.keeps I.bk).lt
 exact wI (by decide) h
end
section
variable {X:Cx} {pins:List (Addr×Obj)} {σ:St} {H:Hp} {s:Shared} {a:Addr} {kvs:List (Key×V)} {k:Key} {u:Value} {A:Around} {E:Value->Shared->Prop}
end
section
variable {X:Cx} {o i e value:Expr} {pos pos' tpos:Pos} {td ty tv:TE}
end
section
variable {X:Cx} {pos:Pos}
end
structure M1 (X:Cx) (o:Expr) (m:Str) (apos:Pos) (e:Expr) (cpos:Pos):Prop where
 base:attributeBase o m X.env (eval o X.env)=eval o X.env
 few:((backTo cpos (starEach [e] X.env)).all (fun x=>!x.1)&&(backToKw cpos (keywordEach [] X.env)).all (fun x=>x.1.isSome)
  && decide (([e]:List Expr).length+([]:List Keyword).length+(if([]:List Keyword).isEmpty then 0 else 1)<30))=true
 line:(apos.endLine==cpos.line)=true
 trees:backTo cpos (starEach [e] X.env)=[(false,eval e X.env)]
structure M2 (X:Cx) (o:Expr) (m:Str) (apos:Pos) (e f:Expr) (cpos:Pos):Prop where
 base:attributeBase o m X.env (eval o X.env)=eval o X.env
 few:((backTo cpos (starEach [e,f] X.env)).all (fun x=>!x.1)&&(backToKw cpos (keywordEach [] X.env)).all (fun x=>x.1.isSome)
  && decide (([e,f]:List Expr).length+([]:List Keyword).length+(if([]:List Keyword).isEmpty then 0 else 1)<30))=true
 line:(apos.endLine==cpos.line)=true
 trees:backTo cpos (starEach [e,f] X.env)=[(false,eval e X.env),(false,eval f X.env)]
section
variable {X:Cx} {pins:List (Addr×Obj)} {σ:St} {H:Hp} {s:Shared} {a:Addr} {y d:V} {u r:Value} {o:Option V} {A:Around} {E:Value->Shared->Prop}
end
section
variable {X:Cx} {o e f:Expr} {apos cpos:Pos} {td ty tx:TE}
end
section
variable {X:Cx} {pins:List (Addr×Obj)} {σ:St} {H:Hp} {s:Shared} {a:Addr} {kvs:List (Key×V)} {A:Around} {E:Value->Shared->Prop}
end
section
variable {X:Cx} {pins:List (Addr×Obj)} {σ:St} {H:Hp} {s:Shared} {a:Addr} {y:V} {u:Value} {A:Around} {E:Value->Shared->Prop}
end
end L2
set_option maxHeartbeats 4000000
namespace L2
open PySem PySem.Spec PyProof.Rows
def iG (env:Env) (cs:List (Str×Addr)) (y:Str×NameKind):List (Str×Addr):=
 if y.2==.free then(match env.cells.lookup y.1 with | some c=>(y.1,c)::cs | none=>cs) else cs
def oA (sc:Scope) (env:Env):List (Str×Addr):=sc.names.foldl (iG env) []
theorem BP {env:Env}:∀(ns:List (Str×NameKind)) (acc:List (Str×Addr)),(∀y c,acc.lookup y=some c->env.cells.lookup y=some c)->∀y c,(ns.foldl (iG env) acc).lookup y=some c->env.cells.lookup y=some c
 | [],acc,h,y,c,e=>h y c e
 | n::ns,acc,h,y,c,e=>by
  refine BP ns (iG env acc n) (fun z d q=>?_) y c e
  unfold iG at q
  split at q
  ·split at q
   ·rename_i c' hc'
    rw[j9] at q
    split at q
    ·rename_i hz
     have hz':z=n.1:=by simpa using hz
     cases q
     rw[hz']; exact hc'
    ·exact h z d q
   ·exact h z d q
  ·exact h z d q
theorem gw {sc:Scope} {env:Env} {y:Str} {c:Addr} (e:(oA sc env).lookup y=some c):env.cells.lookup y=some c:=
 BP sc.names [] (fun _ _ q=>by simp at q) y c e
theorem GF {env:Env} {y:Str} {c:Addr} (hc:env.cells.lookup y=some c):∀(ns:List (Str×NameKind)) (acc:List (Str×Addr)),acc.lookup y=some c->(ns.foldl (iG env) acc).lookup y=some c
 | [],acc,h=>h
 | n::ns,acc,h=>by
  refine GF hc ns (iG env acc n) ?_
  unfold iG
  split
  ·split
   ·rename_i c' hc'
    rw[j9]
    split
    ·rename_i hz
     have hz':y=n.1:=by simpa using hz
     rw[<- hz',hc] at hc'
     exact hc'.symm
    ·exact h
   ·exact h
  ·exact h
theorem Eh {env:Env} {y:Str} {c:Addr} (hc:env.cells.lookup y=some c):∀(ns:List (Str×NameKind)) (acc:List (Str×Addr)),(y,NameKind.free)∈ns->(ns.foldl (iG env) acc).lookup y=some c
 | [],_,h=>by simp at h
 | n::ns,acc,h=>by
  rcases dZ.mp h with e | h
  ·subst e
   refine GF hc ns _ ?_
   unfold iG
   simp[hc]
  ·exact Eh hc ns _ h
theorem rB {sc:Scope} {env:Env} {x:Str} {k':NameKind} (h:(relabel sc env).names.lookup x=some k'):∃k,(x,k)∈sc.names/\(k'=k\/(k=.free/\k'=.cell)):=by
 have m:=PySem.mem_of_lookup h
 unfold relabel at m
 obtain⟨⟨n,k⟩,hm,e⟩:=mX.mp m
 dsimp only at e
 split at e
 ·rename_i hc
  injection e with e1 e2
  subst e1
  refine⟨k,hm,.inr ⟨?_,e2.symm⟩⟩
  have:(k==NameKind.free)=true:=by
   cases hk:(k==NameKind.free) with
   | true=>rfl
   | false=>rw[hk] at hc; simp at hc
  exact beq_iff_eq.mp this
 ·injection e with e1 e2
  subst e1 e2
  exact⟨k,hm,.inl rfl⟩
theorem pG {env:Env} {x:Str} (hf:env.scope.kind=.function) (hk:env.kindOf x=some .cell):∀(ns:List (Str×NameKind)),ns.lookup x=some .free ->
  (ns.map fun(y:Str×NameKind)=>if(y.2==.free&&env.scope.kind==.function&&env.kindOf y.1==some .cell) then(y.1,NameKind.cell) else(y.1,y.2)).lookup x=some .cell
 | [],h=>by simp at h
 | (n,k)::r,h=>by
  have ih:=pG hf hk r
  rw[Ah]
  cases hx:x==n with
  | true=>
   have e:x=n:=by simpa using hx
   subst e
   simp only[j9,beq_self_eq_true] at h
   cases h
   dsimp only
   rw[bc (by simp[hf,hk])]
   simp[j9]
  | false=>
   simp only[j9,hx] at h
   dsimp only
   split
   ·simp only[j9,hx]; exact ih h
   ·simp only[j9,hx]; exact ih h
def ou (X:Cx) (N':List Str) (sc:Scope) (fp:List Addr) (s:Shared) (H:Hp):Cx where
 prog:=X.prog
 w:=X.w
 K:=X.K
 mg:=X.mg
 base:=X.base
 A:=X.A
 N:=N'
 s₀:=s
 H₀:=H
 env:=compEnvC sc (oA sc X.env) s.heap.objs.size X.env
 outer:=X.stack
 stack:=X.stack
 ex:=fp
 fn:=fun _=>false
 calm:=X.calm
 pn:=[]
 xe:=fun _ _=>False
structure sU (X:Cx) (N':List Str) (js:List Nat) (sc:Scope):Prop where
 kind:sc.kind=.function
 gf:∀y∈sc.names,y.2≠.cell
 names:∀y∈sc.names,y.2=.local->sc.names.lookup y.1=some .local
 clos:closureFor sc X.env=pure (oA sc X.env)
 all:(sc.names.all fun y=>y.2 != .free || (X.env.cells.lookup y.1).isSome)=true
 len:N'.length=js.length+1
 cap:∀(i j:Nat),js[i]?=some j->N'[i+1]?=X.N[j]?
 Mx:∀y∈N'.tail,X.env.kindOf y=some .cell/\sc.names.lookup y=some .free
def bK (js:List Nat) (σ:St):St:=js.map fun j=>(σ[j]?).join
def dM (js:List Nat) (wi:TI) (te:TE):TE:=fun σ H Q=>wi σ H fun J H1=>∀acc,H1 acc=none->∃W:Nat->Nat->List V->Hp->Prop,(∃m,W 0 m [] (upd H1 acc (.lst [])))/\∀i m ys H2,W i m ys H2 ->
 (J.stop i H2/\Q (.ref acc) H2)\/(J.go i H2/\∀x H3,J.xG i H2 x H3->te (some x::bK js σ) H3 fun y H4=>H4 acc=some (.lst ys)/\ys.length<sizeLine/\∃m',m'<m/\W (i+1) m' (ys++[y]) (upd H4 acc (.lst (ys++[y]))))
def Yc:Key->PyData
 | .inl i=>.int i
 | .inr x=>.str x
mutual
def At (H:Hp):PyData->V->Prop
 | .none,v=>v=.non
 | .bool b,v=>v=.bl b
 | .int i,v=>v=.int i
 | .str x,v=>v=.str x
 | .tuple ds,v=>∃a xs,v=.ref a/\H a=some (.tup xs)/\ak H ds xs
 | .list ds,v=>∃a xs,v=.ref a/\H a=some (.lst xs)/\ak H ds xs
 | .dict kvs,v=>∃a es,v=.ref a/\H a=some (.dK es)/\zO H kvs es
def ak (H:Hp):List PyData->List V->Prop
 | [],xs=>xs=[]
 | d::ds,xs=>∃x r,xs=x::r/\At H d x/\ak H ds r
def zO (H:Hp):List (PyData×PyData)->List (Key×V)->Prop
 | [],es=>es=[]
 | (k,d)::r,es=>∃q v t,es=(q,v)::t/\k=Yc q/\At H d v/\zO H r t
end
mutual
theorem At.mono {H H':Hp} (m:aA H H'):∀(d:PyData) (v:V),At H d v->At H' d v
 | .none,_,h=>by unfold At at h ⊢; exact h
 | .bool _,_,h=>by unfold At at h ⊢; exact h
 | .int _,_,h=>by unfold At at h ⊢; exact h
 | .str _,_,h=>by unfold At at h ⊢; exact h
 | .tuple ds,v,h=>by
  unfold At at h ⊢
  obtain⟨a,xs,e,h1,h2⟩:=h
  exact⟨a,xs,e,m _ _ h1,ak.mono m ds xs h2⟩
 | .list ds,v,h=>by
  unfold At at h ⊢
  obtain⟨a,xs,e,h1,h2⟩:=h
  exact⟨a,xs,e,m _ _ h1,ak.mono m ds xs h2⟩
 | .dict kvs,v,h=>by
  unfold At at h ⊢
  obtain⟨a,es,e,h1,h2⟩:=h
  exact⟨a,es,e,m _ _ h1,zO.mono m kvs es h2⟩
theorem ak.mono {H H':Hp} (m:aA H H'):∀(ds:List PyData) (xs:List V),ak H ds xs->ak H' ds xs
 | [],_,h=>by unfold ak at h ⊢; exact h
 | d::ds,xs,h=>by
  unfold ak at h ⊢
  obtain⟨x,r,e,h1,h2⟩:=h
  exact⟨x,r,e,At.mono m d x h1,ak.mono m ds r h2⟩
theorem zO.mono {H H':Hp} (m:aA H H'):∀(kvs:List (PyData×PyData)) (es:List (Key×V)),zO H kvs es->zO H' kvs es
 | [],_,h=>by unfold zO at h ⊢; exact h
 | (k,d)::r,es,h=>by
  unfold zO at h ⊢
  obtain⟨q,v,t,e,e',h1,h2⟩:=h
  exact⟨q,v,t,e,e',At.mono m d v h1,zO.mono m r t h2⟩
end
theorem ak.length {H:Hp}:∀{ds:List PyData} {xs:List V},ak H ds xs->xs.length=ds.length
 | [],xs,h=>by unfold ak at h; rw[h]; rfl
 | d::ds,xs,h=>by
  unfold ak at h
  obtain⟨x,r,e,_,h2⟩:=h
  rw[e,nQ,nQ,ak.length h2]
theorem ak.get {H:Hp}:∀{ds:List PyData} {xs:List V} {i:Nat} {x:V},ak H ds xs->xs[i]?=some x->∃d,ds[i]?=some d/\At H d x
 | [],xs,i,x,h,e=>by unfold ak at h; rw[h] at e; simp at e
 | d::ds,xs,i,x,h,e=>by
  unfold ak at h
  obtain⟨y,r,e1,h1,h2⟩:=h
  subst e1
  cases i with
  | zero=>simp at e; subst e; exact⟨d,rfl,h1⟩
  | succ i=>
   obtain⟨d',q1,q2⟩:=ak.get (i:=i) (x:=x) h2 (by simpa using e)
   exact⟨d',by simpa using q1,q2⟩
theorem ak.getD {H:Hp}:∀{ds:List PyData} {xs:List V} {i:Nat} {d:PyData},ak H ds xs->ds[i]?=some d->∃x,xs[i]?=some x/\At H d x
 | [],xs,i,d,h,e=>by simp at e
 | d'::ds,xs,i,d,h,e=>by
  unfold ak at h
  obtain⟨y,r,e1,h1,h2⟩:=h
  subst e1
  cases i with
  | zero=>simp at e; subst e; exact⟨y,rfl,h1⟩
  | succ i=>
   obtain⟨x,q1,q2⟩:=ak.getD (i:=i) (d:=d) h2 (by simpa using e)
   exact⟨x,by simpa using q1,q2⟩
theorem ak.append {H:Hp}:∀{ds es:List PyData} {xs ys:List V},ak H ds xs->ak H es ys->ak H (ds++es) (xs++ys)
 | [],es,xs,ys,h,q=>by unfold ak at h; subst h; exact q
 | d::ds,es,xs,ys,h,q=>by
  unfold ak at h
  obtain⟨x,r,e,h1,h2⟩:=h
  subst e
  show ak H (d::(ds++es)) (x::(r++ys))
  unfold ak
  exact⟨x,r++ys,rfl,h1,ak.append h2 q⟩
theorem ak.take {H:Hp}:∀{ds:List PyData} {xs:List V} (n:Nat),ak H ds xs->ak H (ds.take n) (xs.take n)
 | ds,xs,0,h=>by simp[ak]
 | [],xs,n+1,h=>by unfold ak at h; subst h; simp[ak]
 | d::ds,xs,n+1,h=>by
  unfold ak at h
  obtain⟨x,r,e,h1,h2⟩:=h
  subst e
  show ak H (d::ds.take n) (x::r.take n)
  unfold ak
  exact⟨x,_,rfl,h1,ak.take n h2⟩
theorem ak.nil {H:Hp}:ak H [] []:=by unfold ak; rfl
theorem ak.cons {H:Hp} {d:PyData} {ds:List PyData} {x:V} {xs:List V} (h1:At H d x) (h2:ak H ds xs):ak H (d::ds) (x::xs):=by
 unfold ak; exact⟨x,xs,rfl,h1,h2⟩
theorem At.tup {H:Hp} {a:Addr} {xs:List V} {ds:List PyData} (h:H a=some (.tup xs)) (q:ak H ds xs):At H (.tuple ds) (.ref a):=by
 unfold At; exact⟨a,xs,rfl,h,q⟩
theorem At.lst {H:Hp} {a:Addr} {xs:List V} {ds:List PyData} (h:H a=some (.lst xs)) (q:ak H ds xs):At H (.list ds) (.ref a):=by
 unfold At; exact⟨a,xs,rfl,h,q⟩
theorem At.int {H:Hp} (i:Int):At H (.int i) (.int i):=by unfold At; rfl
theorem At.str {H:Hp} (x:Str):At H (.str x) (.str x):=by unfold At; rfl
theorem aM {H:Hp} {p:Addr} (h:H p=none) (o:HO):aA H (upd H p o):=fun b u q=>by rw[aJ (bH q h)]; exact q
def UL:PyData->String
 | .none=>"NoneType"
 | .bool _=>"bool"
 | .int _=>"int"
 | .str _=>"str"
 | .tuple _=>"tuple"
 | .list _=>"list"
 | .dict _=>"dict"
theorem At.ty {K:PySem.W.Frag} {H:Hp} {d:PyData} {v:V} (h:At H d v):qU K H v (.type (UL d)):=by
 cases d with
 | none=>unfold At at h; subst h; exact .non
 | bool b=>unfold At at h; subst h; exact .bl b
 | int i=>unfold At at h; subst h; exact .int i
 | str x=>unfold At at h; subst h; exact .str x
 | tuple ds=>unfold At at h; obtain⟨a,xs,e,h1,_⟩:=h; subst e; exact .tup h1
 | list ds=>unfold At at h; obtain⟨a,xs,e,h1,_⟩:=h; subst e; exact .lst h1
 | dict ds=>unfold At at h; obtain⟨a,xs,e,h1,_⟩:=h; subst e; exact .dK h1
def isInt:PyData->Bool
 | .int _=>true
 | .bool _=>true
 | _=>false
def isTup:PyData->Bool
 | .tuple _=>true
 | _=>false
def isBool:PyData->Bool
 | .bool _=>true
 | _=>false
theorem Pq (K:PySem.W.Frag) (d:PyData):PySem.W.kitOne K (.type (UL d)) (.type "int")=some (isInt d):=by cases d <;> kernel_rfl
theorem Pn (K:PySem.W.Frag) (d:PyData):PySem.W.kitOne K (.type (UL d)) (.type "tuple")=some (isTup d):=by cases d <;> kernel_rfl
theorem Ma (K:PySem.W.Frag) (d:PyData):PySem.W.kitOne K (.type (UL d)) (.type "bool")=some (isBool d):=by cases d <;> kernel_rfl
section
variable {X:Cx}
def Ka (T:String) (f:PyData->Bool):List V->Hp->VK->Prop:=fun vs H Q=>∃v d,vs=[v,.ty T]/\At H d v/\Q (.bl (f d)) H
theorem DX {T:String} {f:PyData->Bool} (hf:∀K d,PySem.W.kitOne K (.type (UL d)) (.type T)=some (f d)):cL X (.builtin "isinstance") (Ka T f):=by
 refine .mk ?_
 intro pins s σ H vs us Q I r h
 obtain⟨v,d,rfl,hv,q⟩:=h
 obtain⟨u,t,rfl,ru,rt⟩:=r.two
 cases(show t=Value.type T from rt)
 exact Im I ru (hv.ty (K:=X.K)) (hf X.K d) fun tk=>⟨.bl (f d),H,I.tok tk,rfl,q⟩
theorem Pz:cL X (.builtin "isinstance") (Ka "int" isInt):=DX Pq
theorem yX:cL X (.builtin "isinstance") (Ka "tuple" isTup):=DX Pn
theorem Mf:cL X (.builtin "isinstance") (Ka "bool" isBool):=DX Ma
theorem Ex:∀{bs:List Bool} {us:List Value},Vals (bs.map V.bl) us->us=bs.map Value.bool
 | [],_,.nil=>rfl
 | b::bs,_,.cons r t=>by
  cases(show _=Value.bool b from r)
  rw[Ex t]; rfl
theorem range_all (bs:List Bool):(List.range bs.length).all (fun i=>bs.getD i false)=bs.all id:=by
 rw[Hu,pH,pH]
 constructor
 ·intro h b hb
  obtain⟨i,hi,rfl⟩:=yp.mp hb
  have:=h i (yf.mpr hi)
  simpa[oK,hi] using this
 ·intro h i hi
  have hi':=yf.mp hi
  have:=h bs[i] (Dl hi')
  simpa[oK,hi'] using this
theorem range_any (bs:List Bool):(List.range bs.length).any (fun i=>bs.getD i false)=bs.any id:=by
 rw[Hu,List.any_eq_true,List.any_eq_true]
 constructor
 ·rintro⟨i,hi,h⟩
  have hi':=yf.mp hi
  exact⟨bs[i],Dl hi',by simpa[oK,hi'] using h⟩
 ·rintro⟨b,hb,h⟩
  obtain⟨i,hi,rfl⟩:=yp.mp hb
  exact⟨i,yf.mpr hi,by simpa[oK,hi] using h⟩
theorem jB (hc:X.calm=true):cL X (.builtin "all") (fun vs H Q=>∃(p:Addr) (bs:List Bool),vs=[.ref p]/\H p=some (.lst (bs.map V.bl))/\Q (.bl (bs.all id)) H):=by
 refine .mk ?_
 intro pins s σ H vs us Q I r h
 obtain⟨p,bs,rfl,hp,q⟩:=h
 obtain⟨u,rfl,ru⟩:=r.one
 cases ru
 obtain⟨z,its,n,rv,e⟩:=I.hok p _ hp
 have e2:=Ex rv
 subst e2
 have hl:s.heap.IsList p (bs.map Value.bool).toArray:=⟨_,e,rfl,n,rfl⟩
 have lt:p<s.heap.objs.size:=eQ e
 refine call_all_walk (Km hl ?_)
 refine⟨_,_,_,_,_,_,fun i=>bs.getD i false,rfl,Walks.list (A:=X.A.in1) (I.ok.hd hc) _ p (dH lt) _,⟨⟨_,j_ _ rfl,rfl,rfl⟩,hl.push _⟩,fun i v s' Q' E' hv hq=>?_,fun h' tk hk=>?_⟩
 ·have hv':(bs.map Value.bool).toArray[i]?=some v:=hv
  have:v=.bool (bs.getD i false):=by
   simp only[List.getElem?_toArray,dz] at hv'
   cases q:bs[i]? with
   | none=>rw[q] at hv'; simp at hv'
   | some b=>rw[q] at hv'; simp at hv'; simp[oK,q,<- hv']
  rw[this]
  exact ym hq
 ·have e3:(List.range (bs.map Value.bool).toArray.size).all (fun i=>bs.getD i false)=bs.all id:=by
   rw[dI,eY]; exact range_all bs
  refine⟨.bl (bs.all id),H,I.kept (t':=tk) (fun b o eb=>?_),by rw[<- e3]; rfl,q⟩
  exact hk b o (by simpa using dH (eQ eb)) (fM _ eb)
theorem Aw:∀(ns:List Int),preSum (fun i=>ns.getD i 0) ns.length=ns.sum:=by
 have key:∀(ns:List Int) (k:Nat),k<=ns.length->preSum (fun i=>ns.getD i 0) k=(ns.take k).sum:=by
  intro ns k
  induction k with
  | zero=>intro _; rfl
  | succ k ih=>
   intro hk
   have e:ns.take (k+1)=ns.take k++[ns.getD k 0]:=by
    rw[yg,jg (by omega)]
    simp[oK,jg (show k<ns.length by omega)]
   show preSum _ k+ns.getD k 0=_
   rw[ih (by omega),e,List.sum_append]
   simp
 intro ns
 rw[key ns ns.length (bD _),qF]
theorem Gj {ns:List Int} {its:List Value} (r:Vals (ns.map V.int) its) {i:Nat} {v:Value} (h:its.toArray[i]?=some v):∃t,v=.int (ns.getD i 0) t:=by
 have h':its[i]?=some v:=by simpa using h
 have hi:i<its.length:=(iM.mp h').1
 have hl:=r.length
 rw[eY] at hl
 obtain⟨u,hu,ru⟩:=r.get (i:=i) (x:=V.int (ns[i]'(by omega))) (by rw[dz,jg (by omega)]; rfl)
 rw[h'] at hu
 cases hu
 obtain⟨t,e⟩:=ru
 exact⟨t,by rw[e,oK,jg (by omega)]; rfl⟩
theorem qO (hc:X.calm=true):cL X (.builtin "sum") (fun vs H Q=>∃(p:Addr) (ns:List Int),vs=[.ref p]/\(H p=some (.lst (ns.map V.int))\/H p=some (.tup (ns.map V.int)))/\Q (.int ns.sum) H):=by
 refine .mk ?_
 intro pins s σ H vs us Q I r h
 obtain⟨p,ns,rfl,hp,q⟩:=h
 obtain⟨u,rfl,ru⟩:=r.one
 cases ru
 have fin:∀{h':Heap} {tk:Nat} {t':Tok} {o:Obj},(∀b o',b∉[s.heap.objs.size]->(s.heap.push o).get? b=some o'->h'.get? b=some o')->EP X pins σ Q (.int (preSum (fun i=>ns.getD i 0) ns.length) t') { s with heap:=h',toks:=tk }:=fun {h' tk t' o} hk=>
  ⟨.int ns.sum,H,I.kept (t':=tk) (fun b o' eb=>hk b o' (by simpa using dH (eQ eb)) (fM _ eb)),⟨t',by rw[Aw]⟩,q⟩
 rcases hp with hp | hp
 ·obtain⟨z,its,n,rv,e⟩:=I.hok p _ hp
  have hl:s.heap.IsList p its.toArray:=⟨_,e,rfl,n,rfl⟩
  have lt:p<s.heap.objs.size:=eQ e
  have hlen:=rv.length
  rw[eY] at hlen
  refine call_sum_walkG (Km hl ?_)
  refine⟨_,_,_,_,_,_,fun i=>ns.getD i 0,rfl,Walks.list (A:=X.A.in1) (I.ok.hd hc) _ p (dH lt) _,⟨⟨_,j_ _ rfl,rfl,rfl⟩,hl.push _⟩,fun b hb=>?_,fun i v hv=>Gj rv hv,fun h' tk t' hk=>?_⟩
  ·show b<(s.heap.push _).objs.size
   rw[lg]
   rcases dZ.mp hb with rfl | hb
   ·exact Kh _
   ·rw[fP.mp hb]; exact Hy lt
  ·rw[dI,<- hlen]; exact fin hk
 ·obtain⟨z,its,rv,ht⟩:=I.hok p _ hp
  have ht':s.heap.IsTuple p its.toArray:=ht
  have lt:p<s.heap.objs.size:=by obtain⟨o,e,_⟩:=ht; exact eQ e
  have hlen:=rv.length
  rw[eY] at hlen
  refine call_sum_walkG (Hz ht' ?_)
  refine⟨_,_,_,_,_,_,fun i=>ns.getD i 0,rfl,Walks.tuple (A:=X.A.in1) (I.ok.hd hc) _ p (dH lt) _,⟨⟨_,j_ _ rfl,rfl,rfl⟩,?_⟩,fun b hb=>?_,fun i v hv=>Gj rv hv,fun h' tk t' hk=>?_⟩
  ·obtain⟨o,e,c⟩:=ht'
   exact⟨o,fM _ e,c⟩
  ·show b<(s.heap.push _).objs.size
   rw[lg]
   rcases dZ.mp hb with rfl | hb
   ·exact Kh _
   ·rw[fP.mp hb]; exact Hy lt
  ·rw[dI,<- hlen]; exact fin hk
theorem xf:cL X (.type "int") (fun vs H Q=>∃(b:Bool),vs=[.bl b]/\Q (.int (if b then 1 else 0)) H):=by
 refine .mk ?_
 intro pins s σ H vs us Q I r h
 obtain⟨b,rfl,q⟩:=h
 obtain⟨u,rfl,ru⟩:=r.one
 cases(show u=Value.bool b from ru)
 exact call_int_bool ⟨.int (if b then 1 else 0),H,I.tok _,⟨_,rfl⟩,q⟩
end
mutual
theorem iz {P:Program} {w:World} {H:Hp} {h:Heap} (ok:j0 P w H h):∀(d:PyData) (v:V) (u:Value),At H d v->RelV v u->d.hasDict=false->∃as,Reads h u d as
 | .none,v,u,a,r,_=>by unfold At at a; subst a; cases r; exact⟨_,.none⟩
 | .bool b,v,u,a,r,_=>by unfold At at a; subst a; cases r; exact⟨_,.bool b⟩
 | .int i,v,u,a,r,_=>by unfold At at a; subst a; obtain⟨t,rfl⟩:=r; exact⟨_,.int i t⟩
 | .str x,v,u,a,r,_=>by unfold At at a; subst a; obtain⟨t,rfl⟩:=r; exact⟨_,.str x t⟩
 | .tuple ds,v,u,a,r,nd=>by
  unfold At at a
  obtain⟨p,xs,e,hp,ha⟩:=a
  subst e
  cases r
  obtain⟨_,its,rv,o,e1,e2,n,e3⟩:=ok p _ hp
  obtain⟨as,ra⟩:=qC ok ds xs its ha rv (by simpa[PyData.hasDict] using nd)
  exact⟨_,.tuple e1 e2 e3 (by simpa using ra)⟩
 | .list ds,v,u,a,r,nd=>by
  unfold At at a
  obtain⟨p,xs,e,hp,ha⟩:=a
  subst e
  cases r
  obtain⟨_,its,n,rv,e1⟩:=ok p _ hp
  obtain⟨as,ra⟩:=qC ok ds xs its ha rv (by simpa[PyData.hasDict] using nd)
  exact⟨_,.list e1 rfl rfl (by simpa using ra)⟩
 | .dict kvs,v,u,a,r,nd=>by simp[PyData.hasDict] at nd
theorem qC {P:Program} {w:World} {H:Hp} {h:Heap} (ok:j0 P w H h):∀(ds:List PyData) (xs:List V) (us:List Value),ak H ds xs->Vals xs us->PyData.hasDictAll ds=false->∃as,ReadsAll h us ds as
 | [],xs,us,a,r,_=>by unfold ak at a; subst a; cases r; exact⟨_,.nil⟩
 | d::ds,xs,us,a,r,nd=>by
  unfold ak at a
  obtain⟨x,t,e,h1,h2⟩:=a
  subst e
  have Ub:d.hasDict=false/\PyData.hasDictAll ds=false:=by simpa[PyData.hasDictAll] using nd
  cases r with
  | cons r1 r2=>
   obtain⟨as,q1⟩:=iz ok d x _ h1 r1 Ub.1
   obtain⟨bs,q2⟩:=qC ok ds t _ h2 r2 Ub.2
   exact⟨_,.cons q1 q2⟩
end
structure xq (d:PyData):Prop where
 can:d.showable=true
 Z4:d.hasDict=false
 len:d.shown.length<=sizeLine
 dep:d.depth<=60
section
variable {X:Cx}
theorem d_ {k:Nat} (hr:eU k X.A):cL X (.builtin "repr") (fun vs H Q=>∃(v:V) (d:PyData),vs=[v]/\At H d v/\xq d/\Q (.str d.shown) H):=by
 refine .mk ?_
 intro pins s σ H vs us Q I r h
 obtain⟨v,d,rfl,hv,hs,q⟩:=h
 obtain⟨u,rfl,ru⟩:=r.one
 cases d with
 | none=>
  unfold At at hv; subst hv
  cases(show u=Value.none from ru)
  exact PySem.P.repr_of_none ⟨.str "None",H,I.tok _,⟨_,rfl⟩,q⟩
 | bool b=>
  unfold At at hv; subst hv
  cases(show u=Value.bool b from ru)
  exact PySem.P.repr_of_bool ⟨.str (if b then "True" else "False"),H,I.tok _,⟨_,rfl⟩,q⟩
 | int i=>
  unfold At at hv; subst hv
  obtain⟨t,rfl⟩:=ru
  exact PySem.P.repr_of_int (iK hs.can) ⟨.str (toString i),H,I.tok _,⟨_,rfl⟩,q⟩
 | str x=>
  unfold At at hv; subst hv
  obtain⟨t,rfl⟩:=ru
  exact PySem.P.repr_of_str ⟨.str (reprText x),H,I.tok _,⟨_,rfl⟩,q⟩ hs.len
 | _=>
  obtain⟨as,R⟩:=iz I.hok _ _ _ hv ru hs.Z4
  unfold At at hv
  obtain⟨a,xs,e,_⟩:=hv
  subst e
  cases(show u=Value.ref a from ru)
  have hu:=hr.units
  have hd:=hs.dep
  exact repr_of_reads' R hs.can (fun z=>by rw[hs.Z4] at z; cases z) hr.gd (by omega) (fun _ _ e=>e) (fun h' t tk hk=>⟨.str _,H,I.kept (t':=tk) hk,⟨t,rfl⟩,q⟩) hs.len
def Gi (mg:Str->Option Value) (x:Str) (i:Int):Prop:=∃t,mg x=some (.int i t)
theorem cI {x:Str} {i:Int} {pos:Pos} (h:Gi X.mg x i) (hg:Gl X x:=by rfl) (hd:(x==("__debug__" : Str))=false:=by decide):PE X (.Name x pos) (tC (.int i)):=by
 obtain⟨t,ht⟩:=h
 exact sy hg ht ⟨t,rfl⟩ hd
structure Ct (P:Program) (w:World) (K:PySem.W.Frag) (mg:Str->Option Value) (base:Heap) (k:Nat) (x:Str) (ps:List Str) (sp:Sp) where
 f:Addr
 fd:FuncData
 G:bG P w K mg base gK k f fd ps sp
 kp:PySem.W.keepIn K (.ref f)=true
 b:Binds K fd ps []
 m:mg x=some (.ref f)
def Ct.mono {P:Program} {w:World} {K:PySem.W.Frag} {mg:Str->Option Value} {base:Heap} {j k:Nat} {x:Str} {ps:List Str} {sp:Sp} (c:Ct P w K mg base j x ps sp) (h:j<=k):Ct P w K mg base k x ps sp:={ c with G:=c.G.mono h }
theorem VB {k:Nat} {x:Str} {ps:List Str} {sp:Sp} {e:Expr} {es:List Expr} {t:TA} {p pos:Pos} (c:Ct X.prog X.w X.K X.mg X.base k x ps sp) (hr:eU k X.A) (ha:PA X (e::es) t) (hg:Gl X x:=by rfl)
  (hdb:(x==("__debug__" : Str))=false:=by decide) (he:starEach (e::es) X.env=(false,eval e X.env)::starEach es X.env:=by rfl) (hpl:(backTo pos (starEach es X.env)).any (·.1)=false:=by rfl) :
  PE X (.Call (.Name x p) (e::es) [] pos) (mY sp [] E0 t):=yD c.G hr hg c.m c.kp c.b .nil K9 ha hdb he hpl
def mV (f:PyData->Bool):Sp:=fun vs H Q _=>∃v d,vs=[v]/\At H d v/\∀H',aA H H'->Q (.bl (f d)) H'
def Hm (f:PyData->PyData->Bool):Sp:=fun vs H Q _=>∃v d v' d',vs=[v,v']/\At H d v/\At H d' v'/\∀H',aA H H'->Q (.bl (f d d')) H'
def gY (f:PyData->Int->Bool):Sp:=fun vs H Q _=>∃v d i,vs=[v,.int i]/\At H d v/\∀H',aA H H'->Q (.bl (f d i)) H'
def m5 (f:PyData->Int->Int->Bool):Sp:=fun vs H Q _=>∃v d i j,vs=[v,.int i,.int j]/\At H d v/\∀H',aA H H'->Q (.bl (f d i j)) H'
theorem mV.len {f:PyData->Bool} {ps:List Str} (h:ps.length=1):∀vs H Q E,mV f vs H Q E->vs.length=ps.length:=by rintro vs H Q E ⟨v,d,rfl,_⟩; exact h.symm
theorem Hm.len {f:PyData->PyData->Bool} {ps:List Str} (h:ps.length=2):∀vs H Q E,Hm f vs H Q E->vs.length=ps.length:=by rintro vs H Q E ⟨v,d,v',d',rfl,_⟩; exact h.symm
theorem gY.len {f:PyData->Int->Bool} {ps:List Str} (h:ps.length=2):∀vs H Q E,gY f vs H Q E->vs.length=ps.length:=by rintro vs H Q E ⟨v,d,i,rfl,_⟩; exact h.symm
theorem m5.len {f:PyData->Int->Int->Bool} {ps:List Str} (h:ps.length=3):∀vs H Q E,m5 f vs H Q E->vs.length=ps.length:=by rintro vs H Q E ⟨v,d,i,j,rfl,_⟩; exact h.symm
theorem B1.of {f:PyData->Bool} {v:V} {d:PyData} {H:Hp} {Q:VK} {E:XK} (h:At H d v) (q:∀H',aA H H'->Q (.bl (f d)) H'):mV f ([v]++[]) H Q E:=⟨v,d,rfl,h,q⟩
theorem M9.of {f:PyData->Int->Bool} {v:V} {d:PyData} {i:Int} {H:Hp} {Q:VK} {E:XK} (h:At H d v) (q:∀H',aA H H'->Q (.bl (f d i)) H'):gY f ([v,.int i]++[]) H Q E:=⟨v,d,i,rfl,h,q⟩
theorem G9.of {f:PyData->Int->Int->Bool} {v:V} {d:PyData} {i j:Int} {H:Hp} {Q:VK} {E:XK} (h:At H d v) (q:∀H',aA H H'->Q (.bl (f d i j)) H'):m5 f ([v,.int i,.int j]++[]) H Q E:=⟨v,d,i,j,rfl,h,q⟩
theorem B2.of {f:PyData->PyData->Bool} {v v':V} {d d':PyData} {H:Hp} {Q:VK} {E:XK} (h:At H d v) (h':At H d' v') (q:∀H',aA H H'->Q (.bl (f d d')) H'):Hm f ([v,v']++[]) H Q E:=⟨v,d,v',d',rfl,h,h',q⟩
theorem BL {K:PySem.W.Frag} {a acc:Addr} {xs:List V} {ds:List PyData} {f:PyData->Bool} {te:TE} {cap:St} {H:Hp} {Q:VK} (hacc:H acc=none) (ha:H a=some (.tup xs)) (hd:ak H ds xs) (hz:ds.length<=sizeLine)
  (step:∀x d H',aA H H'->At H' d x->∀R:VK,(∀cV,aA H' cV->R (.bl (f d)) cV)->te (some x::cap) H' R)
  (fin:∀H',aA H H'->H' acc=some (.lst ((ds.map f).map V.bl))->Q (.ref acc) H') :
  ∃W:Nat->Nat->List V->Hp->Prop,(∃m,W 0 m [] (upd H acc (.lst [])))/\∀i m ys H2,W i m ys H2 ->
   ((M3 K a).stop i H2/\Q (.ref acc) H2)\/((M3 K a).go i H2/\∀x H3,(M3 K a).xG i H2 x H3->te (some x::cap) H3 fun y H4=>H4 acc=some (.lst ys)/\ys.length<sizeLine/\∃m',m'<m/\W (i+1) m' (ys++[y]) (upd H4 acc (.lst (ys++[y])))):=by
 have hlen:=hd.length
 refine⟨fun i m ys H2=>m=ds.length-i/\i<=ds.length/\ys=((ds.take i).map f).map V.bl/\aA H H2/\H2 acc=some (.lst ys),⟨_,rfl,dG _,rfl,aM hacc _,az⟩,?_⟩
 rintro i m ys H2 ⟨rfl,hi,rfl,sm,hy⟩
 have ht:bW K H2 a xs:=bW.of (sm _ _ ha)
 by_cases hlt:i<ds.length
 ·refine .inr ⟨⟨xs,xs[i]'(by omega),ht,jg (by omega)⟩,fun x H3 y=>?_⟩
  obtain⟨e,y⟩:=y
  subst e
  obtain⟨d,e1,e2⟩:=hd.get (y xs ht)
  refine step x d _ sm (e2.mono sm) _ fun H4 s4=>⟨s4 _ _ hy,?_,ds.length-(i+1),by omega,rfl,hlt,?_,?_,az⟩
  ·rw[eY,eY,pI]; omega
  ·rw[yg,e1]; simp
  ·refine fun b o q=>?_
   have nb:b≠acc:=bH q hacc
   rw[aJ nb]
   exact s4 _ _ (sm _ _ q)
 ·have e:i=ds.length:=by omega
  subst e
  refine .inl ⟨⟨xs,ht,by omega⟩,fin _ sm ?_⟩
  rw[hy,qF]
theorem Ef {K:PySem.W.Frag} {js:List Nat} {a:Addr} {xs:List V} {ds:List PyData} {f:PyData->Bool} {tl te:TE} {σ:St} {H:Hp} {Q:VK} (hl:∀R:VK,R (.ref a) H->tl σ H R) (ha:H a=some (.tup xs)) (hd:ak H ds xs) (hz:ds.length<=sizeLine)
  (step:∀x d H',aA H H'->At H' d x->∀R:VK,(∀cV,aA H' cV->R (.bl (f d)) cV)->te (some x::bK js σ) H' R)
  (fin:∀acc H',aA H H'->H' acc=some (.lst ((ds.map f).map V.bl))->Q (.ref acc) H'):dM js (uK K tl) te σ H Q:=
 hl _ ⟨a,rfl,⟨xs,bW.of ha⟩,fun acc hacc=>BL hacc ha hd hz step fun H' s' e=>fin acc H' s' e⟩
end
theorem NZ {v:V} {σ:St} {H:Hp} {Q:VK}:oW 0 (some v::σ) H Q=Q v H:=rfl
theorem NQ {i:Nat} {o:Option V} {σ:St} {H:Hp} {Q:VK}:oW (i+1) (o::σ) H Q=oW i σ H Q:=rfl
theorem N7 {v:V} {o:Option V} {σ:St}:(o::σ).set 0 (some v)=some v::σ:=rfl
theorem N6 {i:Nat} {v:V} {o:Option V} {σ:St}:(o::σ).set (i+1) (some v)=o::σ.set i (some v):=rfl
theorem J7 {t:TG} {u:MN} {v:V} {r:List V} {σ:St} {H:Hp} {Q:St->Hp->Prop}:jy t u (v::r) σ H Q=t v σ H fun σ' H'=>u r σ' H' Q:=rfl
theorem N8 {σ:St} {H:Hp} {Q:St->Hp->Prop}:y_ [] σ H Q=Q σ H:=rfl
theorem bF {b:Bool} {A B:Prop} (h1:b=true->A) (h2:b=false->B):if b=true then A else B:=by
 cases b
 ·rw[aX (by decide)]; exact h2 rfl
 ·rw[bc rfl]; exact h1 rfl
theorem ji {b:Bool} {A B:Prop} (h1:b=false->A) (h2:b=true->B):if(!b)=true then A else B:=by
 cases b
 ·rw[bc (by decide)]; exact h1 rfl
 ·rw[aX (by decide)]; exact h2 rfl
theorem RB {i j:Int} {H:Hp} {Q:VK}:Vu (.int i) (.int j) H Q=Q (.bl (decide (i=j))) H:=by
 unfold Vu Ho; simp
theorem Rx {i j:Int} {H:Hp} {Q:VK}:Vs (.int i) (.int j) H Q=Q (.bl (!decide (i=j))) H:=by
 unfold Vs Ho; simp
theorem Rz {i j:Str} {H:Hp} {Q:VK}:Vu (.str i) (.str j) H Q=Q (.bl (decide (i=j))) H:=by
 unfold Vu Ho; simp
theorem yc {i j:Str} {H:Hp} {Q:VK}:Vs (.str i) (.str j) H Q=Q (.bl (!decide (i=j))) H:=by
 unfold Vs Ho; simp
theorem N_ {i:Int} {P:Int->Prop}:(∃k,[V.int i]=[V.int k]/\P k)=P i:=by
 simp
theorem Oa {i:Bool} {P:Bool->Prop}:(∃k,[V.bl i]=[V.bl k]/\P k)=P i:=by
 simp
theorem J8 {i j:Int} {P:Int->Int->Prop}:(∃a b,[V.int i,V.int j]=[V.int a,V.int b]/\P a b)=P i j:=by
 refine propext ⟨?_,fun h=>⟨i,j,rfl,h⟩⟩
 rintro⟨a,b,e,h⟩
 cases e
 exact h
theorem N5 {b:Bool} {P:Bool->Prop}:(∃k,V.bl b=V.bl k/\P k)=P b:=by
 simp
theorem Ry {i:Int} {P:Int->Prop}:(∃k,V.int i=V.int k/\P k)=P i:=by
 simp
theorem Vo {i j:Int} {P:Int->Int->Prop}:(∃a b,V.int i=V.int a/\V.int j=V.int b/\P a b)=P i j:=by
 simp
theorem rG {α β:Type} {g:β->α->β} {f:α->β->Sem (ForInStep β)}:∀(l:List α) (c:β),(∀x∈l,∀c,f x c=pure (.yield (g c x)))->forIn l c f=(pure (l.foldl g c):Sem β)
 | [],c,_=>rfl
 | x::l,c,h=>by
  rw[Hv,h x fO c,pure_bind]
  exact rG l (g c x) fun y hy=>h y (gQ _ hy)
theorem iD {sc:Scope} {env:Env} (h:(sc.names.all fun y=>y.2 != .free || (env.cells.lookup y.1).isSome)=true):closureFor sc env=pure (oA sc env):=by
 unfold closureFor oA
 dsimp only
 rw[rG (g:=iG env) sc.names [] (fun y hy c=>?_)]
 ·rfl
 obtain⟨n,k⟩:=y
 have a:=pH.mp h _ hy
 dsimp only
 unfold iG
 dsimp only
 cases hk:(k==NameKind.free) with
 | false=>simp
 | true=>
  have hk':k=.free:=beq_iff_eq.mp hk
  subst hk'
  have a':(env.cells.lookup n).isSome=true:=by simpa using a
  obtain⟨c',hc'⟩:=Kq.mp a'
  simp[cellOf,hc']
theorem lJ {sc:Scope} (h:(sc.names.all fun y=>y.2 != .local || sc.names.lookup y.1==some .local)=true):∀y∈sc.names,y.2=.local->sc.names.lookup y.1=some .local:=fun y hy e=>by
 have a:=pH.mp h y hy
 rw[e] at a
 simpa using a
theorem sU.Su {X:Cx} {x:Str} {sc:Scope} (k:sc.kind=.function:=by rfl) (n:(sc.names.all fun y=>y.2 != .cell&&y.2 != .free)=true:=by decide +kernel) (l:(sc.names.all fun y=>y.2 != .local || sc.names.lookup y.1==some .local)=true:=by decide +kernel):sU X [x] [] sc:=by
 have n':∀y∈sc.names,y.2≠.cell/\y.2≠.free:=fun y hy=>by have:=pH.mp n y hy; simpa using this
 have al:(sc.names.all fun y=>y.2 != .free || (X.env.cells.lookup y.1).isSome)=true:=pH.mpr fun y hy=>by simp[(n' y hy).2]
 exact⟨k,fun y hy=>(n' y hy).1,lJ l,iD al,al,rfl,fun i j h=>by simp at h,fun y h=>by simp at h⟩
theorem sU.mk1 {X:Cx} {x y:Str} {sc:Scope} {j:Nat} (hj:X.N[j]?=some y:=by rfl) (k:sc.kind=.function:=by rfl) (n:(sc.names.all fun y=>y.2 != .cell)=true:=by decide +kernel)
  (l:(sc.names.all fun y=>y.2 != .local || sc.names.lookup y.1==some .local)=true:=by decide +kernel) (al:(sc.names.all fun y=>y.2 != .free || (X.env.cells.lookup y.1).isSome)=true:=by rfl)
  (k1:X.env.kindOf y=some .cell:=by rfl) (k2:sc.names.lookup y=some .free:=by rfl):sU X [x,y] [j] sc:=by
 have n':∀y∈sc.names,y.2≠.cell:=fun y hy=>by have:=pH.mp n y hy; simpa using this
 refine⟨k,n',lJ l,iD al,al,rfl,fun i j' h=>?_,fun z h=>?_⟩
 ·cases i with
  | zero=>simp at h; subst h; exact hj.symm
  | succ i=>simp at h
 ·have e:z=y:=by simpa using h
  subst e; exact⟨k1,k2⟩
theorem sU.mk2 {X:Cx} {x y z:Str} {sc:Scope} {j j2:Nat} (hj:X.N[j]?=some y:=by rfl) (hj2:X.N[j2]?=some z:=by rfl) (k:sc.kind=.function:=by rfl) (n:(sc.names.all fun y=>y.2 != .cell)=true:=by decide +kernel)
  (l:(sc.names.all fun y=>y.2 != .local || sc.names.lookup y.1==some .local)=true:=by decide +kernel) (al:(sc.names.all fun y=>y.2 != .free || (X.env.cells.lookup y.1).isSome)=true:=by rfl)
  (k1:X.env.kindOf y=some .cell:=by rfl) (k2:sc.names.lookup y=some .free:=by rfl) (k3:X.env.kindOf z=some .cell:=by rfl) (k4:sc.names.lookup z=some .free:=by rfl):sU X [x,y,z] [j,j2] sc:=by
 have n':∀y∈sc.names,y.2≠.cell:=fun y hy=>by have:=pH.mp n y hy; simpa using this
 refine⟨k,n',lJ l,iD al,al,rfl,fun i j' h=>?_,fun v h=>?_⟩
 ·match i,h with
  | 0,h=>simp at h; subst h; exact hj.symm
  | 1,h=>simp at h; subst h; exact hj2.symm
  | i+2,h=>simp at h
 ·have e:v=y\/v=z:=by simpa using h
  rcases e with e | e
  ·subst e; exact⟨k1,k2⟩
  ·subst e; exact⟨k3,k4⟩
def bJ:Expr->Bool
 | .Starred _ _=>false
 | _=>true
theorem bL {env:Env} {e:Expr} {es:List Expr} (h:bJ e=true):starEach (e::es) env=(false,eval e env)::starEach es env:=by
 cases e <;> first | rfl | exact absurd h (by simp[bJ])
theorem bO {env:Env} {pos:Pos}:∀{es:List Expr},es.all bJ=true->(backTo pos (starEach es env)).any (·.1)=false
 | [],_=>rfl
 | e::es,h=>by
  have h':bJ e=true/\es.all bJ=true:=by simpa using h
  rw[bL h'.1]
  show(false || (backTo pos (starEach es env)).any (·.1))=false
  rw[bO h'.2]; rfl
section
variable {X:Cx} {x:Str} {p pos:Pos} {e:Expr} {es:List Expr} {te:TE} {t:TA} {id T:String} {r:List V->Hp->VK->Prop}
theorem aa (ha:PE X e te) (hr:PA X es t) (h:bJ e=true:=by rfl):PA X (e::es) (oY te t):=Ov ha hr (bL h)
theorem pf {k:Nat} {ps:List Str} {sp:Sp} (c:Ct X.prog X.w X.K X.mg X.base k x ps sp) (hr:eU k X.A) (ha:PA X (e::es) t) (hg:Gl X x:=by rfl) (hdb:(x==("__debug__" : Str))=false:=by decide) (h1:bJ e=true:=by rfl) (h2:es.all bJ=true:=by rfl) :
  PE X (.Call (.Name x p) (e::es) [] pos) (mY sp [] E0 t):=VB c hr ha hg hdb (bL h1) (bO h2)
theorem pb (hc:cL X (.builtin id) r) (hm:X.mg x=none) (hv:bootBuiltins x=some (.builtin id)) (ha:PA X (e::es) t) (hg:Gl X x:=by rfl) (hn:x ≠ "__name__" := by decide) (hdb:(x==("__debug__" : Str))=false:=by decide)
  (h1:bJ e=true:=by rfl) (h2:es.all bJ=true:=by rfl):PE X (.Call (.Name x p) (e::es) [] pos) (Rg r t):=K8 hc hg hm hv ha hn hdb (bL h1) (bO h2)
theorem pt (hc:cL X (.type T) r) (hm:X.mg x=none) (hv:bootBuiltins x=some (.type T)) (ha:PA X (e::es) t) (hg:Gl X x:=by rfl) (hn:x ≠ "__name__" := by decide) (hdb:(x==("__debug__" : Str))=false:=by decide)
  (h1:bJ e=true:=by rfl) (h2:es.all bJ=true:=by rfl):PE X (.Call (.Name x p) (e::es) [] pos) (Rg r t):=HJ hc hg hm hv ha hn hdb (bL h1) (bO h2)
end
end L2
namespace HT
open PySem PyProof.Rows
section
variable {prog:Program} {w:World} {A:Around} {E:Value->Shared->Prop} {s:Shared}
theorem pP {t sl:Addr} {items:Array Value} {vl vu:Value} {lo hi:Option Int} {Q:Value->Shared->Prop} (ht:IsTup s.heap t items) (hs:s.heap.IsSliceOf sl vl vu .none) (pl:IsPart vl lo) (pu:IsPart vu hi)
  (hw1:d9 items.size 0 lo=0) (hw2:d9 items.size items.size hi=items.size) (h:Q (.ref t) s):wpAny (model prog w) A (getItem (.ref t) (.ref sl)) Q E s:=by
 obtain⟨os,hos,hcs,hds⟩:=id hs
 have tyS:s.TypeIs (.ref sl) "slice" := ⟨os,hos,hcs⟩
 unfold getItem
 try with_reducible refine Ai ?_
 first | refine aW (bR ?_) | skip
 refine aW (wpAny_sequenceKey ht.typeIs (by decide) ?_)
 refine aW (HD (name:=Str.ofString "__getitem__") ht.typeIs PyProof.Rows.slot_tuple_getitem (yj PyProof.Rows.slot_tuple_getitem ht.typeIs entry_tuple_getitem ?_ (args_tuple_getitem _ _)))
 show wpAny _ _ (Builtin.Tuple.tupleItemsOf (.ref t) >>= _) _ _ s
 refine aW (tupleItemsOf_ ht ?_)
 refine aW (wpAny_typeOf tyS ?_)
 rw[bc (by decide)]
 refine aW (jr hs pl pu ?_)
 have yes:(((d9 items.size 0 lo:Nat):Int)==0&&(1:Int)==1&&(d9 items.size items.size hi-d9 items.size 0 lo)==items.size)=true:=by
  rw[hw1,hw2]; simp
 show wpAny _ _ (if(((d9 items.size 0 lo:Nat):Int)==0&&(1:Int)==1&&(d9 items.size items.size hi-d9 items.size 0 lo)==items.size)=true then _ else _) _ _ s
 rw[bc yes]
 have ex:∀{R:Bool->Shared->Prop},R true s->wpAny (model prog w) A.in1 (Builtin.Tuple.tupleIsExact (.ref t)) R E s:=fun {R} q=>by
  unfold Builtin.Tuple.tupleIsExact
  refine aW (wpAny_typeOf ht.typeIs (bR ?_))
  rw[beq_self_eq_true]
  exact q
 refine aW (ex ?_)
 rw[bc rfl]
 exact aW (yd (bR ⟨_,rfl,bR h⟩))
end
end HT
namespace L2
open PySem PySem.Spec PyProof.Rows
theorem dX:bootBuiltins "isinstance" = some (.builtin "isinstance"):=by decide +kernel
theorem oH:bootBuiltins "len" = some (.builtin "len"):=by decide +kernel
theorem vo:bootBuiltins "all" = some (.builtin "all"):=by decide +kernel
theorem Tz:bootBuiltins "any" = some (.builtin "any"):=by decide +kernel
theorem En:bootBuiltins "sum" = some (.builtin "sum"):=by decide +kernel
theorem jW:bootBuiltins "repr" = some (.builtin "repr"):=by decide +kernel
theorem MJ:bootBuiltins "abs" = some (.builtin "abs"):=by decide +kernel
theorem l_:bootBuiltins "min" = some (.builtin "min"):=by decide +kernel
theorem qT:bootBuiltins "max" = some (.builtin "max"):=by decide +kernel
theorem Eo:bootBuiltins "int" = some (.type "int"):=by decide +kernel
theorem Qa:bootBuiltins "bool" = some (.type "bool"):=by decide +kernel
theorem GJ:bootBuiltins "list" = some (.type "list"):=by decide +kernel
theorem dq:bootBuiltins "tuple" = some (.type "tuple"):=by decide +kernel
theorem MF:bootBuiltins "range" = some (.type "range"):=by decide +kernel
theorem pY:bootBuiltins "enumerate" = some (.type "enumerate"):=by decide +kernel
theorem Tw:bootBuiltins "zip" = some (.type "zip"):=by decide +kernel
section
variable {X:Cx}
theorem pty {x:Str} {T:String} {pos:Pos} (hg:Gl X x) (hm:X.mg x=none) (hv:bootBuiltins x=some (.type T)) (hn:x ≠ "__name__" := by decide) (hd:(x==("__debug__" : Str))=false:=by decide):PE X (.Name x pos) (tC (.ty T)):=
 Ou (v:=.ty T) hg hm hv rfl hn hd
theorem Wj.of {T:String} {g:PyData->Bool} {v:V} {d:PyData} {H:Hp} {Q:VK} (h:At H d v) (q:Q (.bl (g d)) H):Ka T g [v,.ty T] H Q:=⟨v,d,rfl,h,q⟩
def GT (K:PySem.W.Frag) (mg:Str->Option Value) (x:Str) (W:List V):Prop:=∃a,mg x=some (.ref a)/\∀H,bW K H a W
def tGT (K:PySem.W.Frag) (W:List V):TE:=fun _ H Q=>∀a,(∀H',bW K H' a W)->Q (.ref a) H
theorem KY {K:PySem.W.Frag} {x:Str} {W:List V} {pos:Pos} (hK:X.K=K) (h:GT K X.mg x W) (hg:Gl X x:=by rfl) (hd:(x==("__debug__" : Str))=false:=by decide):PE X (.Name x pos) (tGT K W):=by
 obtain⟨a,ha,hs⟩:=h
 refine .mk ?_
 intro pins s σ H Q I q
 exact sy (v:=.ref a) hg ha rfl hd pins s σ H Q I (q a hs)
def Xy (K:PySem.W.Frag):List V->Hp->VK->Prop:=fun vs H Q=>∃(p:Addr) (ys:List V),vs=[.ref p]/\(fQ K H p ys\/bW K H p ys)/\Q (.int ys.length) H
theorem gA {K:PySem.W.Frag} (hK:X.K=K):cL X (.builtin "len") (Xy K):=by
 subst hK
 exact zu
def Xu:V->Option Int->Option Int->Hp->VK->Prop:=fun x lo hi H Q=>∃(a:Addr) (xs:List V),x=.ref a/\H a=some (.tup xs)/\∀p H',aA H H'->H' p=some (.tup (pR xs lo hi))->Q (.ref p) H'
theorem iT:Uh X Xu:=by
 refine .mk ?_
 intro pins s σ H x v vl vu lo hi sl Q I rx hs pl pu h
 obtain⟨a,xs,e,hx,q⟩:=h
 by_cases hw:HT.d9 xs.length 0 lo=0/\HT.d9 xs.length xs.length hi=xs.length
 ·subst e
  cases rx
  obtain⟨its,r,ht,hz⟩:=I.tuple (bW.of (K:=X.K) hx)
  have hlen:its.toArray.size=xs.length:=by rw[dI]; exact r.length.symm
  refine⟨"tuple",_,PyProof.Rows.slot_tuple_getitem.lookup,ht.typeIs,?_⟩
  refine HT.pP ht hs pl pu (by rw[hlen]; exact hw.1) (by rw[hlen]; exact hw.2) ⟨.ref a,H,I,rfl,q a H (aA.refl H) ?_⟩
  rw[hx]
  unfold pR
  rw[hw.1,hw.2,List.drop_zero,Nat.sub_zero,qF]
 ·exact Rm pins s σ H x v vl vu lo hi sl Q I rx hs pl pu ⟨a,xs,e,bW.of hx,hw,fun p hp=>q p _ (aM hp _) az⟩
def Vv:R2:=fun x y H Q=>∃(a b:Addr) (xs ys:List V),x=.ref a/\y=.ref b/\H a=some (.tup xs)/\H b=some (.tup ys)/\xs.length+ys.length<=sizeLine/\∀p H',aA H H'->H' p=some (.tup (xs++ys))->Q (.ref p) H'
theorem jO:mU X (binaryOp .Add) Vv:=by
 refine .mk ?_
 intro pins s σ H x y v u Q I rx ry h
 obtain⟨a,b,xs,ys,e1,e2,ha,hb,hz,q⟩:=h
 by_cases hx:xs=[]
 ·subst hx e1 e2
  cases rx
  cases ry
  obtain⟨its,r1,p1,_⟩:=I.tuple (bW.of (K:=X.K) ha)
  obtain⟨its2,r2,p2,_⟩:=I.tuple (bW.of (K:=X.K) hb)
  cases r1
  obtain⟨⟨cls,dd,data,sl⟩,ho,hc,n,hd⟩:=id p1
  obtain⟨⟨cls2,dd2,data2,sl2⟩,ho2,hc2,n2,hd2⟩:=id p2
  simp only at hc hd hc2 hd2
  subst hc hd hc2 hd2
  exact concat_meets ⟨_,ho,rfl⟩ ⟨_,ho2,rfl⟩ noFill_tuple_add seq_tuple_add PySem.F.slot_tuple_add PySem.F.entry_tuple_add (PySem.F.args_tuple_add_2 _ _) (tuple_addW0 a b _ _ n n2 dd dd2 sl sl2 (by rfl)) ⟨ho,ho2,⟨.ref b,H,I,rfl,q b H (aA.refl H) hb⟩⟩
 ·refine OD pins s σ H x y v u Q I rx ry ⟨a,b,xs,ys,e1,e2,bW.of ha,bW.of hb,hx,hz,fun z=>?_,fun _ p hp=>q p _ (aM hp _) az⟩
  subst z
  exact q a H (aA.refl H) (by rw[ha,qD])
def Hr:R2:=fun x y H Q=>∃(p:Addr) (xs:List V) (i:Int) (v:V),x=.ref p/\y=.int i/\(H p=some (.lst xs)\/H p=some (.tup xs))/\Cq xs i=some v/\Q v H
theorem aO:MT X Hr:=by
 have h:=(Gf (X:=X)).or S9
 refine .mk ?_
 intro a b pins s σ H x y v u Q I rx ry q
 obtain⟨p,xs,i,z,e1,e2,hp,ha,q⟩:=q
 intro hs
 refine h a b pins s σ H x y v u Q I rx ry ?_ hs
 rcases hp with hp | hp
 ·exact .inl ⟨p,xs,i,z,e1,e2,fQ.of hp,ha,q⟩
 ·exact .inr ⟨p,xs,i,z,e1,e2,bW.of hp,ha,q⟩
theorem Ix.tup {a:Addr} {xs:List V} {i:Int} {v:V} {H:Hp} {Q:VK} (h:H a=some (.tup xs)) (e:Cq xs i=some v) (q:Q v H):Hr (.ref a) (.int i) H Q:=⟨a,xs,i,v,rfl,rfl,.inr h,e,q⟩
theorem Ix.lst {a:Addr} {xs:List V} {i:Int} {v:V} {H:Hp} {Q:VK} (h:H a=some (.lst xs)) (e:Cq xs i=some v) (q:Q v H):Hr (.ref a) (.int i) H Q:=⟨a,xs,i,v,rfl,rfl,.inl h,e,q⟩
theorem Mu {js:List Nat} {ta:TA} {te:TE} {σ:St} {H:Hp} {Q:VK} {n:Nat} (hl:∀R:List V->Hp->Prop,R [.int n] H->ta σ H R) (hn:n<=1000000)
  (h:∀acc,H acc=none->∃Pv:Nat->List V->Hp->Prop,Pv 0 [] (upd H acc (.lst [])) /\
   (∀i ys H',i<n->Pv i ys H'->te (some (.int (0+(i:Nat)))::bK js σ) H' fun y cV=>cV acc=some (.lst ys)/\ys.length<sizeLine/\Pv (i+1) (ys++[y]) (upd cV acc (.lst (ys++[y])))) /\
   ∀ys H',Pv n ys H'->Q (.ref acc) H'):dM js (wW ta) te σ H Q:=by
 refine hl _ ⟨n,rfl,by omega,by omega,fun acc hacc=>?_⟩
 obtain⟨Pv,h0,hs,hd⟩:=h acc hacc
 have en:((n:Int)).toNat=n:=rO n
 rw[en]
 refine⟨fun i m ys H'=>m=n-i/\i<=n/\Pv i ys H',⟨n,rfl,dG _,h0⟩,?_⟩
 rintro i m ys H2 ⟨rfl,hi,p⟩
 by_cases hlt:i<n
 ·refine .inr ⟨hlt,fun x H3 y=>?_⟩
  obtain⟨e,y⟩:=y
  subst e y
  have Qm:=hs i ys _ hlt p
  have fe:(fun(y:V) (cV:Hp)=>cV acc=some (.lst ys)/\ys.length<sizeLine/\Pv (i+1) (ys++[y]) (upd cV acc (.lst (ys++[y]))))=fun y H4=>H4 acc=some (.lst ys)/\ys.length<sizeLine/\∃m',m'<n-i/\(m'=n-(i+1)/\i+1<=n/\Pv (i+1) (ys++[y]) (upd H4 acc (.lst (ys++[y])))):=by
   funext y cV
   refine propext ⟨fun⟨a,b,c⟩=>⟨a,b,_,by omega,rfl,hlt,c⟩,fun⟨a,b,m',_,_,_,c⟩=>⟨a,b,c⟩⟩
  rw[fe] at Qm
  exact Qm
 ·have e:i=n:=by omega
  subst e
  exact .inl ⟨bD _,hd ys _ p⟩
theorem eN:cL X (.type "tuple") (fun vs H Q=>∃(p:Addr) (ys:List V),vs=[.ref p]/\H p=some (.lst ys)/\∀l,H l=none->Q (.ref l) (upd H l (.tup ys))):=by
 refine .mk ?_
 intro pins s σ H vs us Q I r h
 obtain⟨p,ys,e,hp,q⟩:=h
 exact vR pins s σ H vs us Q I r ⟨p,ys,e,.inl ⟨fQ.of hp,q⟩⟩
theorem I_:cL X (.type "list") (fun vs H Q=>∃(p:Addr) (ys:List V),vs=[.ref p]/\H p=some (.tup ys)/\∀l,H l=none->Q (.ref l) (upd H l (.lst ys))):=by
 refine .mk ?_
 intro pins s σ H vs us Q I r h
 obtain⟨p,ys,e,hp,q⟩:=h
 exact pU pins s σ H vs us Q I r ⟨p,ys,e,.inr (bW.of hp),q⟩
theorem Gp {ta:TA} {g:TG} {tb:TS} {D:Ends} {σ:St} {H:Hp} {n:Nat} (hl:∀R:List V->Hp->Prop,R [.int n] H->ta σ H R) (hn:n<=1000000) (Pv:Nat->St->Hp->Prop) (h0:Pv 0 σ H)
  (hs:∀i σ H,i<n->Pv i σ H->g (.int (0+(i:Nat))) σ H fun σ2 H2=>tb { D with nx:=Pv (i+1),ct:=Pv (i+1),bk:=D.nx } σ2 H2) (hd:∀σ H,Pv n σ H->D.nx σ H):xN (wW ta) g tb D σ H:=by
 refine hl _ ⟨n,rfl,by omega,by omega,?_⟩
 rw[rO]
 exact wZ Pv h0 hs hd
def Qu (t:TA):TE:=fun σ H Q=>t σ H fun xs H1=>xs.length<=sizeLine/\∀p H',H1 p=none->aA H1 H'->H' p=some (.lst xs)->Q (.ref p) H'
def Qo (t:TA):TE:=fun σ H Q=>t σ H fun xs H1=>xs.length<=sizeLine/\∀p H',H1 p=none->aA H1 H'->H' p=some (.tup xs)->Q (.ref p) H'
theorem cg {es:List Expr} {t:TA} {pos:Pos} (h:PA X es t):PE X (.List es pos) (Qu t):=by
 refine .mk ?_
 intro pins s σ H Q I hq
 refine wpAny_List_spliced (bN (h pos pins s σ H _ I hq) fun us s1 ⟨xs,H1,I1,r,z,q⟩=>⟨by rw[<- r.length]; exact z,?_⟩)
 have fr:H1 s1.heap.objs.size=none:=I1.hok.fresh (bD _)
 exact⟨.ref s1.heap.objs.size,upd H1 s1.heap.objs.size (.lst xs),I1.laid (t':=s1.toks) (fun b u e=>fM _ e) (bD _) ⟨z,us,0,r,j_ _ rfl⟩,rfl,q _ _ fr (aM fr _) az⟩
theorem bj {es:List Expr} {t:TA} {x1} {pos:Pos} (h:PA X es t):PE X (.Tuple es x1 pos) (Qo t):=by
 refine .mk ?_
 intro pins s σ H Q I hq
 refine wpAny_Tuple_spliced (bN (h pos pins s σ H _ I hq) fun us s1 ⟨xs,H1,I1,r,z,q⟩=>⟨by rw[<- r.length]; exact z,?_⟩)
 have fr:H1 s1.heap.objs.size=none:=I1.hok.fresh (bD _)
 exact⟨.ref s1.heap.objs.size,upd H1 s1.heap.objs.size (.tup xs),I1.laid (t':=s1.toks) (fun b u e=>fM _ e) (bD _) ⟨z,us,r,⟨_,j_ _ rfl,rfl,_,rfl⟩⟩,rfl,q _ _ fr (aM fr _) az⟩
def hid (a:Addr) (H:Hp):Hp:=fun b=>if b=a then none else H b
theorem bM {a b:Addr} {H:Hp} (h:b≠a):hid a H b=H b:=aX h
theorem lO {a:Addr} {H:Hp}:hid a H a=none:=bc rfl
theorem lN {a b:Addr} {H:Hp} {o:HO} (h:hid a H b=some o):b≠a/\H b=some o:=by
 by_cases e:b=a
 ·subst e; rw[lO] at h; cases h
 ·exact⟨e,by rw[bM e] at h; exact h⟩
theorem ik {a:Addr} {H:Hp} {o:HO}:hid a (upd H a o)=hid a H:=by
 funext b
 by_cases e:b=a
 ·subst e; rw[lO,lO]
 ·rw[bM e,bM e,aJ e]
theorem bV {a p:Addr} {H:Hp} {o:HO} (h:p≠a):hid a (upd H p o)=upd (hid a H) p o:=by
 funext b
 by_cases e:b=a
 ·subst e; rw[lO,aJ (Ne.symm h),lO]
 ·rw[bM e]
  by_cases e':b=p
  ·subst e'; rw[az,az]
  ·rw[aJ e',aJ e',bM e]
theorem fB {a:Addr} {H:Hp}:aA (hid a H) H:=fun b o h=>(lN h).2
def SX (a:Addr) (H H':Hp):Prop:=aA (hid a H) (hid a H')
theorem SX.refl (a:Addr) (H:Hp):SX a H H:=aA.refl _
theorem SX.trans {a:Addr} {H H1 H2:Hp} (x:SX a H H1) (y:SX a H1 H2):SX a H H2:=aA.trans x y
theorem SX.of {a:Addr} {H H':Hp} (s:aA H H'):SX a H H':=fun b o h=>by
 obtain⟨n,e⟩:=lN h
 rw[bM n]; exact s _ _ e
theorem SX.upd {a:Addr} {H:Hp} {o:HO}:SX a H (upd H a o):=by unfold SX; rw[ik]; exact aA.refl _
theorem SX.get {a b:Addr} {H H':Hp} {o:HO} (s:SX a H H') (n:b≠a) (h:H b=some o):H' b=some o:=by
 have:=s b o (by rw[bM n]; exact h)
 exact(lN this).2
def Tp (H:Hp) (a:Addr) (n:Nat):Prop:=∃x y z:Int,H a=some (.lst [.int x,.int y,.int z])/\0<=x/\0<=y/\y<4611686018427387904/\0<=z/\z<=n
theorem Tp.mono {H:Hp} {a:Addr} {n m:Nat} (h:Tp H a n) (l:n<=m):Tp H a m:=by
 obtain⟨x,y,z,e,h1,h2,h3,h4,h5⟩:=h
 exact⟨x,y,z,e,h1,h2,h3,h4,by omega⟩
theorem Tp.same {H H':Hp} {a:Addr} {n:Nat} (h:Tp H a n) (s:aA H H'):Tp H' a n:=by
 obtain⟨x,y,z,e,r⟩:=h
 exact⟨x,y,z,s _ _ e,r⟩
theorem Tp.ne {H:Hp} {a b:Addr} {n:Nat} (h:Tp H a n) (e:H b=none):b≠a:=by
 obtain⟨x,y,z,q,_⟩:=h
 intro z; subst z; rw[e] at q; cases q
theorem Tp.neT {H:Hp} {a b:Addr} {n:Nat} {xs:List V} (h:Tp H a n) (e:H b=some (.tup xs)):b≠a:=by
 obtain⟨x,y,z,q,_⟩:=h
 intro z; subst z; rw[e] at q; cases q
theorem aA.hid {a:Addr} {H H':Hp} (s:aA H H'):aA (L2.hid a H) (L2.hid a H'):=fun b o h=>by
 obtain⟨n,e⟩:=lN h
 rw[bM n]; exact s _ _ e
theorem SX.dw {a p:Addr} {H H':Hp} {o:HO} (s:SX a H H') (hp:H p=none) (pa:p≠a):SX a H (L2.upd H' p o):=fun b u h=>by
 obtain⟨n,e⟩:=lN h
 rw[bV pa,aJ (bH e hp)]
 exact s b u h
theorem Tp.dw {H:Hp} {a p:Addr} {n:Nat} {o:HO} (t:Tp H a n) (pa:p≠a):Tp (L2.upd H p o) a n:=by
 obtain⟨x,y,z,e,r⟩:=t
 exact⟨x,y,z,by rw[aJ (Ne.symm pa)]; exact e,r⟩
def zH (K:PySem.W.Frag) (H:Hp) (p:Addr) (xs:List V):Prop:=(∃o,H p=some (.zb o (.lst xs))) \/
 ∃(o:Obj) (its:Array Value) (n:Nat),K.lookup p=some o/\o.cls=.type "list" /\ o.dict=none/\o.data=.seq its n/\its.size<=sizeLine/\Vals xs its.toList
theorem zH.sq {K:PySem.W.Frag} {H:Hp} {p:Addr} {xs:List V} (h:zH K H p xs):fQ K H p xs:=by
 rcases h with⟨o,h⟩ | h
 ·exact .inl (.inr ⟨o,h⟩)
 ·exact .inr h
theorem zH.of {K:PySem.W.Frag} {H:Hp} {p:Addr} {xs:List V} (h:fQ K H p xs) (o:Only H):zH K H p xs:=by
 rcases h with(h | h) | h
 ·rcases o p with e | ⟨ob,ys,e⟩
  ·rw[e] at h; cases h
  ·rw[e] at h; cases h
 ·exact .inl h
 ·exact .inr h
theorem zH.same {K:PySem.W.Frag} {H H':Hp} {p:Addr} {xs:List V} (h:zH K H p xs) (s:aA H H'):zH K H' p xs:=by
 rcases h with⟨o,h⟩ | h
 ·exact .inl ⟨o,s _ _ h⟩
 ·exact .inr h
theorem zH.sx {K:PySem.W.Frag} {H H':Hp} {p a:Addr} {n:Nat} {xs:List V} (h:zH K H p xs) (t:Tp H a n) (s:SX a H H'):zH K H' p xs:=by
 rcases h with⟨o,h⟩ | h
 ·refine .inl ⟨o,s.get (fun z=>?_) h⟩
  obtain⟨x,y,w,e,_⟩:=t
  subst z; rw[e] at h; cases h
 ·exact .inr h
end
mutual
def fine (b:Nat):PyData->Bool
 | .none=>true
 | .bool _=>true
 | .int i=>decide (i.natAbs<=b)
 | .str x=>decide (x.length<=40)&&x.cps.toList.all fun c=>decide (c<4294967296)
 | .tuple ds=>cY b ds
 | .list ds=>cY b ds
 | .dict _=>false
def cY (b:Nat):List PyData->Bool
 | []=>true
 | d::ds=>fine b d&&cY b ds
end
mutual
def Lz:PyData->Nat
 | .tuple ds=>cX ds+3
 | .list ds=>cX ds+3
 | .dict _=>500
 | .none=>500
 | .bool _=>500
 | .int _=>500
 | .str _=>500
def cX:List PyData->Nat
 | []=>0
 | d::ds=>Lz d+2+cX ds
end
theorem lR {b:Nat}:∀{ds:List PyData},cY b ds=true↔∀d∈ds,fine b d=true
 | []=>by simp[cY]
 | d::ds=>by
  have ih:=lR (b:=b) (ds:=ds)
  simp only[cY,uo,ih,dZ,forall_eq_or_imp]
theorem jT {k:Nat}:∀{ds:List PyData},PyData.depthAll ds<=k↔∀d∈ds,d.depth<=k
 | []=>by simp[PyData.depthAll]
 | d::ds=>by
  have ih:=jT (k:=k) (ds:=ds)
  simp only[PyData.depthAll,dZ,forall_eq_or_imp,<- ih]
  omega
theorem lK:∀(ds es:List PyData),cX (ds++es)=cX ds+cX es
 | [],es=>by simp[cX]
 | d::ds,es=>by simp only[Fv,cX,lK ds es]; omega
mutual
theorem mO {b b':Nat} (h:b<=b'):∀d:PyData,fine b d=true->fine b' d=true
 | .none,_=>by simp[fine]
 | .bool _,_=>by simp[fine]
 | .int i,e=>by
  have:=iK (show decide (i.natAbs<=b)=true from by simpa[fine] using e)
  simp only[fine]; exact lu (by omega)
 | .str x,e=>by simpa[fine] using e
 | .tuple ds,e=>by simp only[fine] at e ⊢; exact jR h ds e
 | .list ds,e=>by simp only[fine] at e ⊢; exact jR h ds e
 | .dict _,e=>by simp[fine] at e
theorem jR {b b':Nat} (h:b<=b'):∀ds:List PyData,cY b ds=true->cY b' ds=true
 | [],_=>rfl
 | d::ds,e=>by
  simp only[cY,uo] at e ⊢
  exact⟨mO h d e.1,jR h ds e.2⟩
end
mutual
theorem uQ {b:Nat} (hb:b<10 ^ 60):∀d:PyData,fine b d=true->d.showable=true/\d.hasDict=false/\d.shown.length<=Lz d
 | .none,_=>⟨rfl,rfl,by decide +kernel⟩
 | .bool c,_=>⟨rfl,rfl,by cases c <;> decide +kernel⟩
 | .int i,e=>by
  have h1:=iK (show decide (i.natAbs<=b)=true from by simpa[fine] using e)
  have h2:i.natAbs<10 ^ 60:=Nat.lt_of_le_of_lt h1 hb
  refine⟨?_,rfl,?_⟩
  ·show decide (i.natAbs.log2<1920)=true
   refine lu (log2_small (wI h2 ?_))
   decide +kernel
  ·have:=int_text_length_le10 (k:=60) (by decide) h2
   show(Str.ofString (toString i)).length<=500
   rw[PySem.ofString_length]; omega
 | .str x,e=>by
  have e':(decide (x.length<=40)&&x.cps.toList.all fun c=>decide (c<4294967296))=true:=by simpa[fine] using e
  rw[uo] at e'
  have h1:=iK e'.1
  have h2:=StrLaws.reprText_len x (fun c hc=>by have:=pH.mp e'.2 c hc; have:=iK this; omega)
  refine⟨rfl,rfl,?_⟩
  show(reprText x).length<=500
  omega
 | .tuple ds,e=>by
  have e':cY b ds=true:=by simpa[fine] using e
  obtain⟨h1,h2,h3⟩:=jk hb ds e'
  refine⟨by simpa[PyData.showable] using h1,by simpa[PyData.hasDict] using h2,?_⟩
  have q:=tupleText_len_le (PyData.shownAll ds)
  show(tupleText (PyData.shownAll ds)).length<=cX ds+3
  omega
 | .list ds,e=>by
  have e':cY b ds=true:=by simpa[fine] using e
  obtain⟨h1,h2,h3⟩:=jk hb ds e'
  refine⟨by simpa[PyData.showable] using h1,by simpa[PyData.hasDict] using h2,?_⟩
  have q:=listText_len_le (PyData.shownAll ds)
  show(listText (PyData.shownAll ds)).length<=cX ds+3
  omega
 | .dict _,e=>by simp[fine] at e
theorem jk {b:Nat} (hb:b<10 ^ 60):∀ds:List PyData,cY b ds=true->PyData.showableAll ds=true/\PyData.hasDictAll ds=false/\((PyData.shownAll ds).map (·.length)).sum+2*(PyData.shownAll ds).length<=cX ds
 | [],_=>⟨rfl,rfl,by decide⟩
 | d::ds,e=>by
  have e':fine b d=true/\cY b ds=true:=by simpa[cY] using e
  obtain⟨h1,h2,h3⟩:=uQ hb d e'.1
  obtain⟨g1,g2,g3⟩:=jk hb ds e'.2
  refine⟨by simp[PyData.showableAll,h1,g1],by simp[PyData.hasDictAll,h2,g2],?_⟩
  simp only[PyData.shownAll,Ah,Hs,nQ,cX]
  omega
end
structure jY (b D M:Nat) (d:PyData):Prop where
 f:fine b d=true
 dp:d.depth<=D
 m:Lz d<=M
theorem jY.mono {b b' D D' M M':Nat} {d:PyData} (h:jY b D M d) (h1:b<=b') (h2:D<=D') (h3:M<=M'):jY b' D' M' d:=⟨mO h1 d h.f,fK h.dp h2,fK h.m h3⟩
theorem jY.shows {b D M:Nat} {d:PyData} (h:jY b D M d) (hb:b<10 ^ 60) (hD:D<=60) (hM:M<=sizeLine):xq d:=by
 obtain⟨h1,h2,h3⟩:=uQ hb d h.f
 exact⟨h1,h2,fK h3 (fK h.m hM),fK h.dp hD⟩
structure aH (b D M:Nat) (ds:List PyData):Prop where
 f:∀d∈ds,fine b d=true
 dp:∀d∈ds,d.depth<=D
 m:cX ds<=M
theorem aH.tup {b D M:Nat} {ds:List PyData} (h:aH b D M ds):jY b (D+1) (M+3) (.tuple ds):=
 ⟨by simp only[fine]; exact lR.mpr h.f,by simp only[PyData.depth]; have:=jT.mpr h.dp; omega,by simp only[Lz]; have:=h.m; omega⟩
theorem aH.lst {b D M:Nat} {ds:List PyData} (h:aH b D M ds):jY b (D+1) (M+3) (.list ds):=
 ⟨by simp only[fine]; exact lR.mpr h.f,by simp only[PyData.depth]; have:=jT.mpr h.dp; omega,by simp only[Lz]; have:=h.m; omega⟩
theorem aH.mono {b b' D D' M M':Nat} {ds:List PyData} (h:aH b D M ds) (h1:b<=b') (h2:D<=D') (h3:M<=M'):aH b' D' M' ds:=
 ⟨fun d hd=>mO h1 d (h.f d hd),fun d hd=>fK (h.dp d hd) h2,fK h.m h3⟩
theorem aH.append {b D M M':Nat} {ds es:List PyData} (h:aH b D M ds) (h':aH b D M' es):aH b D (M+M') (ds++es):=by
 refine⟨fun d hd=>?_,fun d hd=>?_,by rw[lK]; have:=h.m; have:=h'.m; omega⟩
 ·rcases lB.mp hd with z | z
  ·exact h.f d z
  ·exact h'.f d z
 ·rcases lB.mp hd with z | z
  ·exact h.dp d z
  ·exact h'.dp d z
theorem aH.one {b D M:Nat} {d:PyData} (h:jY b D M d):aH b D (M+2) [d]:=
 ⟨fun x hx=>by rw[fP.mp hx]; exact h.f,fun x hx=>by rw[fP.mp hx]; exact h.dp,by simp only[cX]; have:=h.m; omega⟩
theorem dW {b:Nat} {i:Int} (h:i.natAbs<=b):jY b 0 500 (.int i):=⟨by simp only[fine]; exact lu h,bD _,bD _⟩
theorem wM {b:Nat} {d:PyData} (h:d=.none\/(∃c,d=.bool c)):jY b 0 500 d:=by
 rcases h with rfl | ⟨c,rfl⟩
 ·exact⟨rfl,bD _,bD _⟩
 ·exact⟨rfl,bD _,bD _⟩
theorem lG {b:Nat}:aH b 0 0 []:=⟨fun _ h=>by simp at h,fun _ h=>by simp at h,bD _⟩
theorem uF {b:Nat} {x:Str} (h:fine 0 (.str x)=true):jY b 0 500 (.str x):=⟨mO (dG _) _ h,bD _,bD _⟩
section
variable {X:Cx}
end
theorem uW {xs:List V} {i:Int} (h:0<=i):pR xs none (some i)=xs.take i.toNat:=by
 obtain⟨j,rfl⟩:∃j:Nat,i=j:=⟨i.toNat,by omega⟩
 unfold pR
 rw[HT.Ab,HT.Fq,List.drop_zero,Nat.sub_zero,rO]
 by_cases q:j<=xs.length
 ·rw[Nat.min_eq_left q]
 ·rw[Nat.min_eq_right (by omega),qF,List.take_of_length_le (by omega)]
theorem pQ {xs:List V} {i:Int} (h:0<=i):pR xs (some i) none=xs.drop i.toNat:=by
 obtain⟨j,rfl⟩:∃j:Nat,i=j:=⟨i.toNat,by omega⟩
 unfold pR
 rw[HT.Ab,HT.Fq,rO]
 by_cases q:j<=xs.length
 ·rw[Nat.min_eq_left q,List.take_of_length_le (by rw[Kg]; omega)]
 ·rw[Nat.min_eq_right (by omega),Hw,List.take_nil,List.drop_of_length_le (by omega)]
def S_ (d:PyData) (t:Str):Bool:=match d with
 | .str y=>y==t
 | _=>false
def Gh:PyData->Bool
 | .dict _=>true
 | _=>false
def Qg (d:PyData):Prop:=d.hasDict=false\/isTup d=false
theorem Lg {d:PyData} (h:d.hasDict=false):Gh d=false:=by
 cases d <;> first | rfl | (exfalso; revert h; simp[PyData.hasDict])
section
variable {X:Cx}
theorem xO (x y:Str):(x==y)=(y==x):=by
 by_cases e:x=y
 ·subst e; rfl
 ·rw[beq_eq_false_iff_ne.mpr e,beq_eq_false_iff_ne.mpr (Ne.symm e)]
theorem K_ (hu:X.A.units<cLine):mU X (compareOp .Eq) (fun x y H Q=>∃d t,y=.str t/\At H d x/\Gh d=false/\Q (.bl (S_ d t)) H):=by
 refine .mk ?_
 intro pins s σ H x y v u Q I rx ry h
 obtain⟨d,t,rfl,hd,nd,q⟩:=h
 obtain⟨tk,rfl⟩:=ry
 cases d with
 | none=>unfold At at hd; subst hd; cases rx; exact SeqAt.RcAt.none_str t tk _ _ _ _ (bx I q rfl)
 | bool b=>unfold At at hd; subst hd; cases rx; exact SeqAt.RcAt.bool_str b t tk _ _ _ _ (bx I q rfl)
 | int i=>unfold At at hd; subst hd; obtain⟨t',rfl⟩:=rx; exact SeqAt.RcAt.int_str i t' t tk _ _ _ _ (bx I q rfl)
 | str z=>unfold At at hd; subst hd; obtain⟨t',rfl⟩:=rx; exact SeqAt.RcAt.str_str z t' t tk _ _ _ _ (bx I q rfl)
 | tuple ds=>
  unfold At at hd
  obtain⟨a,xs,rfl,ha,_⟩:=hd
  cases rx
  obtain⟨its,r,p,_⟩:=I.tuple (bW.of (K:=X.K) ha)
  exact SeqAt.RcAt.tuple_str t tk p hu _ _ _ _ (bx I q rfl)
 | list ds=>
  unfold At at hd
  obtain⟨a,xs,rfl,ha,_⟩:=hd
  cases rx
  obtain⟨_,its,n,rv,e⟩:=I.hok a _ ha
  exact SeqAt.RcAt.list_str t tk (show s.heap.IsList a its.toArray from⟨_,e,rfl,n,rfl⟩) hu _ _ _ _ (bx I q rfl)
 | dict ds=>cases nd
theorem Iw {pins:List (Addr×Obj)} {s:Shared} {σ:St} {H:Hp} {A:Around} (I:Inv X pins σ H s) (hu:A.units<cLine) {d:PyData} {x:V} {v:Value} (hd:At H d x) (rx:RelV x v) (nd:Gh d=false) (t:Str) (tk:Tok):SeqAt.EqAt A s (.str t tk) v (S_ d t):=by
 cases d with
 | none=>unfold At at hd; subst hd; cases rx; exact SeqAt.EqAt.str_none t tk
 | bool b=>unfold At at hd; subst hd; cases rx; exact SeqAt.EqAt.str_bool t tk b
 | int i=>unfold At at hd; subst hd; obtain⟨t',rfl⟩:=rx; exact SeqAt.EqAt.str_int t tk i t'
 | str z=>unfold At at hd; subst hd; obtain⟨t',rfl⟩:=rx; show SeqAt.EqAt A s _ _ (z==t); rw[xO]; exact SeqAt.EqAt.str_str t tk z t'
 | tuple ds=>
  unfold At at hd
  obtain⟨a,xs,rfl,ha,_⟩:=hd
  cases rx
  obtain⟨its,r,p,_⟩:=I.tuple (bW.of (K:=X.K) ha)
  exact SeqAt.EqAt.str_tuple t tk p hu
 | list ds=>
  unfold At at hd
  obtain⟨a,xs,rfl,ha,_⟩:=hd
  cases rx
  obtain⟨_,its,n,rv,e⟩:=I.hok a _ ha
  exact SeqAt.EqAt.str_list t tk (show s.heap.IsList a its.toArray from⟨_,e,rfl,n,rfl⟩) hu
 | dict ds=>cases nd
def JR:Value->Str
 | .str t _=>t
 | _=>""
theorem zR:∀{ts:List Str} {us:List Value},Vals (ts.map V.str) us->us.map JR=ts/\∀u∈us,∃t tk,u=.str t tk
 | [],_,.nil=>⟨rfl,fun u h=>by simp at h⟩
 | b::bs,_,.cons r t=>by
  obtain⟨tk,rfl⟩:=(r:∃tk,_=Value.str b tk)
  obtain⟨h1,h2⟩:=zR t
  refine⟨by rw[Ah,h1]; rfl,fun u hu=>?_⟩
  rcases dZ.mp hu with e | e
  ·exact⟨_,_,e⟩
  ·exact h2 u e
theorem rE {K:PySem.W.Frag} (hK:X.K=K) (hu:X.A.units+64<cLine):mU X (compareOp .NotIn) (fun x y H Q=>∃(d:PyData) (ts:List Str) (p:Addr),y=.ref p/\bW K H p (ts.map V.str)/\At H d x/\Gh d=false/\Q (.bl (!ts.any (S_ d ·))) H):=by
 subst hK
 refine .mk ?_
 intro pins s σ H x y v u Q I rx ry h
 obtain⟨d,ts,p,rfl,hp,hd,nd,q⟩:=h
 cases ry
 obtain⟨its,r,pt,_⟩:=I.tuple hp
 obtain⟨e1,e2⟩:=zR r
 refine SeqAt.notIn_tupleAt (fun y=>S_ d (JR y)) pt (fun y hy=>?_) (bx I q ?_)
 ·obtain⟨t,tk,rfl⟩:=e2 y (by simpa using hy)
  exact Iw I (by show X.A.units+1<cLine; omega) hd rx nd t tk
 ·rw[<- e1,<- Array.any_toList,List.any_map]; rfl
theorem RZ (hu:X.A.units+64<cLine):mU X (compareOp .NotEq) (fun x y H Q=>∃d e,At H d x/\At H e y/\d.hasDict=false/\e.hasDict=false/\d.canLay0=true/\e.canLay0=true/\d.depth<=60/\Q (.bl (!PyData.eqv d e)) H):=by
 refine .mk ?_
 intro pins s σ H x y v u Q I rx ry h
 obtain⟨d,e,hd,he,n1,n2,c1,c2,dp,q⟩:=h
 obtain⟨as,r1⟩:=iz I.hok _ _ _ hd rx n1
 obtain⟨bs,r2⟩:=iz I.hok _ _ _ he ry n2
 exact SeqAt.compareNe_reads r1 r2 c1 c2 (by have:=Nat.min_le_left d.depth e.depth; omega) (bx I q rfl)
theorem R1 (hu:X.A.units+64<cLine):mU X (compareOp .Eq) (fun x y H Q=>∃d e,At H d x/\At H e y/\d.hasDict=false/\e.hasDict=false/\d.canLay0=true/\e.canLay0=true/\d.depth<=60/\Q (.bl (PyData.eqv d e)) H):=by
 refine .mk ?_
 intro pins s σ H x y v u Q I rx ry h
 obtain⟨d,e,hd,he,n1,n2,c1,c2,dp,q⟩:=h
 obtain⟨as,r1⟩:=iz I.hok _ _ _ hd rx n1
 obtain⟨bs,r2⟩:=iz I.hok _ _ _ he ry n2
 exact SeqAt.compareEq_reads r1 r2 c1 c2 (by have:=Nat.min_le_left d.depth e.depth; omega) (bx I q rfl)
end
def FK (g:TG) (tb:TS) (D:Ends) (σ:St) (vs:List V) (H1:Hp):Prop:=∃j:Int,vs=[.int j]/\-(2 ^ 62)<=j/\j<2 ^ 62/\∃W:Nat->Nat->St->Hp->Prop,(∃m,W 0 m σ H1)/\∀i m σ H,W i m σ H ->
 ((Jx 0 j.toNat).stop i H/\D.nx σ H)\/((Jx 0 j.toNat).go i H/\∃N:St->Hp->Prop,(∀σ' H',N σ' H'->∃m',m'<m/\W (i+1) m' σ' H')/\∀x H',(Jx 0 j.toNat).xG i H x H'->g x σ H' fun σ2 H2=>tb { D with nx:=N,ct:=N,bk:=D.nx } σ2 H2)
theorem zY {ta:TA} {g:TG} {tb:TS} {D:Ends} {σ:St} {H:Hp}:xN (wW ta) g tb D σ H=ta σ H (FK g tb D σ):=rfl
theorem FK.of {g:TG} {tb:TS} {D:Ends} {σ:St} {H:Hp} {n:Nat} {i:Int} (ei:i=n) (hn:n<=1000000) (Pv:Nat->St->Hp->Prop) (h0:Pv 0 σ H)
  (hs:∀i σ H,i<n->Pv i σ H->g (.int (0+(i:Nat))) σ H fun σ2 H2=>tb { D with nx:=Pv (i+1),ct:=Pv (i+1),bk:=D.nx } σ2 H2) (hd:∀σ H,Pv n σ H->D.nx σ H):FK g tb D σ [.int i] H:=by
 subst ei
 refine⟨n,rfl,by omega,by omega,?_⟩
 rw[rO]
 exact wZ Pv h0 hs hd
def TK (K:PySem.W.Frag) (g:TG) (tb:TS) (D:Ends) (σ:St) (x:V) (H1:Hp):Prop:=∃a,x=.ref a/\(∃xs,bW K H1 a xs)/\∃W:Nat->Nat->St->Hp->Prop,(∃m,W 0 m σ H1)/\∀i m σ H,W i m σ H ->
 ((M3 K a).stop i H/\D.nx σ H)\/((M3 K a).go i H/\∃N:St->Hp->Prop,(∀σ' H',N σ' H'->∃m',m'<m/\W (i+1) m' σ' H')/\∀x H',(M3 K a).xG i H x H'->g x σ H' fun σ2 H2=>tb { D with nx:=N,ct:=N,bk:=D.nx } σ2 H2)
theorem JN {K:PySem.W.Frag} {tl:TE} {g:TG} {tb:TS} {D:Ends} {σ:St} {H:Hp}:xN (uK K tl) g tb D σ H=tl σ H (TK K g tb D σ):=rfl
theorem TK.of {K:PySem.W.Frag} {g:TG} {tb:TS} {D:Ends} {σ:St} {H:Hp} {a:Addr} {xs:List V} (ha:H a=some (.tup xs)) (Pv:Nat->St->Hp->Prop) (h0:Pv 0 σ H) (hl:∀i σ H',i<=xs.length->Pv i σ H'->H' a=some (.tup xs))
  (hs:∀i x σ H,xs[i]?=some x->Pv i σ H->g x σ H fun σ2 H2=>tb { D with nx:=Pv (i+1),ct:=Pv (i+1),bk:=D.nx } σ2 H2) (hd:∀σ H,Pv xs.length σ H->D.nx σ H):TK K g tb D σ (.ref a) H:=
 ⟨a,rfl,⟨xs,bW.of ha⟩,PL (xs:=xs) Pv h0 (fun i σ H' hi p=>bW.of (hl i σ H' hi p)) hs hd⟩
def CK (js:List Nat) (te:TE) (σ:St) (Q:VK) (vs:List V) (H1:Hp):Prop:=∃j:Int,vs=[.int j]/\-(2 ^ 62)<=j/\j<2 ^ 62/\∀acc,H1 acc=none->∃W:Nat->Nat->List V->Hp->Prop,(∃m,W 0 m [] (upd H1 acc (.lst [])))/\∀i m ys H2,W i m ys H2 ->
 ((Jx 0 j.toNat).stop i H2/\Q (.ref acc) H2)\/((Jx 0 j.toNat).go i H2/\∀x H3,(Jx 0 j.toNat).xG i H2 x H3->te (some x::bK js σ) H3 fun y H4=>H4 acc=some (.lst ys)/\ys.length<sizeLine/\∃m',m'<m/\W (i+1) m' (ys++[y]) (upd H4 acc (.lst (ys++[y]))))
theorem qj {js:List Nat} {ta:TA} {te:TE} {σ:St} {H:Hp} {Q:VK}:dM js (wW ta) te σ H Q=ta σ H (CK js te σ Q):=rfl
theorem CK.of {js:List Nat} {te:TE} {σ:St} {H:Hp} {Q:VK} {n:Nat} {i:Int} (ei:i=n) (hn:n<=1000000)
  (h:∀acc,H acc=none->∃Pv:Nat->List V->Hp->Prop,Pv 0 [] (upd H acc (.lst [])) /\
   (∀i ys H',i<n->Pv i ys H'->te (some (.int (0+(i:Nat)))::bK js σ) H' fun y cV=>cV acc=some (.lst ys)/\ys.length<sizeLine/\Pv (i+1) (ys++[y]) (upd cV acc (.lst (ys++[y])))) /\
   ∀ys H',Pv n ys H'->Q (.ref acc) H'):CK js te σ Q [.int i] H:=by
 subst ei
 have:=Mu (ta:=fun _ H R=>R [.int n] H) (σ:=σ) (H:=H) (Q:=Q) (js:=js) (te:=te) (n:=n) (fun R hR=>hR) hn h
 exact this
def Gs (mg:Str->Option Value) (x:Str) (i:Str):Prop:=∃t,mg x=some (.str i t)
theorem qI {X:Cx} {x:Str} {i:Str} {pos:Pos} (h:Gs X.mg x i) (hg:Gl X x:=by rfl) (hd:(x==("__debug__" : Str))=false:=by decide):PE X (.Name x pos) (tC (.str i)):=by
 obtain⟨t,ht⟩:=h
 exact sy hg ht ⟨t,rfl⟩ hd
def Dc (f:PyData->Bool):Sp:=fun vs H Q _=>∃v d,vs=[v]/\At H d v/\Qg d/\∀H',aA H H'->Q (.bl (f d)) H'
theorem Dc.len {f:PyData->Bool} {ps:List Str} (h:ps.length=1):∀vs H Q E,Dc f vs H Q E->vs.length=ps.length:=by rintro vs H Q E ⟨v,d,rfl,_⟩; exact h.symm
theorem N1.of {f:PyData->Bool} {v:V} {d:PyData} {H:Hp} {Q:VK} {E:XK} (h:At H d v) (n:Qg d) (q:∀H',aA H H'->Q (.bl (f d)) H'):Dc f ([v]++[]) H Q E:=⟨v,d,rfl,h,n,q⟩
theorem nu:∀{ds:List PyData},PyData.hasDictAll ds=false->∀d∈ds,d.hasDict=false
 | d::ds,h,x,hx=>by
  have h':d.hasDict=false/\PyData.hasDictAll ds=false:=by simpa[PyData.hasDictAll] using h
  rcases dZ.mp hx with e | e
  ·subst e; exact h'.1
  ·exact nu h'.2 x e
theorem Qg.parts {ds:List PyData} (h:Qg (.tuple ds)):∀d∈ds,d.hasDict=false:=by
 rcases h with h | h
 ·exact nu (by simpa[PyData.hasDict] using h)
 ·cases h
def dJ (b:Int):List Int->Int
 | []=>b
 | x::r=>dJ (if x>b then x else b) r
section
variable {prog:Program} {w:World} {A:Around} {R:Result->Shared->Prop} {It:Addr} {fp wr:List Addr} {n:Nat} {Pv:Nat->Value->Prop} {St:Nat->Heap->Prop}
theorem Lp {ns:List Int} (W:Walks prog w A.in1 It fp wr n Pv St) (hn:n=ns.length) (hv:∀i v,Pv i v->∃t,v=.int (ns.getD i 0) t) (C:Addr) (nf:C∉fp) (d:Value):∀(m j:Nat) (z:Shared) (best:Int) (tb:Tok) (c:Nat),ns.length-j=m->j<=ns.length->St j z.heap ->
  z.heap.get? C=some ⟨.type "list",none,.seq #[.int best tb,.int best tb] c,#[]⟩ ->
  (∀t h' tk,(∀b o,b∉wr->b≠C->z.heap.get? b=some o->h'.get? b=some o)->R (.ok (.ret (.int (dJ best (ns.drop j)) t))) { z with heap:=h',toks:=tk }) ->
  codeAny (model prog w) A (.builtin "max.loop" ⟨[.ref It,.none,.ref C],[("default",d)]⟩) R z:=by
 subst hn
 have nw:C∉wr:=fun q=>nf (W.sub _ q)
 have nm:(toString "max" ++ toString ".loop" : String) = "max.loop" := by decide
 intro m
 induction m with
 | zero=>
  intro j z best tb c hm hj st hC fin
  have e:j=ns.length:=by omega
  subst e
  refine codeAny_builtin PySem.F.entry_max_loop ?_
  rw[Around.under_plainId PySem.F.plain_max_loop _]
  show wpAny _ A.in1 (seqItems? (.ref C) >>= _) _ _ z
  refine aW (rN hC rfl ?_)
  show wpAny _ A.in1 (tryCatch (pyNext (.ref It)) _ >>= _) _ _ z
  refine aW (Aq (W.done z _ _ st fun h' tk kp=>?_))
  refine aW (wpAny_updateSeq (kp C _ nw hC) rfl (aW (Dj (bR ?_))))
  rw[Hw] at fin
  exact fin tb _ tk fun b o h1 h2 h3=>(rQ _ _ (Ne.symm h2)).trans (kp b o h1 h3)
 | succ m ih=>
  intro j z best tb c hm hj st hC fin
  have lt:j<ns.length:=by omega
  refine codeAny_builtin PySem.F.entry_max_loop ?_
  rw[Around.under_plainId PySem.F.plain_max_loop _]
  show wpAny _ A.in1 (seqItems? (.ref C) >>= _) _ _ z
  refine aW (rN hC rfl ?_)
  show wpAny _ A.in1 (tryCatch (pyNext (.ref It)) _ >>= _) _ _ z
  refine aW (Aq (W.item j z _ _ lt st fun v h' tk hP st' kp=>?_))
  obtain⟨t,rfl⟩:=hv j v hP
  have hC':=kp C _ nw hC
  show wpAny _ A.in1 (tryCatch (holding [_,_] (richCompare .Gt _ (.int best tb) >>= _)) _ >>= _) _ _ _
  refine aW (Aq (Ai (aW (richCompare_gives (op:=.Gt) (typeIs_int _ _ t) (typeIs_int _ _ tb) PySem.F.slot_int_gt PySem.F.entry_int_gt (PySem.F.args_int_gt_2 _ _) (gives_int_gt _ _ t tb) (fun x=>nomatch x) ?_))))
  refine aW (Ai (ym (aW (Dj (bR ?_)))))
  have dr:ns.drop j=ns.getD j 0::ns.drop (j+1):=by
   rw[Kv lt,oK,jg lt]; rfl
  rw[dr] at fin
  by_cases hb:ns.getD j 0>best
  ·have e1:dJ best (ns.getD j 0::ns.drop (j+1))=dJ (ns.getD j 0) (ns.drop (j+1)):=by rw[dJ,bc hb]
   rw[e1] at fin
   rw[lu hb]
   simp only[if_true]
   refine aW (wpAny_updateSeq hC' rfl (aW (Dj ?_)))
   rw[nm]
   refine bR ⟨plainId_quiet PySem.F.plain_max_loop _,ih (j+1) _ _ t _ (by omega) lt (W.frame _ _ _ st' fun b hb o e=>?_) (Ak _ hC' rfl) fun t2 h2 tk2 k2=>?_⟩
   ·exact(rQ _ _ (fun q:C=b=>nf (by rw[q]; exact hb))).trans e
   ·exact fin t2 h2 tk2 fun b o h1 h3 e=>k2 b o h1 h3 ((rQ _ _ (Ne.symm h3)).trans (kp b o h1 e))
  ·have e1:dJ best (ns.getD j 0::ns.drop (j+1))=dJ best (ns.drop (j+1)):=by rw[dJ,aX hb]
   rw[e1] at fin
   rw[jJ hb]
   simp only[Ko,if_false]
   refine aW (Dj ?_)
   rw[nm]
   refine bR ⟨plainId_quiet PySem.F.plain_max_loop _,ih (j+1) _ best tb c (by omega) lt st' hC' fun t2 h2 tk2 k2=>?_⟩
   exact fin t2 h2 tk2 fun b o h1 h3 e=>k2 b o h1 h3 (kp b o h1 e)
theorem Ih {ns:List Int} (W:Walks prog w A.in1 It fp wr n Pv St) (hn:n=ns.length) (hv:∀i v,Pv i v->∃t,v=.int (ns.getD i 0) t) (C:Addr) (nf:C∉fp) (d:Value) (z:Shared) (c:Nat) (st:St 0 z.heap)
  (hC:z.heap.get? C=some ⟨.type "list",none,.seq #[] c,#[]⟩)
  (f0:ns=[]->∀h' tk,(∀b o,b∉wr->b≠C->z.heap.get? b=some o->h'.get? b=some o)->R (.ok (.ret d)) { z with heap:=h',toks:=tk })
  (f1:∀x r,ns=x::r->∀t h' tk,(∀b o,b∉wr->b≠C->z.heap.get? b=some o->h'.get? b=some o)->R (.ok (.ret (.int (dJ x r) t))) { z with heap:=h',toks:=tk }) :
  codeAny (model prog w) A (.builtin "max.loop" ⟨[.ref It,.none,.ref C],[("default",d)]⟩) R z:=by
 have nw:C∉wr:=fun q=>nf (W.sub _ q)
 have nm:(toString "max" ++ toString ".loop" : String) = "max.loop" := by decide
 refine codeAny_builtin PySem.F.entry_max_loop ?_
 rw[Around.under_plainId PySem.F.plain_max_loop _]
 show wpAny _ A.in1 (seqItems? (.ref C) >>= _) _ _ z
 refine aW (rN hC rfl ?_)
 show wpAny _ A.in1 (tryCatch (pyNext (.ref It)) _ >>= _) _ _ z
 cases ns with
 | nil=>
  subst hn
  refine aW (Aq (W.done z _ _ st fun h' tk kp=>?_))
  show wpAny _ A.in1 (rule _ >>= _) _ _ _
  exact aW (yd (bR (f0 rfl h' tk fun b o h1 _ e=>kp b o h1 e)))
 | cons x r=>
  refine aW (Aq (W.item 0 z _ _ (by rw[hn]; exact Nat.succ_pos _) st fun v h' tk hP st' kp=>?_))
  obtain⟨t,e⟩:=hv 0 v hP
  have e:v=.int x t:=e
  subst e
  have hC':=kp C _ nw hC
  show wpAny _ A.in1 (updateSeq C (fun _=>#[Value.int x t,Value.int x t]) >>= _) _ _ _
  refine aW (wpAny_updateSeq hC' rfl ?_)
  rw[nm]
  refine bR ⟨plainId_quiet PySem.F.plain_max_loop _,Lp W hn hv C nf d _ 1 _ x t _ rfl (by simp) (W.frame _ _ _ st' fun b hb o e=>?_) (Ak _ hC' rfl) fun t2 h2 tk2 k2=>?_⟩
  ·exact(rQ _ _ (fun q:C=b=>nf (by rw[q]; exact hb))).trans e
  ·exact f1 x r rfl t2 h2 tk2 fun b o h1 h3 e=>k2 b o h1 h3 ((rQ _ _ (Ne.symm h3)).trans (kp b o h1 e))
end
theorem Je (a v:Value):argsOk "max" ⟨[a],[("default",v)]⟩:=by unfold argsOk; kernel_rfl
section
variable {prog:Program} {w:World} {A:Around} {E:Value->Shared->Prop} {s:Shared}
theorem IW {l:Addr} {its:List Value} {ns:List Int} {d:Value} {Q:Value->Shared->Prop} (hh:A.handled=none) (hl:s.heap.IsList l its.toArray) (hi:∀i v,its[i]?=some v->∃t,v=Value.int (ns.getD i 0) t) (hlen:its.length=ns.length)
  (h0:ns=[]->∀h' tk,(∀b o,s.heap.get? b=some o->h'.get? b=some o)->Q d { s with heap:=h',toks:=tk })
  (h1:∀b r,ns=b::r->∀t h' tk,(∀b o,s.heap.get? b=some o->h'.get? b=some o)->Q (Value.int (dJ b r) t) { s with heap:=h',toks:=tk }) :
  wpAny (model prog w) A (call (.builtin "max") [.ref l] [("default",d)]) Q E s:=by
 have nm:(toString "max" ++ toString ".loop" : String) = "max.loop" := by decide
 have lt:l<s.heap.objs.size:=by obtain⟨_,e,_⟩:=hl; exact eQ e
 refine kmk_tree PySem.F.kind_max PySem.F.plain_max PySem.F.entry_max (Je _ _) ?_
 show wpAny _ A.in1 (Builtin.Builtins.bindParams "max" ["key","default"] 0 ⟨[],[("default",d)]⟩ >>= _) _ _ s
 refine aW (rK (show Builtin.Builtins.bindParams "max" ["key","default"] 0 ⟨[],[("default",d)]⟩=pure [none,some d] from rfl) ?_)
 refine aW (bR ?_)
 refine aW (Km hl ?_)
 refine aW (rP ?_)
 rw[nm]
 have W:=Walks.list (prog:=prog) (w:=w) (A:=A.in1) hh s.heap.objs.size l (dH lt) its.toArray
 generalize eh:s.heap.push { cls:=.type "list_iterator",data:=.fields #[.ref l,.int 0 0] }=h1'
 have sz:h1'.objs.size=s.heap.objs.size+1:=by rw[<- eh,lg]
 have k1:∀b o,s.heap.get? b=some o->h1'.get? b=some o:=fun b o e=>by rw[<- eh]; exact fM _ e
 have hit:h1'.IsListIter s.heap.objs.size l 0:=by rw[<- eh]; exact⟨_,j_ _ rfl,rfl,rfl⟩
 have hl1:h1'.IsList l its.toArray:=by rw[<- eh]; exact hl.push _
 have nf:h1'.objs.size∉[s.heap.objs.size,l]:=fun q=>by
  rcases dZ.mp q with e | q
  ·rw[sz] at e; exact Nat.succ_ne_self _ e
  ·have e:=fP.mp q; rw[sz] at e; rw[<- e] at lt; exact rM _ (wI (Kh _) lt)
 have ol:∀{h':Heap},(∀b o,b∉[s.heap.objs.size]->b≠h1'.objs.size->(h1'.push { cls:=.type "list",data:=.seq #[] 0 }).get? b=some o->h'.get? b=some o)->∀b o,s.heap.get? b=some o->h'.get? b=some o:=fun k b o e=>by
  have lb:=eQ e
  refine k b o (fun q=>?_) (fun q=>?_) (fM _ (k1 b o e))
  ·rw[fP.mp q] at lb; exact rM _ lb
  ·rw[q,sz] at lb; exact rM _ (wI (Kh _) lb)
 refine bR ⟨plainId_quiet PySem.F.plain_max_loop _,Ih (ns:=ns) W (by rw[dI,hlen]) (fun i v e=>hi i v (by simpa using e)) h1'.objs.size nf d _ _ ?_ (j_ _ rfl) (fun e h' tk k=>h0 e h' tk (ol k)) (fun x r e t h' tk k=>h1 x r e t h' tk (ol k))⟩
 exact W.frame _ _ _ (show h1'.IsListIter s.heap.objs.size l 0/\h1'.IsList l its.toArray from⟨hit,hl1⟩) fun b _ o e=>fM _ e
end
section
variable {X:Cx}
def Qt (t:TA) (te:TE):TE:=fun σ H Q=>t σ H fun vs H1=>te σ H1 fun y H2=>∃(p:Addr) (ns:List Int),vs=[.ref p]/\H2 p=some (.lst (ns.map V.int))/\(ns=[]->Q y H2)/\∀b r,ns=b::r->Q (.int (dJ b r)) H2
theorem oO {ns:List Int}:∀{us:List Value},Vals (ns.map V.int) us->∀i v,us[i]?=some v->∃t,v=Value.int (ns.getD i 0) t:=by
 induction ns with
 | nil=>intro us r i v e; cases r; simp at e
 | cons n ns ih=>
  intro us r i v e
  cases r with
  | cons r1 r2=>
   cases i with
   | zero=>
    obtain⟨t,rfl⟩:=(r1:∃t,_=Value.int n t)
    simp at e
    exact⟨t,e.symm⟩
   | succ i=>simpa using ih r2 i v (by simpa using e)
theorem yC {e e2:Expr} {t:TA} {te:TE} {p pos Pk:Pos} (hc:X.calm=true) (hm:X.mg "max" = none) (ha:PA X [e] t) (hk:PE X e2 te) (hg:Gl X "max" := by rfl) (h1:bJ e=true:=by rfl) :
  PE X (.Call (.Name "max" p) [e] [⟨some "default",e2,Pk⟩] pos) (Qt t te):=by
 refine .mk ?_
 intro pins s σ H Q I h
 refine uq (jj I hg hm qT ?_ (by decide) (by decide))
 refine callWith_kw ?_ ?_ ?_ ?_ ?_
 ·refine bN (ha pos pins s σ H _ I h) fun us s1 qx=>?_
  obtain⟨vs,H1,I1,r,q⟩:=qx
  refine bN ((Om hk RL:PK X [⟨some "default",e2,Pk⟩] _) pos pins s1 σ H1 (fun ys H2=>∃y,ys=[y]/\(∃(p:Addr) (ns:List Int),vs=[.ref p]/\H2 p=some (.lst (ns.map V.int))/\(ns=[]->Q y H2)/\∀b r,ns=b::r->Q (.int (dJ b r)) H2)) I1 ?_) fun ws s2 ⟨zs,H2,I2,rz,q2⟩=>?_
  ·show te σ H1 (fun x H2=>∃y,[x]=[y]/\_)
   have fe:(fun(x:V) (H2:Hp)=>∃y,[x]=[y]/\(∃(p:Addr) (ns:List Int),vs=[.ref p]/\H2 p=some (.lst (ns.map V.int))/\(ns=[]->Q y H2)/\∀b r,ns=b::r->Q (.int (dJ b r)) H2))=fun y H2=>∃(p:Addr) (ns:List Int),vs=[.ref p]/\H2 p=some (.lst (ns.map V.int))/\(ns=[]->Q y H2)/\∀b r,ns=b::r->Q (.int (dJ b r)) H2:=by
    funext x H2
    refine propext ⟨?_,fun z=>⟨x,rfl,z⟩⟩
    rintro⟨y,ey,z⟩
    cases ey
    exact z
   rw[fe]
   exact q
  ·obtain⟨y,rfl,l,ns,rfl,hl,q0,q1⟩:=q2
   obtain⟨u,rfl,ru⟩:=r.one
   cases ru
   obtain⟨v,rfl,rv⟩:=rz.one
   obtain⟨_,its,n,rvs,eo⟩:=I2.hok l _ hl
   have hlen:=rvs.length
   rw[eY] at hlen
   refine IW (ns:=ns) (I2.ok.hd hc) (show s2.heap.IsList l its.toArray from⟨_,eo,rfl,n,rfl⟩) (oO rvs) hlen.symm (fun e h' tk k=>⟨y,H2,I2.kept (t':=tk) k,rv,q0 e⟩) (fun b r e t h' tk k=>⟨.int (dJ b r),H2,I2.kept (t':=tk) k,⟨t,rfl⟩,q1 b r e⟩)
 ·rw[bL h1]; rfl
 ·exact bO (es:=[e]) (by simp[h1])
 ·rfl
 ·rfl
end
def iZ (t:Str):Nat:=if(("come" : Str)==t)=true then 0 else if(("done" : Str)==t)=true then 1 else 2
def Ql:List V:=[.str "come",.str "done",.str "wait"]
def Vp (K:PySem.W.Frag):V->List V->Hp->VK->Prop:=fun x xs H Q=>∃(p:Addr) (t:Str),x=.ref p/\bW K H p Ql/\xs=[.str t]/\t∈(["come","done","wait"]:List Str)/\Q (.int (iZ t)) H
theorem Cv {x y z:V} {us:List Value} (h:Vals [x,y,z] us):∃u v q,us=[u,v,q]/\RelV x u/\RelV y v/\RelV z q:=by
 obtain⟨u,r,rfl,h1,h⟩:=h.un
 obtain⟨v,q,rfl,h2,h3⟩:=h.two
 exact⟨u,v,q,rfl,h1,h2,h3⟩
theorem Pu {t:Str} (h:t∈(["come","done","wait"]:List Str)) (h0:(("come" : Str)==t)=false) (h1:(("done" : Str)==t)=false):(("wait" : Str)==t)=true:=by
 simp only[dZ,jh,or_false] at h
 rcases h with rfl | rfl | rfl
 ·revert h0; decide +kernel
 ·revert h1; decide +kernel
 ·decide +kernel
section
variable {X:Cx}
theorem zV {prog:Program} {w:World} {A:Around} {E:Value->Shared->Prop} {s:Shared} {p:Addr} {a b c t:Str} {k0 k1 k2 k3:Tok} {Q:Value->Shared->Prop} (ht:IsTup s.heap p #[.str a k0,.str b k1,.str c k2]) (hl:(a==t)=false->(b==t)=false->(c==t)=true)
  (q:∀tk,Q (Value.int (if(a==t)=true then 0 else if(b==t)=true then 1 else 2) tk) { s with toks:=s.toks+1 }):wpAny (model prog w) A (call (.builtin "tuple.index") [.ref p,.str t k3]) Q E s:=by
 refine yj PySem.F.slot_tuple_index ht.typeIs PySem.F.entry_tuple_index ?_ (PySem.F.args_tuple_index_2 _ _)
 show wpAny _ A.in1 (Builtin.Tuple.tupleItemsOf (.ref p) >>= _) _ _ s
 refine aW (tupleItemsOf_ ht ?_)
 show wpAny _ _ ((pure 0:Sem Nat) >>= _) _ _ s
 refine aW (bR ?_)
 show wpAny _ _ ((pure 3:Sem Nat) >>= _) _ _ s
 refine aW (bR ?_)
 show wpAny _ _ (forIn [0:3] _ _ >>= _) _ _ s
 rw[Std.Legacy.Range.forIn_eq_forIn_range']
 have e:List.range' [0:3].start [0:3].size [0:3].step=[0,1,2]:=rfl
 rw[e,Hv]
 have mk:∀(i:Int) {R:PySem.Fin->Shared->Prop},(∀tk,R (.done (.ret (.int i tk))) { s with toks:=s.toks+1 })->wpAny (model prog w) A.in1 (retInt i) R E s:=fun i {R} h=>by
  unfold retInt
  refine aW (wpAny_mkInt (bR (h _)))
 have eq:∀(z:Str) (k:Tok),SeqAt.EqAt A.in1 s (.str z k) (.str t k3) (z==t):=fun z k=>SeqAt.EqAt.str_str z k t k3
 cases e0:(a==t) with
 | true=>
  rw[e0] at q
  refine aW (aW (aW (eq a k0 _ _ _ _ ?_)))
  rw[e0,bc rfl]
  refine aW (mk 0 fun tk=>bR (bR (bR ⟨_,rfl,q tk⟩)))
 | false=>
  rw[e0] at q
  refine aW (aW (aW (eq a k0 _ _ _ _ ?_)))
  rw[e0,aX (by decide)]
  refine bR ?_
  show wpAny _ _ (forIn [1,2] _ _) _ _ s
  rw[Hv]
  cases e1:(b==t) with
  | true=>
   rw[e1] at q
   refine aW (aW (eq b k1 _ _ _ _ ?_))
   rw[e1,bc rfl]
   refine aW (mk 1 fun tk=>bR (bR (bR ⟨_,rfl,q tk⟩)))
  | false=>
   rw[e1] at q
   refine aW (aW (eq b k1 _ _ _ _ ?_))
   rw[e1,aX (by decide)]
   refine bR ?_
   show wpAny _ _ (forIn [2] _ _) _ _ s
   rw[Hv]
   refine aW (aW (eq c k2 _ _ _ _ ?_))
   rw[hl e0 e1,bc rfl]
   refine aW (mk 2 fun tk=>bR (bR (bR ⟨_,rfl,q tk⟩)))
theorem Ii {K:PySem.W.Frag} (hK:X.K=K):Wg X "tuple.index" (Vp K):=by
 subst hK
 intro pins s σ H x xs v us Q I rx rv h
 obtain⟨p,t,rfl,hp,rfl,ht,q⟩:=h
 cases rx
 obtain⟨u,rfl,tk,rfl⟩:=rv.one
 obtain⟨its,r,pt,_⟩:=I.tuple hp
 obtain⟨u0,u1,u2,rfl,⟨k0,rfl⟩,⟨k1,rfl⟩,⟨k2,rfl⟩⟩:=Cv r
 refine zV pt (Pu ht) fun tk'=>⟨.int (iZ t),H,I.tok _,⟨tk',?_⟩,q⟩
 unfold iZ
 split
 ·rfl
 ·split <;> rfl
def Uk (K:PySem.W.Frag) (mg:Str->Option Value) (x:Str) (W:List V):Prop:=∃a,mg x=some (.ref a)/\(∃o,K.lookup a=some o/\o.cls=.type "tuple" /\ o.dict=none)/\∀H,bW K H a W
def Rc (K:PySem.W.Frag) (W:List V):TE:=fun _ H Q=>∀a,(∃o,K.lookup a=some o/\o.cls=.type "tuple" /\ o.dict=none)->(∀H',bW K H' a W)->Q (.ref a) H
theorem FQ {K:PySem.W.Frag} {x:Str} {W:List V} {pos:Pos} (hK:X.K=K) (h:Uk K X.mg x W) (hg:Gl X x:=by rfl) (hd:(x==("__debug__" : Str))=false:=by decide):PE X (.Name x pos) (Rc K W):=by
 obtain⟨a,ha,ho,hs⟩:=h
 refine .mk ?_
 intro pins s σ H Q I q
 exact sy (v:=.ref a) hg ha rfl hd pins s σ H Q I (q a ho hs)
end
section
variable {X:Cx} {pos:Pos}
def U4 (i j l:Nat) (ta:TA):TS:=fun D σ H=>ta σ H fun vs H1=>∃v w z,vs=[v,w,z]/\D.nx (((σ.set l (some z)).set j (some w)).set i (some v)) H1
end
theorem Inv.Ey {X:Cx} {pins:List (Addr×Obj)} {σ:St} {H:Hp} {s:Shared} {h':Heap} {t':Nat} {e it:Addr} (I:Inv X pins σ H s) (k:∀b o,b≠e->b≠it->s.heap.get? b=some o->h'.get? b=some o) (fe:gH X pins H e) (fi:gH X pins H it) :
  Inv X pins σ H { s with heap:=h',toks:=t' }:=by
 have k2:∀b o,b∉[e,it]->s.heap.get? b=some o->h'.get? b=some o:=fun b o hb q=>k b o (fun z=>hb (by simp[z])) (fun z=>hb (by simp[z])) q
 have fp:∀b∈[e,it],gH X pins H b:=fun b hb=>by
  rcases dZ.mp hb with z | z
  ·rw[z]; exact fe
  ·rw[fP.mp z]; exact fi
 have ni:∀b u,H b=some u->b∉[e,it]:=fun b u q hb=>by rw[(fp b hb).1] at q; cases q
 refine I.step (g':=s.gens) (d':=s.drawn) (ch:=[e,it]) (fun b hb=>?_) (fun b o _ _ hc q _=>k2 b o hc q) (fun b o _ _ hc q _=>⟨o.slots,k2 b o hc q⟩) (fun _ _ _ _ n=>n) (fun b o hc q=>⟨o,k2 b o hc q⟩) (fun _ _ q=>q) (fun _ _ _ q=>q)
  (fun b ps q=>⟨#[],by rw[q]; simp⟩) (fun m hm=>?_) (fun b u q=>?_) I.bare
 ·obtain⟨_,f1,_,f3,f4,f5⟩:=fp b hb
  exact⟨f3,f1,f4,f5⟩
 ·obtain⟨o,es,ep,ho,r⟩:=hm
  refine⟨o,es,ep,k2 _ o (fun hb=>(fp _ hb).2.1 rfl) ho,r⟩
 ·refine(I.hok b u q).stay (fun c v hc z=>k2 c v ?_ z) (fun _ z=>z) fun _ _ z=>z
  rcases hc with z | z
  ·rw[z]; exact ni b u q
  ·exact ni c _ z
def Zh (K:PySem.W.Frag) (a:Addr):It:=
 ⟨fun i H=>∃xs x,fQ K H a xs/\xs[i]?=some x,fun i H x H'=>∃p y,H p=none/\x=.ref p/\H'=upd H p (.tup [.int i,y])/\∀xs,fQ K H a xs->xs[i]?=some y,fun i H=>∃xs,fQ K H a xs/\xs.length<=i⟩
theorem Hg {P:Program} {w:World} {K:PySem.W.Frag} {elts:List Expr} {x1} {tp:Pos} (a e it:Addr) (hne:e≠it):Turn P w K (.Tuple elts x1 tp) (Zh K a) [e,it] e (fun i h=>(∃old,IsEnum h e it (i:Nat) old)/\h.IsListIter it a i) where
 mem:=by simp
 obj:=fun i h st b hb=>by
  obtain⟨⟨old,he⟩,o,ho,c,d⟩:=st
  rcases dZ.mp hb with z | z
  ·rw[z]; exact⟨_,he,fun v q=>by cases q⟩
  ·rw[fP.mp z]; exact⟨o,ho,fun v q=>by rw[d] at q; cases q⟩
 keep:=fun i h h' st k=>by
  obtain⟨⟨old,he⟩,hi⟩:=st
  exact⟨⟨old,k e (by simp) _ he⟩,hi.at fun o q=>k it (by simp) o q⟩
 item:=by
  intro X hP hw hK hc i pins s σ H E I hf st hg
  subst hP hw hK
  obtain⟨⟨old,he⟩,hi⟩:=st
  obtain⟨xs,x,hq,hx⟩:=hg
  obtain⟨its,rv,p,hz⟩:=I.list hq
  obtain⟨u,hu,ru⟩:=rv.get hx
  have fe:=hf e (by simp)
  have fi:=hf it (by simp)
  refine wpAny_pyNext_enum_item he hi p.isList (x:=u) (by simpa using hu) hne fun h' eo hi' ht hsz kk=>?_
  have fr:H s.heap.objs.size=none:=I.hok.fresh (bD _)
  have I1:Inv X pins σ (upd H s.heap.objs.size (.tup [.int i,x])) { s with heap:=s.heap.push { cls:=.type "tuple",data:=.seq #[.int i s.toks,u] },toks:=s.toks }:=
   I.laid (t':=s.toks) (fun b v q=>fM _ q) (bD _) ⟨(by show 2<=sizeLine; decide),[.int i s.toks,u],.cons ⟨_,rfl⟩ (.cons ru .nil),⟨_,j_ _ rfl,rfl,_,rfl⟩⟩
  have ee:e<s.heap.objs.size:=eQ he
  have ei:it<s.heap.objs.size:=by obtain⟨o,ho,_⟩:=hi; exact eQ ho
  have D_:gH X pins (upd H s.heap.objs.size (.tup [.int i,x])) e:=⟨by rw[aJ (dH ee)]; exact fe.1,fe.2⟩
  have V_:gH X pins (upd H s.heap.objs.size (.tup [.int i,x])) it:=⟨by rw[aJ (dH ei)]; exact fi.1,fi.2⟩
  have I2:Inv X pins σ (upd H s.heap.objs.size (.tup [.int i,x])) { s with heap:=h',toks:=s.toks+1 }:=I1.Ey (t':=s.toks+1) (fun b o h1 h2 q=>by
   by_cases z:b=s.heap.objs.size
   ·subst z
    rw[j_ _ rfl] at q
    cases q
    exact ht
   ·rcases Heap.get?_push_cases q with w | w
    ·exact absurd w.1 z
    ·exact kk b o h1 h2 w) D_ V_
  refine⟨_,rfl,wpAny_letOwnedTupleGo_enum eo fun h'' en sb=>⟨.ref s.heap.objs.size,_,I2.turned (it:=e) (t':=s.toks+1) (fun b o hb q=>sb.extBut b o hb q) D_.1 D_.2.1 D_.2.2.2.1 D_.2.2.2.2.1 D_.2.2.2.2.2,rfl,⟨_,x,fr,rfl,rfl,fun ys hy=>by rw[I.Bw hy hq]; exact hx⟩,⟨⟨_,en⟩,?_⟩,fun b hb=>?_⟩⟩
  ·exact hi'.at fun o q=>sb.extBut it o (Ne.symm hne) q
  ·rcases dZ.mp hb with z | z
   ·rw[z]; exact D_.1
   ·rw[fP.mp z]; exact V_.1
 done:=by
  intro X hP hw hK hc i pins s σ H E I hf st hg
  subst hP hw hK
  obtain⟨⟨old,he⟩,hi⟩:=st
  obtain⟨xs,hq,hx⟩:=hg
  obtain⟨its,rv,p,hz⟩:=I.list hq
  have hl:=rv.length
  obtain⟨f0,f1,f2,f3,f4,f5⟩:=hf it (by simp)
  exact wpAny_pyNext_enum_end (I.ok.hd hc) he hi p.isList (by simp; omega) fun h' eb=>⟨rfl,I.turned (t':=s.toks) (fun b o hb q=>eb b o hb q) f0 f1 f3 f4 f5⟩
 self:=fun _ _ _ _ _ st h=>by
  obtain⟨⟨old,he⟩,_⟩:=st
  exact Fw he h
section
variable {X:Cx}
def QQ (K:PySem.W.Frag) (ta:TA):TI:=fun σ H R=>ta σ H fun vs H1=>∃a,vs=[.ref a]/\(∃xs,fQ K H1 a xs)/\R (Zh K a) H1
theorem Ot {K:PySem.W.Frag} {e:Expr} {elts:List Expr} {x1} {tp p pos:Pos} {ta:TA} (hK:X.K=K) (hm:X.mg "enumerate" = none) (ha:PA X [e] ta) (hg:Gl X "enumerate" := by rfl) (h1:bJ e=true:=by rfl) :
  PI X (.Tuple elts x1 tp) (.Call (.Name "enumerate" p) [e] [] pos) (QQ K ta):=by
 subst hK
 refine .mk ?_
 intro pins s σ H R I h
 refine uq (jj I hg hm pY ?_ (by decide) (by decide))
 refine PyProof.Rows.callWith_type1 (bN (ha pos pins s σ H _ I h) fun us s1 ⟨vs,H1,I1,r1,q1⟩=>?_) (bL h1) (bO (es:=[]) rfl)
 obtain⟨a,rfl,⟨xs,hq⟩,q⟩:=q1
 obtain⟨u,rfl,ru⟩:=r1.one
 cases ru
 obtain⟨its,rv,pl,hz⟩:=I1.list hq
 refine call_enumerate_list pl.isList fun h' he hi hsz kk=>?_
 have I2:Inv X pins σ H1 { s1 with heap:=h' }:=I1.kept (t':=s1.toks) kk
 have f1:H1 (s1.heap.objs.size+1)=none:=I1.hok.fresh (wG _)
 have f0:H1 s1.heap.objs.size=none:=I1.hok.fresh (bD _)
 refine Fw he ⟨s1.heap.objs.size+1,_,_,Zh X.K a,H1,rfl,I2,Hg a (s1.heap.objs.size+1) s1.heap.objs.size (Nat.succ_ne_self _),⟨⟨_,he⟩,hi⟩,fun b hb=>?_,q⟩
 rcases dZ.mp hb with z | z
 ·rw[z]; exact I1.uP (wG _) f1
 ·rw[fP.mp z]; exact I1.uP (bD _) f0
end
section
variable {X:Cx}
theorem Ja:cL X (.type "list") (fun vs H Q=>∃(p:Addr) (ys:List V),vs=[.ref p]/\H p=some (.lst ys)/\∀l,H l=none->Q (.ref l) (upd H l (.lst ys))):=by
 refine .mk ?_
 intro pins s σ H vs us Q I r h
 obtain⟨p,ys,e,hp,q⟩:=h
 exact pU pins s σ H vs us Q I r ⟨p,ys,e,.inl (fQ.of hp),q⟩
theorem nU {K:PySem.W.Frag} {o e:Expr} {es:List Expr} {to:TE} {t:TA} {name:Str} {apos cpos:Pos} {T id:String} {r:V->List V->Hp->VK->Prop} (hK:X.K=K) (pa:PlainAttrs T) (slot:Slot T name id) (hty:typeOf (.builtin id)=pure (.type "method_descriptor")) (hm:Wg X id r) (ho:PE X o to) (ha:PA X (e::es) t)
  (hbase:attributeBase o name X.env (eval o X.env)=eval o X.env:=by rfl)
  (hfew:((backTo cpos (starEach (e::es) X.env)).all (fun x=>!x.1)&&(backToKw cpos (keywordEach [] X.env)).all (fun x=>x.1.isSome)&&decide ((e::es).length+([]:List Keyword).length+(if([]:List Keyword).isEmpty then 0 else 1)<30))=true:=by rfl)
  (hline:(apos.endLine==cpos.line)=true:=by rfl) (hs:starEach (e::es) X.env=(false,eval e X.env)::starEach es X.env:=by rfl) (hplain:(backTo cpos (starEach es X.env)).any (·.1)=false:=by rfl):PE X (.Call (.Attribute o name apos) (e::es) [] cpos) (Xi K T r to t):=by
 subst hK
 exact Vz pa slot hty hm ho ha hbase hfew hline hs hplain
end
theorem CQ:isSubtype (.type "range_iterator") (.type "reversed")=pure false:=by rw[isSubtype_type]; kernel_rfl
section
variable {prog:Program} {w:World} {A:Around} {E:Value->Shared->Prop} {s:Shared}
def ug (n:Int):Obj:={ cls:=.type "range_iterator",data:=.fields #[rawInt (n-1),rawInt n,rawInt (-1)] }
theorem vg {r:Addr} {n:Int} {t u v:Tok} {Q:Value->Shared->Prop} (hr:IsRange s.heap r 0 n 1 t u v) (h0:0<=n) (h1:n<2 ^ 62) (h:Q (.ref s.heap.objs.size) { s with heap:=s.heap.push (ug n) }) :
  wpAny (model prog w) A (call (.builtin "range.__reversed__") [.ref r]) Q E s:=by
 have hT:s.TypeIs (.ref r) "range" := ⟨_,hr,rfl⟩
 refine yj PySem.F.slot_range_reversed hT PySem.F.entry_range_reversed ?_ (PySem.F.args_range_reversed_1 _)
 unfold Builtin.«range.__reversed__»
 refine aW (rK (a:=Value.ref r) rfl ?_)
 have rf:∀{R:Int×Int×Int->Shared->Prop},R (0,n,1) s->wpAny (model prog w) A.in1 (Builtin.Range.rangeFields (.ref r)) R E s:=fun {R} hR=>by
  unfold Builtin.Range.rangeFields
  refine aW (iB hr rfl (x:=.int 0 t) rfl (aW (rK (a:=some (0:Int)) rfl ?_)))
  refine aW (iB hr rfl (x:=.int n u) rfl (aW (rK (a:=some n) rfl ?_)))
  exact aW (iB hr rfl (x:=.int 1 v) rfl (aW (rK (a:=some (1:Int)) rfl (bR hR))))
 refine aW (rf ?_)
 dsimp only
 have sz:Builtin.Range.rangeSize 0 n 1=n:=by rw[rangeSize_one]; split <;> omega
 rw[sz]
 have sm:(Builtin.Range.rangeFitsLong 0&&Builtin.Range.rangeFitsLong n&&Builtin.Range.rangeFitsLong 1&&Builtin.Range.rangeFitsLong (-1)&&Builtin.Range.rangeFitsLong (0-1)&&Builtin.Range.rangeFitsLong n)=true:=by
  have:Builtin.Range.rangeFitsLong n=true:=by simp only[Builtin.Range.rangeFitsLong,uo,decide_eq_true_eq]; omega
  rw[this]; decide
 rw[sm]
 simp only[Bool.not_true,Ko,if_false,if_true]
 have e1:(0+(n-1)*1:Int)=n-1:=by omega
 rw[e1]
 exact aW (rP (bR ⟨_,rfl,h⟩))
theorem u_ {r:Addr} {n:Int} {t u v:Tok} {Q:Value->Shared->Prop} (hr:IsRange s.heap r 0 n 1 t u v) (h0:0<=n) (h1:n<2 ^ 62) (h:Q (.ref s.heap.objs.size) { s with heap:=s.heap.push (ug n) }) :
  codeAny (model prog w) A (.call (.builtin "reversed.__new__") ⟨[.type "reversed",.ref r],[]⟩) (wants Q E) s:=by
 have hT:s.TypeIs (.ref r) "range" := ⟨_,hr,rfl⟩
 refine codeAny_of_tree ?_
 show wpAny _ A.in1 (do checkBuiltinCall "reversed.__new__" ⟨[.type "reversed",.ref r],[]⟩; again (.builtin "reversed.__new__" ⟨[.type "reversed",.ref r],[]⟩)) _ _ s
 refine aW (rK (F.newCall_reversed_1 (.ref r)) (bR ⟨plainId_quiet F.plain_reversed_new _,codeAny_builtin F.entry_reversed_new ?_⟩))
 rw[Around.under_plainId F.plain_reversed_new _]
 unfold Builtin.«reversed.__new__»
 refine aW (rK (newClass_reversed (.ref r)) ?_); (try dsimp only)
 refine aW (rK (a:=()) rfl (aW (rK (a:=()) rfl ?_)))
 refine aW (Kf hT PySem.F.slot_range_reversed.lookup ?_); (try dsimp only)
 refine aW (rK (PySem.F.slot_range_reversed.bind _) ?_); (try dsimp only)
 rw[aX (show ¬((Value.builtin "range.__reversed__" == Value.none)=true) from lC)]
 refine aW (yd (aW (m:=runValue (.call (.builtin "range.__reversed__") ⟨[.ref r],[]⟩)) (show wpAny _ _ (call (.builtin "range.__reversed__") [.ref r]) _ _ _ from vg hr h0 h1 ?_)))
 first
  | exact bR h
  | exact aW (bR (bR h))
theorem vf {r:Addr} {n:Int} {t u v:Tok} {Q:Value->Shared->Prop} (hr:IsRange s.heap r 0 n 1 t u v) (h0:0<=n) (h1:n<2 ^ 62) (h:Q (.ref s.heap.objs.size) { s with heap:=s.heap.push (ug n) }) :
  wpAny (model prog w) A (call (.type "reversed") [.ref r]) Q E s:=by
 refine callType_other (U:="range_iterator") (Q₁:=fun obj z=>obj=.ref s.heap.objs.size/\z={ s with heap:=s.heap.push (ug n) }) (by decide +kernel) F.create_reversed ⟨_,_,F.mro_reversed⟩ F.made_reversed CQ (F.typeCall_reversed_1 _) (u_ hr h0 h1 ⟨rfl,rfl⟩) ?_
 rintro obj z ⟨rfl,rfl⟩
 exact⟨⟨_,j_ _ rfl,rfl⟩,h⟩
end
def Ui (n:Nat):It:=⟨fun i _=>i<n,fun i H x H'=>H'=H/\x=.int ((n:Int)-1-i),fun i _=>n<=i⟩
theorem JG {P:Program} {w:World} {K:PySem.W.Frag} {tg:Expr} (it:Addr) (n:Nat):Turn P w K tg (Ui n) [it] it (fun i h=>IsRangeIter h it ((n:Int)-1+(i:Nat)*(-1)) ((n:Int)-(i:Nat)) (-1)) where
 mem:=by simp
 obj:=fun i h st b hb=>by
  rw[fP.mp hb]
  exact⟨_,st,fun v z=>by
   have z':Data.fields _=Data.cell v:=z
   cases z'⟩
 keep:=fun i h h' st k=>k it (by simp) _ st
 item:=by
  intro X hP hw hK hc i pins s σ H E I hf st hg
  subst hP hw hK
  obtain⟨f0,f1,f2,f3,f4,f5⟩:=hf it (by simp)
  have W:=Walks.range (prog:=X.prog) (w:=X.w) (I.ok.hd hc) it ((n:Int)-1) (-1) n
  refine W.item i s _ _ hg st fun v h' tk hv st' kk=>?_
  obtain⟨t,rfl⟩:=hv
  have I1:Inv X pins σ H { s with heap:=h',toks:=tk }:=I.turned (fun b o hb e=>kk b o (by simpa using hb) e) f0 f1 f3 f4 f5
  refine⟨_,rfl,Gn (s:={ s with heap:=h',toks:=tk }) (n:="range_iterator") st' rfl rfl (by decide) ⟨.int ((n:Int)-1-i),H,I1,⟨t,?_⟩,⟨rfl,rfl⟩,st',fun b hb=>(hf b hb).1⟩⟩
  congr 1
  omega
 done:=by
  intro X hP hw hK hc i pins s σ H E I hf st hg
  subst hP hw hK
  obtain⟨f0,f1,f2,f3,f4,f5⟩:=hf it (by simp)
  exact wpAny_pyNext_range_end (I.ok.hd hc) st (by have:n<=i:=hg; omega) fun h' eb=>⟨rfl,I.turned (t':=s.toks) (fun b o hb e=>eb b o hb e) f0 f1 f3 f4 f5⟩
 self:=fun _ _ _ _ _ st h=>Kr st h
section
variable {X:Cx}
theorem Cd:bootBuiltins "reversed" = some (.type "reversed"):=by decide +kernel
def V1 (ta:TA):TI:=fun σ H R=>ta σ H fun vs H1=>∃n:Nat,vs=[.int n]/\n<=1000000/\R (Ui n) H1
theorem RP {tg a:Expr} {p p2 pos pos2:Pos} {ta:TA} (hm:X.mg "reversed" = none) (hm2:X.mg "range" = none) (ha:PA X [a] ta) (hg:Gl X "reversed" := by rfl) (hg2:Gl X "range" := by rfl) (h1:bJ a=true:=by rfl) :
  PI X tg (.Call (.Name "reversed" p) [.Call (.Name "range" p2) [a] [] pos2] [] pos) (V1 ta):=by
 refine .mk ?_
 intro pins s σ H R I h
 refine uq (jj I hg hm Cd ?_ (by decide) (by decide))
 refine PyProof.Rows.callWith_type1 ?_ (bL rfl) (bO (es:=[]) rfl)
 rw[bL (e:=.Call (.Name "range" p2) [a] [] pos2) rfl]
 show wpAny _ _ (spliced ((false,eval (.Call (.Name "range" p2) [a] [] pos2) X.env)::backTo pos (starEach [] X.env))) _ _ s
 refine Calls.spliced_cons ?_
 refine uq (jj I hg2 hm2 MF ?_ (by decide) (by decide))
 refine PyProof.Rows.callWith_type1 (bN (ha pos2 pins s σ H _ I h) fun us s1 ⟨vs,H1,I1,r1,n,e,hn,q⟩=>?_) (bL h1) (bO (es:=[]) rfl)
 subst e
 obtain⟨u,rfl,t,rfl⟩:=r1.one
 refine call_range_1 ?_
 refine Calls.spliced_nil ?_
 refine vf (IsRange.new ..) (by omega) (by omega) ?_
 have k2:∀b o,s1.heap.get? b=some o->((s1.heap.push { cls:=.type "range",data:=.fields #[.int 0 s1.toks,.int (n:Int) t,.int 1 (s1.toks+1)] }).push (ug n)).get? b=some o:=fun b o e=>fM _ (fM _ e)
 have I2:=I1.kept (t':=s1.toks+1+1) k2
 generalize hh:s1.heap.push { cls:=.type "range",data:=.fields #[.int 0 s1.toks,.int (n:Int) t,.int 1 (s1.toks+1)] }=h1' at I2 ⊢
 have sz:s1.heap.objs.size<=h1'.objs.size:=by rw[<- hh,lg]; exact wG _
 have st:IsRangeIter (h1'.push (ug n)) h1'.objs.size ((n:Int)-1+((0:Nat):Int)*(-1)) ((n:Int)-((0:Nat):Int)) (-1):=by
  have e1:(n:Int)-1+((0:Nat):Int)*(-1)=(n:Int)-1:=by simp
  have e2:(n:Int)-((0:Nat):Int)=n:=by simp
  rw[e1,e2]
  exact j_ _ rfl
 refine Kr (s:={ s1 with heap:=h1'.push (ug n),toks:=s1.toks+1+1 }) (by exact st) ⟨h1'.objs.size,[h1'.objs.size],_,Ui n,H1,rfl,I2,JG _ n,st,fun b hb=>?_,q⟩
 rw[fP.mp hb]
 exact I1.uP sz (I1.hok.fresh sz)
def WY (g:TG) (tb:TS) (D:Ends) (σ:St) (vs:List V) (H1:Hp):Prop:=∃n:Nat,vs=[.int n]/\n<=1000000/\∃W:Nat->Nat->St->Hp->Prop,(∃m,W 0 m σ H1)/\∀i m σ H,W i m σ H ->
 ((Ui n).stop i H/\D.nx σ H)\/((Ui n).go i H/\∃N:St->Hp->Prop,(∀σ' H',N σ' H'->∃m',m'<m/\W (i+1) m' σ' H')/\∀x H',(Ui n).xG i H x H'->g x σ H' fun σ2 H2=>tb { D with nx:=N,ct:=N,bk:=D.nx } σ2 H2)
theorem JP {ta:TA} {g:TG} {tb:TS} {D:Ends} {σ:St} {H:Hp}:xN (V1 ta) g tb D σ H=ta σ H (WY g tb D σ):=rfl
theorem WY.of {g:TG} {tb:TS} {D:Ends} {σ:St} {H:Hp} {n:Nat} {i:Int} (ei:i=n) (hn:n<=1000000) (Pv:Nat->St->Hp->Prop) (h0:Pv 0 σ H)
  (hs:∀i σ H,i<n->Pv i σ H->g (.int ((n:Int)-1-(i:Nat))) σ H fun σ2 H2=>tb { D with nx:=Pv (i+1),ct:=Pv (i+1),bk:=D.nx } σ2 H2) (hd:∀σ H,Pv n σ H->D.nx σ H):WY g tb D σ [.int i] H:=by
 subst ei
 refine⟨n,rfl,hn,fun i m σ H=>m=n-i/\i<=n/\Pv i σ H,⟨n,rfl,dG _,h0⟩,?_⟩
 rintro i m σ H ⟨rfl,hi,p⟩
 by_cases hlt:i<n
 ·refine .inr ⟨hlt,Pv (i+1),fun σ' H' p'=>⟨n-(i+1),by omega,rfl,hlt,p'⟩,fun x H' y=>?_⟩
  obtain⟨e1,e2⟩:=y
  subst e1 e2
  exact hs i σ _ hlt p
 ·have e:i=n:=by omega
  subst e
  exact .inl ⟨bD _,hd σ H p⟩
end
structure Ew (K:PySem.W.Frag) (x qual:Str) (st:Stmt) (f:Addr) (fd:FuncData) (T:Addr) (i:Int) (t:Tok):Prop where
 ex:∃(oc:Value) (od:Option Addr) (kV doc pm:Value) (an:Option Addr) (cdv ct:Value) (osl:Array (Option Value)),
  fd=PySem.W.fnOf x qual (cZ st) (cA st) (aG st) (.ref T) kV doc pm an cdv ct/\K.lookup f=some ⟨oc,od,.func fd,osl⟩/\PySem.W.codeIn K cdv qual=true
 kp:PySem.W.keepIn K (.ref f)=true
 df:∃o n,K.lookup T=some o/\o.data=.seq #[.int i t] n
section
variable {P:Program} {w:World} {K:PySem.W.Frag} {mg:Str->Option Value} {base:Heap}
theorem Ew.ok {x qual:Str} {st:Stmt} {f T:Addr} {i:Int} {t:Tok} {fd:FuncData} {N ps:List Str} {k:Nat} {sp:Sp} (F:Ew K x qual st f fd T i t) (S:aQ N ps (aG st)) (len:∀vs H Q E,sp vs H Q E->vs.length=ps.length)
  (hb:∀(cdv:Value) (A:Around) (outer:List Env) (s:Shared) (H:Hp) (vs:List V) (Q:VK) (E:XK),eU k (A.deeper (envOfC qual (aG st) s.heap.objs.size f cdv))->sp vs H Q E ->
   ∃t,zL (fC gK P w K mg base N qual (aG st) f cdv A outer s H E).Ua (cA st) t/\t { nx:=fun _ H'=>Q .non H',rt:=Q } (start N vs) H):bG P w K mg base gK (k+1) f fd ps sp:=by
 obtain⟨oc,od,kV,doc,pm,an,cdv,ct,osl,rfl,lk,hcd⟩:=F.ex
 exact QR lk hcd S len fun A outer s H vs Q E hr hsp=>let ⟨t,h,q⟩:=hb cdv A outer s H vs Q E hr hsp; ⟨t,h.Ua,q⟩
theorem Ew.binds {x qual:Str} {st:Stmt} {f T:Addr} {i:Int} {t:Tok} {fd:FuncData} {ps:List Str} {ds:List Value} (F:Ew K x qual st f fd T i t)
  (h:∀(kV doc pm:Value) (an:Option Addr) (cdv ct:Value) (us:List Value),(us++ds).length=ps.length->∃k,bindArgs (PySem.W.fnOf x qual (cZ st) (cA st) (aG st) (.ref T) kV doc pm an cdv ct) ⟨us,[]⟩=seqItems? (.ref T) >>= k/\k (some #[.int i t])=pure (ps.zip (us++ds))):Binds K fd ps ds:=by
 obtain⟨oc,od,kV,doc,pm,an,cdv,ct,osl,rfl,lk,hcd⟩:=F.ex
 obtain⟨o,n,ho,hd⟩:=F.df
 intro s us KX hl
 obtain⟨k,h1,h2⟩:=h kV doc pm an cdv ct us hl
 exact BindsTo.of_defaults rfl (KX _ _ ho) hd h1 h2
end
structure M8 (P:Program) (w:World) (K:PySem.W.Frag) (mg:Str->Option Value) (base:Heap) (k:Nat) (x:Str) (ps:List Str) (i:Int) (sp:Sp) where
 f:Addr
 fd:FuncData
 t:Tok
 G:bG P w K mg base gK k f fd ps sp
 kp:PySem.W.keepIn K (.ref f)=true
 b:Binds K fd ps []
 bd:Binds K fd ps [.int i t]
 m:mg x=some (.ref f)
def M8.mono {P:Program} {w:World} {K:PySem.W.Frag} {mg:Str->Option Value} {base:Heap} {j k:Nat} {x:Str} {ps:List Str} {i:Int} {sp:Sp} (c:M8 P w K mg base j x ps i sp) (h:j<=k):M8 P w K mg base k x ps i sp:={ c with G:=c.G.mono h }
section
variable {X:Cx} {x:Str} {p pos:Pos} {e:Expr} {es:List Expr} {t:TA}
theorem Wx {k:Nat} {ps:List Str} {i:Int} {sp:Sp} (c:M8 X.prog X.w X.K X.mg X.base k x ps i sp) (hr:eU k X.A) (ha:PA X (e::es) t) (hg:Gl X x:=by rfl) (hdb:(x==("__debug__" : Str))=false:=by decide) (h1:bJ e=true:=by rfl) (h2:es.all bJ=true:=by rfl) :
  PE X (.Call (.Name x p) (e::es) [] pos) (mY sp [.int i] E0 t):=yD c.G hr hg c.m c.kp c.bd (.cons ⟨_,rfl⟩ .nil) K9 ha hdb (bL h1) (bO h2)
theorem ZZ {k:Nat} {ps:List Str} {i:Int} {sp:Sp} (c:M8 X.prog X.w X.K X.mg X.base k x ps i sp) (hr:eU k X.A) (ha:PA X (e::es) t) (hg:Gl X x:=by rfl) (hdb:(x==("__debug__" : Str))=false:=by decide) (h1:bJ e=true:=by rfl) (h2:es.all bJ=true:=by rfl) :
  PE X (.Call (.Name x p) (e::es) [] pos) (mY sp [] E0 t):=yD c.G hr hg c.m c.kp c.b .nil K9 ha hdb (bL h1) (bO h2)
end
section
variable {X:Cx}
end
def LK (K:PySem.W.Frag) (g:TG) (tb:TS) (D:Ends) (σ:St) (x:V) (H1:Hp):Prop:=∃a,x=.ref a/\(∃xs,fQ K H1 a xs)/\∃W:Nat->Nat->St->Hp->Prop,(∃m,W 0 m σ H1)/\∀i m σ H,W i m σ H ->
 ((Q3 K a).stop i H/\D.nx σ H)\/((Q3 K a).go i H/\∃N:St->Hp->Prop,(∀σ' H',N σ' H'->∃m',m'<m/\W (i+1) m' σ' H')/\∀x H',(Q3 K a).xG i H x H'->g x σ H' fun σ2 H2=>tb { D with nx:=N,ct:=N,bk:=D.nx } σ2 H2)
theorem oX {K:PySem.W.Frag} {tl:TE} {g:TG} {tb:TS} {D:Ends} {σ:St} {H:Hp}:xN (j8 K tl) g tb D σ H=tl σ H (LK K g tb D σ):=rfl
theorem LK.of {K:PySem.W.Frag} {g:TG} {tb:TS} {D:Ends} {σ:St} {H:Hp} {a:Addr} {xs:List V} (ha:H a=some (.lst xs)) (Pv:Nat->St->Hp->Prop) (h0:Pv 0 σ H) (hl:∀i σ H',i<=xs.length->Pv i σ H'->H' a=some (.lst xs))
  (hs:∀i x σ H,xs[i]?=some x->Pv i σ H->g x σ H fun σ2 H2=>tb { D with nx:=Pv (i+1),ct:=Pv (i+1),bk:=D.nx } σ2 H2) (hd:∀σ H,Pv xs.length σ H->D.nx σ H):LK K g tb D σ (.ref a) H:=
 ⟨a,rfl,⟨xs,fQ.of ha⟩,Mq (xs:=xs) Pv h0 (fun i σ H' hi p=>fQ.of (hl i σ H' hi p)) hs hd⟩
end L2
namespace L2
open PySem
mutual
def nZ:PyData->Bool
 | .tuple ds=>bC ds
 | .list _=>false
 | .dict _=>false
 | .none=>true
 | .bool _=>true
 | .int _=>true
 | .str _=>true
def bC:List PyData->Bool
 | []=>true
 | d::ds=>nZ d&&bC ds
end
theorem cC:∀{ds:List PyData},bC ds=true↔∀d∈ds,nZ d=true
 | []=>by simp[bC]
 | d::ds=>by
  have ih:=cC (ds:=ds)
  simp only[bC,uo,ih,dZ,forall_eq_or_imp]
mutual
theorem At.vP {G:Hp} {p:Addr} {xs:List V} (hp:G p=some (.lst xs)):∀(d:PyData) (v:V),nZ d=true->At G d v->At (hid p G) d v
 | .none,_,_,h=>by unfold At at h ⊢; exact h
 | .bool _,_,_,h=>by unfold At at h ⊢; exact h
 | .int _,_,_,h=>by unfold At at h ⊢; exact h
 | .str _,_,_,h=>by unfold At at h ⊢; exact h
 | .tuple ds,v,n,h=>by
  unfold At at h ⊢
  obtain⟨a,ys,e,h1,h2⟩:=h
  refine⟨a,ys,e,?_,ak.vP hp ds ys (by simpa[nZ] using n) h2⟩
  rw[bM (fun z=>by subst z; rw[hp] at h1; cases h1)]; exact h1
 | .list _,_,n,_=>by simp[nZ] at n
 | .dict _,_,n,_=>by simp[nZ] at n
theorem ak.vP {G:Hp} {p:Addr} {xs:List V} (hp:G p=some (.lst xs)):∀(ds:List PyData) (ys:List V),bC ds=true->ak G ds ys->ak (hid p G) ds ys
 | [],_,_,h=>by unfold ak at h ⊢; exact h
 | d::ds,ys,n,h=>by
  unfold ak at h ⊢
  obtain⟨x,r,e,h1,h2⟩:=h
  have n':nZ d=true/\bC ds=true:=by simpa[bC] using n
  exact⟨x,r,e,At.vP hp d x n'.1 h1,ak.vP hp ds r n'.2 h2⟩
end
theorem sW:∀l:List Int,(∀c∈l,0<=c)->0<=l.sum
 | [],_=>by simp
 | x::l,h=>by rw[Hs]; have:=sW l fun c hc=>h c (gQ _ hc); have:=h x fO; omega
theorem uI:∀{l:List Int},(∀c∈l,0<=c)->∀c∈l,c<=l.sum
 | [],_,c,hc=>by simp at hc
 | x::l,h,c,hc=>by
  rw[Hs]
  have h0:=sW l fun c hc=>h c (gQ _ hc)
  rcases dZ.mp hc with z | z
  ·rw[z]; omega
  ·have:=uI (fun c hc=>h c (gQ _ hc)) c z
   have:=h x fO
   omega
theorem iu {b:Nat}:∀{cs:List Int},(∀c∈cs,c.natAbs<=b)->aH b 0 (502*cs.length) (cs.map PyData.int)
 | [],_=>lG
 | c::cs,h=>by
  have:=(aH.one (dW (h c fO))).append (iu fun x hx=>h x (gQ _ hx))
  exact this.mono (bD _) (bD _) (by rw[nQ]; omega)
theorem jx:∀ws:List Int,PyData.hasDictAll (ws.map .int)=false/\PyData.canLayAll0 (ws.map .int)=true/\PyData.depthAll (ws.map .int)=0
 | []=>⟨rfl,rfl,rfl⟩
 | w::ws=>by
  obtain⟨h1,h2,h3⟩:=jx ws
  refine⟨?_,?_,?_⟩
  ·show(PyData.hasDict (.int w) || PyData.hasDictAll (ws.map .int))=false
   rw[h1]; rfl
  ·show(PyData.canLay0 (.int w)&&PyData.canLayAll0 (ws.map .int))=true
   rw[h2]; rfl
  ·show max (PyData.depth (.int w)) (PyData.depthAll (ws.map .int))=0
   rw[h3]; rfl
theorem take_snoc {α:Type} {l:List α} {i:Nat} {c:α} (h:l[i]?=some c):l.take (i+1)=l.take i++[c]:=by
 obtain⟨hi,e⟩:=iM.mp h
 rw[List.take_succ_eq_append_getElem hi,e]
theorem SX.same {p:Addr} {H H':Hp} (hp:H p=none) (s:SX p H H'):aA H H':=fun b o h=>by
 have hb:b≠p:=fun z=>by rw[z,hp] at h; cases h
 exact s.get hb h
theorem wJ {ts:List Str} {i:Int} (h0:0<=i) (h1:i<ts.length):∃t,t∈ts/\Cq (ts.map V.str) i=some (.str t):=by
 have hi:i.toNat<ts.length:=by omega
 refine⟨ts[i.toNat],Dl hi,?_⟩
 have:=aP (xs:=ts.map V.str) (j:=i.toNat) (v:=.str ts[i.toNat]) (by rw[dz,jg hi]; rfl)
 rwa [show((i.toNat:Nat):Int)=i by omega] at this
theorem mL {ts:List Int} {i:Int} (h0:0<=i) (h1:i<ts.length):∃t,t∈ts/\Cq (ts.map V.int) i=some (.int t):=by
 have hi:i.toNat<ts.length:=by omega
 refine⟨ts[i.toNat],Dl hi,?_⟩
 have:=aP (xs:=ts.map V.int) (j:=i.toNat) (v:=.int ts[i.toNat]) (by rw[dz,jg hi]; rfl)
 rwa [show((i.toNat:Nat):Int)=i by omega] at this
def eE (a b:TS):TS:=Hh a b
theorem tG (i:Nat) {e:TE} {b:TS}:Hh (zZ e (cF i)) b=eE (zZ e (cF i)) b:=rfl
theorem Vh {c:TT} {b:TS}:Hh (Nu c (Nt (tC (V.bl false))) EY) b=eE (Nu c (Nt (tC (V.bl false))) EY) b:=rfl
theorem eE.of {a b:TS} {D:Ends} {σ:St} {H:Hp} (R:St->Hp->Prop) (hR:∀σ' H',R σ' H'->b D σ' H') (h:∀N:St->Hp->Prop,(∀σ' H',R σ' H'->N σ' H')->a { D with nx:=N } σ H):eE a b D σ H:=h _ hR
theorem eE.on {a b:TS} {D:Ends} {σ:St} {H:Hp} (hR:∀H',aA H H'->b D σ H') (h:∀N:St->Hp->Prop,(∀H',aA H H'->N σ H')->a { D with nx:=N } σ H):eE a b D σ H:=
 eE.of (fun σ' H'=>σ'=σ/\aA H H') (fun σ' H' z=>by rw[z.1]; exact hR H' z.2) fun N hN=>h N fun H' s=>hN _ _ ⟨rfl,s⟩
theorem Pg {α:Type} {l:List α} (h:l.length=5):∃a b c d e,l=[a,b,c,d,e]:=by
 match l,h with
 | [a,b,c,d,e],_=>exact⟨a,b,c,d,e,rfl⟩
theorem X8 {α:Type} {l:List α} (h:l.length=7):∃a b c d e f g,l=[a,b,c,d,e,f,g]:=by
 match l,h with
 | [a,b,c,d,e,f,g],_=>exact⟨a,b,c,d,e,f,g,rfl⟩
theorem aA.dw {H H':Hp} {p:Addr} {o:HO} (s:aA H H') (hp:H p=none):aA H (upd H' p o):=fun b u h=>by rw[aJ (bH h hp)]; exact s _ _ h
theorem nY {ds:List PyData} (h:bC ds=true) {i:Nat} {d:PyData} (e:ds[i]?=some d):nZ d=true:=cC.mp h d (vK e)
theorem GC {K:PySem.W.Frag} {js:List Nat} {a:Addr} {xs:List V} {es:List PyData} {tl te:TE} {σ:St} {H:Hp} {Q:VK} (hl:∀R:VK,R (.ref a) H->tl σ H R) (ha:H a=some (.lst xs)) (hn:es.length=xs.length) (hz:es.length<=sizeLine) (hL:bC es=true)
  (step:∀(i:Nat) x e H',xs[i]?=some x->es[i]?=some e->aA H H'->∀R:VK,(∀v cV,aA H' cV->At cV e v->R v cV)->te (some x::bK js σ) H' R)
  (fin:∀acc ys H',aA H H'->H acc=none->H' acc=some (.lst ys)->ak (hid acc H') es ys->Q (.ref acc) H'):dM js (j8 K tl) te σ H Q:=by
 refine hl _ ⟨a,rfl,⟨xs,fQ.of ha⟩,fun acc hacc=>?_⟩
 refine⟨fun i m ys H2=>m=es.length-i/\i<=es.length/\ak (hid acc H2) (es.take i) ys/\aA H H2/\H2 acc=some (.lst ys),⟨_,rfl,dG _,ak.nil,aM hacc _,az⟩,?_⟩
 rintro i m ys H2 ⟨rfl,hi,hA,sm,hy⟩
 have ht:fQ K H2 a xs:=fQ.of (sm _ _ ha)
 by_cases hlt:i<es.length
 ·refine .inr ⟨⟨xs,xs[i]'(by omega),ht,jg (by omega)⟩,fun x H3 y=>?_⟩
  obtain⟨e,y⟩:=y
  subst e
  have e1:es[i]?=some es[i]:=jg hlt
  refine step i x _ _ (y xs ht) e1 sm _ fun v H4 s4 a4=>⟨s4 _ _ hy,?_,es.length-(i+1),by omega,rfl,hlt,?_,?_,az⟩
  ·rw[hA.length,pI]; omega
  ·rw[ik,yg,e1]
   exact ak.append (hA.mono (aA.hid s4)) (ak.cons (At.vP (s4 _ _ hy) _ _ (nY hL e1) a4) ak.nil)
  ·refine fun b o q=>?_
   have nb:b≠acc:=bH q hacc
   rw[aJ nb]
   exact s4 _ _ (sm _ _ q)
 ·have e:i=es.length:=by omega
  subst e
  rw[qF] at hA
  exact .inl ⟨⟨xs,ht,by omega⟩,fin _ _ _ sm hacc hy hA⟩
end L2
namespace L2
open PySem PySem.Spec PyProof.Rows
section
variable {X:Cx}
end
structure mF (X:Cx) (nt:Nat) (N':List Str) (js:List Nat) (sc:Scope):Prop where
 kind:sc.kind=.function
 gf:∀y∈sc.names,y.2≠.cell
 names:∀y∈sc.names,y.2=.local->sc.names.lookup y.1=some .local
 clos:closureFor sc X.env=pure (oA sc X.env)
 all:(sc.names.all fun y=>y.2 != .free || (X.env.cells.lookup y.1).isSome)=true
 len:N'.length=nt+js.length
 cap:∀(i j:Nat),js[i]?=some j->N'[nt+i]?=X.N[j]?
 Mx:∀y∈N'.drop nt,X.env.kindOf y=some .cell/\sc.names.lookup y=some .free
theorem vd:∀(names:List (Str×NameKind)) (h:Heap) (acc:List (Str×Addr)) (x:Str) (c:Addr),(cellsFrom h.objs.size names acc).lookup x=some c->((pushCells h names).IsCell c none/\h.objs.size<=c)\/(acc.lookup x=some c/\(x,NameKind.cell)∉names)
 | [],h,acc,x,c,e=>.inr ⟨e,by simp⟩
 | (name,kind)::r,h,acc,x,c,e=>by
  unfold cellsFrom at e
  unfold pushCells
  split at e
  ·rename_i hk
   have hk':kind=.cell:=by simpa using hk
   rw[bc hk]
   have:=vd r (h.push { cls:=.type "cell",data:=.cell none }) ((name,h.objs.size)::acc) x c (by rw[lg]; exact e)
   rw[lg] at this
   rcases this with⟨z,z'⟩ | ⟨z,z'⟩
   ·exact .inl ⟨z,by omega⟩
   ·rw[j9] at z
    cases hx:x==name with
    | true=>
     rw[hx] at z
     cases z
     refine .inl ⟨?_,bD _⟩
     exact⟨_,pushCells_keeps r _ _ _ (j_ _ rfl),rfl⟩
    | false=>
     rw[hx] at z
     refine .inr ⟨z,fun m=>?_⟩
     rcases dZ.mp m with q | q
     ·have:x=name:=(Prod.mk.inj q).1
      simp[this] at hx
     ·exact z' q
  ·rename_i hk
   rw[aX hk]
   rcases vd r h acc x c e with z | ⟨z,z'⟩
   ·exact .inl z
   ·refine .inr ⟨z,fun m=>?_⟩
    rcases dZ.mp m with q | q
    ·exact hk (by rw[<- (Prod.mk.inj q).2]; rfl)
    ·exact z' q
theorem Ei:∀(names:List (Str×NameKind)) (n:Nat) (acc:List (Str×Addr)),(∀x y c,acc.lookup x=some c->acc.lookup y=some c->x=y)->(∀x c,acc.lookup x=some c->c<n) ->
  (∀x y c,(cellsFrom n names acc).lookup x=some c->(cellsFrom n names acc).lookup y=some c->x=y)/\True
 | [],n,acc,h,_=>⟨h,trivial⟩
 | (name,kind)::r,n,acc,h,hb=>by
  unfold cellsFrom
  split
  ·refine Ei r (n+1) ((name,n)::acc) (fun x y c e1 e2=>?_) (fun x c e=>?_)
   ·rw[j9] at e1 e2
    cases hx:x==name with
    | true=>
     rw[hx] at e1
     cases e1
     cases hy:y==name with
     | true=>rw[beq_iff_eq.mp hx,beq_iff_eq.mp hy]
     | false=>rw[hy] at e2; exact absurd (hb _ _ e2) (rM _)
    | false=>
     rw[hx] at e1
     cases hy:y==name with
     | true=>rw[hy] at e2; cases e2; exact absurd (hb _ _ e1) (rM _)
     | false=>rw[hy] at e2; exact h x y c e1 e2
   ·rw[j9] at e
    cases hx:x==name with
    | true=>rw[hx] at e; cases e; exact Kh _
    | false=>rw[hx] at e; exact Hy (hb _ _ e)
  ·exact Ei r n acc h hb
theorem Ej {x:Str}:∀(names:List (Str×NameKind)) (n:Nat) (acc:List (Str×Addr)),((x,NameKind.cell)∈names\/(acc.lookup x).isSome=true)->((cellsFrom n names acc).lookup x).isSome=true
 | [],n,acc,h=>by
  rcases h with h | h
  ·simp at h
  ·exact h
 | (name,kind)::r,n,acc,h=>by
  unfold cellsFrom
  split
  ·rename_i hk
   refine Ej r (n+1) _ ?_
   rcases h with h | h
   ·rcases dZ.mp h with q | q
    ·refine .inr ?_
     rw[j9,(Prod.mk.inj q).1]
     simp
    ·exact .inl q
   ·refine .inr ?_
    rw[j9]
    split
    ·rfl
    ·exact h
  ·rename_i hk
   refine Ej r n acc ?_
   rcases h with h | h
   ·rcases dZ.mp h with q | q
    ·exact absurd (by rw[<- (Prod.mk.inj q).2]; rfl) hk
    ·exact .inl q
   ·exact .inr h
theorem zq {x:Str} {c:Addr}:∀(names:List (Str×NameKind)) (n:Nat) (acc:List (Str×Addr)),(x,NameKind.cell)∉names->acc.lookup x=some c->(cellsFrom n names acc).lookup x=some c
 | [],n,acc,_,e=>e
 | (name,kind)::r,n,acc,h,e=>by
  unfold cellsFrom
  split
  ·rename_i hk
   refine zq r (n+1) _ (fun m=>h (gQ _ m)) ?_
   rw[j9]
   cases hx:x==name with
   | true=>
    have hk':kind=.cell:=by simpa using hk
    exact absurd (by rw[beq_iff_eq.mp hx,hk']; exact fO) h
   | false=>exact e
  ·exact zq r n acc (fun m=>h (gQ _ m)) e
theorem gZ {env:Env}:∀{names:List (Str×NameKind)} {x:Str},names.lookup x=some .cell ->
  (names.map fun(n,k)=>if(k==NameKind.free&&env.scope.kind==.function&&env.kindOf n==some .cell) then(n,NameKind.cell) else(n,k)).lookup x=some .cell
 | [],_,h=>by simp at h
 | (n,k)::r,x,h=>by
  have ih:=@gZ env r x
  show List.lookup x ((if(k==NameKind.free&&env.scope.kind==.function&&env.kindOf n==some .cell)=true then(n,NameKind.cell) else(n,k))::_)=_
  cases hx:x==n with
  | true=>
   simp only[j9,hx] at h
   cases h
   simp[j9,hx]
  | false=>
   simp only[j9,hx] at h
   by_cases hc:(k==NameKind.free&&env.scope.kind==.function&&env.kindOf n==some .cell)=true
   ·rw[bc hc]; simp only[j9,hx]; exact ih h
   ·rw[aX hc]; simp only[j9,hx]; exact ih h
theorem vD {M:Model} {A:Around} {E:Value->Shared->Prop} {s:Shared} {scope:Scope} {globals:Addr} {cl:List (Str×Addr)} {qual:Str} {env:Env} {Q:Env->Shared->Prop}
  (hQ:Q { scope,locals:=s.heap.objs.size,globals,cells:=cellsFrom (s.heap.objs.size+1) scope.names cl,qual,func:=none,code:=env.code,frame:=env.frame,builtins:=env.builtins } { s with heap:=pushCells (s.heap.push { cls:=.type "dict",data:=.dict #[] }) scope.names }) :
  wpAny M A (newFunctionEnv scope globals cl [] qual none .none (some env)) Q E s:=by
 simp only[newFunctionEnv,Option.isSome_some,if_true]
 refine aW (wpAny_alloc ?_)
 refine aW (wpAny_layCells _ (fun name kind cells=>by cases hkc:kind==NameKind.cell <;> simp[hkc]) _ _ _ _ ?_)
 rw[show({ s with heap:=s.heap.push { cls:=.type "dict",data:=.dict #[] } }:Shared).heap.objs.size=s.heap.objs.size+1 from lg ..]
 simp only[List.forIn_nil]
 exact aW (bR (bR hQ))
def zf (X:Cx) (N':List Str) (sc:Scope) (fp:List Addr) (s:Shared) (H:Hp):Cx where
 prog:=X.prog
 w:=X.w
 K:=X.K
 mg:=X.mg
 base:=X.base
 A:=X.A
 N:=N'
 s₀:=s
 H₀:=H
 env:=compEnvC sc (cellsFrom (s.heap.objs.size+1) sc.names (oA sc X.env)) s.heap.objs.size X.env
 outer:=X.stack
 stack:=X.stack
 ex:=fp
 fn:=fun y=>sc.names.lookup y==some .cell
 calm:=X.calm
 pn:=[]
 xe:=fun _ _=>False
structure Cm (X:Cx) (nt:Nat) (N':List Str) (js:List Nat) (sc:Scope):Prop where
 kind:sc.kind=.function
 cells:∀y∈sc.names,y.2=.cell->sc.names.lookup y.1=some .cell
 names:∀y∈sc.names,y.2=.local->sc.names.lookup y.1=some .local
 clos:closureFor sc X.env=pure (oA sc X.env)
 all:(sc.names.all fun y=>y.2 != .free || (X.env.cells.lookup y.1).isSome)=true
 len:N'.length=nt+js.length
 cap:∀(i j:Nat),js[i]?=some j->N'[nt+i]?=X.N[j]?
 Mx:∀y∈N'.drop nt,X.env.kindOf y=some .cell/\sc.names.lookup y=some .free
theorem wV {X:Cx} {pins:List (Addr×Obj)} {σ:St} {H:Hp} {s:Shared} {fp:List Addr} {N':List Str} {js:List Nat} {sc:Scope} {nt:Nat} {h1:Heap} {tk:Nat} (I:Inv X pins σ H s) (hf:∀b∈fp,gH X pins H b) (hlt:∀b∈fp,b<s.heap.objs.size)
  (S:Cm X nt N' js sc) (zr:∀{x:Str} {c:Addr},(cellsFrom (s.heap.objs.size+1) sc.names (oA sc X.env)).lookup x=some c->(h1.IsCell c none/\s.heap.objs.size<c)\/((oA sc X.env).lookup x=some c/\(x,NameKind.cell)∉sc.names)) (hn:h1.Ns s.heap.objs.size fun _=>none) (hk:∀b o,s.heap.get? b=some o->h1.get? b=some o):Inv (zf X N' sc fp s H) [] (List.replicate nt none++bK js σ) H { s with heap:=h1,toks:=tk }:=by
 have old:∀x c,(oA sc X.env).lookup x=some c->c<s.heap.objs.size+1:=fun x c e=>by
  obtain⟨v,o,ho,_⟩:=I.cell x c (gw e)
  exact Hy (eQ ho)
 refine⟨⟨I.ok.mod,S.kind,I.ok.glob,I.ok.blt,bD _,fun x y c e1 e2=>(Ei sc.names _ _ (fun x y c e1 e2=>I.ok.inj x y c (gw e1) (gw e2)) old).1 x y c e1 e2,fun x hx=>?_,fun x c hf' e=>(by
   rcases zr e with z | ⟨_,z⟩
   ·exact jH z.2
   ·exact absurd (PySem.mem_of_lookup (show sc.names.lookup x=some .cell from by simpa using(show(sc.names.lookup x==some NameKind.cell)=true from hf'))) z),I.ok.hd,I.ok.frames,.inl rfl,fun b hb=>⟨dH (hlt b hb),fun x c e=>(by
   rcases zr e with z | ⟨z,_⟩
   ·exact Ao (wI (hlt b hb) z.2)
   ·exact(hf b hb).2.2.2.2.1 x c (gw z))⟩,I.bs,
  fK I.ok.MK I.sz,fun b o e hb=>?_,fun b hb z=>?_,I.stack,I.sr⟩,rfl,I.bare,Un.kept hk,⟨fun _=>none,hn,fun i x v e1 e2 e3=>?_⟩,fun x c e=>?_,I.hok.fresh (bD _),fun x c e=>(by
   rcases zr e with z | ⟨z,_⟩
   ·exact I.hok.fresh (jH z.2)
   ·exact I.jz x c (gw z)),fun p hp=>absurd (show p∈([]:List (Addr×Obj)) from hp) (by simp),I.hok.kept hk,?_⟩
 ·refine Kq.mp (Ej sc.names _ _ ?_)
  have hx':(relabel sc X.env).names.lookup x=some .cell\/(relabel sc X.env).names.lookup x=some .free:=hx
  have key:(x,NameKind.cell)∈sc.names\/(x,NameKind.free)∈sc.names:=by
   rcases hx' with q | q
   ·obtain⟨k,hm,e | ⟨e,_⟩⟩:=rB q
    ·rw[<- e] at hm; exact .inl hm
    ·refine .inr ?_; rw[<- e]; exact hm
   ·refine .inr ?_
    obtain⟨k,hm,e | ⟨e,_⟩⟩:=rB q
    ·rw[e]; exact hm
    ·rw[<- e]; exact hm
  rcases key with key | key
  ·exact .inl key
  have a:=pH.mp S.all _ key
  have a':(X.env.cells.lookup x).isSome=true:=by simpa using a
  obtain⟨c,hc⟩:=Kq.mp a'
  exact .inr (Kq.mpr ⟨c,Eh hc sc.names [] key⟩)
 ·rcases(hf b hb).2.2.2.1 with z | z
  ·exact I.ok.DP b o e z
  ·exact absurd (lD (eQ e) (fK I.ok.MK z)) (rM _)
 ·rcases dZ.mp (I.CV b z) with q | q
  ·exact(hf b hb).2.1 q
  ·exact(hf b hb).2.2.1 q
 ·by_cases hlt:i<nt
  ·rw[Dp (by rw[yq]; exact hlt),Ku,bc hlt] at e2
   cases e2
  ·obtain⟨i',rfl⟩:∃i',i=nt+i':=⟨i-nt,by omega⟩
   rw[Al (by rw[yq]; omega),yq,Nat.add_sub_cancel_left] at e2
   have e2':(bK js σ)[i']?=some (some v):=e2
   unfold bK at e2'
   rw[dz] at e2'
   cases hj:js[i']? with
   | none=>rw[hj] at e2'; simp at e2'
   | some j=>
    rw[hj] at e2'
    have e4:(σ[j]?).join=some v:=by simpa using e2'
    have e5:σ[j]?=some (some v):=by
     cases q:σ[j]? with
     | none=>rw[q] at e4; simp at e4
     | some z=>rw[q] at e4; simp at e4; rw[e4]
    have e6:X.N[j]?=some x:=by rw[<- S.cap i' j hj]; exact e1
    have mem:x∈N'.drop nt:=by
     have e1':N'[nt+i']?=some x:=e1
     exact vK (i:=i') (by rw[Fy]; exact e1')
    obtain⟨k1,k2⟩:=S.Mx x mem
    obtain⟨m,_,hl⟩:=I.loc
    obtain⟨u,r,l⟩:=hl j x v e6 e5 (.inr (.inl k1))
    refine⟨u,r,.inr ⟨.inl (pG I.ok.kind k1 sc.names k2),?_⟩⟩
    rcases l with⟨z,_⟩ | ⟨_,c,hc,hcell⟩
    ·rw[k1] at z; cases z
    ·obtain⟨o,ho,hd⟩:=hcell
     exact⟨c,zq sc.names _ _ (fun z=>by have:=S.cells _ z rfl; rw[k2] at this; cases this) (Eh hc sc.names [] (PySem.mem_of_lookup k2)),o,hk c o ho,hd⟩
 ·rcases zr e with z | ⟨z,_⟩
  ·exact⟨none,z.1⟩
  ·obtain⟨v,o,ho,hd⟩:=I.cell x c (gw z)
   exact⟨v,o,hk c o ho,hd⟩
 ·show(List.replicate nt none++bK js σ).length=N'.length
  rw[S.len]; simp[bK]
theorem zp:∀{names:List (Str×NameKind)} {n:Nat} {acc:List (Str×Addr)},(∀y∈names,y.2≠.cell)->cellsFrom n names acc=acc
 | [],_,_,_=>rfl
 | (name,kind)::r,n,acc,h=>by
  unfold cellsFrom
  rw[aX (fun z=>h _ fO (by simpa using z))]
  exact zp fun y hy=>h y (gQ _ hy)
theorem uV {X:Cx} {N':List Str} {sc:Scope} {fp:List Addr} {s:Shared} {H:Hp} (h:∀y∈sc.names,y.2≠.cell):ou X N' sc fp s H=zf X N' sc fp s H:=by
 have e:(fun _:Str=>false)=fun y=>sc.names.lookup y==some .cell:=funext fun y=>by
  cases z:sc.names.lookup y==some NameKind.cell with
  | false=>rfl
  | true=>exact absurd rfl (h _ (PySem.mem_of_lookup (by simpa using z)))
 unfold ou zf
 rw[zp h,e]
theorem mF.toD {X:Cx} {nt:Nat} {N':List Str} {js:List Nat} {sc:Scope} (S:mF X nt N' js sc):Cm X nt N' js sc:=⟨S.kind,fun y hy e=>absurd e (S.gf y hy),S.names,S.clos,S.all,S.len,S.cap,S.Mx⟩
theorem Io {X:Cx} {pins:List (Addr×Obj)} {σ:St} {H:Hp} {s:Shared} {fp:List Addr} {N':List Str} {js:List Nat} {sc:Scope} {nt:Nat} {h1:Heap} {tk:Nat} (I:Inv X pins σ H s) (hf:∀b∈fp,gH X pins H b) (hlt:∀b∈fp,b<s.heap.objs.size)
  (S:mF X nt N' js sc) (hn:h1.Ns s.heap.objs.size fun _=>none) (hk:∀b o,s.heap.get? b=some o->h1.get? b=some o):Inv (ou X N' sc fp s H) [] (List.replicate nt none++bK js σ) H { s with heap:=h1,toks:=tk }:=by
 rw[uV S.gf]
 exact wV I hf hlt S.toD (fun {x c} e=>by rw[zp S.gf] at e; exact .inr ⟨e,fun z=>S.gf _ z rfl⟩) hn hk
structure zM (X:Cx) (ifs:List Expr) (t:TT):Prop where
 mk ::
 go:∀(pins:List (Addr×Obj)) (s:Shared) (σ:St) (H:Hp) (Q:Bool->Hp->Prop),Inv X pins σ H s->t σ H Q->wpAny (model X.prog X.w) X.A (forIn ifs true fun c r=>if r=true then do let ok <- isTrue c X.env (eval c X.env); pure (ForInStep.yield ok) else pure (ForInStep.yield r)) (TP X pins σ Q) X.xe s
instance {X:Cx} {ifs:List Expr} {t:TT}:CoeFun (zM X ifs t) (fun _=>
 ∀(pins:List (Addr×Obj)) (s:Shared) (σ:St) (H:Hp) (Q:Bool->Hp->Prop),Inv X pins σ H s->t σ H Q->wpAny (model X.prog X.w) X.A (forIn ifs true fun c r=>if r=true then do let ok <- isTrue c X.env (eval c X.env); pure (ForInStep.yield ok) else pure (ForInStep.yield r)) (TP X pins σ Q) X.xe s):=⟨zM.go⟩
def ql:TT:=fun _ H Q=>Q true H
theorem jQ {X:Cx}:zM X [] ql:=.mk fun pins s σ H Q I h=>wpAny_tests_nil ⟨H,I,h⟩
theorem Gk {X:Cx} {c:Expr} {t:TT} (h:PT X c t):zM X [c] t:=.mk fun pins s σ H Q I q=>wpAny_tests_one (h pins s σ H Q I q)
def d8 (nt:Nat) (js:List Nat) (wi:TI) (g:TG) (tc:TT) (te:TE):TE:=fun σ H Q=>wi σ H fun J H1=>∀acc,H1 acc=none->∃W:Nat->Nat->List V->Hp->Prop,(∃m,W 0 m [] (upd H1 acc (.lst [])))/\∀i m ys H2,W i m ys H2 ->
 (J.stop i H2/\Q (.ref acc) H2)\/(J.go i H2/\∀x H3,J.xG i H2 x H3->g x (List.replicate nt none++bK js σ) H3 fun σ' H'=>(σ'.drop nt=bK js σ/\σ'.length=(List.replicate nt (none:Option V)++bK js σ).length)/\tc σ' H' fun b cV=>
  if b=true then te σ' cV fun y H4=>H4 acc=some (.lst ys)/\ys.length<sizeLine/\∃m',m'<m/\W (i+1) m' (ys++[y]) (upd H4 acc (.lst (ys++[y]))) else ∃m',m'<m/\W (i+1) m' ys cV)
theorem zj {prog:Program} {w:World} {A:Around} {R:Result->Shared->Prop} {s:Shared} {elt target iter:Expr} {ifs:List Expr} {sc:Scope} {pos:Pos} {it acc:Value} {env:Env} (Iv:Nat->Shared->Prop)
  (turn:∀n s,Iv n s->wpAny (model prog w) A (pyNext it) (fun r s1=>match r with
   | none=>R (.ok .next) s1
   | some v=>wpAny (model prog w) A (letOwnedTupleGo target it v) (fun _ s2=>wpAny (model prog w) A (assign target env v) (fun _ s3=>
     wpAny (model prog w) A (forIn ifs true fun c r=>if r=true then do let ok <- isTrue c env (eval c env); pure (ForInStep.yield ok) else pure (ForInStep.yield r)) (fun ok Xn=>
     if ok=true then wpAny (model prog w) A (eval elt env) (fun x s4=>
     wpAny (model prog w) A (call (.builtin "list.append") [acc,x]) (fun _ s5=>∃m,m<n/\Iv m s5) (fun _ _=>False) s4) (fun _ _=>False) Xn else ∃m,m<n/\Iv m Xn) (fun _ _=>False) s3) (fun _ _=>False) s2) (fun _ _=>False) s1) (fun _ _=>False) s)
  (n:Nat) (h:Iv n s):codeAny (model prog w) A (.compLoop (.ListComp elt [⟨target,iter,ifs,0⟩] sc pos) 0 it acc env) R s:=by
 refine codeAny_loop rfl Iv (fun n s hI=>?_) n h
 show wpAny _ _ ((compTurn (.ListComp elt [⟨target,iter,ifs,0⟩] sc pos) 0 it acc env).onRaise (fun x=>do noteFrame x env; theTreesLotGoes x)) _ _ s
 refine wpAny_noted ?_
 rw[compTurn_list]
 refine aW (ye (aW (dN (turn n s hI) (fun r s1 q1=>?_) fun _ _ f=>f.elim)))
 cases r with
 | none=>exact bR q1
 | some v=>
  refine aW (dN q1 (fun _ s2 q2=>?_) fun _ _ f=>f.elim)
  refine aW (dN q2 (fun _ s3 q3=>aW (dN q3 (fun ok Xn ZX=>?_) fun _ _ f=>f.elim)) fun _ _ f=>f.elim)
  cases ok with
  | false=>exact bR ⟨rfl,ZX⟩
  | true=>exact aW (aW (dN ZX (fun x s4 q4=>aW (dN q4 (fun _ s5 q5=>bR (bR ⟨rfl,q5⟩)) fun _ _ f=>f.elim)) fun _ _ f=>f.elim))
theorem uX {X:Cx} {elt iter:Expr} {tg:Expr} {ifs:List Expr} {g:TG} {tc:TT} {nt:Nat} {pos:Pos} {sc:Scope} {wi:TI} {te:TE} {N':List Str} {js:List Nat} {use:Option (Value->Sem Unit)} {Qc:Value->Shared->Prop} {pins:List (Addr×Obj)} {s:Shared} {σ:St} {H:Hp} {Q:VK} {kp:Pos} (hc:X.calm=true) (hi:PI X tg iter wi) (S:Cm X nt N' js sc)
  (hgt:∀fp s H,PG (zf X N' sc fp s H) tg g) (hif:∀fp s H,zM (zf X N' sc fp s H) ifs tc) (he:∀fp s H,PE (zf X N' sc fp s H) elt te) (hs:∀x,foldedSetIterable iter X.env x=pure x) (I:Inv X pins σ H s) (h:d8 nt js wi g tc te σ H Q)
  (fin:∀(acc C:Addr) (H':Hp) (s':Shared),Inv X pins σ H' s'->gH X pins H' C->(∃m,s'.heap.Ns C m)->Q (.ref acc) H'->compPost (model X.prog X.w) X.A X.xe use Qc (.ref acc) C (.ok .next) s') :
  wpAny (model X.prog X.w) X.A (comprehension (.ListComp elt [⟨tg,iter,ifs,0⟩] sc pos) sc X.env kp (newList []) false (eval iter X.env) use) Qc X.xe s:=by
 refine wpAny_comprehension_free (use:=use) rfl hs S.clos S.kind S.names ?_
 refine bN (hi pins s σ H _ I h) fun v s1 q1=>bN q1 fun itv s2 q2=>?_
 obtain⟨it,fp,tn,J,H2,e,I2,T,st2,f2,q3⟩:=q2
 subst e
 refine rP ?_
 obtain⟨W,⟨m0,w0⟩,turn⟩:=q3 s2.heap.objs.size I2.fresh
 have I3:=I2.Sw (ys:=[]) (its:=[]) (t':=s2.toks) .nil (dG _)
 have VV:∀b∈fp,b<s2.heap.objs.size:=fun b hb=>by
  obtain⟨o,ho,_⟩:=T.obj 0 _ st2 b hb
  exact eQ ho
 generalize e3:({ s2 with heap:=s2.heap.push { cls:=.type "list",data:=.seq ([]:List Value).toArray },toks:=s2.toks }:Shared)=s3 at I3
 have e3':({ s2 with heap:=s2.heap.push { cls:=.type "list",dict:=none,data:=.seq ([]:List Value).toArray } }:Shared)=s3:=e3
 have Xk:s3.heap.objs.size=s2.heap.objs.size+1:=by rw[<- e3]; exact lg ..
 have st3:tn 0 s3.heap:=T.keep 0 _ _ st2 fun b hb o ho=>by rw[<- e3]; exact fM _ ho
 have VR:∀b∈fp,b<s3.heap.objs.size:=fun b hb=>by rw[Xk]; exact Hy (VV b hb)
 have f3:∀b∈fp,gH X pins (upd H2 s2.heap.objs.size (.lst [])) b:=fun b hb=>⟨by rw[aJ (dH (VV b hb))]; exact(f2 b hb).1,(f2 b hb).2⟩
 generalize hH3:upd H2 s2.heap.objs.size (.lst [])=H3 at I3 f3 w0
 refine vD ?_
 generalize Yu:pushCells (s3.heap.push { cls:=.type "dict",data:=.dict #[] }) sc.names=h1
 have hk:∀b o,s3.heap.get? b=some o->h1.get? b=some o:=fun b o q=>by rw[<- Yu]; exact pushCells_keeps _ _ b o (fM _ q)
 have hns':h1.Ns s3.heap.objs.size fun _=>none:=by rw[<- Yu]; exact(Heap.Ns.new s3.heap (.type "dict")).keeps (pushCells_keeps _ _)
 have I4:Inv (zf X N' sc fp s3 H3) [] (List.replicate nt none++bK js σ) H3 { s3 with heap:=h1,toks:=s3.toks }:=wV I3 f3 VR S (fun {x c} e=>by
  have:=vd sc.names (s3.heap.push { cls:=.type "dict",data:=.dict #[] }) (oA sc X.env) x c (by rw[lg]; exact e)
  rw[Yu,lg] at this
  exact this) hns' hk
 have Vd:tn 0 h1:=T.keep 0 _ _ st3 fun b hb o ho=>hk b o ho
 have stat:∀{H':Hp},(∀b∈fp,H' b=none)->∀b∈fp,gH (zf X N' sc fp s3 H3) [] H' b:=fun hn b hb=>⟨hn b hb,dH (VR b hb),I4.ok.Ea b hb,.inl hb,(I4.ok.Wb b hb).2,fun p hp=>absurd (show p∈([]:List (Addr×Obj)) from hp) (by simp)⟩
 have out:∀{σ':St} {H':Hp} {s':Shared},Inv (zf X N' sc fp s3 H3) [] σ' H' s'->Q (.ref s2.heap.objs.size) H'->compPost (model X.prog X.w) X.A X.xe use Qc (.ref s2.heap.objs.size) s3.heap.objs.size (.ok .next) s':=by
  intro σ' H' s' I' q'
  obtain⟨m,hn,_⟩:=id I'.loc
  have I5:Inv X pins σ H' s':=I3.call' I'.os I'.base I'.hok I'.bare fun b hb=>⟨(f3 b hb).2.2.2.1,(f3 b hb).2.1,(f3 b hb).2.2.2.2.1,(f3 b hb).2.2.2.2.2⟩
  exact fin _ _ H' s' I5 (I3.uP (bD _) I'.free) ⟨m,hn⟩ q'
 have loop:∀s4:Shared,s4={ s3 with heap:=h1,toks:=s3.toks }->codeAny (model X.prog X.w) X.A (.compLoop (.ListComp elt [⟨tg,iter,ifs,0⟩] sc pos) 0 (.ref it) (.ref s2.heap.objs.size) (compEnvC sc (cellsFrom (s3.heap.objs.size+1) sc.names (oA sc X.env)) s3.heap.objs.size X.env))
   (compPost (model X.prog X.w) X.A X.xe use Qc (.ref s2.heap.objs.size) s3.heap.objs.size) s4:=by
  rintro s4 rfl
  refine zj (fun n s'=>∃i ys H',Inv (zf X N' sc fp s3 H3) [] (List.replicate nt none++bK js σ) H' s'/\tn i s'.heap/\(∀b∈fp,H' b=none)/\W i n ys H') ?_ m0 ⟨0,[],H3,I4,Vd,fun b hb=>(f3 b hb).1,w0⟩
  rintro n s5 ⟨i,ys,H5,I5,Nx,Th,w5⟩
  rcases turn i n ys H5 w5 with⟨stop,qn⟩ | ⟨go,step⟩
  ·refine bN (T.done (zf X N' sc fp s3 H3) rfl rfl rfl hc i [] s5 _ H5 (fun _ _=>False) I5 (stat Th) Nx stop) fun r s6 qx=>?_
   obtain⟨hr,I6⟩:=qx
   subst hr
   exact out I6 qn
  ·refine bN (T.item (zf X N' sc fp s3 H3) rfl rfl rfl hc i [] s5 _ H5 (fun _ _=>False) I5 (stat Th) Nx go) fun r s6 qx=>?_
   obtain⟨u,hr,q6⟩:=qx
   subst hr
   refine bN q6 fun _ s7 qx=>?_
   obtain⟨y,H7,I7,r7,y7,Nv,Yn⟩:=qx
   have Zi:=I7.pinned (stat Yn) (T.obj _ _ Nv)
   refine bN (hgt fp s3 H3 _ s7 _ H7 y u _ Zi r7 (step y _ y7)) fun _ s8 qx=>?_
   obtain⟨σ8,H8,I8,hsh,q8⟩:=qx
   refine bN (hif fp s3 H3 _ s8 _ _ _ I8 q8) fun b s8' qx=>?_
   obtain⟨H8',W8,Ww⟩:=qx
   have wk:∀k v,(List.replicate nt none++bK js σ)[k]?=some (some v)->σ8[k]?=some (some v):=fun k v e=>by
    by_cases hlt:k<nt
    ·rw[Dp (by rw[yq]; exact hlt),Ku,bc hlt] at e
     cases e
    ·rw[Al (by rw[yq]; omega),yq,<- hsh.1,Fy] at e
     rw[show nt+(k-nt)=k by omega] at e
     exact e
   cases b with
   | true=>
    rw[bc rfl] at Ww ⊢
    refine bN (he fp s3 H3 _ s8' _ _ _ W8 Ww) fun z s9 qx=>?_
    obtain⟨vz,H9,I9,r9,ha,hz,m',hm,w9⟩:=qx
    refine bN (gm (X:=zf X N' sc fp s3 H3) _ s9 _ H9 (.ref s2.heap.objs.size) [vz] (.ref s2.heap.objs.size) [z] (fun _ H'=>H'=upd H9 s2.heap.objs.size (.lst (ys++[vz]))) I9 rfl (.cons r9 .nil) ⟨_,ys,vz,rfl,rfl,ha,hz,rfl⟩) fun _ ud qx=>?_
    obtain⟨_,Ck,Wk,_,e10⟩:=qx
    subst e10
    refine⟨m',hm,i+1,ys++[vz],_,(Wk.gM).weak hsh.2.symm wk,T.keep _ _ _ Nv fun b hb o e=>(Wk.pin (b,o) (fY _ (fY _ (bU hb e)))).1,fun b hb=>?_,w9⟩
    obtain⟨o,e,d⟩:=T.obj _ _ Nv b hb
    exact(Wk.pin (b,o) (fY _ (fY _ (bU hb e)))).2.1
   | false=>
    rw[aX (by decide)] at Ww ⊢
    obtain⟨m',hm,w9⟩:=Ww
    refine⟨m',hm,i+1,ys,_,(W8.gM).weak hsh.2.symm wk,T.keep _ _ _ Nv fun b hb o e=>(W8.pin (b,o) (fY _ (fY _ (bU hb e)))).1,fun b hb=>?_,w9⟩
    obtain⟨o,e,d⟩:=T.obj _ _ Nv b hb
    exact(W8.pin (b,o) (fY _ (fY _ (bU hb e)))).2.1
 exact codeAny_compStart_list (loop _ rfl) (T.self X.A 0 _ _ _ Vd (loop _ rfl))
theorem Av {X:Cx} {elt iter:Expr} {tg:Expr} {ifs:List Expr} {g:TG} {tc:TT} {nt:Nat} {y:Str} {py pos spos:Pos} {sc:Scope} {wi:TI} {te:TE} {N':List Str} {js:List Nat} {i:Nat} (hN:X.N.Nodup) (hi':X.N[i]?=some y) (hy:Loc X.env.scope y) (hc:X.calm=true) (hi:PI X tg iter wi) (S:Cm X nt N' js sc)
  (hgt:∀fp s H,PG (zf X N' sc fp s H) tg g) (hif:∀fp s H,zM (zf X N' sc fp s H) ifs tc) (he:∀fp s H,PE (zf X N' sc fp s H) elt te) (hs:∀x,foldedSetIterable iter X.env x=pure x:=by intro _; rfl) (hw:swapsWith (.ListComp elt [⟨tg,iter,ifs,0⟩] sc pos) (some (.Name y py)) spos.line X.env=pure true:=by rfl)
  (hf:X.fn y=true\/X.env.scope.names.lookup y=some .local:=by first | exact .inl rfl | exact .inr rfl | assumption) :
  PS X (.Assign [.Name y py] (.ListComp elt [⟨tg,iter,ifs,0⟩] sc pos) spos) (zZ (d8 nt js wi g tc te) (cF i)):=by
 refine .mk ?_
 intro pins s σ H D I h
 rw[exec_Assign_Name_used _ _ _ _ hw]
 refine aW (ye (aW ?_))
 refine aW (uX hc hi S hgt hif he hs I h fun acc C H' s' I5 fc ⟨m,hn⟩ q=>?_)
 have ho:∀b∈[C],∃o,s'.heap.get? b=some o/\∀v,o.data≠.cell v:=fun b hb=>by
  rw[fP.mp hb]
  obtain⟨o,es,n,e,ed,_⟩:=hn
  exact⟨o,e,fun v z=>by rw[ed] at z; cases z⟩
 have I6:=I5.pinned (fp:=[C]) (fun b hb=>by rw[fP.mp hb]; exact fc) ho
 have hg:PG X (.Name y py) (cF i):=aD hN hi' hy hf
 show wpAny _ _ (assign (.Name y py) X.env (.ref acc)) (fun _ s''=>∃m,s''.heap.Ns C m/\∀h',Heap.SameBut C s''.heap h'->_) _ s'
 refine bN (hg _ s' _ H' (.ref acc) (.ref acc) _ I6 rfl q) fun _ s7 qx=>?_
 obtain⟨σ7,H7,I7,q7⟩:=qx
 have pc:∀o,s'.heap.get? C=some o->s7.heap.get? C=some o/\H7 C=none:=fun o e=>by
  have:=I7.pin (C,o) (fY _ (fY _ (bU (by simp) e)))
  exact⟨this.1,this.2.1⟩
 refine⟨m,hn.at fun o e=>(pc o e).1,fun h' sb=>bR (bR ⟨σ7,H7,?_,q7⟩)⟩
 have fr:H7 C=none:=by
  obtain⟨o,es,n,e,ed,_⟩:=hn
  exact(pc o e).2
 exact I7.gM.turned (it:=C) (t':=s7.toks) (fun b o hb e=>sb.extBut b o hb e) fr fc.2.1 fc.2.2.2.1 fc.2.2.2.2.1 fc.2.2.2.2.2
theorem K5 {X:Cx} {elt iter tg:Expr} {ifs:List Expr} {g:TG} {tc:TT} {nt:Nat} {pos:Pos} {sc:Scope} {wi:TI} {te:TE} {N':List Str} {js:List Nat} (hc:X.calm=true) (hi:PI X tg iter wi) (S:Cm X nt N' js sc)
  (hgt:∀fp s H,PG (zf X N' sc fp s H) tg g) (hif:∀fp s H,zM (zf X N' sc fp s H) ifs tc) (he:∀fp s H,PE (zf X N' sc fp s H) elt te) (hs:∀x,foldedSetIterable iter X.env x=pure x:=by intro _; rfl):PE X (.ListComp elt [⟨tg,iter,ifs,0⟩] sc pos) (d8 nt js wi g tc te):=by
 refine .mk ?_
 intro pins s σ H Q I h
 rw[eval_ListComp]
 refine uX (use:=none) hc hi S hgt hif he hs I h fun acc C H' s' I5 fc ⟨m,hn⟩ q=>?_
 refine⟨m,hn,fun h' sb=>?_⟩
 exact⟨.ref acc,H',I5.turned (it:=C) (t':=s'.toks) (fun b o hb q=>sb.extBut b o hb q) fc.1 fc.2.1 fc.2.2.2.1 fc.2.2.2.2.1 fc.2.2.2.2.2,rfl,q⟩
theorem Cm.of {X:Cx} {nt:Nat} {N':List Str} {js:List Nat} {sc:Scope} (k:sc.kind=.function:=by rfl) (n:(sc.names.all fun y=>y.2 != .cell || sc.names.lookup y.1==some .cell)=true:=by decide +kernel)
  (l:(sc.names.all fun y=>y.2 != .local || sc.names.lookup y.1==some .local)=true:=by decide +kernel) (al:(sc.names.all fun y=>y.2 != .free || (X.env.cells.lookup y.1).isSome)=true:=by rfl)
  (ln:N'.length=nt+js.length:=by rfl) (cp:(N'.drop nt).map some=js.map (fun j=>X.N[j]?):=by rfl) (ck:((N'.drop nt).all fun y=>X.env.kindOf y==some .cell&&sc.names.lookup y==some .free)=true:=by rfl):Cm X nt N' js sc:=by
 have n':∀y∈sc.names,y.2=.cell->sc.names.lookup y.1=some .cell:=fun y hy hc=>by
  have:=pH.mp n y hy
  rw[hc] at this
  simpa using this
 refine⟨k,n',lJ l,iD al,al,ln,fun i j h=>?_,fun y h=>?_⟩
 ·have:=rJ (fun l=>l[i]?) cp
  simp only[dz,Fy,h,Option.map_some] at this
  cases e:N'[nt+i]? with
  | none=>rw[e] at this; cases this
  | some y=>rw[e] at this; exact Option.some.inj this
 ·have:=pH.mp ck y h
  simpa using this
theorem ux {X:Cx} {elt iter:Expr} {tg:Expr} {ifs:List Expr} {g:TG} {tc:TT} {nt:Nat} {y:Str} {py pos spos:Pos} {sc:Scope} {wi:TI} {te:TE} {N':List Str} {js:List Nat} {i:Nat} (hN:X.N.Nodup) (hi':X.N[i]?=some y) (hy:Loc X.env.scope y) (hc:X.calm=true) (hi:PI X tg iter wi) (S:mF X nt N' js sc)
  (hgt:∀fp s H,PG (ou X N' sc fp s H) tg g) (hif:∀fp s H,zM (ou X N' sc fp s H) ifs tc) (he:∀fp s H,PE (ou X N' sc fp s H) elt te) (hs:∀x,foldedSetIterable iter X.env x=pure x:=by intro _; rfl) (hw:swapsWith (.ListComp elt [⟨tg,iter,ifs,0⟩] sc pos) (some (.Name y py)) spos.line X.env=pure true:=by rfl)
  (hf:X.fn y=true\/X.env.scope.names.lookup y=some .local:=by first | exact .inl rfl | exact .inr rfl | assumption) :
  PS X (.Assign [.Name y py] (.ListComp elt [⟨tg,iter,ifs,0⟩] sc pos) spos) (zZ (d8 nt js wi g tc te) (cF i)):=Av hN hi' hy hc hi S.toD (fun fp s H=>uV S.gf▸hgt fp s H) (fun fp s H=>uV S.gf▸hif fp s H) (fun fp s H=>uV S.gf▸he fp s H) hs hw hf
theorem lE {X:Cx} {elt iter tg:Expr} {ifs:List Expr} {g:TG} {tc:TT} {nt:Nat} {pos:Pos} {sc:Scope} {wi:TI} {te:TE} {N':List Str} {js:List Nat} (hc:X.calm=true) (hi:PI X tg iter wi) (S:mF X nt N' js sc)
  (hgt:∀fp s H,PG (ou X N' sc fp s H) tg g) (hif:∀fp s H,zM (ou X N' sc fp s H) ifs tc) (he:∀fp s H,PE (ou X N' sc fp s H) elt te) (hs:∀x,foldedSetIterable iter X.env x=pure x:=by intro _; rfl):PE X (.ListComp elt [⟨tg,iter,ifs,0⟩] sc pos) (d8 nt js wi g tc te):=K5 hc hi S.toD (fun fp s H=>uV S.gf▸hgt fp s H) (fun fp s H=>uV S.gf▸hif fp s H) (fun fp s H=>uV S.gf▸he fp s H) hs
theorem sU.toG {X:Cx} {N':List Str} {js:List Nat} {sc:Scope} (S:sU X N' js sc):mF X 1 N' js sc:=⟨S.kind,S.gf,S.names,S.clos,S.all,by rw[S.len,Nat.add_comm],fun i j h=>by rw[Nat.add_comm]; exact S.cap i j h,fun y h=>S.Mx y (by rw[<- List.drop_one]; exact h)⟩
theorem E_ {js:List Nat} {wi:TI} {te:TE}:dM js wi te=d8 1 js wi (cF 0) ql te:=by
 funext σ H Q
 have e:∀(x:V) (H3:Hp) (K1:VK) (K2:Hp->Prop),te (some x::bK js σ) H3 K1=cF 0 x (List.replicate 1 none++bK js σ) H3 fun σ' H'=>(σ'.drop 1=bK js σ/\σ'.length=(List.replicate 1 (none:Option V)++bK js σ).length)/\ql σ' H' fun b cV=>if b=true then te σ' cV K1 else K2 cV:=fun x H3 K1 K2=>propext ⟨fun h=>⟨⟨rfl,rfl⟩,h⟩,fun h=>h.2⟩
 unfold dM d8
 refine rJ (wi σ H) (funext fun J=>funext fun H1=>?_)
 refine propext ⟨fun h acc ha=>?_,fun h acc ha=>?_⟩
 ·obtain⟨W,h0,hs⟩:=h acc ha
  refine⟨W,h0,fun i m ys H2 w=>(hs i m ys H2 w).imp id fun z=>⟨z.1,fun x H3 y=>?_⟩⟩
  have:=z.2 x H3 y
  rw[e x H3 _ fun cV=>∃m',m'<m/\W (i+1) m' ys cV] at this
  exact this
 ·obtain⟨W,h0,hs⟩:=h acc ha
  refine⟨W,h0,fun i m ys H2 w=>(hs i m ys H2 w).imp id fun z=>⟨z.1,fun x H3 y=>?_⟩⟩
  rw[e x H3 _ fun cV=>∃m',m'<m/\W (i+1) m' ys cV]
  exact z.2 x H3 y
theorem fu {X:Cx} {elt iter:Expr} {x:Str} {px pos:Pos} {sc:Scope} {wi:TI} {te:TE} {N':List Str} {js:List Nat} (hc:X.calm=true) (hi:PI X (.Name x px) iter wi) (S:sU X N' js sc) (h0:N'[0]?=some x) (nd:N'.Nodup)
  (hx:sc.names.lookup x=some .local) (he:∀fp s H,PE (ou X N' sc fp s H) elt te) (hs:∀x,foldedSetIterable iter X.env x=pure x:=by intro _; rfl):PE X (.ListComp elt [⟨.Name x px,iter,[],0⟩] sc pos) (dM js wi te):=by
 rw[E_]
 exact lE hc hi S.toG (fun _ _ _=>aD nd h0 (.inl (gO hx)) (.inr (gO hx))) (fun _ _ _=>jQ) he hs
theorem yr {X:Cx} {elt iter:Expr} {x y:Str} {px py pos spos:Pos} {sc:Scope} {wi:TI} {te:TE} {N':List Str} {js:List Nat} {i:Nat} (hN:X.N.Nodup) (hi':X.N[i]?=some y) (hy:Loc X.env.scope y) (hc:X.calm=true) (hi:PI X (.Name x px) iter wi) (S:sU X N' js sc) (h0:N'[0]?=some x) (nd:N'.Nodup)
  (hx:sc.names.lookup x=some .local) (he:∀fp s H,PE (ou X N' sc fp s H) elt te) (hs:∀x,foldedSetIterable iter X.env x=pure x:=by intro _; rfl) (hw:swapsWith (.ListComp elt [⟨.Name x px,iter,[],0⟩] sc pos) (some (.Name y py)) spos.line X.env=pure true:=by rfl)
  (hf:X.fn y=true\/X.env.scope.names.lookup y=some .local:=by first | exact .inl rfl | exact .inr rfl | assumption) :
  PS X (.Assign [.Name y py] (.ListComp elt [⟨.Name x px,iter,[],0⟩] sc pos) spos) (zZ (dM js wi te) (cF i)):=by
 rw[E_]
 exact ux hN hi' hy hc hi S.toG (fun _ _ _=>aD nd h0 (.inl (gO hx)) (.inr (gO hx))) (fun _ _ _=>jQ) he hs hw hf
theorem mF.of {X:Cx} {nt:Nat} {N':List Str} {js:List Nat} {sc:Scope} (k:sc.kind=.function:=by rfl) (n:(sc.names.all fun y=>y.2 != .cell)=true:=by decide +kernel)
  (l:(sc.names.all fun y=>y.2 != .local || sc.names.lookup y.1==some .local)=true:=by decide +kernel) (al:(sc.names.all fun y=>y.2 != .free || (X.env.cells.lookup y.1).isSome)=true:=by rfl)
  (ln:N'.length=nt+js.length:=by rfl) (cp:(N'.drop nt).map some=js.map (fun j=>X.N[j]?):=by rfl) (ck:((N'.drop nt).all fun y=>X.env.kindOf y==some .cell&&sc.names.lookup y==some .free)=true:=by rfl):mF X nt N' js sc:=by
 have n':∀y∈sc.names,y.2≠.cell:=fun y hy=>by have:=pH.mp n y hy; simpa using this
 refine⟨k,n',lJ l,iD al,al,ln,fun i j h=>?_,fun y h=>?_⟩
 ·have:=rJ (fun l=>l[i]?) cp
  simp only[dz,Fy,h,Option.map_some] at this
  cases e:N'[nt+i]? with
  | none=>rw[e] at this; cases this
  | some y=>rw[e] at this; exact Option.some.inj this
 ·have:=pH.mp ck y h
  simpa using this
def W6 (K:PySem.W.Frag) (js:List Nat) (te:TE) (σ:St) (Q:VK) (x:V) (H1:Hp):Prop:=dM js (j8 K fun _ H R=>R x H) te σ H1 Q
theorem Hi {K:PySem.W.Frag} {js:List Nat} {tl te:TE} {σ:St} {H:Hp} {Q:VK}:dM js (j8 K tl) te σ H Q=tl σ H (W6 K js te σ Q):=rfl
theorem W6.of {K:PySem.W.Frag} {js:List Nat} {a:Addr} {xs:List V} {es:List PyData} {te:TE} {σ:St} {H:Hp} {Q:VK} (ha:H a=some (.lst xs)) (hn:es.length=xs.length) (hz:es.length<=sizeLine) (hL:bC es=true)
  (step:∀(i:Nat) x e H',xs[i]?=some x->es[i]?=some e->aA H H'->∀R:VK,(∀v cV,aA H' cV->At cV e v->R v cV)->te (some x::bK js σ) H' R)
  (fin:∀acc ys H',aA H H'->H acc=none->H' acc=some (.lst ys)->ak (hid acc H') es ys->Q (.ref acc) H'):W6 K js te σ Q (.ref a) H:=GC (fun R h=>h) ha hn hz hL step fin
theorem w6 (kp:Nat->Bool) (f:Nat->V) (i:Nat):((List.range (i+1)).filter kp).map f=((List.range i).filter kp).map f++(if kp i=true then[f i] else[]):=by
 rw[List.range_succ,List.filter_append,yh]
 cases h:kp i <;> simp[h]
theorem BK (kp:Nat->Bool) (f:Nat->V) (i:Nat):(((List.range i).filter kp).map f).length<=i:=by
 rw[eY]
 exact fK (List.length_filter_le _ _) (by rw[Kl]; exact bD _)
theorem Eg {js:List Nat} {J:It} {tc:TT} {te:TE} {σ:St} {H:Hp} {Q:VK} {acc:Addr} {n:Nat} (xv:Nat->V) (kp:Nat->Bool) (f:Nat->V) (hn:n<=1000) (hacc:H acc=none)
  (go:∀i H',i<n->aA H H'->J.go i H') (yl:∀i H' x cV,i<n->aA H H'->J.xG i H' x cV->x=xv i/\cV=H') (st:∀H',aA H H'->J.stop n H')
  (test:∀i H',i<n->aA H H'->∀R:Bool->Hp->Prop,R (kp i) H'->tc (some (xv i)::bK js σ) H' R)
  (val:∀i H',i<n->kp i=true->aA H H'->∀R:VK,R (f i) H'->te (some (xv i)::bK js σ) H' R)
  (fin:∀H',aA H H'->H' acc=some (.lst (((List.range n).filter kp).map f))->Q (.ref acc) H') :
  ∃W:Nat->Nat->List V->Hp->Prop,(∃m,W 0 m [] (upd H acc (.lst [])))/\∀i m ys H2,W i m ys H2 ->
   (J.stop i H2/\Q (.ref acc) H2)\/(J.go i H2/\∀x H3,J.xG i H2 x H3->cF 0 x (List.replicate 1 none++bK js σ) H3 fun σ' H'=>(σ'.drop 1=bK js σ/\σ'.length=(List.replicate 1 (none:Option V)++bK js σ).length)/\tc σ' H' fun b cV=>
    if b=true then te σ' cV fun y H4=>H4 acc=some (.lst ys)/\ys.length<sizeLine/\∃m',m'<m/\W (i+1) m' (ys++[y]) (upd H4 acc (.lst (ys++[y]))) else ∃m',m'<m/\W (i+1) m' ys cV):=by
 refine⟨fun i m ys H2=>m=n-i/\i<=n/\ys=((List.range i).filter kp).map f/\aA H H2/\H2 acc=some (.lst ys),⟨_,rfl,dG _,rfl,aM hacc _,az⟩,?_⟩
 rintro i m ys H2 ⟨rfl,hi,rfl,sm,hy⟩
 by_cases hlt:i<n
 ·refine .inr ⟨go i H2 hlt sm,fun x H3 y=>?_⟩
  obtain⟨rfl,rfl⟩:=yl i H2 x H3 hlt sm y
  refine⟨⟨rfl,by simp⟩,?_⟩
  refine test i _ hlt sm _ ?_
  have hs:=w6 kp f i
  cases h:kp i with
  | true=>
   rw[bc rfl]
   rw[h,bc rfl] at hs
   refine val i _ hlt h sm _ ⟨hy,aZ (by have:=BK kp f i; omega),n-(i+1),by omega,rfl,hlt,hs.symm,sm.dw hacc,az⟩
  | false=>
   rw[aX (by decide)]
   rw[h,aX (by decide),qD] at hs
   exact⟨n-(i+1),by omega,rfl,hlt,hs.symm,sm,hy⟩
 ·have e:i=n:=by omega
  subst e
  exact .inl ⟨st _ sm,fin _ sm hy⟩
theorem PN {K:PySem.W.Frag} {js:List Nat} {a:Addr} {xs:List V} {tl:TE} {tc:TT} {te:TE} {σ:St} {H:Hp} {Q:VK} (kp:Nat->Bool) (f:Nat->V) (hl:∀R:VK,R (.ref a) H->tl σ H R) (ha:H a=some (.lst xs)) (hn:xs.length<=1000)
  (test:∀i x H',xs[i]?=some x->aA H H'->∀R:Bool->Hp->Prop,R (kp i) H'->tc (some x::bK js σ) H' R)
  (val:∀i x H',xs[i]?=some x->kp i=true->aA H H'->∀R:VK,R (f i) H'->te (some x::bK js σ) H' R)
  (fin:∀acc H',aA H H'->H acc=none->H' acc=some (.lst (((List.range xs.length).filter kp).map f))->Q (.ref acc) H'):d8 1 js (j8 K tl) (cF 0) tc te σ H Q:=by
 refine hl _ ⟨a,rfl,⟨xs,fQ.of ha⟩,fun acc hacc=>?_⟩
 have ht:∀H',aA H H'->fQ K H' a xs:=fun H' s=>fQ.of (s _ _ ha)
 have gx:∀i,i<xs.length->xs[i]?=some (xs.getD i .non):=fun i hi=>by rw[oK,jg hi]; rfl
 exact Eg (n:=xs.length) (fun i=>xs.getD i .non) kp f hn hacc (fun i H' hi s=>⟨xs,_,ht H' s,gx i hi⟩) (fun i H' x cV hi s y=>by
   obtain⟨e,y⟩:=y
   have:=y xs (ht H' s)
   rw[gx i hi] at this
   exact⟨(Option.some.inj this).symm,e⟩) (fun H' s=>⟨xs,ht H' s,bD _⟩)
  (fun i H' hi s R hR=>test i _ H' (gx i hi) s R hR) (fun i H' hi hk s R hR=>val i _ H' (gx i hi) hk s R hR) fun H' s h=>fin acc H' s hacc h
section
variable {prog:Program} {w:World} {A:Around} {E:Value->Shared->Prop} {s:Shared}
theorem _root_.PySem.Heap.ExtBut.trans' {b:Addr} {h h1 h2:Heap} (x:Heap.ExtBut b h h1) (y:∀c o,h1.get? c=some o->h2.get? c=some o):Heap.ExtBut b h h2:=fun c o n e=>y c o (x c o n e)
theorem Hk {α:Type} {Q:α->Shared->Prop} (hh:A.handled=none) (q:∀h' x,(∀c o,s.heap.get? c=some o->h'.get? c=some o)->(∃o,h'.get? x=some o/\o.cls=.type "StopIteration")->E (.ref x) { s with heap:=h' }) :
  wpAny (model prog w) A (Builtin.SmallTypes.stopIteration (α:=α)) Q E s:=by
 unfold Builtin.SmallTypes.stopIteration
 refine aW ?_
 simp only[newExc,newTuple]
 refine aW (rP ?_ (by size_fits)); refine aW (m:=firstArgMember _ _) (rK (a:=Value.none) (by rfl) ?_)
 refine rP ?_ (by size_fits); simp only[raiseNew]
 refine aW (wpAny_handled ?_); rw[hh]
 refine aW (bR (wpAny_throw ?_)); refine q _ _ (fun c o e=>?_) ⟨_,j_ _ rfl,rfl⟩
 exact fM _ (fM _ e)
theorem R6 {it t:Addr} {i:Nat} {its:Array Value} {u:Value} {Q:Value->Shared->Prop} (hi:s.heap.IsTupleIter it t i) (ht:s.heap.IsTuple t its) (hu:its[i]?=some u)
  (q:∀h',h'.IsTupleIter it t (i+1)->Heap.SameBut it s.heap h'->Q u { s with heap:=h' }):wpAny (model prog w) A (Builtin.SmallTypes.nextOf (.ref it)) Q E s:=by
 obtain⟨oi,gi,ci,di⟩:=id hi
 obtain⟨ot,gt,_,nt,dt⟩:=ht
 have ty:=hi.typeIs
 have nn:¬((Value.ref t==Value.none)=true):=fun z=>Bool.noConfusion (show false=true from z)
 unfold Builtin.SmallTypes.nextOf
 refine aW (HD (name:=Str.ofString "__next__") ty F.slot_tuple_iterator_next (yj F.slot_tuple_iterator_next ty F.entry_tuple_iterator_next ?_ (F.args_tuple_iterator_next_1 _)))
 show wpAny _ _ (field (.ref it) 0 >>= _) _ _ s; refine aW (iB gi di (x:=.ref t) rfl ?_)
 show wpAny _ _ (if(Value.ref t==Value.none)=true then _ else _) _ _ s; rw[aX nn]
 show wpAny _ _ (field (.ref it) 1 >>= _) _ _ s; refine aW (iB gi di (x:=.int i 0) rfl ?_)
 show wpAny _ _ (seqItems? (.ref t) >>= _) _ _ s; refine aW (rN gt dt ?_)
 simp only[rO,hu]
 have fin:∀h',(∃o,h'.get? it=some o/\o.cls=.type "tuple_iterator" /\ o.data=.fields #[.ref t,.int ((i+1:Nat):Int) 0])->Heap.SameBut it s.heap h'->Q u { s with heap:=h' }:=fun h' z sb=>q h' z sb
 refine aW (Ht gi di (by simp) (bR ⟨u,rfl,bR (fin _ ?_ (Heap.SameBut.update ..))⟩))
 refine⟨_,Ak _ gi (Obj.isFreed_of_fields (Obj.data_mapFields di _)),(Obj.cls_mapFields ..).trans ci,?_⟩
 rw[Obj.data_mapFields di]
 simp[rawInt]
theorem O5 {it t:Addr} {i:Nat} {its:Array Value} {Q:Value->Shared->Prop} (hh:A.handled=none) (hi:s.heap.IsTupleIter it t i) (ht:s.heap.IsTuple t its) (hu:its[i]?=none)
  (q:∀h' x,Heap.ExtBut it s.heap h'->(∃o,h'.get? x=some o/\o.cls=.type "StopIteration")->E (.ref x) { s with heap:=h' }):wpAny (model prog w) A (Builtin.SmallTypes.nextOf (.ref it)) Q E s:=by
 obtain⟨oi,gi,ci,di⟩:=id hi
 obtain⟨ot,gt,_,nt,dt⟩:=ht
 have ty:=hi.typeIs
 have nn:¬((Value.ref t==Value.none)=true):=fun z=>Bool.noConfusion (show false=true from z)
 unfold Builtin.SmallTypes.nextOf
 refine aW (HD (name:=Str.ofString "__next__") ty F.slot_tuple_iterator_next (yj F.slot_tuple_iterator_next ty F.entry_tuple_iterator_next ?_ (F.args_tuple_iterator_next_1 _)))
 show wpAny _ _ (field (.ref it) 0 >>= _) _ _ s; refine aW (iB gi di (x:=.ref t) rfl ?_)
 show wpAny _ _ (if(Value.ref t==Value.none)=true then _ else _) _ _ s; rw[aX nn]
 show wpAny _ _ (field (.ref it) 1 >>= _) _ _ s; refine aW (iB gi di (x:=.int i 0) rfl ?_)
 show wpAny _ _ (seqItems? (.ref t) >>= _) _ _ s; refine aW (rN gt dt ?_)
 simp only[rO,hu]
 refine aW (yd (aW (Ht gi di (by simp) ?_)))
 exact Hk (A:=A.in1) hh fun h' x k z=>q h' x ((Heap.SameBut.update ..).extBut.trans' k) z
end
theorem qM {prog:Program} {w:World} {A:Around} (hh:A.handled=none) {it t:Addr} (ne:t≠it) (its:Array Value):Draws prog w A it [it,t] its.size (fun i v=>its[i]?=some v) (fun i h=>h.IsTupleIter it t i/\h.IsTuple t its) where
 live:=fun i h z=>let ⟨⟨o,e,_⟩,_⟩:=z; ⟨o,e⟩
 frame:=fun i h h' z k=>⟨z.1.at fun o e=>k it fO o e,z.2.at fun o e=>k t (gQ _ fO) o e⟩
 item:=fun i s Q E hi z q=>by
  refine R6 z.1 z.2 (u:=its[i]) (Array.getElem?_eq_getElem hi) fun h' z' sb=>?_
  exact q _ h' s.toks (Array.getElem?_eq_getElem hi) ⟨z',z.2.extBut sb.extBut ne⟩ sb
 done:=fun s Q E z q=>O5 hh z.1 z.2 (by simp) q
abbrev tiH (h:Heap) (t:Addr):Heap:=h.push { cls:=.type "tuple_iterator",data:=.fields #[.ref t,.int 0 0] }
abbrev Yt (h:Heap) (t:Addr):Heap:=(tiH h t).push { cls:=.type "enumerate",data:=.fields #[.none,.bool false,.ref h.objs.size,rawInt 0,.none,.none] }
set_option maxHeartbeats 1000000 in
theorem Lw (t:Addr) (its:Array Value) (n:Nat) (dc:Option Addr) (sl:Array (Option Value)) :
  Meets (Builtin.«enumerate.__new__» ⟨[.type "enumerate",.ref t],[]⟩) (fun _ R s=>s.heap.get? t=some ⟨.type "tuple",dc,.seq its n,sl⟩/\R (.ok (.ret (.ref (tiH s.heap t).objs.size))) { s with heap:=Yt s.heap t }):=
 .of_wp fun prog w A R s z=>by
  obtain⟨hp,g,d,tk,os⟩:=s
  obtain⟨ht,z⟩:=z
  have sub:=sub_enumerate
  have hT:Heap.IsTuple (Shared.heap ⟨hp,g,d,tk,os⟩) t its:=⟨_,ht,rfl,n,rfl⟩
  wp_walk using AutoSeq1.wpAny_loadPart' ht
  refine wpAny_stack_any fun st=>bR ?_
  split
  ·rename_i c _ _ _ _ _
   cases(c==Value.type "enumerate") <;> (wp_walk using AutoSeq1.wpAny_loadPart' ht,Hz hT; exact⟨_,rfl,z⟩)
  ·wp_walk using AutoSeq1.wpAny_loadPart' ht,Hz hT; exact⟨_,rfl,z⟩
theorem Ek {prog:Program} {w:World} {A:Around} {E:Value->Shared->Prop} {s:Shared} {t:Addr} {its:Array Value} {Q:Value->Shared->Prop} (hT:s.heap.IsTuple t its)
  (q:∀h',IsEnum h' (s.heap.objs.size+1) s.heap.objs.size 0 .none->h'.IsTupleIter s.heap.objs.size t 0->(∀b o,s.heap.get? b=some o->h'.get? b=some o)->Q (.ref (s.heap.objs.size+1)) { s with heap:=h' }) :
  wpAny (model prog w) A (call (.type "enumerate") [.ref t]) Q E s:=by
 obtain⟨⟨c,dc,dt,sl⟩,ht,hc,n,hd⟩:=hT
 cases(show c=.type "tuple" from hc)
 cases(show dt=.seq its n from hd)
 have sz:(tiH s.heap t).objs.size=s.heap.objs.size+1:=lg ..
 have g1:(Yt s.heap t).get? (tiH s.heap t).objs.size=some _:=j_ _ rfl
 have g0:(Yt s.heap t).get? s.heap.objs.size=some _:=fM _ (j_ _ rfl)
 refine callType_new F.called_enumerate (by decide) (F.typeCall_enumerate_1 _) (F.newCall_enumerate_1 _) (fun x=>F.args_object_init_2 x _) F.entry_enumerate_new (Lw t its n dc sl) ⟨ht,?_⟩
 show _/\_
 rw[sz] at g1 ⊢
 exact⟨⟨_,g1,rfl⟩,q _ g1 ⟨_,g0,rfl,rfl⟩ fun b o e=>fM _ (fM _ e)⟩
def T5 (K:PySem.W.Frag) (a:Addr):It:=
 ⟨fun i H=>∃xs x,bW K H a xs/\xs[i]?=some x,fun i H x H'=>∃p y,H p=none/\x=.ref p/\H'=upd H p (.tup [.int i,y])/\∀xs,bW K H a xs->xs[i]?=some y,fun i H=>∃xs,bW K H a xs/\xs.length=i⟩
theorem CG {P:Program} {w:World} {K:PySem.W.Frag} {elts:List Expr} {x1} {tp:Pos} (a e it:Addr) (hne:e≠it):Turn P w K (.Tuple elts x1 tp) (T5 K a) [e,it] e (fun i h=>(∃old,IsEnum h e it (i:Nat) old)/\h.IsTupleIter it a i) where
 mem:=by simp
 obj:=fun i h st b hb=>by
  obtain⟨⟨old,he⟩,o,ho,c,d⟩:=st
  rcases dZ.mp hb with z | z
  ·rw[z]; exact⟨_,he,fun v q=>by cases q⟩
  ·rw[fP.mp z]; exact⟨o,ho,fun v q=>by rw[d] at q; cases q⟩
 keep:=fun i h h' st k=>by
  obtain⟨⟨old,he⟩,hi⟩:=st
  exact⟨⟨old,k e (by simp) _ he⟩,hi.at fun o q=>k it (by simp) o q⟩
 item:=by
  intro X hP hw hK hc i pins s σ H E I hf st hg
  subst hP hw hK
  obtain⟨⟨old,he⟩,hi⟩:=st
  obtain⟨xs,x,hq,hx⟩:=hg
  obtain⟨its,rv,p,hz⟩:=I.tuple hq
  obtain⟨u,hu,ru⟩:=rv.get hx
  have fe:=hf e (by simp)
  have fi:=hf it (by simp)
  have pT:s.heap.IsTuple a its.toArray:=p
  have nea:e≠a:=fun z=>by
   obtain⟨o,g,c,_⟩:=pT
   rw[<- z,he] at g
   cases g
   exact absurd (show Value.type "enumerate" = Value.type "tuple" from c) (by decide)
  have X4:a≠it:=fun z=>by
   obtain⟨o,g,c,_⟩:=pT
   obtain⟨o',g',c',_⟩:=hi
   rw[z,g'] at g
   cases g
   rw[c'] at c
   exact absurd c (by decide)
  have hlt:i<its.toArray.size:=by have:=(iM.mp hu).1; simpa using this
  refine wpAny_pyNext_enum_itemD (qM (A:=X.A.in1) (show X.A.in1.handled=none from I.ok.hd hc) X4 its.toArray) he (show _/\_ from⟨hi,pT⟩) hlt hne (fun z=>by rcases dZ.mp z with y | y; exact hne y; exact nea (fP.mp y)) fun u' h' tk hu' eo hi' ht hsz kk=>?_
  have eu:u'=u:=by
   have:its[i]?=some u':=by simpa using hu'
   rw[hu] at this; exact(Option.some.inj this).symm
  subst eu
  have fr:H s.heap.objs.size=none:=I.hok.fresh (bD _)
  have I1:Inv X pins σ (upd H s.heap.objs.size (.tup [.int i,x])) { s with heap:=s.heap.push { cls:=.type "tuple",data:=.seq #[.int i tk,u'] },toks:=tk }:=
   I.laid (t':=tk) (fun b v z=>fM _ z) (bD _) ⟨(by show 2<=sizeLine; decide),[.int i tk,u'],.cons ⟨_,rfl⟩ (.cons ru .nil),⟨_,j_ _ rfl,rfl,_,rfl⟩⟩
  have le:e<s.heap.objs.size:=eQ he
  have li:it<s.heap.objs.size:=by obtain⟨o,ho,_⟩:=hi; exact eQ ho
  have D_:gH X pins (upd H s.heap.objs.size (.tup [.int i,x])) e:=⟨by rw[aJ (dH le)]; exact fe.1,fe.2⟩
  have V_:gH X pins (upd H s.heap.objs.size (.tup [.int i,x])) it:=⟨by rw[aJ (dH li)]; exact fi.1,fi.2⟩
  have I2:Inv X pins σ (upd H s.heap.objs.size (.tup [.int i,x])) { s with heap:=h',toks:=tk+1 }:=I1.Ey (t':=tk+1) (fun b o z1 z2 z=>by
   by_cases y:b=s.heap.objs.size
   ·subst y
    rw[j_ _ rfl] at z
    cases z
    exact ht
   ·rcases Heap.get?_push_cases z with v | v
    ·exact absurd v.1 y
    ·exact kk b o z1 z2 v) D_ V_
  refine⟨_,rfl,wpAny_letOwnedTupleGo_enum eo fun h2 en sb=>⟨.ref s.heap.objs.size,_,I2.turned (it:=e) (t':=tk+1) (fun b o hb z=>sb.extBut b o hb z) D_.1 D_.2.1 D_.2.2.2.1 D_.2.2.2.2.1 D_.2.2.2.2.2,rfl,⟨_,x,fr,rfl,rfl,fun ys hy=>by rw[I.qi hy hq]; exact hx⟩,⟨⟨_,en⟩,?_⟩,fun b hb=>?_⟩⟩
  ·exact hi'.1.at fun o z=>sb.extBut it o (Ne.symm hne) z
  ·rcases dZ.mp hb with z | z
   ·rw[z]; exact D_.1
   ·rw[fP.mp z]; exact V_.1
 done:=by
  intro X hP hw hK hc i pins s σ H E I hf st hg
  subst hP hw hK
  obtain⟨⟨old,he⟩,hi⟩:=st
  obtain⟨xs,hq,hx⟩:=hg
  obtain⟨its,rv,p,hz⟩:=I.tuple hq
  have hl:=rv.length
  have pT:s.heap.IsTuple a its.toArray:=p
  obtain⟨f0,f1,f2,f3,f4,f5⟩:=hf it (by simp)
  have X4:a≠it:=fun z=>by
   obtain⟨o,g,c,_⟩:=pT
   obtain⟨o',g',c',_⟩:=hi
   rw[z,g'] at g
   cases g
   rw[c'] at c
   exact absurd c (by decide)
  have D:=qM (prog:=X.prog) (w:=X.w) (A:=X.A.in1) (show X.A.in1.handled=none from I.ok.hd hc) X4 its.toArray
  refine wpAny_pyNext_enum_endD D he (show _/\_ from⟨?_,pT⟩) fun h' eb=>⟨rfl,I.turned (t':=s.toks) (fun b o hb z=>eb b o hb z) f0 f1 f3 f4 f5⟩
  have e:its.toArray.size=i:=by simp; omega
  rw[e]; exact hi
 self:=fun _ _ _ _ _ st h=>by
  obtain⟨⟨old,he⟩,_⟩:=st
  exact Fw he h
section
variable {X:Cx}
def Mh (K:PySem.W.Frag) (ta:TA):TI:=fun σ H R=>ta σ H fun vs H1=>∃a,vs=[.ref a]/\(∃xs,bW K H1 a xs)/\R (T5 K a) H1
theorem KR {K:PySem.W.Frag} {e:Expr} {elts:List Expr} {x1} {tp p pos:Pos} {ta:TA} (hK:X.K=K) (hm:X.mg "enumerate" = none) (ha:PA X [e] ta) (hg:Gl X "enumerate" := by rfl) (h1:bJ e=true:=by rfl) :
  PI X (.Tuple elts x1 tp) (.Call (.Name "enumerate" p) [e] [] pos) (Mh K ta):=by
 subst hK
 refine .mk ?_
 intro pins s σ H R I h
 refine uq (jj I hg hm pY ?_ (by decide) (by decide))
 refine PyProof.Rows.callWith_type1 (bN (ha pos pins s σ H _ I h) fun us s1 ⟨vs,H1,I1,r1,q1⟩=>?_) (bL h1) (bO (es:=[]) rfl)
 obtain⟨a,rfl,⟨xs,hq⟩,q⟩:=q1
 obtain⟨u,rfl,ru⟩:=r1.one
 cases ru
 obtain⟨its,rv,pl,hz⟩:=I1.tuple hq
 refine Ek (show s1.heap.IsTuple a its.toArray from pl) fun h' he hi kk=>?_
 have I2:Inv X pins σ H1 { s1 with heap:=h' }:=I1.kept (t':=s1.toks) kk
 have f1:H1 (s1.heap.objs.size+1)=none:=I1.hok.fresh (wG _)
 have f0:H1 s1.heap.objs.size=none:=I1.hok.fresh (bD _)
 refine Fw he ⟨s1.heap.objs.size+1,_,_,T5 X.K a,H1,rfl,I2,CG a (s1.heap.objs.size+1) s1.heap.objs.size (Nat.succ_ne_self _),⟨⟨_,he⟩,hi⟩,fun b hb=>?_,q⟩
 rcases dZ.mp hb with z | z
 ·rw[z]; exact I1.uP (wG _) f1
 ·rw[fP.mp z]; exact I1.uP (bD _) f0
end
end L2
namespace L2
open PySem PySem.Spec PyProof.Rows
structure Ue (z TI TO i1 i2:Addr) (f1 f2:List Addr):Prop where
 a1:TI≠z
 a2:TO≠z
 a3:TI≠TO
 a4:i1≠z
 a5:i2≠z
 a6:TO≠i1
 a7:TO≠i2
 a8:i1≠i2
 b1:z∉f1
 b2:z∉f2
 b3:TO∉f1
 b4:TO∉f2
 b5:i1∉f2
 b6:i2∉f1
section
variable {prog:Program} {w:World} {A:Around} {E:Value->Shared->Prop} {s:Shared}
theorem Hl {b:Addr} {h h':Heap} {f:List Addr} (sb:Heap.SameBut b h h') (hb:b∉f):∀c∈f,∀o,h.get? c=some o->h'.get? c=some o:=fun c hc o e=>sb.extBut c o (fun z=>hb (z▸hc)) e
theorem Jy {z TI TO i1 i2:Addr} {f1 f2:List Addr} {n1 n2 k:Nat} {P1 P2:Nat->Value->Prop} {S1 S2:Nat->Heap->Prop} {a b:Value} {Q:Value->Shared->Prop} (Z:Ue z TI TO i1 i2 f1 f2) (D1:Draws prog w A i1 f1 n1 P1 S1) (D2:Draws prog w A i2 f2 n2 P2 S2)
  (hz:IsZip s.heap z TI TO .none) (hi:IsPair s.heap TI (.ref i1) (.ref i2)) (ho:IsPair s.heap TO a b) (s1:S1 k s.heap) (s2:S2 k s.heap) (k1:k<n1) (k2:k<n2)
  (q:∀x y h' tk,P1 k x->P2 k y->IsZip h' z TI TO (rawInt s.heap.objs.size)->IsPair h' TO x y->S1 (k+1) h'->S2 (k+1) h'->IsPair h' s.heap.objs.size x y->h'.objs.size=s.heap.objs.size+1->(∀c o,c≠z->c≠TO->c≠i1->c≠i2->s.heap.get? c=some o->h'.get? c=some o)->Q (.ref s.heap.objs.size) { s with heap:=h',toks:=tk }) :
  wpAny (model prog w) A (Builtin.«zip.__next__» ⟨[.ref z],[]⟩) (fun fin s'=>∃v,fin=.done (.ret v)/\Q v s') E s:=by
 show wpAny _ _ (field (.ref z) 2 >>= _) _ _ _; refine aW (iB hz rfl (x:=.bool false) rfl ?_)
 show wpAny _ _ (field (.ref z) 3 >>= _) _ _ _; refine aW (iB hz rfl (x:=.ref TI) rfl (aW (rN hi rfl ?_)))
 show wpAny _ _ (Builtin.SmallTypes.ownedTupleIsFree (.ref z) >>= _) _ _ _; unfold Builtin.SmallTypes.ownedTupleIsFree
 refine aW (aW (iB hz rfl (x:=.none) rfl (bR ?_))); simp only[if_true]
 refine aW (yd (aW (iB hz rfl (x:=.ref TO) rfl (aW (HB hz (by simp) fun hA zA sA=>?_)))))
 replace zA:IsZip hA z TI TO .ellipsis:=zA
 refine aW ?_; simp only[List.zipIdx_cons,List.zipIdx_nil,Hv,List.forIn_nil]
 refine aW (aW (wpAny_onRaise ?_)); show wpAny _ _ (Builtin.SmallTypes.nextOf (.ref i1) >>= _) _ _ _
 refine aW (D1.item k _ _ _ k1 (D1.frame _ _ _ s1 (Hl sA Z.b1)) fun x hB tB pB ZJ sB=>bR ?_)
 have oB:IsPair hB TO a b:=sB.extBut _ _ Z.a6 (sA.extBut _ _ Z.a2 ho)
 have uB:S2 k hB:=D2.frame _ _ _ (D2.frame _ _ _ s2 (Hl sA Z.b2)) (Hl sB Z.b5)
 refine aW (rN oB rfl (aW (wpAny_updateSeq_pair oB fun hC oC sC=>?_)))
 replace oC:IsPair hC TO x b:=oC
 refine aW (Dj (bR (aW (aW (wpAny_onRaise ?_))))); show wpAny _ _ (Builtin.SmallTypes.nextOf (.ref i2) >>= _) _ _ _
 refine aW (D2.item k _ _ _ k2 (D2.frame _ _ _ uB (Hl sC Z.b4)) fun y hD tD pD std sD=>bR ?_)
 have oD:IsPair hD TO x b:=sD.extBut _ _ Z.a7 oC
 refine aW (rN oD rfl (aW (wpAny_updateSeq_pair oD fun hF oF sF=>?_)))
 replace oF:IsPair hF TO x y:=oF
 refine aW (Dj (bR (bR (aW (rN oF rfl (aW (wpAny_newTuple ?_)))))))
 have zF:IsZip hF z TI TO .ellipsis:=sF.extBut _ _ Z.a2.symm (sD.extBut _ _ Z.a5.symm (sC.extBut _ _ Z.a2.symm (sB.extBut _ _ Z.a4.symm zA)))
 have size:hF.objs.size=s.heap.objs.size:=by rw[sF.1,sD.1,sC.1,sB.1,sA.1]
 have lz:z<hF.objs.size:=eQ zF
 show wpAny _ _ (Builtin.SmallTypes.ownedTupleHandOut (.ref z) (.ref hF.objs.size) >>= _) _ _ _; unfold Builtin.SmallTypes.ownedTupleHandOut
 have zG:IsZip (hF.push { cls:=.type "tuple",data:=.seq #[x,y] }) z TI TO .ellipsis:=fM _ zF
 refine aW (aW (HB zG (by simp) fun hI zI sI=>?_))
 replace zI:IsZip hI z TI TO (rawInt hF.objs.size):=zI
 refine HB zI (by simp) fun hJ zJ sJ=>bR ⟨_,rfl,?_⟩
 replace zJ:IsZip hJ z TI TO (rawInt hF.objs.size):=zJ
 have up:∀c o,c≠z->hF.get? c=some o->hJ.get? c=some o:=fun c o n e=>sJ.extBut _ _ n (sI.extBut _ _ n (fM _ e))
 have tJ:IsPair hJ hF.objs.size x y:=sJ.extBut _ _ (Ao lz) (sI.extBut _ _ (Ao lz) (j_ _ rfl))
 have ZF:hJ.objs.size=hF.objs.size+1:=by rw[sJ.1,sI.1,lg]
 have kB:∀c o,c≠z->c≠TO->c≠i1->c≠i2->s.heap.get? c=some o->hF.get? c=some o:=fun c o n1 n2 n3 n4 e=>sF.extBut _ _ n2 (sD.extBut _ _ n4 (sC.extBut _ _ n2 (sB.extBut _ _ n3 (sA.extBut _ _ n1 e))))
 have u1:S1 (k+1) hF:=D1.frame _ _ _ (D1.frame _ _ _ (D1.frame _ _ _ ZJ (Hl sC Z.b3)) (Hl sD Z.b6)) (Hl sF Z.b3)
 have u2:S2 (k+1) hF:=D2.frame _ _ _ std (Hl sF Z.b4)
 show Q (.ref hF.objs.size) _
 rw[size] at zJ tJ ZF ⊢
 exact q x y hJ tD pB pD zJ (up _ _ Z.a2 oF) (D1.frame _ _ _ u1 fun c hc o e=>up c o (fun z'=>Z.b1 (z'▸hc)) e) (D2.frame _ _ _ u2 fun c hc o e=>up c o (fun z'=>Z.b2 (z'▸hc)) e) tJ ZF fun c o n1 n2 n3 n4 e=>up c o n1 (kB c o n1 n2 n3 n4 e)
theorem G_ {z TI TO i1 i2:Addr} {f1 f2:List Addr} {n1 n2 k:Nat} {P1 P2:Nat->Value->Prop} {S1 S2:Nat->Heap->Prop} {a b:Value} {Q:Fin->Shared->Prop} (Z:Ue z TI TO i1 i2 f1 f2) (D1:Draws prog w A i1 f1 n1 P1 S1) (D2:Draws prog w A i2 f2 n2 P2 S2)
  (hz:IsZip s.heap z TI TO .none) (hi:IsPair s.heap TI (.ref i1) (.ref i2)) (ho:IsPair s.heap TO a b) (s1:S1 k s.heap) (s2:S2 k s.heap) (kk:k=n1\/(k<n1/\k=n2))
  (q:∀h' e,(∀c o,c≠z->c≠TO->c≠i1->c≠i2->s.heap.get? c=some o->h'.get? c=some o)->(∃o,h'.get? e=some o/\o.cls=.type "StopIteration")->∀tk,E (.ref e) { s with heap:=h',toks:=tk }) :
  wpAny (model prog w) A (Builtin.«zip.__next__» ⟨[.ref z],[]⟩) Q E s:=by
 show wpAny _ _ (field (.ref z) 2 >>= _) _ _ _; refine aW (iB hz rfl (x:=.bool false) rfl ?_)
 show wpAny _ _ (field (.ref z) 3 >>= _) _ _ _; refine aW (iB hz rfl (x:=.ref TI) rfl (aW (rN hi rfl ?_)))
 show wpAny _ _ (Builtin.SmallTypes.ownedTupleIsFree (.ref z) >>= _) _ _ _; unfold Builtin.SmallTypes.ownedTupleIsFree
 refine aW (aW (iB hz rfl (x:=.none) rfl (bR ?_))); simp only[if_true]
 refine aW (yd (aW (iB hz rfl (x:=.ref TO) rfl (aW (HB hz (by simp) fun hA zA sA=>?_)))))
 replace zA:IsZip hA z TI TO .ellipsis:=zA
 refine aW ?_; simp only[List.zipIdx_cons,List.zipIdx_nil,Hv,List.forIn_nil]
 refine aW (aW (wpAny_onRaise ?_)); show wpAny _ _ (Builtin.SmallTypes.nextOf (.ref i1) >>= _) _ _ _
 rcases kk with e1 | ⟨k1,e2⟩
 ·have ZR:=s1
  rw[e1] at ZR
  refine aW (D1.done _ _ _ (D1.frame _ _ _ ZR (Hl sA Z.b1)) fun hB x sB hx=>?_)
  obtain⟨ox,gx,cx⟩:=hx
  have zB:IsZip hB z TI TO .ellipsis:=sB _ _ Z.a4.symm zA
  have nx:x≠z:=fun y=>by subst y; rw[zB] at gx; cases gx; exact absurd (show Value.type "zip" = Value.type "StopIteration" from cx) (by decide)
  refine HB zB (by simp) fun hC _ sC=>q hC x (fun c o m1 _ m3 _ e=>sC.extBut _ _ m1 (sB _ _ m3 (sA.extBut _ _ m1 e))) ⟨ox,sC.extBut _ _ nx gx,cx⟩ _
 ·refine aW (D1.item k _ _ _ k1 (D1.frame _ _ _ s1 (Hl sA Z.b1)) fun x hB tB pB ZJ sB=>bR ?_)
  have oB:IsPair hB TO a b:=sB.extBut _ _ Z.a6 (sA.extBut _ _ Z.a2 ho)
  have uB:S2 k hB:=D2.frame _ _ _ (D2.frame _ _ _ s2 (Hl sA Z.b2)) (Hl sB Z.b5)
  refine aW (rN oB rfl (aW (wpAny_updateSeq_pair oB fun hC oC sC=>?_)))
  refine aW (Dj (bR (aW (aW (wpAny_onRaise ?_))))); show wpAny _ _ (Builtin.SmallTypes.nextOf (.ref i2) >>= _) _ _ _
  have uC:S2 n2 hC:=by rw[<- e2]; exact D2.frame _ _ _ uB (Hl sC Z.b4)
  refine aW (D2.done _ _ _ uC fun hD v sD hx=>?_)
  obtain⟨ox,gx,cx⟩:=hx
  have zD:IsZip hD z TI TO .ellipsis:=sD _ _ Z.a5.symm (sC.extBut _ _ Z.a2.symm (sB.extBut _ _ Z.a4.symm zA))
  have nx:v≠z:=fun y=>by subst y; rw[zD] at gx; cases gx; exact absurd (show Value.type "zip" = Value.type "StopIteration" from cx) (by decide)
  refine HB zD (by simp) fun hF _ sF=>q hF v (fun c o m1 m2 m3 m4 e=>sF.extBut _ _ m1 (sD _ _ m4 (sC.extBut _ _ m2 (sB.extBut _ _ m3 (sA.extBut _ _ m1 e))))) ⟨ox,sF.extBut _ _ nx gx,cx⟩ _
theorem Q4 {z TI TO i1 i2:Addr} {f1 f2:List Addr} {n1 n2 k:Nat} {P1 P2:Nat->Value->Prop} {S1 S2:Nat->Heap->Prop} {a b:Value} {Q:Option Value->Shared->Prop} (Z:Ue z TI TO i1 i2 f1 f2) (D1:Draws prog w A.in1 i1 f1 n1 P1 S1) (D2:Draws prog w A.in1 i2 f2 n2 P2 S2)
  (hz:IsZip s.heap z TI TO .none) (hi:IsPair s.heap TI (.ref i1) (.ref i2)) (ho:IsPair s.heap TO a b) (s1:S1 k s.heap) (s2:S2 k s.heap) (k1:k<n1) (k2:k<n2)
  (q:∀x y h' tk,P1 k x->P2 k y->IsZip h' z TI TO (rawInt s.heap.objs.size)->IsPair h' TO x y->S1 (k+1) h'->S2 (k+1) h'->IsPair h' s.heap.objs.size x y->h'.objs.size=s.heap.objs.size+1->(∀c o,c≠z->c≠TO->c≠i1->c≠i2->s.heap.get? c=some o->h'.get? c=some o)->Q (some (.ref s.heap.objs.size)) { s with heap:=h',toks:=tk }) :
  wpAny (model prog w) A (pyNext (.ref z)) Q E s:=by
 have ty:s.TypeIs (.ref z) "zip" := ⟨_,hz,rfl⟩
 unfold pyNext
 refine aW (wpAny_attempt (HD (name:=Str.ofString "__next__") ty F.slot_zip_next (yj F.slot_zip_next ty F.entry_zip_next ?_ (F.args_zip_next_1 _))))
 exact Jy Z D1 D2 hz hi ho s1 s2 k1 k2 fun x y h' tk p1 p2 v1 v2 v3 v4 v5 v6 v7=>bR (q x y h' tk p1 p2 v1 v2 v3 v4 v5 v6 v7)
theorem Nf {z TI TO i1 i2:Addr} {f1 f2:List Addr} {n1 n2 k:Nat} {P1 P2:Nat->Value->Prop} {S1 S2:Nat->Heap->Prop} {a b:Value} {Q:Option Value->Shared->Prop} (Z:Ue z TI TO i1 i2 f1 f2) (D1:Draws prog w A.in1 i1 f1 n1 P1 S1) (D2:Draws prog w A.in1 i2 f2 n2 P2 S2)
  (hz:IsZip s.heap z TI TO .none) (hi:IsPair s.heap TI (.ref i1) (.ref i2)) (ho:IsPair s.heap TO a b) (s1:S1 k s.heap) (s2:S2 k s.heap) (kk:k=n1\/(k<n1/\k=n2))
  (q:∀h' tk,(∀c o,c≠z->c≠TO->c≠i1->c≠i2->s.heap.get? c=some o->h'.get? c=some o)->Q none { s with heap:=h',toks:=tk }):wpAny (model prog w) A (pyNext (.ref z)) Q E s:=by
 have ty:s.TypeIs (.ref z) "zip" := ⟨_,hz,rfl⟩
 unfold pyNext
 refine aW (wpAny_attempt (HD (name:=Str.ofString "__next__") ty F.slot_zip_next (yj F.slot_zip_next ty F.entry_zip_next ?_ (F.args_zip_next_1 _))))
 refine G_ Z D1 D2 hz hi ho s1 s2 kk fun h' e k hx tk=>?_
 obtain⟨o,g,c⟩:=hx
 exact aW (wpAny_isInstance (T:="StopIteration") (b:=true) ⟨o,g,c⟩ isSubtype_stop (bR (q _ tk k)))
end
abbrev Wo (h:Heap) (t1 t2:Addr):Heap:=tiH (tiH h t1) t2
abbrev Wn (h:Heap) (t1 t2:Addr):Heap:=(Wo h t1 t2).push { cls:=.type "tuple",data:=.seq #[.ref h.objs.size,.ref (tiH h t1).objs.size] }
abbrev Wm (h:Heap) (t1 t2:Addr):Heap:=(Wn h t1 t2).push { cls:=.type "tuple",data:=.seq #[.none,.none] }
abbrev Q8 (h:Heap) (t1 t2:Addr):Heap:=(Wm h t1 t2).push { cls:=.type "zip",data:=.fields #[.none,.bool false,.bool false,.ref (Wo h t1 t2).objs.size,.ref (Wn h t1 t2).objs.size] }
theorem O9 (t1 t2:Addr) (xs ys:Array Value):Meets (Builtin.«zip.__new__» ⟨[.type "zip",.ref t1,.ref t2],[]⟩) (fun _ R s=>s.heap.IsTuple t1 xs/\s.heap.IsTuple t2 ys/\R (.ok (.ret (.ref (Wm s.heap t1 t2).objs.size))) { s with heap:=Q8 s.heap t1 t2 }):=
 .of_wp fun prog w A R s z=>by
  obtain⟨hp,g,d,tk,os⟩:=s
  obtain⟨hx,hy,z⟩:=z
  have sub:=sub_zip
  have hX:Heap.IsTuple (Shared.heap ⟨hp,g,d,tk,os⟩) t1 xs:=hx
  have hY:Heap.IsTuple (Shared.heap ⟨tiH hp t1,g,d,tk,os⟩) t2 ys:=hy.push _
  wp_walk using Hz hX,Hz hY
  exact⟨_,rfl,z⟩
theorem IV {prog:Program} {w:World} {A:Around} {E:Value->Shared->Prop} {s:Shared} {t1 t2:Addr} {xs ys:Array Value} {Q:Value->Shared->Prop} (hx:s.heap.IsTuple t1 xs) (hy:s.heap.IsTuple t2 ys)
  (q:∀h',IsZip h' (s.heap.objs.size+4) (s.heap.objs.size+2) (s.heap.objs.size+3) .none->IsPair h' (s.heap.objs.size+2) (.ref s.heap.objs.size) (.ref (s.heap.objs.size+1))->IsPair h' (s.heap.objs.size+3) .none .none ->
   h'.IsTupleIter s.heap.objs.size t1 0->h'.IsTupleIter (s.heap.objs.size+1) t2 0->(∀c o,s.heap.get? c=some o->h'.get? c=some o)->Q (.ref (s.heap.objs.size+4)) { s with heap:=h' }) :
  wpAny (model prog w) A (call (.type "zip") [.ref t1,.ref t2]) Q E s:=by
 have n1:(tiH s.heap t1).objs.size=s.heap.objs.size+1:=lg ..
 have n2:(Wo s.heap t1 t2).objs.size=s.heap.objs.size+2:=by rw[lg,n1]
 have n3:(Wn s.heap t1 t2).objs.size=s.heap.objs.size+3:=by rw[lg,n2]
 have n4:(Wm s.heap t1 t2).objs.size=s.heap.objs.size+4:=by rw[lg,n3]
 have up:∀c o,s.heap.get? c=some o->(Q8 s.heap t1 t2).get? c=some o:=fun c o e=>fM _ (fM _ (fM _ (fM _ (fM _ e))))
 have v5:(Q8 s.heap t1 t2).get? (Wm s.heap t1 t2).objs.size=some _:=j_ _ rfl
 have v4:(Q8 s.heap t1 t2).get? (Wn s.heap t1 t2).objs.size=some _:=fM _ (j_ _ rfl)
 have v3:(Q8 s.heap t1 t2).get? (Wo s.heap t1 t2).objs.size=some _:=fM _ (fM _ (j_ _ rfl))
 have v2:(Q8 s.heap t1 t2).get? (tiH s.heap t1).objs.size=some _:=fM _ (fM _ (fM _ (j_ _ rfl)))
 have v1:(Q8 s.heap t1 t2).get? s.heap.objs.size=some _:=fM _ (fM _ (fM _ (fM _ (j_ _ rfl))))
 refine callType_new F.called_zip (by decide) (F.typeCall_zip_2 _ _) (F.newCall_zip_2 _ _) (fun x=>F.args_object_init_3 x _ _) F.entry_zip_new (O9 t1 t2 xs ys) ⟨hx,hy,?_⟩
 show _/\_
 rw[n2,n3,n4] at v5
 rw[n1,n2] at v3
 rw[n3] at v4
 rw[n1] at v2
 rw[n4]
 exact⟨⟨_,v5,rfl⟩,q _ v5 v3 v4 ⟨_,v1,rfl,rfl⟩ ⟨_,v2,rfl,rfl⟩ up⟩
theorem Inv.xK {X:Cx} {pins:List (Addr×Obj)} {σ:St} {H:Hp} {s:Shared} {h':Heap} {t':Nat} {fp:List Addr} (I:Inv X pins σ H s) (k:∀b o,b∉fp->s.heap.get? b=some o->h'.get? b=some o) (hf:∀b∈fp,gH X pins H b) :
  Inv X pins σ H { s with heap:=h',toks:=t' }:=by
 have ni:∀b u,H b=some u->b∉fp:=fun b u q hb=>by rw[(hf b hb).1] at q; cases q
 refine I.step (g':=s.gens) (d':=s.drawn) (ch:=fp) (fun b hb=>?_) (fun b o _ _ hc q _=>k b o hc q) (fun b o _ _ hc q _=>⟨o.slots,k b o hc q⟩) (fun _ _ _ _ n=>n) (fun b o hc q=>⟨o,k b o hc q⟩) (fun _ _ q=>q) (fun _ _ _ q=>q)
  (fun b ps q=>⟨#[],by rw[q]; simp⟩) (fun m hm=>?_) (fun b u q=>?_) I.bare
 ·obtain⟨_,f1,_,f3,f4,f5⟩:=hf b hb
  exact⟨f3,(hf b hb).2.1,f4,f5⟩
 ·obtain⟨o,es,ep,ho,r⟩:=hm
  exact⟨o,es,ep,k _ o (fun hb=>(hf _ hb).2.1 rfl) ho,r⟩
 ·refine(I.hok b u q).stay (fun c v hc z=>k c v ?_ z) (fun _ z=>z) fun _ _ z=>z
  rcases hc with z | z
  ·rw[z]; exact ni b u q
  ·exact ni c _ z
theorem Vg {X:Cx} {pins:List (Addr×Obj)} {σ:St} {H:Hp} {s:Shared} {a b:Addr} {xs:List V} (I:Inv X pins σ H s) (hq:bW X.K H a xs) (hf:gH X pins H b):a≠b:=fun z=>by
 rcases hq with h | ⟨o,its,n,hk,_⟩
 ·rcases h with h | ⟨o,h⟩ <;> (rw[z,hf.1] at h; cases h)
 ·have e:X.base.get? a=some o:=I.ok.mod.QK a o hk
  rcases hf.2.2.2.1 with y | y
  ·exact I.ok.DP a o e (z▸y)
  ·have l:=eQ e
   have m:=I.ok.MK
   rw[z] at l
   exact absurd (lD l (fK m y)) (rM _)
structure W7 where
 Sq:PySem.W.Frag->Hp->Addr->List V->Prop
 It:Heap->Addr->Addr->Nat->Prop
 Pl:Heap->Addr->Array Value->Prop
 obj:∀{h:Heap} {i a:Addr} {n:Nat},It h i a n->∃o,h.get? i=some o/\∀v,o.data≠.cell v
 keep:∀{h h':Heap} {i a:Addr} {n:Nat},It h i a n->(∀o,h.get? i=some o->h'.get? i=some o)->It h' i a n
 inv:∀{X:Cx} {pins:List (Addr×Obj)} {σ:St} {H:Hp} {s:Shared} {a:Addr} {xs:List V},Inv X pins σ H s->Sq X.K H a xs->∃us:List Value,Vals xs us/\Pl s.heap a us.toArray
 inj:∀{X:Cx} {pins:List (Addr×Obj)} {σ:St} {H:Hp} {s:Shared} {a:Addr} {xs ys:List V},Inv X pins σ H s->Sq X.K H a xs->Sq X.K H a ys->xs=ys
 ne:∀{X:Cx} {pins:List (Addr×Obj)} {σ:St} {H:Hp} {s:Shared} {a b:Addr} {xs:List V},Inv X pins σ H s->Sq X.K H a xs->gH X pins H b->a≠b
 dr:∀{prog:Program} {w:World} {A:Around},A.handled=none->∀{i a:Addr},a≠i->∀us:Array Value,Draws prog w A i [i,a] us.size (fun n v=>us[n]?=some v) (fun n h=>It h i a n/\Pl h a us)
def kT:W7:=⟨fun K=>bW K,fun h i a n=>h.IsTupleIter i a n,fun h a us=>h.IsTuple a us,fun⟨o,g,_,d⟩=>⟨o,g,fun v q=>by rw[d] at q; cases q⟩,fun g k=>g.at k,fun I h=>(I.tuple h).elim fun us p=>⟨us,p.1,p.2.1⟩,fun I h h'=>I.qi h h',fun I h f=>Vg I h f,fun hh _ _ n us=>qM hh n us⟩
def Wi (k1 k2:W7) (K:PySem.W.Frag) (a b:Addr):It:=
 ⟨fun i H=>∃xs ys x y,k1.Sq K H a xs/\k2.Sq K H b ys/\xs[i]?=some x/\ys[i]?=some y,fun i H v H'=>∃p x y,H p=none/\v=.ref p/\H'=upd H p (.tup [x,y])/\(∀xs,k1.Sq K H a xs->xs[i]?=some x)/\∀ys,k2.Sq K H b ys->ys[i]?=some y,
  fun i H=>∃xs ys,k1.Sq K H a xs/\k2.Sq K H b ys/\(i=xs.length\/(i<xs.length/\i=ys.length))⟩
structure Zb (k1 k2:W7) (z TI TO i1 i2 a b:Addr) (i:Nat) (h:Heap):Prop where
 z:IsZip h z TI TO .none
 p:IsPair h TI (.ref i1) (.ref i2)
 o:∃x y,IsPair h TO x y
 l:k1.It h i1 a i
 r:k2.It h i2 b i
abbrev Wh:=Wi kT kT
theorem Hd (k1 k2:W7) {P:Program} {w:World} {K:PySem.W.Frag} {elts:List Expr} {x1} {tp:Pos} (a b z TI TO i1 i2:Addr) (n1:TI≠z) (n2:TO≠z) (n3:TI≠TO) (n4:i1≠z) (n5:i2≠z) (n6:TO≠i1) (n7:TO≠i2) (n8:i1≠i2) (n9:TI≠i1) (n10:TI≠i2) :
  Turn P w K (.Tuple elts x1 tp) (Wi k1 k2 K a b) [z,TI,TO,i1,i2] z (Zb k1 k2 z TI TO i1 i2 a b) where
 mem:=by simp
 obj:=fun i h st c hc=>by
  obtain⟨g1,g2,⟨x,y,g3⟩,g4,g5⟩:=st
  simp only[dZ,jh,or_false] at hc
  rcases hc with rfl | rfl | rfl | rfl | rfl
  ·exact⟨_,g1,fun v q=>by cases q⟩
  ·exact⟨_,g2,fun v q=>by cases q⟩
  ·exact⟨_,g3,fun v q=>by cases q⟩
  ·exact k1.obj g4
  ·exact k2.obj g5
 keep:=fun i h h' st k=>by
  obtain⟨g1,g2,⟨x,y,g3⟩,g4,g5⟩:=st
  exact⟨k z (by simp) _ g1,k TI (by simp) _ g2,⟨x,y,k TO (by simp) _ g3⟩,k1.keep g4 fun o e=>k i1 (by simp) o e,k2.keep g5 fun o e=>k i2 (by simp) o e⟩
 item:=by
  intro X hP hw hK hc i pins s σ H E I hf st hg
  subst hP hw hK
  obtain⟨g1,g2,⟨xo,yo,g3⟩,g4,g5⟩:=st
  obtain⟨xs,ys,x,y,hx,hy,ex,ey⟩:=hg
  obtain⟨us,ru,pu⟩:=k1.inv I hx
  obtain⟨vs,rv,pv⟩:=k2.inv I hy
  obtain⟨u,hu,ru'⟩:=ru.get ex
  obtain⟨v,hv,rv'⟩:=rv.get ey
  have ha:∀c∈[z,TI,TO,i1,i2],a≠c:=fun c hc=>k1.ne I hx (hf c hc)
  have hb:∀c∈[z,TI,TO,i1,i2],b≠c:=fun c hc=>k2.ne I hy (hf c hc)
  have hh:X.A.in1.handled=none:=I.ok.hd hc
  have Z:Ue z TI TO i1 i2 [i1,a] [i2,b]:=⟨n1,n2,n3,n4,n5,n6,n7,n8,by simp; exact⟨n4.symm,(ha z (by simp)).symm⟩,by simp; exact⟨n5.symm,(hb z (by simp)).symm⟩,by simp; exact⟨n6,(ha TO (by simp)).symm⟩,by simp; exact⟨n7,(hb TO (by simp)).symm⟩,by simp; exact⟨n8,(hb i1 (by simp)).symm⟩,by simp; exact⟨n8.symm,(ha i2 (by simp)).symm⟩⟩
  refine Q4 Z (k1.dr hh (ha i1 (by simp)) us.toArray) (k2.dr hh (hb i2 (by simp)) vs.toArray) g1 g2 g3 (show _/\_ from⟨g4,pu⟩) (show _/\_ from⟨g5,pv⟩) (by have:=(iM.mp hu).1; simpa using this) (by have:=(iM.mp hv).1; simpa using this)
   fun u' v' h' tk hu' hv' z1 z2 z3 z4 z5 z6 kk=>?_
  have eu:u'=u:=by
   have:us[i]?=some u':=by simpa using hu'
   rw[hu] at this; exact(Option.some.inj this).symm
  have ev:v'=v:=by
   have:vs[i]?=some v':=by simpa using hv'
   rw[hv] at this; exact(Option.some.inj this).symm
  subst eu ev
  have fr:H s.heap.objs.size=none:=I.hok.fresh (bD _)
  have I1:Inv X pins σ (upd H s.heap.objs.size (.tup [x,y])) { s with heap:=s.heap.push { cls:=.type "tuple",data:=.seq #[u',v'] },toks:=tk }:=
   I.laid (t':=tk) (fun b v z=>fM _ z) (bD _) ⟨(by show 2<=sizeLine; decide),[u',v'],.cons ru' (.cons rv' .nil),⟨_,j_ _ rfl,rfl,_,rfl⟩⟩
  have lt:∀c∈[z,TI,TO,i1,i2],c<s.heap.objs.size:=fun c hc=>by
   simp only[dZ,jh,or_false] at hc
   rcases hc with rfl | rfl | rfl | rfl | rfl
   ·exact eQ g1
   ·exact eQ g2
   ·exact eQ g3
   ·obtain⟨o,e,_⟩:=k1.obj g4; exact eQ e
   ·obtain⟨o,e,_⟩:=k2.obj g5; exact eQ e
  have f1:∀c∈[z,TI,TO,i1,i2],gH X pins (upd H s.heap.objs.size (.tup [x,y])) c:=fun c hc=>⟨by rw[aJ (dH (lt c hc))]; exact(hf c hc).1,(hf c hc).2⟩
  have I2:Inv X pins σ (upd H s.heap.objs.size (.tup [x,y])) { s with heap:=h',toks:=tk }:=I1.xK (t':=tk) (fun c o nc e=>by
   have m:∀d∈[z,TI,TO,i1,i2],c≠d:=fun d hd y=>nc (y▸hd)
   by_cases y:c=s.heap.objs.size
   ·subst y
    rw[j_ _ rfl] at e
    cases e
    exact z5
   ·rcases Heap.get?_push_cases e with w | w
    ·exact absurd w.1 y
    ·exact kk c o (m z (by simp)) (m TO (by simp)) (m i1 (by simp)) (m i2 (by simp)) w) f1
  have g2':IsPair h' TI (.ref i1) (.ref i2):=kk _ _ n1 n3 n9 n10 g2
  refine⟨_,rfl,wpAny_letOwnedTupleGo_zip z1 fun h2 zz sb=>⟨.ref s.heap.objs.size,_,I2.xK (fp:=[z,TI,TO,i1,i2]) (t':=tk) (fun c o nc e=>sb.extBut c o (fun y=>nc (by simp[y])) e) f1,rfl,⟨_,x,y,fr,rfl,rfl,fun xs' h=>by rw[k1.inj I h hx]; exact ex,fun ys' h=>by rw[k2.inj I h hy]; exact ey⟩,⟨zz,sb.extBut _ _ n1 g2',⟨_,_,sb.extBut _ _ n2 z2⟩,?_,?_⟩,fun c hc=>(f1 c hc).1⟩⟩
  ·exact k1.keep z3.1 fun o e=>sb.extBut i1 o n4 e
  ·exact k2.keep z4.1 fun o e=>sb.extBut i2 o n5 e
 done:=by
  intro X hP hw hK hc i pins s σ H E I hf st hg
  subst hP hw hK
  obtain⟨g1,g2,⟨xo,yo,g3⟩,g4,g5⟩:=st
  obtain⟨xs,ys,hx,hy,hl⟩:=hg
  obtain⟨us,ru,pu⟩:=k1.inv I hx
  obtain⟨vs,rv,pv⟩:=k2.inv I hy
  have ha:∀c∈[z,TI,TO,i1,i2],a≠c:=fun c hc=>k1.ne I hx (hf c hc)
  have hb:∀c∈[z,TI,TO,i1,i2],b≠c:=fun c hc=>k2.ne I hy (hf c hc)
  have hh:X.A.in1.handled=none:=I.ok.hd hc
  have Z:Ue z TI TO i1 i2 [i1,a] [i2,b]:=⟨n1,n2,n3,n4,n5,n6,n7,n8,by simp; exact⟨n4.symm,(ha z (by simp)).symm⟩,by simp; exact⟨n5.symm,(hb z (by simp)).symm⟩,by simp; exact⟨n6,(ha TO (by simp)).symm⟩,by simp; exact⟨n7,(hb TO (by simp)).symm⟩,by simp; exact⟨n8,(hb i1 (by simp)).symm⟩,by simp; exact⟨n8.symm,(ha i2 (by simp)).symm⟩⟩
  have l1:=ru.length
  have l2:=rv.length
  refine Nf Z (k1.dr hh (ha i1 (by simp)) us.toArray) (k2.dr hh (hb i2 (by simp)) vs.toArray) g1 g2 g3 (show _/\_ from⟨g4,pu⟩) (show _/\_ from⟨g5,pv⟩) (by simp; omega) fun h' tk kk=>⟨rfl,I.xK (fp:=[z,TI,TO,i1,i2]) (t':=tk) (fun c o nc e=>?_) hf⟩
  have m:∀d∈[z,TI,TO,i1,i2],c≠d:=fun d hd y=>nc (y▸hd)
  exact kk c o (m z (by simp)) (m TO (by simp)) (m i1 (by simp)) (m i2 (by simp)) e
 self:=fun _ _ _ _ _ st h=>wpAny_pyIter_zip st.z h
section
variable {X:Cx}
def QM (K:PySem.W.Frag) (ta:TA):TI:=fun σ H R=>ta σ H fun vs H1=>∃a b,vs=[.ref a,.ref b]/\(∃xs,bW K H1 a xs)/\(∃ys,bW K H1 b ys)/\R (Wh K a b) H1
theorem Oo {K:PySem.W.Frag} {e e':Expr} {elts:List Expr} {x1} {tp p pos:Pos} {ta:TA} (hK:X.K=K) (hm:X.mg "zip" = none) (ha:PA X [e,e'] ta) (hg:Gl X "zip" := by rfl) (h1:bJ e=true:=by rfl) (h2:bJ e'=true:=by rfl) :
  PI X (.Tuple elts x1 tp) (.Call (.Name "zip" p) [e,e'] [] pos) (QM K ta):=by
 subst hK
 refine .mk ?_
 intro pins s σ H R I h
 refine uq (jj I hg hm Tw ?_ (by decide) (by decide))
 refine PyProof.Rows.callWith_type1 (bN (ha pos pins s σ H _ I h) fun us s1 ⟨vs,H1,I1,r1,q1⟩=>?_) (bL h1) (bO (es:=[e']) (by simp[h2]))
 obtain⟨a,b,rfl,⟨xs,hx⟩,⟨ys,hy⟩,q⟩:=q1
 obtain⟨u,v,rfl,ru,rv⟩:=r1.two
 cases ru
 cases rv
 obtain⟨us,_,pu,_⟩:=I1.tuple hx
 obtain⟨ws,_,pw,_⟩:=I1.tuple hy
 refine IV (show s1.heap.IsTuple a us.toArray from pu) (show s1.heap.IsTuple b ws.toArray from pw) fun h' hz hp ho h1 h2 kk=>?_
 have I2:Inv X pins σ H1 { s1 with heap:=h' }:=I1.kept (t':=s1.toks) kk
 have fr:∀n,H1 (s1.heap.objs.size+n)=none:=fun n=>I1.hok.fresh (Nat.le_add_right _ _)
 have fk:∀n,gH X pins H1 (s1.heap.objs.size+n):=fun n=>I1.uP (Nat.le_add_right _ _) (fr n)
 have ne:∀i j:Nat,i≠j->s1.heap.objs.size+i≠s1.heap.objs.size+j:=fun i j n e=>n (Nat.add_left_cancel e)
 refine wpAny_pyIter_zip hz ⟨s1.heap.objs.size+4,_,_,Wh X.K a b,H1,rfl,I2,Hd kT kT a b (s1.heap.objs.size+4) (s1.heap.objs.size+2) (s1.heap.objs.size+3) s1.heap.objs.size (s1.heap.objs.size+1) (ne _ _ (by decide)) (ne _ _ (by decide)) (ne _ _ (by decide)) (ne 0 _ (by decide)) (ne _ _ (by decide)) (ne _ 0 (by decide)) (ne _ _ (by decide)) (ne 0 _ (by decide)) (ne _ 0 (by decide)) (ne _ _ (by decide)),⟨hz,hp,⟨_,_,ho⟩,h1,h2⟩,fun c hc=>?_,q⟩
 simp only[dZ,jh,or_false] at hc
 rcases hc with rfl | rfl | rfl | rfl | rfl
 ·exact fk 4
 ·exact fk 2
 ·exact fk 3
 ·exact fk 0
 ·exact fk 1
end
abbrev two (elt t1 i1 t2 i2:Expr) (sc:Scope) (pos:Pos):Expr:=.ListComp elt [⟨t1,i1,[],0⟩,⟨t2,i2,[],0⟩] sc pos
theorem Nm (elt t1 i1 t2 i2:Expr) (sc:Scope) (pos:Pos) (it acc:Value) (env:Env) :
  compTurn (two elt t1 i1 t2 i2 sc pos) 1 it acc env=(standAt i2.pos >>= fun _=>pyNext it >>= fun r=>match r with
   | none=>pure (.done .next)
   | some v=>letOwnedTupleGo t2 it v >>= fun _=>assign t2 env v >>= fun _=>(eval elt env >>= fun x=>call (.builtin "list.append") [acc,x] >>= fun _=>pure ()) >>= fun _=>again (.compLoop (two elt t1 i1 t2 i2 sc pos) 1 it acc env)):=by rfl
theorem JH (elt t1 i1 t2 i2:Expr) (sc:Scope) (pos:Pos) (it acc:Value) (env:Env) :
  compTurn (two elt t1 i1 t2 i2 sc pos) 0 it acc env=(do
   standAt i1.pos
   match <- pyNext it with
   | none=>pure (.done .next)
   | some v=>
    letOwnedTupleGo t1 it v
    assign t1 env v
    let mut ok:=true
    for c in([]:List Expr) do
     if ok then ok <- isTrue c env (eval c env)
    if ok then
     let x <- eval i2 env
     standAt i2.pos
     let y <- foldedSetIterable i2 env x
     let _ <- runOwn (.compStart (two elt t1 i1 t2 i2 sc pos) 1 (<- holding [y] (pyIter y)) acc env) env
    again (.compLoop (two elt t1 i1 t2 i2 sc pos) 0 it acc env)):=by rfl
section
variable {prog:Program} {w:World} {A:Around} {R:Result->Shared->Prop} {s:Shared} {elt t1 i1 t2 i2:Expr} {sc:Scope} {pos:Pos} {it acc:Value} {env:Env}
theorem Pb (Iv:Nat->Shared->Prop)
  (turn:∀n s,Iv n s->wpAny (model prog w) A (pyNext it) (fun r s1=>match r with
   | none=>R (.ok .next) s1
   | some v=>wpAny (model prog w) A (letOwnedTupleGo t2 it v) (fun _ s2=>wpAny (model prog w) A (assign t2 env v) (fun _ s3=>wpAny (model prog w) A (eval elt env) (fun x s4=>
     wpAny (model prog w) A (call (.builtin "list.append") [acc,x]) (fun _ s5=>∃m,m<n/\Iv m s5) (fun _ _=>False) s4) (fun _ _=>False) s3) (fun _ _=>False) s2) (fun _ _=>False) s1) (fun _ _=>False) s)
  (n:Nat) (h:Iv n s):codeAny (model prog w) A (.compLoop (two elt t1 i1 t2 i2 sc pos) 1 it acc env) R s:=by
 refine codeAny_loop rfl Iv (fun n s hI=>?_) n h
 show wpAny _ _ ((compTurn (two elt t1 i1 t2 i2 sc pos) 1 it acc env).onRaise (fun x=>do noteFrame x env; theTreesLotGoes x)) _ _ s
 refine wpAny_noted ?_
 rw[Nm]
 refine aW (ye (aW (dN (turn n s hI) (fun r s1 q1=>?_) fun _ _ f=>f.elim)))
 cases r with
 | none=>exact bR q1
 | some v=>exact aW (dN q1 (fun _ s2 q2=>aW (dN q2 (fun _ s3 q3=>aW (aW (dN q3 (fun x s4 q4=>aW (dN q4 (fun _ s5 q5=>bR (bR ⟨rfl,q5⟩)) fun _ _ f=>f.elim)) fun _ _ f=>f.elim))) fun _ _ f=>f.elim)) fun _ _ f=>f.elim)
theorem LQ (hs:∀x,foldedSetIterable i2 env x=pure x) (Iv:Nat->Shared->Prop)
  (turn:∀n s,Iv n s->wpAny (model prog w) A (pyNext it) (fun r s1=>match r with
   | none=>R (.ok .next) s1
   | some v=>wpAny (model prog w) A (letOwnedTupleGo t1 it v) (fun _ s2=>wpAny (model prog w) A (assign t1 env v) (fun _ s3=>wpAny (model prog w) A (eval i2 env) (fun x s4=>wpAny (model prog w) A (pyIter x) (fun j s5=>
     codeAny (model prog w) A (.compStart (two elt t1 i1 t2 i2 sc pos) 1 j acc env) (fun r s6=>match r with | .ok _=>∃m,m<n/\Iv m s6 | .error _=>False) s5) (fun _ _=>False) s4) (fun _ _=>False) s3) (fun _ _=>False) s2) (fun _ _=>False) s1) (fun _ _=>False) s)
  (n:Nat) (h:Iv n s):codeAny (model prog w) A (.compLoop (two elt t1 i1 t2 i2 sc pos) 0 it acc env) R s:=by
 refine codeAny_loop rfl Iv (fun n s hI=>?_) n h
 show wpAny _ _ ((compTurn (two elt t1 i1 t2 i2 sc pos) 0 it acc env).onRaise (fun x=>do noteFrame x env; theTreesLotGoes x)) _ _ s
 refine wpAny_noted ?_
 rw[JH]
 refine aW (ye (aW (dN (turn n s hI) (fun r s1 q1=>?_) fun _ _ f=>f.elim)))
 cases r with
 | none=>exact bR q1
 | some v=>
  refine aW (dN q1 (fun _ s2 q2=>aW (dN q2 (fun _ s3 q3=>?_) fun _ _ f=>f.elim)) fun _ _ f=>f.elim)
  refine aW (dN (wpAny_tests_nil (Q:=fun ok s'=>ok=true/\s'=s3) ⟨rfl,rfl⟩) (fun ok s' z=>?_) fun _ _ f=>f)
  obtain⟨rfl,rfl⟩:=z
  simp only[if_true]
  refine aW (dN q3 (fun x s4 q4=>aW (ye ?_)) fun _ _ f=>f.elim)
  refine aW (rK (hs x) (aW (Ai (dN q4 (fun j s5 q5=>?_) fun _ _ f=>f.elim))))
  refine aW (wpAny_runOwn ?_)
  refine codeAny_mono q5 fun r s6 z=>?_
  cases r with
  | ok f=>exact bR ⟨rfl,z⟩
  | error e=>exact z.elim
theorem JT (h0:codeAny (model prog w) A (.compLoop (two elt t1 i1 t2 i2 sc pos) 1 it acc env) R s)
  (h:wpAny (model prog w) A (pyIter it) (fun j s'=>codeAny (model prog w) A (.compLoop (two elt t1 i1 t2 i2 sc pos) 1 j acc env) R s') (fun _ _=>False) s):codeAny (model prog w) A (.compStart (two elt t1 i1 t2 i2 sc pos) 1 it acc env) R s:=by
 refine codeAny_of_tree ?_
 show wpAny _ _ ((compStart (two elt t1 i1 t2 i2 sc pos) 1 it acc env).onRaise (fun x=>do noteFrame x env; standAt theWindowsPlace)) _ _ s
 refine wpAny_notedAt ?_; unfold compStart
 show wpAny _ _ (ask >>= _) _ _ s; refine aW (wpAny_askSetting (wpAny_ite ?_))
 split
 ·exact aW (bR (bR ⟨rfl,h0⟩))
 ·refine aW (yd ?_); show wpAny _ _ (standAt i2.pos >>= _) _ _ s
  exact aW (ye (aW (dN h (fun j s' z=>bR ⟨rfl,z⟩) fun _ _ f=>f.elim)))
end
def CN (js:List Nat) (wi wj:TI) (te:TE):TE:=fun σ H Q=>wi σ H fun J H1=>∀acc,H1 acc=none->∃W:Nat->Nat->List V->Hp->Prop,(∃m,W 0 m [] (upd H1 acc (.lst [])))/\∀i m ys H2,W i m ys H2 ->
 (J.stop i H2/\Q (.ref acc) H2)\/(J.go i H2/\∀x H3,J.xG i H2 x H3->wj (some x::none::bK js σ) H3 fun L H4=>∃U:Nat->Nat->List V->Hp->Prop,(∃k,U 0 k ys H4)/\∀j k zs H5,U j k zs H5 ->
  (L.stop j H5/\∃m',m'<m/\W (i+1) m' zs H5)\/(L.go j H5/\∀y H6,L.xG j H5 y H6->te (some x::some y::bK js σ) H6 fun v H7=>H7 acc=some (.lst zs)/\zs.length<sizeLine/\∃k',k'<k/\U (j+1) k' (zs++[v]) (upd H7 acc (.lst (zs++[v])))))
theorem Ed {X:Cx} {elt i1 i2:Expr} {x1 x2:Str} {p1 p2 pos:Pos} {sc:Scope} {wi wj:TI} {te:TE} {N':List Str} {js:List Nat} {use:Option (Value->Sem Unit)} {Qc:Value->Shared->Prop} {pins:List (Addr×Obj)} {s:Shared} {σ:St} {H:Hp} {Q:VK} {kp:Pos} (hc:X.calm=true) (hi:PI X (.Name x1 p1) i1 wi) (S:mF X 2 N' js sc)
  (h0:N'[0]?=some x1) (h1':N'[1]?=some x2) (nd:N'.Nodup) (l1:sc.names.lookup x1=some .local) (l2:sc.names.lookup x2=some .local) (hj:∀fp s H,PI (ou X N' sc fp s H) (.Name x2 p2) i2 wj) (he:∀fp s H,PE (ou X N' sc fp s H) elt te) (hs:∀x,foldedSetIterable i1 X.env x=pure x) (hs2:∀fp s H x,foldedSetIterable i2 (ou X N' sc fp s H).env x=pure x) (I:Inv X pins σ H s) (h:CN js wi wj te σ H Q)
  (fin:∀(acc C:Addr) (H':Hp) (s':Shared),Inv X pins σ H' s'->gH X pins H' C->(∃m,s'.heap.Ns C m)->Q (.ref acc) H'->compPost (model X.prog X.w) X.A X.xe use Qc (.ref acc) C (.ok .next) s') :
  wpAny (model X.prog X.w) X.A (comprehension (two elt (.Name x1 p1) i1 (.Name x2 p2) i2 sc pos) sc X.env kp (newList []) false (eval i1 X.env) use) Qc X.xe s:=by
 refine wpAny_comprehension_free (use:=use) rfl hs S.clos S.kind S.names ?_
 refine bN (hi pins s σ H _ I h) fun v s1 q1=>bN q1 fun itv s2 q2=>?_
 obtain⟨it,fp,tn,J,H2,e,I2,T,st2,f2,q3⟩:=q2
 subst e
 refine rP ?_
 obtain⟨W,⟨m0,w0⟩,turn⟩:=q3 s2.heap.objs.size I2.fresh
 have I3:=I2.Sw (ys:=[]) (its:=[]) (t':=s2.toks) .nil (dG _)
 have VV:∀b∈fp,b<s2.heap.objs.size:=fun b hb=>by
  obtain⟨o,ho,_⟩:=T.obj 0 _ st2 b hb
  exact eQ ho
 generalize e3:({ s2 with heap:=s2.heap.push { cls:=.type "list",data:=.seq ([]:List Value).toArray },toks:=s2.toks }:Shared)=s3 at I3
 have e3':({ s2 with heap:=s2.heap.push { cls:=.type "list",dict:=none,data:=.seq ([]:List Value).toArray } }:Shared)=s3:=e3
 have Xk:s3.heap.objs.size=s2.heap.objs.size+1:=by rw[<- e3]; exact lg ..
 have st3:tn 0 s3.heap:=T.keep 0 _ _ st2 fun b hb o ho=>by rw[<- e3]; exact fM _ ho
 have VR:∀b∈fp,b<s3.heap.objs.size:=fun b hb=>by rw[Xk]; exact Hy (VV b hb)
 have f3:∀b∈fp,gH X pins (upd H2 s2.heap.objs.size (.lst [])) b:=fun b hb=>⟨by rw[aJ (dH (VV b hb))]; exact(f2 b hb).1,(f2 b hb).2⟩
 generalize hH3:upd H2 s2.heap.objs.size (.lst [])=H3 at I3 f3 w0
 refine wpAny_newFunctionEnv S.gf (by intro y hy; simp at hy) (fun h1 hns hsb=>?_) S.kind
 have hk:∀b o,s3.heap.get? b=some o->h1.get? b=some o:=fun b o q=>hsb.extBut b o (dH (eQ q)) (fM _ q)
 have hns':h1.Ns s3.heap.objs.size fun _=>none:=hns
 have I4:Inv (ou X N' sc fp s3 H3) [] (none::none::bK js σ) H3 { s3 with heap:=h1,toks:=s3.toks+([]:List (Str×Value)).length }:=Io (nt:=2) I3 f3 VR S hns' hk
 have Vd:tn 0 h1:=T.keep 0 _ _ st3 fun b hb o ho=>hk b o ho
 have stat:∀{H':Hp},(∀b∈fp,H' b=none)->∀b∈fp,gH (ou X N' sc fp s3 H3) [] H' b:=fun hn b hb=>⟨hn b hb,dH (VR b hb),I4.ok.Ea b hb,.inl hb,(I4.ok.Wb b hb).2,fun p hp=>absurd (show p∈([]:List (Addr×Obj)) from hp) (by simp)⟩
 have out:∀{σ':St} {H':Hp} {s':Shared},Inv (ou X N' sc fp s3 H3) [] σ' H' s'->Q (.ref s2.heap.objs.size) H'->compPost (model X.prog X.w) X.A X.xe use Qc (.ref s2.heap.objs.size) s3.heap.objs.size (.ok .next) s':=by
  intro σ' H' s' I' q'
  obtain⟨m,hn,_⟩:=id I'.loc
  have I5:Inv X pins σ H' s':=I3.call' I'.os I'.base I'.hok I'.bare fun b hb=>⟨(f3 b hb).2.2.2.1,(f3 b hb).2.1,(f3 b hb).2.2.2.2.1,(f3 b hb).2.2.2.2.2⟩
  exact fin _ _ H' s' I5 (I3.uP (bD _) I'.free) ⟨m,hn⟩ q'
 have loop:∀s4:Shared,s4={ s3 with heap:=h1,toks:=s3.toks+([]:List (Str×Value)).length }->codeAny (model X.prog X.w) X.A (.compLoop (two elt (.Name x1 p1) i1 (.Name x2 p2) i2 sc pos) 0 (.ref it) (.ref s2.heap.objs.size) (compEnvC sc (oA sc X.env) s3.heap.objs.size X.env))
   (compPost (model X.prog X.w) X.A X.xe use Qc (.ref s2.heap.objs.size) s3.heap.objs.size) s4:=by
  rintro s4 rfl
  refine LQ (hs2 fp s3 H3) (fun n s'=>∃i ys H',Inv (ou X N' sc fp s3 H3) [] (none::none::bK js σ) H' s'/\tn i s'.heap/\(∀b∈fp,H' b=none)/\W i n ys H') ?_ m0 ⟨0,[],H3,I4,Vd,fun b hb=>(f3 b hb).1,w0⟩
  rintro n s5 ⟨i,ys,H5,I5,Nx,Th,w5⟩
  rcases turn i n ys H5 w5 with⟨stop,qn⟩ | ⟨go,step⟩
  ·refine bN (T.done (ou X N' sc fp s3 H3) rfl rfl rfl hc i [] s5 _ H5 (fun _ _=>False) I5 (stat Th) Nx stop) fun r s6 qx=>?_
   obtain⟨hr,I6⟩:=qx
   subst hr
   exact out I6 qn
  ·refine bN (T.item (ou X N' sc fp s3 H3) rfl rfl rfl hc i [] s5 _ H5 (fun _ _=>False) I5 (stat Th) Nx go) fun r s6 qx=>?_
   obtain⟨u,hr,q6⟩:=qx
   subst hr
   refine bN q6 fun _ s7 qx=>?_
   obtain⟨y,H7,I7,r7,y7,Nv,Yn⟩:=qx
   have Zi:=I7.pinned (stat Yn) (T.obj _ _ Nv)
   have g1:PG (ou X N' sc fp s3 H3) (.Name x1 p1) (cF 0):=aD nd h0 (.inl (gO l1)) (.inr (gO l1))
   have g2:PG (ou X N' sc fp s3 H3) (.Name x2 p2) (cF 1):=aD nd h1' (.inl (gO l2)) (.inr (gO l2))
   refine bN (g1 _ s7 _ H7 y u (fun σ' H'=>σ'=some y::none::bK js σ/\H'=H7) Zi r7 ⟨rfl,rfl⟩) fun _ s8 qx=>?_
   obtain⟨σ8,H8,I8,e8,e8'⟩:=qx
   subst e8 e8'
   refine bN (hj fp s3 H3 _ s8 _ _ _ I8 (step y _ y7)) fun v9 s9 q9=>bN q9 fun itv ud RG=>?_
   obtain⟨it2,Yp,tn2,L,Ck,e10,Wk,T2,Vf,Tn,U,⟨k0,u0⟩,UW⟩:=RG
   subst e10
   have JS:∀{H':Hp},(∀b∈Yp,H' b=none)->∀b∈Yp,gH (ou X N' sc fp s3 H3) _ H' b:=fun hn b hb=>⟨hn b hb,(Tn b hb).2⟩
   have QJ:codeAny (model X.prog X.w) X.A (.compLoop (two elt (.Name x1 p1) i1 (.Name x2 p2) i2 sc pos) 1 (.ref it2) (.ref s2.heap.objs.size) (compEnvC sc (oA sc X.env) s3.heap.objs.size X.env))
     (fun r s6=>match r with | .ok _=>∃m,m<n/\∃i ys H',Inv (ou X N' sc fp s3 H3) [] (none::none::bK js σ) H' s6/\tn i s6.heap/\(∀b∈fp,H' b=none)/\W i m ys H' | .error _=>False) ud:=by
    refine Pb (fun k s'=>∃j zs H',Inv (ou X N' sc fp s3 H3) _ (some y::none::bK js σ) H' s'/\tn2 j s'.heap/\(∀b∈Yp,H' b=none)/\U j k zs H') ?_ k0 ⟨0,ys,Ck,Wk,Vf,fun b hb=>(Tn b hb).1,u0⟩
    rintro k Ft ⟨j,zs,Jm,I11,Ve,V8,w11⟩
    rcases UW j k zs Jm w11 with⟨Va,m',hm,qn2⟩ | ⟨go2,Vc⟩
    ·refine bN (T2.done (ou X N' sc fp s3 H3) rfl rfl rfl hc j _ Ft _ Jm (fun _ _=>False) I11 (JS V8) Ve Va) fun r s12 qx=>?_
     obtain⟨hr,Zm⟩:=qx
     subst hr
     refine⟨m',hm,i+1,zs,Jm,(Zm.gM).weak rfl fun q v e=>?_,T.keep _ _ _ Nv fun b hb o e=>(Zm.pin (b,o) (fY _ (fY _ (bU hb e)))).1,fun b hb=>?_,qn2⟩
     ·cases q with
      | zero=>simp at e
      | succ q=>simpa using e
     ·obtain⟨o,e,d⟩:=T.obj _ _ Nv b hb
      exact(Zm.pin (b,o) (fY _ (fY _ (bU hb e)))).2.1
    ·refine bN (T2.item (ou X N' sc fp s3 H3) rfl rfl rfl hc j _ Ft _ Jm (fun _ _=>False) I11 (JS V8) Ve go2) fun r s12 qx=>?_
     obtain⟨u2,hr,q12⟩:=qx
     subst hr
     refine bN q12 fun _ m9 qx=>?_
     obtain⟨y2,Uj,I13,r13,y13,Rj,Yo⟩:=qx
     have Zk:=I13.pinned (JS Yo) (T2.obj _ _ Rj)
     refine bN (g2 _ m9 _ Uj y2 u2 (fun σ' H'=>σ'=some y::some y2::bK js σ/\H'=Uj) Zk r13 ⟨rfl,rfl⟩) fun _ Cp qx=>?_
     obtain⟨σ14,W9,I14,Tr,Y8⟩:=qx
     subst Tr Y8
     refine bN (he fp s3 H3 _ Cp _ _ _ I14 (Vc y2 _ y13)) fun z Ac qx=>?_
     obtain⟨vz,M4,I15,r15,ha,hz,k',hk',w15⟩:=qx
     refine bN (gm (X:=ou X N' sc fp s3 H3) _ Ac _ M4 (.ref s2.heap.objs.size) [vz] (.ref s2.heap.objs.size) [z] (fun _ H'=>H'=upd M4 s2.heap.objs.size (.lst (zs++[vz]))) I15 rfl (.cons r15 .nil) ⟨_,zs,vz,rfl,rfl,ha,hz,rfl⟩) fun _ Rr qx=>?_
     obtain⟨_,H16,Zj,_,Tq⟩:=qx
     subst Tq
     refine⟨k',hk',j+1,zs++[vz],_,(Zj.gM).weak rfl fun q v e=>?_,T2.keep _ _ _ Rj fun b hb o e=>(Zj.pin (b,o) (fY _ (fY _ (bU hb e)))).1,fun b hb=>?_,w15⟩
     ·match q,e with
      | 0,e=>simpa using e
      | 1,e=>simp at e
      | q+2,e=>simpa using e
     ·obtain⟨o,e,d⟩:=T2.obj _ _ Rj b hb
      exact(Zj.pin (b,o) (fY _ (fY _ (bU hb e)))).2.1
   exact JT QJ (T2.self X.A 0 _ _ _ Vf QJ)
 exact codeAny_compStart_list (loop _ rfl) (T.self X.A 0 _ _ _ Vd (loop _ rfl))
theorem b8 {X:Cx} {K:PySem.W.Frag} {pos:Pos} {es:List Expr} {k:Nat} {t:MN} {n:Nat} (hK:X.K=K) (hc:X.calm=true) (h:TY X es t)
  (hn:(assignEach es X.env).length=n:=by rfl) (hst:(assignEach es X.env).findIdx? (·.1)=none:=by rfl):PG X (.Tuple es k pos) (Ir K n t):=by
 subst hK
 exact RQ hc h hn hst
theorem e_ {X:Cx} {K:PySem.W.Frag} {tg l:Expr} {tl:TE} (hK:X.K=K) (hl:PE X l tl):PI X tg l (uK K tl):=by
 subst hK
 exact RN hl
theorem dU {X:Cx} {K:PySem.W.Frag} {tg l:Expr} {tl:TE} (hK:X.K=K) (hl:PE X l tl):PI X tg l (j8 K tl):=by
 subst hK
 exact Oq hl
theorem K6 {X:Cx} {elt i1 i2:Expr} {x1 x2:Str} {p1 p2 pos:Pos} {sc:Scope} {wi wj:TI} {te:TE} {N':List Str} {js:List Nat} (hc:X.calm=true) (hi:PI X (.Name x1 p1) i1 wi) (S:mF X 2 N' js sc)
  (h0:N'[0]?=some x1) (h1':N'[1]?=some x2) (nd:N'.Nodup) (l1:sc.names.lookup x1=some .local) (l2:sc.names.lookup x2=some .local) (hj:∀fp s H,PI (ou X N' sc fp s H) (.Name x2 p2) i2 wj) (he:∀fp s H,PE (ou X N' sc fp s H) elt te) (hs:∀x,foldedSetIterable i1 X.env x=pure x:=by intro _; rfl) (hs2:∀fp s H x,foldedSetIterable i2 (ou X N' sc fp s H).env x=pure x:=by intro _ _ _ _; rfl) :
  PE X (two elt (.Name x1 p1) i1 (.Name x2 p2) i2 sc pos) (CN js wi wj te):=by
 refine .mk ?_
 intro pins s σ H Q I h
 rw[eval_ListComp]
 refine Ed (use:=none) hc hi S h0 h1' nd l1 l2 hj he hs hs2 I h fun acc C H' s' I5 fc ⟨m,hn⟩ q=>?_
 refine⟨m,hn,fun h' sb=>?_⟩
 exact⟨.ref acc,H',I5.turned (it:=C) (t':=s'.toks) (fun b o hb q=>sb.extBut b o hb q) fc.1 fc.2.1 fc.2.2.2.1 fc.2.2.2.2.1 fc.2.2.2.2.2,rfl,q⟩
theorem uZ {K:PySem.W.Frag} {js:List Nat} {J:It} {te:TE} {σ:St} {H:Hp} {Q:VK} {acc:Addr} {es:List PyData} (xv yv:Nat->V) (hz:es.length<=sizeLine) (hL:bC es=true) (hacc:H acc=none)
  (go:∀i H',i<es.length->aA H H'->J.go i H') (yl:∀i H' v cV,i<es.length->aA H H'->J.xG i H' v cV->∃p,H' p=none/\v=.ref p/\cV=upd H' p (.tup [xv i,yv i])) (st:∀H',aA H H'->J.stop es.length H')
  (val:∀(i:Nat) e H',es[i]?=some e->aA H H'->∀R:VK,(∀v cV,aA H' cV->At cV e v->R v cV)->te (some (xv i)::some (yv i)::bK js σ) H' R)
  (fin:∀ys H',aA H H'->H' acc=some (.lst ys)->ak (hid acc H') es ys->Q (.ref acc) H') :
  ∃W:Nat->Nat->List V->Hp->Prop,(∃m,W 0 m [] (upd H acc (.lst [])))/\∀i m ys H2,W i m ys H2 ->
   (J.stop i H2/\Q (.ref acc) H2)\/(J.go i H2/\∀x H3,J.xG i H2 x H3->Ir K 2 (jy (cF 0) (jy (cF 1) y_)) x (List.replicate 2 none++bK js σ) H3 fun σ' H'=>(σ'.drop 2=bK js σ/\σ'.length=(List.replicate 2 (none:Option V)++bK js σ).length)/\ql σ' H' fun b cV=>
    if b=true then te σ' cV fun y H4=>H4 acc=some (.lst ys)/\ys.length<sizeLine/\∃m',m'<m/\W (i+1) m' (ys++[y]) (upd H4 acc (.lst (ys++[y]))) else ∃m',m'<m/\W (i+1) m' ys cV):=by
 refine⟨fun i m ys H2=>m=es.length-i/\i<=es.length/\ak (hid acc H2) (es.take i) ys/\aA H H2/\H2 acc=some (.lst ys),⟨_,rfl,dG _,ak.nil,aM hacc _,az⟩,?_⟩
 rintro i m ys H2 ⟨rfl,hi,hA,sm,hy⟩
 by_cases hlt:i<es.length
 ·refine .inr ⟨go i H2 hlt sm,fun x H3 y=>?_⟩
  obtain⟨p,fp,rfl,rfl⟩:=yl i H2 x H3 hlt sm y
  refine⟨p,_,rfl,bW.of az,rfl,(show(_=_/\_=_)/\ql _ _ _ from⟨⟨rfl,by simp⟩,?_⟩)⟩
  unfold ql
  simp only[if_true]
  have e1:es[i]?=some es[i]:=jg hlt
  have s3:aA H2 (upd H2 p (.tup [xv i,yv i])):=aM fp _
  refine val i _ _ e1 (sm.trans s3) _ fun v H4 s4 a4=>⟨s4 _ _ (s3 _ _ hy),?_,es.length-(i+1),by omega,rfl,hlt,?_,?_,az⟩
  ·rw[hA.length,pI]; omega
  ·rw[ik,yg,e1]
   exact ak.append (hA.mono (aA.hid (s3.trans s4))) (ak.cons (At.vP (s4 _ _ (s3 _ _ hy)) _ _ (nY hL e1) a4) ak.nil)
  ·refine fun b o q=>?_
   have nb:b≠acc:=bH q hacc
   rw[aJ nb]
   exact s4 _ _ (s3 _ _ (sm _ _ q))
 ·have e:i=es.length:=by omega
  subst e
  rw[qF] at hA
  exact .inl ⟨st _ sm,fin _ _ sm hy hA⟩
theorem Iz {K:PySem.W.Frag} {js:List Nat} {a b:Addr} {xs ys:List V} {es:List PyData} {ta:TA} {te:TE} {σ:St} {H:Hp} {Q:VK} (hl:∀R:List V->Hp->Prop,R [.ref a,.ref b] H->ta σ H R) (ha:H a=some (.tup xs)) (hb:H b=some (.tup ys)) (n1:xs.length=es.length) (n2:ys.length=es.length) (hz:es.length<=sizeLine) (hL:bC es=true)
  (val:∀(i:Nat) x y e H',xs[i]?=some x->ys[i]?=some y->es[i]?=some e->aA H H'->∀R:VK,(∀v cV,aA H' cV->At cV e v->R v cV)->te (some x::some y::bK js σ) H' R)
  (fin:∀acc zs H',aA H H'->H acc=none->H' acc=some (.lst zs)->ak (hid acc H') es zs->Q (.ref acc) H'):d8 2 js (QM K ta) (Ir K 2 (jy (cF 0) (jy (cF 1) y_))) ql te σ H Q:=by
 refine hl _ ⟨a,b,rfl,⟨xs,bW.of ha⟩,⟨ys,bW.of hb⟩,fun acc hacc=>?_⟩
 have gx:∀i,i<es.length->xs[i]?=some (xs.getD i .non):=fun i hi=>by rw[oK,jg (by omega)]; rfl
 have gy:∀i,i<es.length->ys[i]?=some (ys.getD i .non):=fun i hi=>by rw[oK,jg (by omega)]; rfl
 refine uZ (es:=es) (fun i=>xs.getD i .non) (fun i=>ys.getD i .non) hz hL hacc (fun i H' hi s=>⟨xs,ys,_,_,bW.of (s _ _ ha),bW.of (s _ _ hb),gx i hi,gy i hi⟩) (fun i H' v cV hi s y=>?_) (fun H' s=>⟨xs,ys,bW.of (s _ _ ha),bW.of (s _ _ hb),.inl n1.symm⟩) (fun i e H' he s R hR=>?_) fun zs H' s h1 h2=>fin acc zs H' s hacc h1 h2
 ·obtain⟨p,x,y,fp,e1,e2,h1,h2⟩:=y
  have q1:=h1 xs (bW.of (s _ _ ha))
  have q2:=h2 ys (bW.of (s _ _ hb))
  rw[gx i hi] at q1
  rw[gy i hi] at q2
  cases q1
  cases q2
  exact⟨p,fp,e1,e2⟩
 ·have hi:i<es.length:=by
   by_cases z:i<es.length
   ·exact z
   ·rw[List.getElem?_eq_none (by omega)] at he; cases he
  exact val i _ _ e H' (gx i hi) (gy i hi) he s R hR
theorem Ec {K:PySem.W.Frag} {js:List Nat} {a:Addr} {ys:List V} {es:List PyData} {ta:TA} {te:TE} {σ:St} {H:Hp} {Q:VK} (hl:∀R:List V->Hp->Prop,R [.ref a] H->ta σ H R) (hb:H a=some (.tup ys)) (n2:ys.length=es.length) (hz:es.length<=sizeLine) (hL:bC es=true)
  (val:∀(i:Nat) y e H',ys[i]?=some y->es[i]?=some e->aA H H'->∀R:VK,(∀v cV,aA H' cV->At cV e v->R v cV)->te (some (.int (i:Nat))::some y::bK js σ) H' R)
  (fin:∀acc zs H',aA H H'->H acc=none->H' acc=some (.lst zs)->ak (hid acc H') es zs->Q (.ref acc) H'):d8 2 js (Mh K ta) (Ir K 2 (jy (cF 0) (jy (cF 1) y_))) ql te σ H Q:=by
 refine hl _ ⟨a,rfl,⟨ys,bW.of hb⟩,fun acc hacc=>?_⟩
 have gy:∀i,i<es.length->ys[i]?=some (ys.getD i .non):=fun i hi=>by rw[oK,jg (by omega)]; rfl
 refine uZ (es:=es) (fun i=>.int (i:Nat)) (fun i=>ys.getD i .non) hz hL hacc (fun i H' hi s=>⟨ys,_,bW.of (s _ _ hb),gy i hi⟩) (fun i H' v cV hi s y=>?_) (fun H' s=>⟨ys,bW.of (s _ _ hb),n2⟩) (fun i e H' he s R hR=>?_) fun zs H' s h1 h2=>fin acc zs H' s hacc h1 h2
 ·obtain⟨p,y,fp,e1,e2,h2⟩:=y
  have q2:=h2 ys (bW.of (s _ _ hb))
  rw[gy i hi] at q2
  cases q2
  exact⟨p,fp,e1,e2⟩
 ·have hi:i<es.length:=by
   by_cases z:i<es.length
   ·exact z
   ·rw[List.getElem?_eq_none (by omega)] at he; cases he
  exact val i _ e H' (gy i hi) he s R hR
theorem Mv {K:PySem.W.Frag} {js:List Nat} {xs:List V} {es:List PyData} {te:TE} {σ:St} {H:Hp} {Q:VK} (hn:es.length=xs.length) (hz:es.length<=sizeLine) (hL:bC es=true)
  (step:∀(i:Nat) x e H',xs[i]?=some x->es[i]?=some e->aA H H'->∀R:VK,(∀v cV,aA H' cV->At cV e v->R v cV)->te (some x::bK js σ) H' R)
  (fin:∀acc ys H',aA H H'->H acc=none->H' acc=some (.lst ys)->ak (hid acc H') es ys->Q (.ref acc) H'):dM js (uK K (Rc K xs)) te σ H Q:=by
 intro a _ ht
 refine⟨a,rfl,⟨xs,ht H⟩,fun acc hacc=>?_⟩
 refine⟨fun i m ys H2=>m=es.length-i/\i<=es.length/\ak (hid acc H2) (es.take i) ys/\aA H H2/\H2 acc=some (.lst ys),⟨_,rfl,dG _,ak.nil,aM hacc _,az⟩,?_⟩
 rintro i m ys H2 ⟨rfl,hi,hA,sm,hy⟩
 by_cases hlt:i<es.length
 ·refine .inr ⟨⟨xs,xs[i]'(by omega),ht _,jg (by omega)⟩,fun x H3 y=>?_⟩
  obtain⟨e,y⟩:=y
  subst e
  have e1:es[i]?=some es[i]:=jg hlt
  refine step i x _ _ (y xs (ht _)) e1 sm _ fun v H4 s4 a4=>⟨s4 _ _ hy,?_,es.length-(i+1),by omega,rfl,hlt,?_,?_,az⟩
  ·rw[hA.length,pI]; omega
  ·rw[ik,yg,e1]
   exact ak.append (hA.mono (aA.hid s4)) (ak.cons (At.vP (s4 _ _ hy) _ _ (nY hL e1) a4) ak.nil)
  ·refine fun b o q=>?_
   have nb:b≠acc:=bH q hacc
   rw[aJ nb]
   exact s4 _ _ (sm _ _ q)
 ·have e:i=es.length:=by omega
  subst e
  rw[qF] at hA
  exact .inl ⟨⟨xs,ht _,by omega⟩,fin _ _ _ sm hacc hy hA⟩
theorem Mw {K:PySem.W.Frag} {js:List Nat} {a:Addr} {xs:List V} {tl tm te:TE} {σ:St} {H:Hp} {Q:VK} (uR:List (List PyData)) (hl:∀R:VK,R (.ref a) H->tl σ H R) (ha:H a=some (.tup xs)) (hA:ak H (uR.map PyData.tuple) xs) (hn:uR.flatten.length<=1000)
  (hm:∀x H' (R:VK),R x H'->tm (some x::none::bK js σ) H' R) (he:∀x y H' (R:VK),R y H'->te (some x::some y::bK js σ) H' R)
  (fin:∀acc ys H',aA H H'->H acc=none->H' acc=some (.lst ys)->ak H uR.flatten ys->Q (.ref acc) H'):CN js (uK K tl) (uK K tm) te σ H Q:=by
 refine hl _ ⟨a,rfl,⟨xs,bW.of ha⟩,fun acc hacc=>?_⟩
 have hlen:xs.length=uR.length:=by rw[hA.length,eY]
 have tl':∀i,(uR.take i).flatten.length<=uR.flatten.length:=fun i=>by
  have:uR.flatten=(uR.take i).flatten++(uR.drop i).flatten:=by rw[<- List.flatten_append,List.take_append_drop]
  rw[this,dR]; omega
 refine⟨fun i m ys H2=>m=uR.length-i/\i<=uR.length/\ak H (uR.take i).flatten ys/\aA H H2/\H2 acc=some (.lst ys),⟨_,rfl,dG _,ak.nil,aM hacc _,az⟩,?_⟩
 rintro i m ys H2 ⟨rfl,hi,V6,sm,hy⟩
 have ht:bW K H2 a xs:=bW.of (sm _ _ ha)
 by_cases hlt:i<uR.length
 ·refine .inr ⟨⟨xs,xs[i]'(by omega),ht,jg (by omega)⟩,fun x H3 y=>?_⟩
  obtain⟨e,y⟩:=y
  subst e
  have hx:=y xs ht
  have e1:uR[i]?=some uR[i]:=jg hlt
  obtain⟨x',hx',ax⟩:=hA.getD (show(uR.map PyData.tuple)[i]?=some (.tuple uR[i]) by rw[dz,e1]; rfl)
  rw[hx] at hx'
  cases hx'
  generalize hds:uR[i]=ds at *
  unfold At at ax
  obtain⟨b,zs,rfl,hb,aB⟩:=ax
  have ef:(uR.take (i+1)).flatten=(uR.take i).flatten++ds:=by rw[yg,e1]; simp
  refine hm _ _ _ ⟨b,rfl,⟨zs,bW.of (sm _ _ hb)⟩,?_⟩
  refine⟨fun j k ws H5=>k=ds.length-j/\j<=ds.length/\ak H ((uR.take i).flatten++ds.take j) ws/\aA H H5/\H5 acc=some (.lst ws),⟨_,rfl,dG _,by simpa using V6,sm,hy⟩,?_⟩
  rintro j k ws H5 ⟨rfl,hj,WR,Xm,hy5⟩
  have Yg:bW K H5 b zs:=bW.of (Xm _ _ hb)
  have hzl:=aB.length
  by_cases hjt:j<ds.length
  ·refine .inr ⟨⟨zs,zs[j]'(by omega),Yg,jg (by omega)⟩,fun u H6 yu=>?_⟩
   obtain⟨e,yu⟩:=yu
   subst e
   have hu:=yu zs Yg
   obtain⟨d,hd,au⟩:=aB.get hu
   refine he _ _ _ _ ⟨hy5,aZ ?_,ds.length-(j+1),by omega,rfl,hjt,?_,Xm.dw hacc,az⟩
   ·have:=WR.length
    rw[dR,pI] at this
    have t2:=tl' (i+1)
    rw[ef,dR] at t2
    omega
   ·rw[yg,hd,<- List.append_assoc]
    exact WR.append (ak.cons au ak.nil)
  ·have ej:j=ds.length:=by omega
   subst ej
   rw[qF] at WR
   refine .inl ⟨⟨zs,Yg,by omega⟩,uR.length-(i+1),by omega,rfl,hlt,by rw[ef]; exact WR,Xm,hy5⟩
 ·have e:i=uR.length:=by omega
  subst e
  rw[qF] at V6
  exact .inl ⟨⟨xs,ht,by omega⟩,fin _ _ _ sm hacc hy V6⟩
section
variable {X:Cx} {pins:List (Addr×Obj)} {σ:St} {H:Hp} {s:Shared} {A:Around} {E:Value->Shared->Prop} {Q:Value->Shared->Prop} {b:Bool}
end
section
variable {X:Cx}
end
section
variable {X:Cx}
end
def V9:V->Option Str
 | .int i=>if i.natAbs.log2<1920 then some (Str.ofString (toString i)) else none
 | .str z=>some z
 | _=>none
def ZD (te:TE):TE:=fun σ H Q=>te σ H fun x H1=>∃z,V9 x=some z/\z.length<=sizeLine/\Q (.str z) H1
abbrev TJ:=Str->St->Hp->(Str->Hp->Prop)->Prop
section
variable {X:Cx}
theorem Vy {e:Expr} {te:TE} {pos:Pos} (he:PE X e te):PE X (.FormattedValue e (-1) none pos) (ZD te):=by
 refine .mk ?_
 intro pins s σ H Q I h
 refine FormattedValue_plain (bN (he pins s σ H _ I h) fun v s1 qx=>?_)
 obtain⟨x,H1,I1,r1,z,hz,hl,q⟩:=qx
 cases x with
 | int i=>
  obtain⟨t,rfl⟩:=r1
  by_cases hd:i.natAbs.log2<1920
  ·have e:z=Str.ofString (toString i):=(Option.some.inj ((bc hd).symm.trans hz)).symm
   subst e
   exact formatField_int_small hd ⟨.str _,H1,I1.tok _,⟨_,rfl⟩,q⟩
  ·have e:(none:Option Str)=some z:=(aX hd).symm.trans hz
   cases e
 | str y=>
  obtain⟨t,rfl⟩:=r1
  cases hz
  exact formatField_str (fun t' tk=>⟨.str _,H1,I1.tok _,⟨_,rfl⟩,q⟩) hl
 | _=>cases hz
structure PJ (X:Cx) (es:List Expr) (t:TJ):Prop where
 mk ::
 go:∀(acc:Str) (pins:List (Addr×Obj)) (s:Shared) (σ:St) (H:Hp) (R:Str->Hp->Prop),Inv X pins σ H s->t acc σ H R ->
  Joins (model X.prog X.w) X.A X.xe (evalEach es X.env) acc (fun out s'=>∃H',Inv X pins σ H' s'/\R out H') s
def ZC:TJ:=fun acc _ H R=>R acc H
def Zz (te:TE) (t:TJ):TJ:=fun acc σ H R=>te σ H fun x H1=>∃y,x=.str y/\(acc++y).length<=sizeLine/\t (acc++y) σ H1 R
def Zy (t:TJ):TE:=fun σ H Q=>t Str.empty σ H fun out H'=>out.length<=sizeLine/\Q (.str out) H'
theorem Joins.mono {M:Model} {A:Around} {E:Value->Shared->Prop}:∀{ps:List (Sem Value)} {acc:Str} {Q Q':Str->Shared->Prop} {s:Shared},(∀o s',Q o s'->Q' o s')->Joins M A E ps acc Q s->Joins M A E ps acc Q' s
 | [],_,_,_,_,h,j=>h _ _ j
 | _::_,_,_,_,_,h,j=>dN j (fun _ _ ⟨y,t,e,l,r⟩=>⟨y,t,e,l,Joins.mono h r⟩) fun _ _ e=>e
theorem RM:PJ X [] ZC:=.mk fun acc pins s σ H R I h=>⟨H,I,h⟩
theorem yw {e:Expr} {es:List Expr} {te:TE} {t:TJ} (he:PE X e te) (hr:PJ X es t):PJ X (e::es) (Zz te t):=by
 refine .mk fun acc pins s σ H R I h=>?_
 show wpAny _ _ (eval e X.env) _ _ s
 refine bN (he pins s σ H _ I h) fun v s1 qx=>?_
 obtain⟨x,H1,I1,r1,y,ex,hl,q⟩:=qx
 subst ex
 obtain⟨t',rfl⟩:=r1
 exact⟨y,t',rfl,hl,hr.go _ pins s1 σ H1 R I1 q⟩
theorem Vx {a b:Expr} {r:List Expr} {t:TJ} {pos:Pos} (h:PJ X (a::b::r) t):PE X (.JoinedStr (a::b::r) pos) (Zy t):=by
 refine .mk fun pins s σ H Q I hw=>?_
 refine wpAny_JoinedStr (Joins.mono ?_ (h.go Str.empty pins s σ H _ I hw))
 rintro o s' ⟨H',I',hl,q⟩
 exact⟨hl,.str o,H',I'.tok _,⟨_,rfl⟩,q⟩
def Xe (K:PySem.W.Frag) (ta:TE):TT:=fun σ H Q=>ta σ H fun x H'=>∃k,Zc K x H' k/\Q k H'
end
def tx (l:List Nat):Str:=⟨l.toArray⟩
theorem Cw (l:List Nat):(tx l).length=l.length:=by show l.toArray.size=_; simp
theorem UT {z:Str} {l:List Nat} (h:z.cps.toList=l):z=tx l:=by subst h; cases z; simp[tx]
def dg (n:Int):List Nat:=(Nat.toDigits 10 n.toNat).map Char.toNat
theorem Ri {n:Int} (h:0<=n):Str.ofString (toString n)=tx (dg n):=by
 obtain⟨m,rfl⟩:=Ks h
 exact UT (PySem.W.KIN.signs_num m)
theorem Tu {n:Int} {k:Nat} (hk:0<k) (h1:n<10 ^ k):(dg n).length<=k:=by
 unfold dg
 rw[eY]
 refine(Nat.length_toDigits_le_iff (by decide) hk).mpr ?_
 by_cases h0:0<=n
 ·have:(n.toNat:Int)<((10 ^ k:Nat):Int):=by rw[Int.toNat_of_nonneg h0]; simpa using h1
  exact_mod_cast this
 ·rw[show n.toNat=0 by omega]
  exact Nat.pow_pos (by decide)
theorem Il {m:Nat} (h:m<=1000000000000):m.log2<1920:=by
 by_cases e:m=0
 ·subst e; decide
 ·rw[Nat.log2_lt e]
  exact Nat.lt_of_le_of_lt h (lD (show 1000000000000<2 ^ 40 by decide) (Nat.pow_le_pow_right (by decide) (by decide)))
theorem Tj {n:Int} (h0:0<=n) (h1:n<=1000000000000):V9 (.int n)=some (tx (dg n)):=by
 show(if n.natAbs.log2<1920 then some (Str.ofString (toString n)) else none)=_
 rw[bc (Il (by omega)),Ri h0]
section
variable {X:Cx}
end
end L2
namespace L2
open PySem
structure Pl (n:Nat) (d:PyData):Prop where
 hd:d.hasDict=false
 cl:d.canLay0=true
 dp:d.depth<=n
end L2
namespace L2
open PySem PySem.Spec PyProof.Rows
def Jo (h:Heap) (e:Addr) (cls:Value) (T:Addr):Prop:=∃oe vs,h.get? e=some oe/\(oe.cls=cls/\oe.dict=none)/\oe.data=.fields vs/\vs[1]?=some (.ref T)/\vs[2]?=some .none
def Jf (h:Heap) (T:Addr):Prop:=∃oT ts,h.get? T=some oT/\oT.data=.fields ts/\ts[3]?=some .none
structure Q0 (fs:List Addr) (h h':Heap) (e T:Addr) (cls:Value):Prop where
 keep:∀b o,b≠e->b∉fs->h.get? b=some o->h'.get? b=some o
 slot:∀b o,b≠e->h.get? b=some o->∃sl,h'.get? b=some { o with slots:=sl }
 fresh:h.objs.size<=T
 ex:Jo h' e cls T
 tb:Jf h' T
section
variable {M:Model} {A:Around} {E:Value->Shared->Prop} {s:Shared}
theorem uU (o:Obj) (f:Array Value->Array Value):(Obj.mapFields f o).dict=o.dict:=by
 obtain⟨c,d,dt,sl⟩:=o
 cases dt <;> rfl
theorem entryE {base:Heap} {env:Env} {outer:List Env} {L e:Addr} {oe:Obj} {vs:Array Value} {head:Value} {nx:Bool} {Q:Unit->Shared->Prop}
  (fr:A.frames=some (env::outer)) (ff:s.heap.FunFrames base (env::outer)) (fL:env.frame=some L) (he:s.heap.get? e=some oe) (hdn:oe.dict=none) (hd:oe.data=.fields vs) (hz:1<vs.size) (hc:vs[2]?=some .none)
  (q:∀h' T,Q0 (frs (env::outer)) s.heap h' e T oe.cls->Q () { s with heap:=h' }) :
  wpAny M A (do
   let a <- frameOf env
   let pl <- entryPlaceOf L nx
   let b <- EntryCells.newEntry head a .none (rawInt L) .none pl
   setField (.ref e) 1 b) (fun _ s'=>wpAny M A (setFlight (.ref e) none) Q E s') E s:=by
 have ne:e∉frs (env::outer):=fun hm=>by
  obtain⟨_,o,ho,hf⟩:=ff.mem hm
  rw[he] at ho
  cases ho
  exact hf vs hd
 refine aW (wpAny_frameOf_fun fr ff fL fun h1 so=>aW (wpAny_entryPlaceOf fun pl hpl=>?_))
 obtain⟨sz,sk,ss⟩:=so
 unfold EntryCells.newEntry newFields
 refine aW (rP ?_ (hpl.sizeOk5 _ _ _ _ _))
 have e1:h1.get? e=some oe:=(sk e ne).trans he
 have pe:=fM (h:=h1) { cls:=.type "traceback",data:=.fields (([head,.ref L,.none,rawInt L,.none]:List Value)++(if pl.isEmpty then List.replicate 6 .none else pl)).toArray } e1
 have nT:h1.objs.size≠e:=Ao (eQ e1)
 have pT:=j_ h1 (o:={ cls:=.type "traceback",data:=.fields (([head,.ref L,.none,rawInt L,.none]:List Value)++(if pl.isEmpty then List.replicate 6 .none else pl)).toArray }) rfl
 have pk:∀b o,h1.get? b=some o->(h1.push { cls:=.type "traceback",data:=.fields (([head,.ref L,.none,rawInt L,.none]:List Value)++(if pl.isEmpty then List.replicate 6 .none else pl)).toArray }).get? b=some o:=fun b o z=>fM _ z
 refine Ht pe hd hz ?_
 generalize h1.push { cls:=.type "traceback",data:=.fields (([head,.ref L,.none,rawInt L,.none]:List Value)++(if pl.isEmpty then List.replicate 6 .none else pl)).toArray }=h2 at pe pT pk ⊢
 have dx:=Obj.data_mapFields hd (·.setIfInBounds 1 (Value.ref h1.objs.size))
 have XH:=Ak (Obj.mapFields (·.setIfInBounds 1 (Value.ref h1.objs.size))) pe (Obj.isFreed_of_fields dx)
 have XJ:=(rQ h2 (Obj.mapFields (·.setIfInBounds 1 (Value.ref h1.objs.size))) (Ne.symm nT)).trans pT
 have XF:∀b o,b≠e->h1.get? b=some o->(h2.update e (Obj.mapFields (·.setIfInBounds 1 (Value.ref h1.objs.size)))).get? b=some o:=fun b o z y=>(rQ h2 _ (Ne.symm z)).trans (pk b o y)
 have ce:=Obj.cls_mapFields oe (·.setIfInBounds 1 (Value.ref h1.objs.size))
 generalize h2.update e (Obj.mapFields (·.setIfInBounds 1 (Value.ref h1.objs.size)))=h3 at XH XJ XF ⊢
 unfold setFlight
 have v1:(vs.setIfInBounds 1 (Value.ref h1.objs.size))[1]?=some (.ref h1.objs.size):=by simp[hz]
 refine aW (iB XH dx v1 ?_)
 rw[bc (show(Value.ref h1.objs.size != Value.none)=true by simp)]
 refine Ht XJ rfl (by simp only[dI,dR,nQ,Ar] <;> omega) ?_
 have d4:=Obj.data_mapFields (o:={ cls:=.type "traceback",data:=.fields (([head,.ref L,.none,rawInt L,.none]:List Value)++(if pl.isEmpty then List.replicate 6 .none else pl)).toArray }) rfl (·.setIfInBounds 3 ((none:Option Addr).elim Value.none fun f=>rawInt f))
 have pT4:=Ak (Obj.mapFields (·.setIfInBounds 3 ((none:Option Addr).elim Value.none fun f=>rawInt f))) XJ (Obj.isFreed_of_fields d4)
 have o4:∀b,b≠h1.objs.size->(h3.update h1.objs.size (Obj.mapFields (·.setIfInBounds 3 ((none:Option Addr).elim Value.none fun f=>rawInt f)))).get? b=h3.get? b:=fun b z=>rQ h3 _ (Ne.symm z)
 refine q _ h1.objs.size ⟨fun b o z y x=>?_,fun b o z x=>?_,Nat.le_of_eq sz.symm,⟨_,_,(o4 e (Ne.symm nT)).trans XH,⟨ce,(uU oe _).trans hdn⟩,dx,v1,by rw[Array.getElem?_setIfInBounds]; simpa using hc⟩,⟨_,_,pT4,d4,?_⟩⟩
 ·have x1:h1.get? b=some o:=(sk b y).trans x
  exact(o4 b (dH (eQ x1))).trans (XF b o z x1)
 ·obtain⟨sl,x1⟩:=ss b o x
  exact⟨sl,(o4 b (dH (eQ x1))).trans (XF b _ z x1)⟩
 ·first | (simp; done) | (rcases hpl with rfl | ⟨_,_,_,_,_,_,_,rfl⟩ <;> simp)
theorem Pj {base:Heap} {env:Env} {outer:List Env} {L e:Addr} {oe:Obj} {vs:Array Value} {Q:Unit->Shared->Prop}
  (fr:A.frames=some (env::outer)) (ff:s.heap.FunFrames base (env::outer)) (fL:env.frame=some L) (he:s.heap.get? e=some oe) (hdn:oe.dict=none) (hd:oe.data=.fields vs) (h1:vs[1]?=some .none) (h2:vs[2]?=some .none)
  (q:∀h' T,Q0 (frs (env::outer)) s.heap h' e T oe.cls->Q () { s with heap:=h' }):wpAny M A (leaving env (.ref e)) Q E s:=by
 unfold leaving noteFrame
 simp only[fL]
 refine aW (aW (iB he hd h1 ?_))
 rw[aX (by decide)]
 exact entryE fr ff fL he hdn hd (Oe.mp h1).1 h2 q
structure T4 (fs:List Addr) (h h':Heap) (e T0 T:Addr) (cls:Value):Prop where
 keep:∀b o,b≠e->b≠T0->b∉fs->h.get? b=some o->h'.get? b=some o
 slot:∀b o,b≠e->b≠T0->h.get? b=some o->∃sl,h'.get? b=some { o with slots:=sl }
 old:∃o,h'.get? T0=some o
 fresh:h.objs.size<=T
 ex:Jo h' e cls T
 tb:Jf h' T
theorem noteE2 {base:Heap} {env:Env} {outer:List Env} {L e T0:Addr} {cls:Value} {Q:Unit->Shared->Prop}
  (fr:A.frames=some (env::outer)) (ff:s.heap.FunFrames base (env::outer)) (fL:env.frame=some L) (he:Jo s.heap e cls T0) (hT:Jf s.heap T0) (nT:T0≠e)
  (q:∀h' T,T4 (frs (env::outer)) s.heap h' e T0 T cls->Q () { s with heap:=h' }) :
  wpAny M A (noteFrame (.ref e) env) (fun _ s2=>wpAny M A (setFlight (.ref e) none) Q E s2) E s:=by
 obtain⟨oe,vs,e1,⟨ec,edn⟩,ed,ev,ev2⟩:=he
 obtain⟨oT,ts,t1,td,tv⟩:=hT
 subst ec
 unfold noteFrame
 simp only[fL]
 refine aW (iB e1 ed ev ?_)
 rw[bc (show(Value.ref T0 != Value.none)=true by simp)]
 refine aW (iB t1 td tv ?_)
 rw[aX (show ¬((Value.none==rawInt L)=true) by simp[rawInt])]
 have tz:=(Oe.mp tv).1
 refine aW (Ht t1 td tz ?_)
 have dT:=Obj.data_mapFields td (·.setIfInBounds 3 Value.none)
 have g1:=Ak (Obj.mapFields (·.setIfInBounds 3 Value.none)) t1 (Obj.isFreed_of_fields dT)
 have g2:∀b,b≠T0->(s.heap.update T0 (Obj.mapFields (·.setIfInBounds 3 Value.none))).get? b=s.heap.get? b:=fun b z=>rQ _ _ (Ne.symm z)
 have gz:(s.heap.update T0 (Obj.mapFields (·.setIfInBounds 3 Value.none))).objs.size=s.heap.objs.size:=Heap.size_after_update ..
 have f2:(s.heap.update T0 (Obj.mapFields (·.setIfInBounds 3 Value.none))).FunFrames base (env::outer):=ff.of_keeps fun b o ho hf=>⟨o,(g2 b fun z=>by
  rw[z,t1] at ho
  cases ho
  exact hf ts td).trans ho,rfl⟩
 generalize s.heap.update T0 (Obj.mapFields (·.setIfInBounds 3 Value.none))=h2 at g1 g2 gz f2 ⊢
 refine entryE (s:={ s with heap:=h2 }) fr f2 fL ((g2 e (Ne.symm nT)).trans e1) edn ed (Oe.mp ev).1 ev2 fun h' T l=>?_
 have nf:T0∉frs (env::outer):=fun hm=>by
  obtain⟨_,o,ho,hf⟩:=ff.mem hm
  rw[t1] at ho
  cases ho
  exact hf ts td
 exact q h' T ⟨fun b o z y x u=>l.keep b o z x ((g2 b y).trans u),fun b o z y u=>l.slot b o z ((g2 b y).trans u),⟨_,l.keep _ _ nT nf g1⟩,by rw[<- gz]; exact l.fresh,l.ex,l.tb⟩
end
section
variable {P:Program} {w:World} {H H':Hp} {h h':Heap} {a:Addr} {o:HO}
theorem bZ.there (x:bZ P w H h a o):∃u,h.get? a=some u:=by
 cases o with
 | lst xs=>obtain⟨_,_,_,_,e⟩:=x; exact⟨_,e⟩
 | tup xs=>obtain⟨_,_,_,ob,e,_⟩:=x; exact⟨_,e⟩
 | dK kvs=>obtain⟨_,_,_,_,o,_,_,e,_⟩:=x; exact⟨_,e⟩
 | dT kvs=>obtain⟨_,_,_,_,o,_,_,e,_⟩:=x; exact⟨_,e⟩
 | set S n=>obtain⟨o,_,_,_,e,_⟩:=x; exact⟨_,e⟩
 | ins C dx fs=>obtain⟨_,_,_,e,_⟩:=x; exact⟨_,e⟩
 | own y=>exact x
 | xd fs=>obtain⟨_,⟨_,_,_,e,_⟩,_⟩:=x; exact⟨_,e⟩
 | T_ lo hi=>obtain⟨_,_,_,e⟩:=x; exact⟨_,e⟩
 | zb ob u=>obtain⟨e,_⟩:=x; exact⟨_,e⟩
 | Qn ps=>exact⟨_,(show h.get? a=some _ from x)⟩
 | met f y=>exact⟨_,(show h.get? a=some _ from x)⟩
 | ext φ=>obtain⟨_,e,_⟩:=x; exact e
theorem j0.none (x:j0 P w H h) (e:h.get? a=none):H a=none:=by
 cases q:H a with
 | none=>rfl
 | some u=>
  obtain⟨v,z⟩:=(x a u q).there
  rw[e] at z; cases z
def vA (e:Addr) (cls:Value) (T:Addr):HO:=.ext fun h=>Jo h e cls T
def vV (T:Addr):HO:=.ext fun h=>Jf h T
def M_ (T:Addr):HO:=.ext fun h=>∃o,h.get? T=some o
theorem Lb {e T:Addr} {cls:Value} (x:Jo h e cls T):bZ P w H h e (vA e cls T):=by
 refine⟨x,?_,?_⟩
 ·obtain⟨oe,vs,e1,_⟩:=x; exact⟨_,e1⟩
 ·rintro h1 h2 ⟨oe,vs,e1,r⟩ k
  exact⟨oe,vs,k _ e1,r⟩
theorem FW {T:Addr} (x:Jf h T):bZ P w H h T (vV T):=by
 refine⟨x,?_,?_⟩
 ·obtain⟨oe,vs,e1,_⟩:=x; exact⟨_,e1⟩
 ·rintro h1 h2 ⟨oe,vs,e1,r⟩ k
  exact⟨oe,vs,k _ e1,r⟩
theorem QG {T:Addr} (x:∃o,h.get? T=some o):bZ P w H h T (M_ T):=by
 refine⟨x,x,?_⟩
 rintro h1 h2 ⟨oe,e1⟩ k
 exact⟨oe,k _ e1⟩
theorem vA.at {e T:Addr} {cls:Value} (x:bZ P w H h e (vA e cls T)):Jo h e cls T:=x.1
theorem vV.at {T:Addr} (x:bZ P w H h T (vV T)):Jf h T:=x.1
theorem j0.ext (x:j0 P w H h) (S:Addr->Prop) (k:∀b u v,H b=some u->¬S b->h.get? b=some v->h'.get? b=some v) (hs:∀b,S b->H b=Option.none\/∃φ,H b=some (.ext φ))
  (o1:∀b,¬S b->H' b=H b) (o2:∀b u,S b->H' b=some u->bZ P w H' h' b u):j0 P w H' h':=fun b u e=>by
 by_cases z:S b
 ·exact o2 b u z e
 ·rw[o1 b z] at e
  refine(x b u e).stay (fun c v q y=>?_) (fun c q=>?_) (fun c xs q=>?_)
  ·rcases q with q | q
   ·subst q; exact k c u v e z y
   ·exact k c _ v q (fun y'=>(hs c y').elim (fun n=>by rw[n] at q; cases q) fun⟨φ,n⟩=>by rw[n] at q; cases q) y
  ·rw[o1 c fun y'=>(hs c y').elim (fun n=>by rw[n] at q; cases q) fun⟨φ,n⟩=>by rw[n] at q; cases q]; exact q
  ·rw[o1 c fun y'=>(hs c y').elim (fun n=>by rw[n] at q; cases q) fun⟨φ,n⟩=>by rw[n] at q; cases q]; exact q
end
def oN (P:Program) (w:World):G8:=fun outer H s E e s'=>∃(a T:Addr) (cls:Value) (H':Hp),e=.ref a/\s'.os=s.os/\AllBare s'.gens/\Un (frs outer) [] H H' s.heap s'.heap/\j0 P w H' s'.heap /\
 H' a=some (vA a cls T)/\H' T=some (vV T)/\T≠a/\(s.heap.get? a=none/\s.heap.get? T=none)/\E cls none H'
section
variable {P:Program} {w:World} {K:PySem.W.Frag} {mg:Str->Option Value} {base:Heap} {N:List Str} {qual:Str} {scope:Scope} {f:Addr} {cd:Value} {A:Around} {outer:List Env} {s0:Shared} {H0:Hp} {E:XK}
theorem Di {pins:List (Addr×Obj)} {σ:St} {H:Hp} {s:Shared} {h2:Heap} {e C:Addr} {us:List Value} (I:Inv (fC (oN P w) P w K mg base N qual scope f cd A outer s0 H0 E) pins σ H s)
  (m:Heap.MadeExcOf s.heap h2 e (.ref C) us) (Tf:j0 P w H0 s0.heap) (q:∀H',aA H H'->E (.ref C) none H'):(fC (oN P w) P w K mg base N qual scope f cd A outer s0 H0 E).xe (.ref e) { s with heap:=h2 }:=by
 obtain⟨t,he,_,_⟩:=m.there
 have ff:h2.FunFrames base (envOfC qual scope s0.heap.objs.size f cd::outer):=(I.stack:s.heap.FunFrames base (envOfC qual scope s0.heap.objs.size f cd::outer)).of_keeps fun b o ho _=>⟨o,m.keeps b o ho,rfl⟩
 have fr:(A.deeper (envOfC qual scope s0.heap.objs.size f cd)).frames=some (envOfC qual scope s0.heap.objs.size f cd::outer):=I.ok.frames
 refine Pj (s:={ s with heap:=h2 }) fr ff rfl he rfl rfl rfl rfl fun h3 T l=>?_
 have ne:H e=none:=I.hok.none m.new
 have nT:H T=none:=I.hok.none (by
  cases z:s.heap.get? T with
  | none=>rfl
  | some o=>exact absurd (eQ (m.keeps _ _ z)) (Nat.not_lt.mpr l.fresh))
 have Te:T≠e:=fun z=>by
  obtain⟨oe,vs,e1,e2,e3,e4⟩:=l.ex
  obtain⟨oT,ts,t1,t2,t3⟩:=l.tb
  have:=eQ he
  have:=l.fresh
  have:e<h2.objs.size:=eQ he
  subst z
  exact absurd this (Nat.not_lt.mpr l.fresh)
 have iL:∀b o,s0.heap.get? b=some o->b≠s0.heap.objs.size:=fun b o z=>dH (eQ z)
 have ib:Un (frs outer) [] H0 H s0.heap s.heap:=I.base
 have u1:∀b,b≠T->b≠e->upd (upd H e (vA e (.ref C) T)) T (vV T) b=H b:=fun b y z=>by rw[aJ y,aJ z]
 have nb:∀b o,s.heap.get? b=some o->b≠e:=fun b o z y=>by rw[y,m.new] at z; cases z
 have nbT:∀b o,s.heap.get? b=some o->b≠T:=fun b o z y=>by
  have a1:=eQ (m.keeps b o z)
  have a2:h2.objs.size<=T:=l.fresh
  subst y
  exact Nat.not_lt.mpr a2 a1
 have nf:∀b,b∉frs outer->b≠s0.heap.objs.size->b∉frs (envOfC qual scope s0.heap.objs.size f cd::outer):=fun b y z hm=>by
  rcases dZ.mp (show b∈s0.heap.objs.size::frs outer from hm) with x | x
  ·exact z x
  ·exact y x
 have hu:∀b u,H b=some u->b≠e/\b≠T:=fun b u z=>⟨fun y=>(by rw[y,ne] at z; cases z),fun y=>(by rw[y,nT] at z; cases z)⟩
 refine⟨e,T,.ref C,upd (upd H e (vA e (.ref C) T)) T (vV T),rfl,I.os,I.bare,⟨fun b o z n y _=>?_,fun b o z n y x=>?_,fun b o z n x=>?_,fun b o z x=>?_,fun b xs z=>?_,fun b o u z=>?_,fun b ps z=>?_⟩,?_,?_,az,Te,⟨?_,?_⟩,?_⟩
 ·have g:=ib.keep b o z n y (by simp)
  exact l.keep b o (nb b o g) (nf b y (iL b o z)) (m.keeps b o g)
 ·obtain⟨sl,g⟩:=ib.slot b o z n y x
  obtain⟨sl2,g2⟩:=l.slot b _ (nb b _ g) (m.keeps b _ g)
  exact⟨sl2,g2⟩
 ·obtain⟨o',g⟩:=ib.there b o z x
  rw[u1 b (nbT b _ g) (nb b _ g)]
  exact ib.free b o z n x
 ·obtain⟨o',g⟩:=ib.there b o z x
  obtain⟨sl2,g2⟩:=l.slot b _ (nb b _ g) (m.keeps b _ g)
  exact⟨_,g2⟩
 ·have g:=ib.tups b xs z
  rw[u1 b (hu b _ g).2 (hu b _ g).1]; exact g
 ·have g:=ib.vQ b o u z
  rw[u1 b (hu b _ g).2 (hu b _ g).1]; exact g
 ·obtain⟨more,g⟩:=ib.xM b ps z
  exact⟨more,by rw[u1 b (hu b _ g).2 (hu b _ g).1]; exact g⟩
 ·refine(show j0 P w H s.heap from I.hok).ext (fun b=>b=e\/b=T) (fun b u v z y x=>?_) (fun b z=>?_) (fun b z=>?_) (fun b u z y=>?_)
  ·have g:=(I.hok b u z).there
   refine l.keep b v (fun q=>y (.inl q)) (fun hm=>?_) (m.keeps b v x)
   have:=I.sr b hm
   rw[z] at this; cases this
  ·rcases z with rfl | rfl
   ·exact .inl ne
   ·exact .inl nT
  ·exact u1 b (fun q=>z (.inr q)) fun q=>z (.inl q)
  ·rcases z with rfl | rfl
   ·rw[aJ (Ne.symm Te),az] at y
    cases y
    exact Lb l.ex
   ·rw[az] at y
    cases y
    exact FW l.tb
 ·rw[aJ (Ne.symm Te),az]
 ·cases z:s0.heap.get? e with
  | none=>rfl
  | some o=>
   obtain⟨o',g⟩:=ib.there e o z (by simp)
   rw[m.new] at g; cases g
 ·cases z:s0.heap.get? T with
  | none=>rfl
  | some o=>
   obtain⟨o',g⟩:=ib.there T o z (by simp)
   exact absurd rfl (nbT T o' g)
 ·exact q _ ((aM ne _).trans (aM (by rw[aJ Te]; exact nT) _))
end
def UG:List Value:=[.type "ValueError",.type "Exception",.type "BaseException",.type "object"]
structure Zn (K:PySem.W.Frag) (mg:Str->Option Value) (x:Str) (C:Addr):Prop where
 bound:mg x=some (.ref C)
 ok:PySem.W.excIn K C UG "ValueError.__new__" = true
theorem Zn.obj {K:PySem.W.Frag} {C:Addr} {h:Heap} (X:K.In h) (q:PySem.W.excIn K C UG "ValueError.__new__" = true) :
  ∃bm N nm qn bs hdct sn sub ab col dd k0 k1 k2 k3 k5 mN,h.get? C=some (excClassObj nm qn C N bs bm hdct sn sub ab col dd k0 k1 k2 k3 k5 "ValueError.__new__")/\h.Ns N mN/\mN "__init__" = none/\OwnTail h UG bm:=by
 unfold PySem.W.excIn at q
 split at q
 ·rename_i dd cd sl ho
  split at q
  ·rename_i C' bm k0 k1 k2 k3 n k5 hm hs
   simp only[uo,beq_iff_eq,Bool.not_eq_true'] at q
   obtain⟨⟨⟨⟨⟨rfl,rfl⟩,a1⟩,a2⟩,a3⟩,a4⟩:=q
   cases cd with
   | mk nm bs mro ns qn hd sn sub ab col del=>
    dsimp only at hm a1 a3 a4
    subst hm a1
    obtain⟨l⟩:=sl
    have e:l=[k0,k1,k2,k3,some (.builtin "ValueError.__new__"),k5]:=hs
    subst e
    exact⟨bm,ns,nm,qn,bs,hd,sn,sub,ab,col,dd,k0,k1,k2,k3,k5,_,X _ _ ho,.of_isNs (PySem.W.isNs_of_in X a3),PySem.W.nsMap_none_of_in X a3 a4,PySem.W.tail_of_in X a2⟩
  ·cases q
 ·cases q
def JM (E:XK) (C:Addr) (ta:TA):TS:=fun _ σ H=>ta σ H fun vs H1=>vs.length<=sizeLine/\∀H',aA H1 H'->E (.ref C) none H'
section
variable {P:Program} {w:World} {K:PySem.W.Frag} {mg:Str->Option Value} {base:Heap} {N:List Str} {qual:Str} {scope:Scope} {f:Addr} {cd:Value} {A:Around} {outer:List Env} {s0:Shared} {H0:Hp} {E:XK}
theorem KD {x:Str} {C:Addr} {e0:Expr} {np cpos pos:Pos} {ta:TA} (c:Zn K mg x C) (Tf:j0 P w H0 s0.heap) (ha:PA (fC (oN P w) P w K mg base N qual scope f cd A outer s0 H0 E) [e0] ta) (hg:Gl (fC (oN P w) P w K mg base N qual scope f cd A outer s0 H0 E) x:=by rfl)
  (hd:(x==("__debug__" : Str))=false:=by decide)
  (he:starEach [e0] (fC (oN P w) P w K mg base N qual scope f cd A outer s0 H0 E).env=[(false,eval e0 (fC (oN P w) P w K mg base N qual scope f cd A outer s0 H0 E).env)]:=by rfl) :
  PS (fC (oN P w) P w K mg base N qual scope f cd A outer s0 H0 E) (.Raise (some (.Call (.Name x np) [e0] [] cpos)) none pos) (JM E C ta):=by
 refine .mk ?_
 intro pins s σ H D I h
 obtain⟨bm,N1,nm,qn,bs,hdct,sn,sub,ab,col,dd,k0,k1,k2,k3,k5,mN,hC,hN,hni,T⟩:=Zn.obj (show K.In base from I.mod.QK) c.ok
 have bk:∀{s:Shared} {H:Hp} {σ:St},Inv (fC (oN P w) P w K mg base N qual scope f cd A outer s0 H0 E) pins σ H s->∀b o,base.get? b=some o->s.heap.get? b=some o:=fun I=>I.bk
 refine wpAny_Raise_call_subU (C:=C) (nm:=nm) (q:=qn) (N:=N1) (bs:=bs) (bm:=bm) (hdct:=hdct) (sn:=sn) (sub:=sub) (ab:=ab) (col:=col) (dd:=dd) (k0:=k0) (k1:=k1) (k2:=k2) (k3:=k3) (k5:=k5) (newId:="ValueError.__new__")
  PySem.F.excBase_ValueError (by decide) PySem.F.excBase_ValueError (mN:=mN) (T.hasType PySem.F.excBase_ValueError.hasBase) (I.ok.hd rfl) (by rw[he]; rfl) hni (pN I hg c.bound ⟨rfl,?_⟩ hd)
 have g:=ha cpos pins s σ H _ I h
 rw[he] at g ⊢
 refine Calls.evalArgs_plain (dN g (fun us s2 z=>?_) fun _ _ y=>y)
 obtain⟨vs,H2,I2,rv,l2,q2⟩:=z
 refine⟨rfl,by rw[<- rv.length]; exact l2,bk I2 _ _ hC,hN.keeps (bk I2),T.keeps (bk I2),fun h' e m=>Di I2 m Tf q2⟩
end
section
variable {X:Cx} {pins:List (Addr×Obj)} {σ:St} {H:Hp} {s:Shared}
end
section
variable {X:Cx} {pins:List (Addr×Obj)} {σ:St} {H:Hp} {s:Shared}
abbrev Cx.in' (X:Cx) (e:Value):Cx:={ X with A:=X.A.mark (some e),calm:=false }
theorem Inv.inE (I:Inv X pins σ H s) (e:Value):Inv (X.in' e) pins σ H s:=
 ⟨⟨I.ok.mod,I.ok.kind,I.ok.glob,I.ok.blt,I.ok.above,I.ok.inj,I.ok.has,I.ok.cab,(fun z=>nomatch z),I.ok.frames,I.ok.Vb,I.ok.Wb,I.ok.bs,I.ok.MK,I.ok.DP,I.ok.Ea,I.ok.rZ,I.ok.Tg⟩,I.os,I.bare,I.base,I.loc,I.cell,I.free,I.jz,I.pin,I.hok,I.len⟩
theorem Inv.Ow {e:Value} (I:Inv (X.in' e) pins σ H s) (ok:X.Ok):Inv X pins σ H s:=⟨ok,I.os,I.bare,I.base,I.loc,I.cell,I.free,I.jz,I.pin,I.hok,I.len⟩
theorem Inv.ext {H':Hp} {h':Heap} (I:Inv X pins σ H s) (S:Addr->Prop) (keep:∀b o,¬S b->b∉frs X.stack->s.heap.get? b=some o->h'.get? b=some o) (slot:∀b o,¬S b->s.heap.get? b=some o->∃sl,h'.get? b=some { o with slots:=sl })
  (there:∀b o,S b->s.heap.get? b=some o->∃o',h'.get? b=some o') (hs:∀b,S b->(H b=none/\s.heap.get? b=none)\/∃φ,H b=some (.ext φ))
  (o1:∀b,¬S b->H' b=H b) (o2:∀b u,S b->H' b=some u->bZ X.prog X.w H' h' b u):Inv X pins σ H' { s with heap:=h' }:=by
 have un:∀b o,s.heap.get? b=some o->H b=none->¬S b:=fun b o e n z=>by
  rcases hs b z with⟨_,q⟩ | ⟨φ,q⟩
  ·rw[e] at q; cases q
  ·rw[n] at q; cases q
 have tr:∀b u,H b=some u->(∀φ,u≠.ext φ)->H' b=some u:=fun b u e n=>by
  rw[o1 b fun z=>(hs b z).elim (fun q=>by rw[q.1] at e; cases e) fun⟨φ,q⟩=>by rw[q] at e; cases e; exact n φ rfl]
  exact e
 refine I.call (ch:=[]) (g':=s.gens) (t':=s.toks) (d':=s.drawn) ⟨fun b o e n hb _=>keep b o (un b o e n) hb e,fun b o e n hb _=>slot b o (un b o e n) e,fun b o e n _=>(by rw[o1 b (un b o e n)]; exact n),fun b o e _=>?_,fun b xs e=>tr b _ e (fun φ z=>by cases z),fun b o u e=>tr b _ e (fun φ z=>by cases z),fun b ps e=>⟨#[],(by rw[tr b _ e (fun φ z=>by cases z)]; simp)⟩⟩ ?_ I.bare fun b z=>nomatch z
 ·by_cases z:S b
  ·exact there b o z e
  ·obtain⟨sl,q⟩:=slot b o z e; exact⟨_,q⟩
 ·refine I.hok.ext S (fun b u v e z q=>?_) (fun b z=>(hs b z).elim (fun q=>.inl q.1) .inr) o1 o2
  refine keep b v z (fun hm=>?_) q
  have:=I.sr b hm
  rw[e] at this; cases this
theorem Iu {M:Model} {A:Around} {E:Value->Shared->Prop} {a T:Addr} {cls:Value} {Q:Unit->Shared->Prop} (I:Inv X pins σ H s) (ha:H a=some (vA a cls T)) (hT:H T=some (vV T)) (q:∀s',Inv X pins σ H s'->Q () s') :
  wpAny M A (setFlight (.ref a) none) Q E s:=by
 obtain⟨oe,vs,e1,ec,ed,ev,_⟩:=vA.at (I.hok a _ ha)
 obtain⟨oT,ts,t1,td,tv⟩:=vV.at (I.hok T _ hT)
 unfold setFlight
 refine aW (iB e1 ed ev ?_)
 rw[bc (show(Value.ref T != Value.none)=true by simp)]
 have tz:=(Oe.mp tv).1
 refine Ht t1 td tz ?_
 have dT:=Obj.data_mapFields td (·.setIfInBounds 3 ((none:Option Addr).elim Value.none fun f=>rawInt f))
 have g1:=Ak (Obj.mapFields (·.setIfInBounds 3 ((none:Option Addr).elim Value.none fun f=>rawInt f))) t1 (Obj.isFreed_of_fields dT)
 have g2:∀b,b≠T->(s.heap.update T (Obj.mapFields (·.setIfInBounds 3 ((none:Option Addr).elim Value.none fun f=>rawInt f)))).get? b=s.heap.get? b:=fun b z=>rQ _ _ (Ne.symm z)
 refine q _ (I.ext (fun b=>b=T) (fun b o z _ e=>(g2 b z).trans e) (fun b o z e=>⟨o.slots,(g2 b z).trans e⟩) (fun b o z e=>by subst z; exact⟨_,g1⟩) (fun b z=>.inr (by subst z; exact⟨_,hT⟩)) (fun _ _=>rfl) fun b u z e=>?_)
 subst z
 rw[hT] at e
 cases e
 exact FW ⟨_,_,g1,dT,by simp[tz]⟩
end
def T6 (H:Hp) (a:Addr) (cls:Value):Prop:=∃T,H a=some (vA a cls T)
section
variable {X:Cx} {pins:List (Addr×Obj)} {σ:St} {H1:Hp} {s1 s':Shared}
end
section
variable {P:Program} {w:World} {K:PySem.W.Frag} {mg:Str->Option Value} {base:Heap}
theorem Ti {CX:G8} {k:Nat} {f:Addr} {name qual:Str} {params:Arguments} {body:List Stmt} {scope:Scope} {dV kV doc pm cdv ct oc:Value} {an od:Option Addr}
  {osl:Array (Option Value)} {N ps:List Str} {sp:Sp} (lk:K.lookup f=some ⟨oc,od,.func (PySem.W.fnOf name qual params body scope dV kV doc pm an cdv ct),osl⟩) (hcd:PySem.W.codeIn K cdv qual=true) (S:aQ N ps scope)
  (len:∀vs H Q E,sp vs H Q E->vs.length=ps.length)
  (hbody:∀(A:Around) (outer:List Env) (s:Shared) (H:Hp) (vs:List V) (Q:VK) (E:XK),j0 P w H s.heap->eU k (A.deeper (envOfC qual scope s.heap.objs.size f cdv))->sp vs H Q E ->
   ∃t,zL (fC CX P w K mg base N qual scope f cdv A outer s H E) body t/\t { nx:=fun _ H'=>Q .non H',rt:=Q } (start N vs) H) :
  bG P w K mg base CX (k+1) f (PySem.W.fnOf name qual params body scope dV kV doc pm an cdv ct) ps sp:=by
 refine⟨len,fun A outer s H args us vs Q E hr e0 hb r hsp=>?_⟩
 have hl:=len _ _ _ _ hsp
 have KX:K.In s.heap:=e0.mod.QK.keeps fun b o e=>(e0.bs b o e).1
 have lim:s.heap.NoLimit:=e0.mod.nolimit.keeps fun b o e=>(e0.bs b o e).1
 have hkind:∀y∈ps.zip us,scope.names.lookup y.1=some .local\/(scope.names.lookup y.1=some .cell/\((cellsFrom (s.heap.objs.size+1) scope.names []).lookup y.1).isSome=true):=fun⟨n,v⟩ hy=>by
  rcases S.par n (List.of_mem_zip hy).1 with q | q
  ·exact .inl q
  ·exact .inr ⟨q,PySem.W.cellsFrom_some _ _ _ (.inl q)⟩
 refine codeAny_call_function hr.depth (KX _ _ lk) rfl S.co S.gen rfl (PySem.W.codeRec_of KX hcd) (hb _ _ _ _ ?_)
 refine wpAny_newFunctionEnv_cells S.kind hkind fun env he s1 x=>?_
 subst he
 refine⟨lim.keeps x.toInCall.keep,codeAny_func ?_⟩
 obtain⟨t,ht,hq⟩:=hbody A outer s H vs Q E e0.hok (hr.deeper _) hsp
 have I:Inv (fC CX P w K mg base N qual scope f cdv A outer s H E) [] (start N vs) H s1:=wU S hr.hd e0 hl r x
 refine dN (ht [] s1 (start N vs) H _ I hq) (fun fl s' hs=>?_) fun e s' hs=>hs
 have fin:∀{σ':St} {H':Hp} {v:V} {u:Value},Inv (fC CX P w K mg base N qual scope f cdv A outer s H E) [] σ' H' s'->RelV v u->Q v H'->CE outer P w H s Q u s':=
  fun {σ' H' v u} J rv q=>⟨v,H',J.os,J.bare,J.base,J.hok,rv,q⟩
 cases fl with
 | ret u=>
  obtain⟨v,σ',H',J,rv,q⟩:=hs
  exact fin J rv q
 | next=>
  obtain⟨σ',H',J,q⟩:=hs
  exact fin (v:=V.non) (u:=Value.none) J rfl q
 | brk=>
  obtain⟨_,_,_,q⟩:=hs
  exact False.elim q
 | cont=>
  obtain⟨_,_,_,q⟩:=hs
  exact False.elim q
theorem gW.Z0 {x qual:Str} {st:Stmt} {f:Addr} {fd:FuncData} {N ps:List Str} {k:Nat} {sp:Sp} (F:gW K x qual st f fd) (S:aQ N ps (aG st)) (len:∀vs H Q E,sp vs H Q E->vs.length=ps.length)
  (hbody:∀(cdv:Value) (A:Around) (outer:List Env) (s:Shared) (H:Hp) (vs:List V) (Q:VK) (E:XK),j0 P w H s.heap->eU k (A.deeper (envOfC qual (aG st) s.heap.objs.size f cdv))->sp vs H Q E ->
   ∃t,zL (fC (oN P w) P w K mg base N qual (aG st) f cdv A outer s H E) (cA st) t/\t { nx:=fun _ H'=>Q .non H',rt:=Q } (start N vs) H):bG P w K mg base (oN P w) (k+1) f fd ps sp:=by
 obtain⟨oc,od,kV,doc,pm,an,cdv,ct,osl,rfl,lk,hcd⟩:=F.ex
 exact Ti lk hcd S len fun A outer s H vs Q E Tf hr hsp=>hbody cdv A outer s H vs Q E Tf hr hsp
structure M7 (P:Program) (w:World) (K:PySem.W.Frag) (mg:Str->Option Value) (base:Heap) (k:Nat) (x:Str) (ps:List Str) (sp:Sp) where
 f:Addr
 fd:FuncData
 G:bG P w K mg base (oN P w) k f fd ps sp
 kp:PySem.W.keepIn K (.ref f)=true
 b:Binds K fd ps []
 m:mg x=some (.ref f)
def M7.mono {j k:Nat} {x:Str} {ps:List Str} {sp:Sp} (c:M7 P w K mg base j x ps sp) (h:j<=k):M7 P w K mg base k x ps sp:={ c with G:=c.G.mono h }
end
section
variable {prog:Program} {w:World} {A:Around} {E:Value->Shared->Prop} {s:Shared} {K:PySem.W.Frag} {x D:Addr} {ox:Obj} {od:Option Obj}
structure ExK (K:PySem.W.Frag) (D:Addr):Prop where
 ga:PySem.W.findIn K (.ref D) "__getattribute__" = some (some (.builtin "BaseException.__getattribute__"))
 gt:PySem.W.findIn K (.ref D) "__getattr__" = some none
 fo:PySem.W.findObj K D none "__class__" = some (.bind (.builtin "getset_descriptor.__get__") (.builtin "object.__class__"))
 sb:PySem.W.subIn K (.ref D) (.type "BaseException")=some true
 ob:PySem.W.mroIn K D (.type "object")=some true
end
section
variable {X:Cx}
end
noncomputable instance WT:DecidableEq PyData:=fun a b=>Classical.propDecidable (a=b)
mutual
def rT:PyData->Bool
 | .int _=>true
 | .tuple ds=>gk ds
 | _=>false
def gk:List PyData->Bool
 | []=>true
 | d::ds=>rT d&&gk ds
end
theorem uG:∀{ds:List PyData},gk ds=true↔∀d∈ds,rT d=true
 | []=>by simp[gk]
 | d::ds=>by
  have ih:=uG (ds:=ds)
  simp only[gk,uo,ih,dZ,forall_eq_or_imp]
mutual
theorem n_:∀d:PyData,rT d=true->d.canLay0=true/\d.hasDict=false/\nZ d=true
 | .int _,_=>⟨rfl,rfl,rfl⟩
 | .tuple ds,h=>by
  obtain⟨h1,h2,h3⟩:=Gd ds (by simpa[rT] using h)
  exact⟨by simpa[PyData.canLay0] using h1,by simpa[PyData.hasDict] using h2,by simpa[nZ] using h3⟩
 | .none,h=>nomatch h
 | .bool _,h=>nomatch h
 | .str _,h=>nomatch h
 | .list _,h=>nomatch h
 | .dict _,h=>nomatch h
theorem Gd:∀ds:List PyData,gk ds=true->PyData.canLayAll0 ds=true/\PyData.hasDictAll ds=false/\bC ds=true
 | [],_=>⟨rfl,rfl,rfl⟩
 | d::ds,h=>by
  have h':rT d=true/\gk ds=true:=by simpa[gk] using h
  obtain⟨h1,h2,h3⟩:=n_ d h'.1
  obtain⟨g1,g2,g3⟩:=Gd ds h'.2
  exact⟨by simp[PyData.canLayAll0,h1,g1],by simp[PyData.hasDictAll,h2,g2],by simp[bC,h3,g3]⟩
end
mutual
theorem yN:∀d e:PyData,rT d=true->rT e=true->(PyData.eqv d e=true↔d=e)
 | .int i,.int j,_,_=>by simp[PyData.eqv]
 | .int i,.tuple es,_,_=>by simp[PyData.eqv]
 | .tuple ds,.int j,_,_=>by simp[PyData.eqv]
 | .tuple ds,.tuple es,h,g=>by
  have:=Bm ds es (by simpa[rT] using h) (by simpa[rT] using g)
  simpa[PyData.eqv] using this
 | .none,_,h,_=>nomatch h
 | .bool _,_,h,_=>nomatch h
 | .str _,_,h,_=>nomatch h
 | .list _,_,h,_=>nomatch h
 | .dict _,_,h,_=>nomatch h
 | .int _,.none,_,h=>nomatch h
 | .int _,.bool _,_,h=>nomatch h
 | .int _,.str _,_,h=>nomatch h
 | .int _,.list _,_,h=>nomatch h
 | .int _,.dict _,_,h=>nomatch h
 | .tuple _,.none,_,h=>nomatch h
 | .tuple _,.bool _,_,h=>nomatch h
 | .tuple _,.str _,_,h=>nomatch h
 | .tuple _,.list _,_,h=>nomatch h
 | .tuple _,.dict _,_,h=>nomatch h
theorem Bm:∀ds es:List PyData,gk ds=true->gk es=true->(PyData.eqvAll ds es=true↔ds=es)
 | [],[],_,_=>by simp[PyData.eqvAll]
 | [],_::_,_,_=>by simp[PyData.eqvAll]
 | _::_,[],_,_=>by simp[PyData.eqvAll]
 | d::ds,e::es,h,g=>by
  have h':rT d=true/\gk ds=true:=by simpa[gk] using h
  have g':rT e=true/\gk es=true:=by simpa[gk] using g
  have h1:=yN d e h'.1 g'.1
  have h2:=Bm ds es h'.2 g'.2
  simp[PyData.eqvAll,h1,h2]
end
theorem O6 {d e:PyData} (h:rT d=true) (g:rT e=true):PyData.eqv d e=decide (d=e):=by
 by_cases z:d=e
 ·rw[lu z]; exact(yN d e h g).mpr z
 ·rw[jJ z]
  cases q:PyData.eqv d e with
  | false=>rfl
  | true=>exact absurd ((yN d e h g).mp q) z
mutual
def Bx:PyData->Int
 | .int i=>hashInt i
 | .tuple ds=>reduceHash (Builtin.Tuple.tupleHashOf (gr ds))
 | _=>0
def gr:List PyData->List Int
 | []=>[]
 | d::ds=>Bx d::gr ds
end
mutual
def Gu:PyData->Nat
 | .tuple ds=>jl ds+1
 | _=>1
def jl:List PyData->Nat
 | []=>0
 | d::ds=>Gu d+jl ds
end
theorem uM:∀a b:List PyData,gr (a++b)=gr a++gr b
 | [],_=>rfl
 | d::a,b=>by rw[Fv,gr,gr,uM a b]; rfl
theorem uT:∀a b:List PyData,jl (a++b)=jl a+jl b
 | [],_=>by rw[Kc,jl,Nat.zero_add]
 | d::a,b=>by rw[Fv,jl,jl,uT a b,Nat.add_assoc]
theorem qN:∀{ds:List PyData} {d:PyData},d∈ds->d.depth<=PyData.depthAll ds
 | x::ds,d,h=>by
  show d.depth<=max x.depth (PyData.depthAll ds)
  rcases dZ.mp h with rfl | h
  ·omega
  ·have:=qN h
   omega
def zN (prog:Program) (w:World) (d:PyData):Prop:=∀(A:Around) (E:Value->Shared->Prop) (s:Shared) (v:Value) (as:List Addr) (Q:Int->Shared->Prop),Reads s.heap v d as->A.units+d.depth<cLine ->
 Q (Bx d) { s with toks:=s.toks+Gu d }->wpAny (model prog w) A (PySem.pyHash v) Q E s
theorem Mj {prog:Program} {w:World} {ds:List PyData} (ih:∀d∈ds,zN prog w d):zN prog w (.tuple ds):=by
 intro A E s v as Q r hu h
 cases r with
 | @tuple a o items n _ _ ho hc hd hi=>
 have hT:s.TypeIs (.ref a) "tuple" := ⟨o,ho,hc⟩
 have ab4:A.units+(PyData.depthAll ds+1)<cLine:=hu
 have hu0:A.units<cLine:=by omega
 unfold pyHash
 first | unfold pyHashByItsType | skip
 first | refine aW (wpAny_cRoomFor_or (.inr hu0) ?_) | skip
 refine aW (Kf hT F.slot_tuple_hash.lookup ?_)
 show wpAny _ _ (if(some (Value.builtin "tuple.__hash__")==some Value.none)=true then _ else _) Q E s
 rw[aX (by rw[beq_builtin_none]; exact lC)]
 refine aW (Kf hT F.slot_tuple_hash.lookup ?_)
 show wpAny _ _ (callSpecialIfBoundUnlessNone? (.ref a) "__hash__" _ >>= _) Q E s
 refine aW (wpAny_callSpecialIfBoundUnlessNone?_slot hT F.slot_tuple_hash (yj F.slot_tuple_hash hT F.entry_tuple_hash ?_ (F.args_tuple_hash_1 _)))
 show wpAny _ _ (Builtin.Tuple.tupleItemsOf (.ref a) >>= _) _ _ s
 refine aW (wpAny_tupleItemsOf ho hd ?_)
 refine aW ?_
 rw[<- Array.forIn_toList]
 refine wpAny_forIn_list _
  (fun rest (b:Array Int) s'=>∃done left bs,ds=done++left/\ReadsAll s.heap rest left bs/\b.toList=gr done/\s'={ s with toks:=s.toks+jl done })
  _ ?_ ?_ _ _ ⟨[],ds,_,rfl,hi,rfl,rfl⟩
 ·rintro x rest b s' ⟨done,left,bs,e,hl,hb,rfl⟩
  cases hl with
  | @cons _ _ k ks' as1 bs1 h1 hl'=>
   have hk:k∈ds:=by rw[e]; simp
   refine aW (ih k hk _ _ _ _ _ _ h1 ?_ ?_)
   ·have:=qN hk
    show A.units+1+k.depth<cLine
    omega
   ·exact bR ⟨done++[k],ks',_,by rw[e]; simp,hl',by rw[uM]; simp[hb,gr],by rw[uT]; simp[jl,Nat.add_assoc]⟩
 ·rintro b s' ⟨done,left,bs,e,hl,hb,rfl⟩
  cases hl
  rw[qD] at e
  subst e
  show wpAny _ _ (retInt (Builtin.Tuple.tupleHashOf b.toList)) _ _ _
  rw[hb]
  refine wpAny_ret_mkInt ?_
  show wpAny _ _ (if(decide (-(2:Int) ^ 63<=Builtin.Tuple.tupleHashOf (gr ds))&&decide (Builtin.Tuple.tupleHashOf (gr ds)<2 ^ 63))=true then _ else _) Q E _
  unfold Bx reduceHash Gu at h
  by_cases hr:(decide (-(2:Int) ^ 63<=Builtin.Tuple.tupleHashOf (gr ds))&&decide (Builtin.Tuple.tupleHashOf (gr ds)<2 ^ 63))=true
  ·rw[bc hr]
   rw[bc hr] at h
   exact bR (by simpa[Nat.add_assoc] using h)
  ·rw[aX hr]
   rw[aX hr] at h
   exact aW (yd (bR (by simpa[Nat.add_assoc] using h)))
mutual
theorem wX {prog:Program} {w:World}:∀d:PyData,rT d=true->zN prog w d
 | .int i,_=>by
  intro A E s v as Q r hu h
  cases r
  exact wpAny_pyHash_int h
 | .tuple ds,h=>Mj (uL ds (by simpa[rT] using h))
 | .none,h=>nomatch h
 | .bool _,h=>nomatch h
 | .str _,h=>nomatch h
 | .list _,h=>nomatch h
 | .dict _,h=>nomatch h
theorem uL {prog:Program} {w:World}:∀ds:List PyData,gk ds=true->∀d∈ds,zN prog w d
 | [],_,d,hd=>by cases hd
 | x::ds,h,d,hd=>by
  have h':rT x=true/\gk ds=true:=by simpa[gk] using h
  rcases dZ.mp hd with e | e
  ·rw[e]; exact wX x h'.1
  ·exact uL ds h'.2 d e
end
def sS (prog:Program) (w:World) (d:PyData):Prop:=∀(n:Nat) (A:Around) (E:Value->Shared->Prop) (s:Shared) (v:Value) (as:List Addr) (Q:Bool->Shared->Prop),Reads s.heap v d as->d.depth<=n->Q true s ->
 wpAny (model prog w) A (eqIsQuiet n v) Q E s
theorem HF {prog:Program} {w:World} {ds:List PyData} (ih:∀d∈ds,sS prog w d):sS prog w (.tuple ds):=by
 intro n A E s v as Q r hn h
 have hn:PyData.depthAll ds+1<=n:=hn
 obtain⟨m,rfl⟩:∃m,n=m+1:=⟨n-1,by omega⟩
 cases r with
 | @tuple a o items nn _ _ ho hc hd hi=>
 have hT:s.TypeIs (.ref a) "tuple" := ⟨o,ho,hc⟩
 unfold eqIsQuiet
 refine aW (Kf hT F.slot_tuple_eq.lookup ?_)
 show wpAny _ _ (isInstance (.ref a) (.type "tuple") >>= _) _ _ s
 refine aW (wpAny_isInstance hT isSubtype_tuple_tuple ?_)
 simp only[Bool.not_true,Ko,if_false]
 refine aW (rN ho hd ?_)
 refine aW ?_
 show wpAny _ _ (forIn items _ _) _ _ s
 rw[<- Array.forIn_toList]
 refine wpAny_forIn_list _ (fun rest r s'=>r.1=none/\s'=s/\∃left bs,(∀d∈left,d∈ds)/\ReadsAll s.heap rest left bs) _ ?_ ?_ _ _ ⟨rfl,rfl,ds,_,fun d h=>h,hi⟩
 ·rintro v rest r s' ⟨hr,rfl,left,bs,hall,hl⟩
  cases hl with
  | @cons _ _ k ks' as1 bs1 h1 hl'=>
  have hk:=hall k fO
  have:=qN hk
  refine aW (ih k hk m _ _ _ _ _ _ h1 (by omega) ?_)
  simp only[Bool.not_true,Ko,if_false]
  exact bR ⟨rfl,rfl,ks',bs1,fun d h=>hall d (gQ _ h),hl'⟩
 ·rintro⟨r1,r2⟩ s' ⟨hr,rfl,_⟩
  simp only at hr
  subst hr
  exact bR h
mutual
theorem ur {prog:Program} {w:World}:∀d:PyData,rT d=true->sS prog w d
 | .int i,_=>by
  intro n A E s v as Q r hu h
  cases r
  rw[eqIsQuiet_byValue _ rfl]
  exact bR h
 | .tuple ds,h=>HF (rD ds (by simpa[rT] using h))
 | .none,h=>nomatch h
 | .bool _,h=>nomatch h
 | .str _,h=>nomatch h
 | .list _,h=>nomatch h
 | .dict _,h=>nomatch h
theorem rD {prog:Program} {w:World}:∀ds:List PyData,gk ds=true->∀d∈ds,sS prog w d
 | [],_,d,hd=>by cases hd
 | x::ds,h,d,hd=>by
  have h':rT x=true/\gk ds=true:=by simpa[gk] using h
  rcases dZ.mp hd with e | e
  ·rw[e]; exact ur x h'.1
  ·exact rD ds h'.2 d e
end
mutual
theorem um {h h':Heap} (k:∀b o,h.get? b=some o->o.cls=.type "tuple" -> (∃vs n,o.data=.seq vs n)->h'.get? b=some o):∀(d:PyData) (v:Value) (as:List Addr),rT d=true->Reads h v d as->Reads h' v d as
 | .int i,_,_,_,r=>by cases r; exact .int _ _
 | .tuple ds,_,_,g,r=>by
  cases r with
  | tuple ho hc hd hi=>exact .tuple (k _ _ ho hc ⟨_,_,hd⟩) hc hd (rC k ds _ _ (by simpa[rT] using g) hi)
 | .none,_,_,h,_=>nomatch h
 | .bool _,_,_,h,_=>nomatch h
 | .str _,_,_,h,_=>nomatch h
 | .list _,_,_,h,_=>nomatch h
 | .dict _,_,_,h,_=>nomatch h
theorem rC {h h':Heap} (k:∀b o,h.get? b=some o->o.cls=.type "tuple" -> (∃vs n,o.data=.seq vs n)->h'.get? b=some o):∀(ds:List PyData) (vs:List Value) (as:List Addr),gk ds=true->ReadsAll h vs ds as->ReadsAll h' vs ds as
 | [],_,_,_,r=>by cases r; exact .nil
 | d::ds,_,_,g,r=>by
  have g':rT d=true/\gk ds=true:=by simpa[gk] using g
  cases r with
  | cons h1 h2=>exact .cons (um k d _ _ g'.1 h1) (rC k ds _ _ g'.2 h2)
end
noncomputable def jw (prog:Program) (w:World):HeapKind prog w PyData where
 is:=fun h d a=>rT d=true/\d.depth<=8/\∃as,Reads h (.ref a) d as
 hash:=Bx
 draws:=Gu
 room:=fun A=>A.units+60<cLine
 inj:=fun⟨g,_,_,r⟩ ⟨_,_,_,r'⟩=>SeqAt.Reads.unique _ _ _ _ _ (n_ _ g).1 r r'
 keeps:=fun {h h' k a d o es ep} ⟨g,dp,as,r⟩ ho hd hs=>⟨g,dp,as,um (fun b ob hb hc ⟨vs,n,hq⟩=>by
  have hne:b≠d:=by
   rintro rfl
   obtain rfl:ob=o:=Option.some.inj (hb.symm.trans ho)
   rw[hd] at hq; exact nomatch hq
  exact(hs.2 b hne).trans hb) _ _ _ g r⟩
 pyHash:=fun hu ⟨g,dp,as,r⟩ h=>wX _ g _ _ _ _ _ _ r (by omega) h
 eqBool:=fun {A E s x y a b Q} hu ⟨g,dp,as,r⟩ ⟨g',dp',as',r'⟩ h=>by
  have:=SeqAt.eqAt_reads x y A s _ _ _ _ r r' (n_ _ g).1 (n_ _ g').1 (by have:=Nat.min_le_left x.depth y.depth; omega)
  rw[O6 g g'] at this
  exact this prog w E Q h
 quiet:=fun⟨g,dp,as,r⟩ h=>ur _ g 8 _ _ _ _ _ _ r dp h
mutual
theorem At.tupS {H H':Hp} (k:∀b xs,H b=some (.tup xs)->H' b=some (.tup xs)):∀(d:PyData) (v:V),nZ d=true->At H d v->At H' d v
 | .none,_,_,h=>by unfold At at h ⊢; exact h
 | .bool _,_,_,h=>by unfold At at h ⊢; exact h
 | .int _,_,_,h=>by unfold At at h ⊢; exact h
 | .str _,_,_,h=>by unfold At at h ⊢; exact h
 | .tuple ds,v,n,h=>by
  unfold At at h ⊢
  obtain⟨a,ys,e,h1,h2⟩:=h
  exact⟨a,ys,e,k _ _ h1,ak.tupS k ds ys (by simpa[nZ] using n) h2⟩
 | .list _,_,n,_=>by simp[nZ] at n
 | .dict _,_,n,_=>by simp[nZ] at n
theorem ak.tupS {H H':Hp} (k:∀b xs,H b=some (.tup xs)->H' b=some (.tup xs)):∀(ds:List PyData) (ys:List V),bC ds=true->ak H ds ys->ak H' ds ys
 | [],_,_,h=>by unfold ak at h ⊢; exact h
 | d::ds,ys,n,h=>by
  unfold ak at h ⊢
  obtain⟨x,r,e,h1,h2⟩:=h
  have n':nZ d=true/\bC ds=true:=by simpa[bC] using n
  exact⟨x,r,e,At.tupS k d x n'.1 h1,ak.tupS k ds r n'.2 h2⟩
end
structure xu (d:PyData):Prop where
 t:∃ds,d=.tuple ds
 k:rT d=true
 dp:d.depth<=8
def ndE (x:PyData×Addr×Value):DictEntry:=⟨Bx x.1,.ref x.2.1,x.2.2⟩
def Ze (a:Addr) (xs:List (PyData×Addr×Value)) (h:Heap):Prop:=∃o es ep,h.get? a=some o/\o.ExactDict/\o.data=.dict es ep/\es.toList=xs.map ndE/\(xs.map (·.1)).Nodup/\xs.length<=sizeLine/\(a==sysModules)=false
def QZ (a:Addr) (xs:List (PyData×Addr×Value)):HO:=.ext (Ze a xs)
def iQ (H:Hp) (a:Addr) (kvs:List (PyData×V)):Prop:=∃xs,H a=some (QZ a xs)/\Paired (fun(p:PyData×V) (q:PyData×Addr×Value)=>p.1=q.1/\xu p.1/\At H p.1 (.ref q.2.1)/\RelV p.2 q.2.2) kvs xs
theorem iQ.keep {H H':Hp} {a:Addr} {kvs:List (PyData×V)} (n:iQ H a kvs) (ha:H' a=H a) (k:∀b xs,H b=some (.tup xs)->H' b=some (.tup xs)):iQ H' a kvs:=by
 obtain⟨xs,e,r⟩:=n
 exact⟨xs,ha.trans e,Paired.O_ r fun _ _ z=>⟨z.1,z.2.1,At.tupS k _ _ (n_ _ z.2.1.k).2.2 z.2.2.1,z.2.2.2⟩⟩
theorem iQ.same {H H':Hp} {a:Addr} {kvs:List (PyData×V)} (n:iQ H a kvs) (s:aA H H'):iQ H' a kvs:=by
 obtain⟨xs,e,r⟩:=id n
 exact n.keep ((s _ _ e).trans e.symm) fun b xs h=>s _ _ h
theorem iQ.ext {H:Hp} {a:Addr} {kvs:List (PyData×V)} (n:iQ H a kvs):∃φ,H a=some (.ext φ):=by
 obtain⟨xs,e,_⟩:=n
 exact⟨_,e⟩
abbrev KN (H:Hp):List (PyData×V)->List (PyData×Addr×Value)->Prop:=Paired fun p q=>p.1=q.1/\xu p.1/\At H p.1 (.ref q.2.1)/\RelV p.2 q.2.2
theorem KN.val {H:Hp} {kvs:List (PyData×V)} {xs:List (PyData×Addr×Value)} (r:KN H kvs xs) (k:PyData):zK (oU kvs k) ((atKey xs k).map (·.2)):=by
 induction r with
 | nil=>exact True.intro
 | @cons p q ps qs h t ih=>
  obtain⟨h1,_,_,h2⟩:=h
  by_cases e:p.1=k
  ·have e':q.1=k:=h1.symm.trans e
   have b:atKey (q::qs) k=some q.2:=by simp[atKey,List.find?_cons,e']
   rw[zT e,b]; exact h2
  ·have e':¬q.1=k:=fun z=>e (h1.trans z)
   have b:atKey (q::qs) k=atKey qs k:=by simp[atKey,List.find?_cons,e']
   rw[zU e,b]; exact ih
theorem KN.repl {H:Hp} {kvs:List (PyData×V)} {xs:List (PyData×Addr×Value)} (r:KN H kvs xs) (k:PyData) {y:V} {u:Value} (ry:RelV y u) :
  KN H (kvs.map fun kv=>if kv.1=k then(kv.1,y) else kv) (xs.map (putAt k u)):=by
 induction r with
 | nil=>exact .nil
 | @cons p q ps qs h t ih=>
  rw[Ah,Ah]
  refine .cons ?_ ih
  obtain⟨h1,h2,h4,h3⟩:=h
  unfold putAt
  by_cases e:p.1=k
  ·rw[bc e,bc (h1.symm.trans e)]; exact⟨h1,h2,h4,ry⟩
  ·rw[aX e,aX (fun z=>e (h1.trans z))]; exact⟨h1,h2,h4,h3⟩
theorem KN.put {H:Hp} {kvs:List (PyData×V)} {xs:List (PyData×Addr×Value)} (r:KN H kvs xs) {k:PyData} {b:Addr} {y:V} {u:Value} (hk:xu k) (hb:At H k (.ref b)) (ry:RelV y u) :
  KN H (putK kvs k y) (storedH xs k b u):=by
 have e:(kvs.any fun kv=>decide (kv.1=k))=(atKey xs k).isSome:=by
  rw[sV,(r.val k).wR,Option.isSome_map]
 unfold putK storedH
 rw[e]
 by_cases q:(atKey xs k).isSome=true
 ·rw[bc q,bc q]; exact r.repl k ry
 ·rw[aX q,aX q]; exact Paired.snoc r ⟨rfl,hk,hb,ry⟩
section
variable {X:Cx} {pins:List (Addr×Obj)} {σ:St} {H:Hp} {s:Shared} {a:Addr} {kvs:List (PyData×V)}
theorem Gb (ok:j0 X.prog X.w H s.heap) {d:PyData} {b:Addr} (hk:xu d) (hd:At H d (.ref b)):(jw X.prog X.w).is s.heap d b:=by
 obtain⟨as,r⟩:=iz ok d (.ref b) (.ref b) hd rfl (n_ _ hk.k).2.1
 exact⟨hk.k,hk.dp,as,r⟩
theorem R_ (ok:j0 X.prog X.w H s.heap):∀{kvs:List (PyData×V)} {xs:List (PyData×Addr×Value)},KN H kvs xs->∀x∈xs,(jw X.prog X.w).is s.heap x.1 x.2.1:=by
 intro kvs xs r
 induction r with
 | nil=>intro x hx; exact nomatch hx
 | @cons p q ps qs h t ih=>
  intro x hx
  rcases dZ.mp hx with e | hx
  ·subst e
   obtain⟨h1,h2,h3,_⟩:=h
   rw[h1] at h2 h3
   exact Gb ok h2 h3
  ·exact ih x hx
theorem Ga (I:Inv X pins σ H s) (n:iQ H a kvs):∃xs,H a=some (QZ a xs)/\KN H kvs xs/\s.heap.DictOfH (jw X.prog X.w) a xs/\xs.length<=sizeLine/\(a==sysModules)=false:=by
 obtain⟨xs,e,r⟩:=n
 obtain⟨⟨o,es,ep,h1,h2,h3,h4,h5,h6,h7⟩,_,_⟩:=(show bZ X.prog X.w H s.heap a (QZ a xs) from I.hok a _ e)
 exact⟨xs,e,r,⟨o,es,ep,h1,h2,h3,h4,R_ I.hok r,h5⟩,h6,h7⟩
theorem QH {P:Program} {w:World} {H:Hp} {h:Heap} {xs:List (PyData×Addr×Value)} (n:Ze a xs h):bZ P w H h a (QZ a xs):=by
 obtain⟨o,es,ep,h1,r⟩:=n
 refine⟨⟨o,es,ep,h1,r⟩,⟨o,h1⟩,fun h1' h2' ⟨o',es',ep',g1,g⟩ k=>⟨o',es',ep',k _ g1,g⟩⟩
theorem yM {A:Around} (hu:A.units+64<cLine):(jw X.prog X.w).room A.in1:=by
 show A.units+1+60<cLine
 omega
def qg (H:Hp) (d:PyData) (y:V):Prop:=xu d/\At H d y
theorem qg.ref {d:PyData} {y:V} {u:Value} (k:qg H d y) (r:RelV y u):∃b,y=.ref b/\u=.ref b:=by
 obtain⟨⟨⟨ds,rfl⟩,_,_⟩,h⟩:=k
 unfold At at h
 obtain⟨b,_,rfl,_,_⟩:=h
 exact⟨b,rfl,r⟩
theorem VN {A:Around} {E:Value->Shared->Prop} {Q:Value->Shared->Prop} {d:PyData} {y:V} {u:Value} (hu:A.units+64<cLine) (I:Inv X pins σ H s) (n:iQ H a kvs) (ky:qg H d y) (ry:RelV y u) (h:∀s',Inv X pins σ H s'->Q (.bool (oU kvs d).isSome) s') :
  wpAny (model X.prog X.w) A (compareOp .In u (.ref a)) Q E s:=by
 obtain⟨b,rfl,rfl⟩:=ky.ref ry
 obtain⟨xs,e,r,dd,z,hd⟩:=Ga I n
 refine wpAny_in_heap (yM hu) (Gb I.hok ky.1 ky.2) hd dd ?_
 have q:=(KN.val r d).wR
 rw[Option.isSome_map] at q
 rw[<- q]
 exact h _ (I.tok _)
theorem R9 {A:Around} {E:Value->Shared->Prop} {Q:Value->Shared->Prop} {d:PyData} {y v:V} {u:Value} (hu:A.units+64<cLine) (I:Inv X pins σ H s) (n:iQ H a kvs) (ky:qg H d y) (hv:oU kvs d=some v) (ry:RelV y u) (h:∀w' s',Inv X pins σ H s'->RelV v w'->Q w' s') :
  wpAny (model X.prog X.w) A (getItem (.ref a) u) Q E s:=by
 obtain⟨b,rfl,rfl⟩:=ky.ref ry
 obtain⟨xs,e,r,dd,z,hd⟩:=Ga I n
 obtain⟨w',hw,Hq⟩:=zK.some_of (v:=v) (o:=(atKey xs d).map (·.2)) (by rw[<- hv]; exact KN.val r d)
 obtain⟨p,hp,hp2⟩:=nR.mp hw
 refine wpAny_getItem_heap (yM hu) (Gb I.hok ky.1 ky.2) dd hp ?_
 rw[hp2]
 exact h w' _ (I.tok _) Hq
theorem Lk {h':Heap} {t':Nat} {xs ys:List (PyData×Addr×Value)} {kvs':List (PyData×V)} (I:Inv X pins σ H s) (e:H a=some (QZ a xs)) (hs:Heap.SameBut a s.heap h') (dd:h'.DictOfH (jw X.prog X.w) a ys) (z:ys.length<=sizeLine) (hd:(a==sysModules)=false) (r:KN H kvs' ys) :
  Inv X pins σ (upd H a (QZ a ys)) { s with heap:=h',toks:=t' }/\iQ (upd H a (QZ a ys)) a kvs':=by
 obtain⟨o,es,ep,h1,h2,h3,h4,h5,h6⟩:=dd
 refine⟨I.write (x:=a) (e:=a) (by rw[e]; exact True.intro) (.inl rfl) (fun b q hb z=>(hs.2 b hb).trans z) ⟨o,h1⟩ (QH ⟨o,es,ep,h1,h2,h3,h4,h6,z,hd⟩),ys,az,?_⟩
 refine Paired.O_ r fun _ _ z=>⟨z.1,z.2.1,At.tupS (fun b xs hb=>?_) _ _ (n_ _ z.2.1.k).2.2 z.2.2.1,z.2.2.2⟩
 have nb:b≠a:=fun z=>by rw[z,e] at hb; cases hb
 rw[aJ nb]; exact hb
theorem z7 (xs:List (PyData×Addr×Value)) (k:PyData) (b:Addr) (u:Value):(storedH xs k b u).length<=xs.length+1:=by
 unfold storedH
 split
 ·rw[eY]; omega
 ·rw[dR,nQ,Ar]; exact bD _
def mD (H:Hp) (a:Addr) (kvs:List (PyData×V)) (d:PyData) (v:V) (H':Hp):Prop:=(∃φ,H'=upd H a (.ext φ))/\iQ H' a (putK kvs d v)
theorem R8 {A:Around} {E:Value->Shared->Prop} {Q:Unit->Shared->Prop} {d:PyData} {y v:V} {u r:Value} (hu:A.units+64<cLine) (I:Inv X pins σ H s) (n:iQ H a kvs) (hl:kvs.length<sizeLine) (ky:qg H d y) (ry:RelV y u) (rv:RelV v r) (h:∀H' s',mD H a kvs d v H'->Inv X pins σ H' s'->Q () s') :
  wpAny (model X.prog X.w) A (setItem (.ref a) u r) Q E s:=by
 obtain⟨b,rfl,rfl⟩:=ky.ref ry
 obtain⟨xs,e,rel,dd,z,hd⟩:=Ga I n
 have hl':xs.length=kvs.length:=(Paired.length rel).symm
 have:=z7 xs d b r
 refine wpAny_setItem_heap (hsz:=z) (yM hu) (Gb I.hok ky.1 ky.2) dd fun h' dd' hs=>?_
 obtain⟨I',n'⟩:=Lk (t':=s.toks+(jw X.prog X.w).draws d) I e hs dd' (by omega) hd (KN.put rel ky.1 ky.2 rv)
 exact h _ _ ⟨⟨_,rfl⟩,n'⟩ I'
theorem mD.tup {H H':Hp} {a:Addr} {kvs:List (PyData×V)} {d:PyData} {v:V} (n:iQ H a kvs) (p:mD H a kvs d v H'):∀b xs,H b=some (.tup xs)->H' b=some (.tup xs):=fun b xs h=>by
 obtain⟨⟨φ,rfl⟩,_⟩:=p
 obtain⟨ψ,e⟩:=n.ext
 have nb:b≠a:=fun z=>by rw[z,e] at h; cases h
 rw[aJ nb]; exact h
theorem mD.at {H H':Hp} {a:Addr} {kvs:List (PyData×V)} {d e:PyData} {v u:V} (n:iQ H a kvs) (p:mD H a kvs d v H') (h:nZ e=true) (x:At H e u):At H' e u:=At.tupS (mD.tup n p) _ _ h x
theorem mD.same {H H':Hp} {a:Addr} {kvs:List (PyData×V)} {d:PyData} {v:V} {H0:Hp} (p:mD H a kvs d v H') (s:aA H0 H) (f:H0 a=none):aA H0 H':=by
 obtain⟨⟨φ,rfl⟩,_⟩:=p
 exact s.dw f
theorem Ig (I:Inv X pins σ H s) (n:iQ H a kvs):s.TypeIs (.ref a) "dict" := by
 obtain⟨xs,e,rel,dd,z,hd⟩:=Ga I n
 exact dd.typeIs
end
section
variable {X:Cx}
theorem R0 (hu:X.A.units+64<cLine):mU X (compareOp .In) (fun x y H Q=>∃a kvs d,y=.ref a/\iQ H a kvs/\qg H d x/\Q (.bl (oU kvs d).isSome) H):=by
 refine .mk ?_
 intro pins s σ H x y v u Q I rx ry h
 obtain⟨a,kvs,d,rfl,n,k,q⟩:=h
 cases ry
 exact VN hu I n k rx fun s' I'=>⟨.bl _,H,I',rfl,q⟩
theorem Rn (hu:X.A.units+64<cLine):Jh X (fun o i v H Q=>∃a kvs d,o=.ref a/\iQ H a kvs/\kvs.length<sizeLine/\qg H d i/\∀H',mD H a kvs d v H'->Q H'):=by
 refine .mk ?_
 intro pins s σ H o i v ov iv u Q I ro ri rv h
 obtain⟨a,kvs,d,rfl,n,hl,k,q⟩:=h
 cases ro
 exact R8 hu I n hl k ri rv fun H' s' p I'=>⟨H',I',q H' p⟩
theorem V0 (hu:X.A.units+64<cLine):MT X (fun x y H Q=>∃a kvs d v,x=.ref a/\iQ H a kvs/\qg H d y/\oU kvs d=some v/\Q v H):=by
 refine .mk ?_
 intro value slice pins s σ H x y v u Q I rx ry h hs
 obtain⟨a,kvs,d,v',rfl,n,k,hv,q⟩:=h
 cases rx
 have hT:=Ig I n
 unfold subscriptTail
 refine aW ?_
 rw[getitemInPython_of_ne hT.not_modules]
 refine aW (Kf hT PySem.F.slot_dict_getitem.lookup ?_)
 have fin:wpAny (model X.prog X.w) X.A (subscripted slice false (.ref a) u) (fun r s₃=>wpAny (model X.prog X.w) X.A (letTemporaryGo value (.ref a) r >>= fun _=>pure r) (EP X pins σ Q) X.xe s₃) X.xe s:=by
  rw[hs]
  exact wpAny_operating (R9 hu I n k hv ry fun w' s' I' Hq=>aW (wpAny_letTemporaryGo (bR ⟨v',H,I',Hq,q⟩)))
 first
  | exact bR (aW fin)
  | exact aW (bR (aW fin))
  | exact aW fin
theorem Ln {h:Heap} (hb:sysModules<h.objs.size):Ze h.objs.size [] (h.push { cls:=.type "dict",data:=.dict #[] }):=
 ⟨_,#[],0,j_ _ rfl,⟨rfl,rfl,rfl⟩,rfl,rfl,List.nodup_nil,dG _,beq_eq_false_iff_ne.mpr (Ne.symm (dH hb))⟩
def Rf:TE:=fun _ H Q=>∀p H',H p=none->aA H H'->iQ H' p []->(∃φ,H'=upd H p (.ext φ))->Q (.ref p) H'
theorem K4 {pos:Pos}:PE X (.Dict [] [] pos) Rf:=.mk <| fun pins s σ H Q I h=>by
 have hf:=I.hok.fresh (bD s.heap.objs.size)
 refine wpAny_Dict_empty ⟨.ref s.heap.objs.size,_,I.laid (a:=s.heap.objs.size) (o:=QZ s.heap.objs.size []) (t':=s.toks) (fun _ _ q=>fM _ q) (bD _) (QH (Ln I.big)),rfl,h _ _ hf (aM hf _) ⟨[],az,.nil⟩ ⟨_,rfl⟩⟩
end
section
variable {P:Program} {w:World} {K:PySem.W.Frag} {mg:Str->Option Value} {base:Heap} {N:List Str} {qual:Str} {scope:Scope} {f:Addr} {cd:Value} {A:Around} {outer:List Env} {s0:Shared} {H0:Hp} {E:XK}
theorem HN {pins:List (Addr×Obj)} {σ:St} {H1:Hp} {s1 s':Shared} {e:Value} {E':XK} (I:Inv (fC (oN P w) P w K mg base N qual scope f cd A outer s0 H0 E) pins σ H1 s1) (c:oN P w (envOfC qual scope s0.heap.objs.size f cd::outer) H1 s1 E' e s')
  (hE:∀cls H2,E' cls none H2->∀H3,(aA H1 H2->aA H1 H3)->E cls none H3):(fC (oN P w) P w K mg base N qual scope f cd A outer s0 H0 E).xe e s':=by
 obtain⟨a,T0,cls,H2,rfl,os,bare,un,hok,ha,hT0,n0,⟨WK,Ss⟩,q⟩:=c
 have na:H1 a=none:=I.hok.none WK
 have X7:H1 T0=none:=I.hok.none Ss
 have q:=hE cls H2 q
 have I2:Inv (fC (oN P w) P w K mg base N qual scope f cd A outer s0 H0 E) pins σ H2 s':=I.call' (ch:=[]) os un hok bare fun b z=>nomatch z
 have ff:s'.heap.FunFrames base (envOfC qual scope s0.heap.objs.size f cd::outer):=I2.stack
 have fr:(A.deeper (envOfC qual scope s0.heap.objs.size f cd)).frames=some (envOfC qual scope s0.heap.objs.size f cd::outer):=I2.ok.frames
 show wpAny _ _ (leaving (envOfC qual scope s0.heap.objs.size f cd) (.ref a)) _ _ _
 unfold leaving
 refine aW ?_
 refine noteE2 fr ff rfl (vA.at (hok a _ ha)) (vV.at (hok T0 _ hT0)) n0 fun h3 T nt=>?_
 have fT:s'.heap.get? T=none:=by
  cases z:s'.heap.get? T with
  | none=>rfl
  | some o=>exact absurd (eQ z) (Nat.not_lt.mpr nt.fresh)
 have nT:H2 T=none:=hok.none fT
 have Ta:T≠a:=fun z=>by rw[z,ha] at nT; cases nT
 have TT:T≠T0:=fun z=>by rw[z,hT0] at nT; cases nT
 have I3:Inv (fC (oN P w) P w K mg base N qual scope f cd A outer s0 H0 E) pins σ (upd (upd (upd H2 T0 (M_ T0)) a (vA a cls T)) T (vV T)) { s' with heap:=h3 }:=by
  refine I2.ext (fun b=>b=a\/b=T0\/b=T) (fun b o z y x=>nt.keep b o (fun w=>z (.inl w)) (fun w=>z (.inr (.inl w))) y x) (fun b o z x=>nt.slot b o (fun w=>z (.inl w)) (fun w=>z (.inr (.inl w))) x) (fun b o z x=>?_) (fun b z=>?_) (fun b z=>?_) (fun b u z y=>?_)
  ·rcases z with rfl | rfl | rfl
   ·obtain⟨oe,vs,e1,_⟩:=nt.ex; exact⟨_,e1⟩
   ·exact nt.old
   ·rw[fT] at x; cases x
  ·rcases z with rfl | rfl | rfl
   ·exact .inr ⟨_,ha⟩
   ·exact .inr ⟨_,hT0⟩
   ·exact .inl ⟨nT,fT⟩
  ·rw[aJ fun w=>z (.inr (.inr w)),aJ fun w=>z (.inl w),aJ fun w=>z (.inr (.inl w))]
  ·rcases z with rfl | rfl | rfl
   ·rw[aJ (Ne.symm Ta),az] at y; cases y; exact Lb nt.ex
   ·rw[aJ (Ne.symm TT),aJ n0,az] at y; cases y; exact QG nt.old
   ·rw[az] at y; cases y; exact FW nt.tb
 have Uc:upd (upd (upd H2 T0 (M_ T0)) a (vA a cls T)) T (vV T) a=some (vA a cls T):=by rw[aJ (Ne.symm Ta),az]
 have WQ:upd (upd (upd H2 T0 (M_ T0)) a (vA a cls T)) T (vV T) T=some (vV T):=az
 have sm:aA H1 H2->aA H1 (upd (upd (upd H2 T0 (M_ T0)) a (vA a cls T)) T (vV T)):=fun y b o z=>by
  have g:=y b o z
  rw[aJ (fun w=>by rw[w,nT] at g; cases g),aJ (fun w=>by rw[w,na] at z; cases z),aJ (fun w=>by rw[w,X7] at z; cases z)]
  exact g
 refine⟨a,T,cls,_,rfl,I3.os,I3.bare,I3.base,I3.hok,Uc,WQ,Ta,⟨?_,?_⟩,q _ sm⟩
 ·cases z:s0.heap.get? a with
  | none=>rfl
  | some o=>
   obtain⟨o',g⟩:=(show Un (frs outer) [] H0 H1 s0.heap s1.heap from I.base).there a o z (by simp)
   rw[WK] at g; cases g
 ·cases z:s0.heap.get? T with
  | none=>rfl
  | some o=>
   obtain⟨o',g⟩:=(show Un (frs outer) [] H0 H2 s0.heap s'.heap from I2.base).there T o z (by simp)
   rw[fT] at g; cases g
def JQ (sp:Sp) (Ju:List V) (E:XK) (t:TA):TE:=fun σ H Q=>t σ H fun vs H1=>sp (vs++Ju) H1 Q (fun cls _ H2=>∀H3,(aA H1 H2->aA H1 H3)->E cls none H3)
theorem NB {pins:List (Addr×Obj)} {σ:St} {H:Hp} {s:Shared} {Q:VK} {us:List Value} {vs:List V} {k:Nat} {x:Str} {ps:List Str} {sp:Sp} (c:M7 P w K mg base k x ps sp) (hr:eU k (A.deeper (envOfC qual scope s0.heap.objs.size f cd))) (I:Inv (fC (oN P w) P w K mg base N qual scope f cd A outer s0 H0 E) pins σ H s) (r:Vals vs us)
  (q:sp vs H Q (fun cls _ H2=>∀H3,(aA H H2->aA H H3)->E cls none H3)):wpAny (model P w) (A.deeper (envOfC qual scope s0.heap.objs.size f cd)) (call (.ref c.f) us) (EP (fC (oN P w) P w K mg base N qual scope f cd A outer s0 H0 E) pins σ Q) (fC (oN P w) P w K mg base N qual scope f cd A outer s0 H0 E).xe s:=by
 have hl2:us.length=ps.length:=by rw[<- r.length]; exact c.G.len _ _ _ _ q
 have hb:=c.b s us I.vB (by rw[qD]; exact hl2)
 rw[qD] at hb
 refine wpAny_call (codeAny_mono (c.G.run _ _ s H ⟨us,[]⟩ us vs _ _ hr I.env0 hb r q) fun r s' z=>?_)
 cases r with
 | error e'=>
  have z':oN P w (envOfC qual scope s0.heap.objs.size f cd::outer) H s (fun cls _ H2=>∀H3,(aA H H2->aA H H3)->E cls none H3) e' s':=z
  exact HN I z' fun cls H2 y=>y
 | ok fl=>
  cases fl with
  | ret u=>
   obtain⟨v,H2,I2,Xr,q2⟩:=I.after z
   exact⟨v,H2,I2,Xr,q2⟩
  | next=>exact False.elim z
  | brk=>exact False.elim z
  | cont=>exact False.elim z
theorem pfe {k:Nat} {x:Str} {p pos:Pos} {e:Expr} {es:List Expr} {ps:List Str} {sp:Sp} {t:TA} (c:M7 P w K mg base k x ps sp) (hr:eU k (A.deeper (envOfC qual scope s0.heap.objs.size f cd))) (ha:PA (fC (oN P w) P w K mg base N qual scope f cd A outer s0 H0 E) (e::es) t)
  (hg:Gl (fC (oN P w) P w K mg base N qual scope f cd A outer s0 H0 E) x:=by rfl) (hdb:(x==("__debug__" : Str))=false:=by decide) (h1:bJ e=true:=by rfl) (h2:es.all bJ=true:=by rfl) :
  PE (fC (oN P w) P w K mg base N qual scope f cd A outer s0 H0 E) (.Call (.Name x p) (e::es) [] pos) (JQ sp [] E t):=by
 refine .mk ?_
 intro pins s σ H Q I h
 refine uq (pN I hg c.m ?_ hdb)
 refine PySem.W.callWith_K (h₀:=base) I.ok.mod.QK c.kp (bN (ha pos pins s σ H _ I h) fun us s1 ⟨vs,H1,I1,r,q⟩=>⟨I1.vB,?_⟩) (bL h1) (bO h2)
 dsimp only at q
 rw[qD] at q
 exact NB c hr I1 r q
end
abbrev TX:=St->Hp->VK->(Value->Hp->Hp->Prop)->Prop
abbrev Jw:=Ends->(Value->St->Hp->Hp->Prop)->St->Hp->Prop
def XL (X:Cx) (pins:List (Addr×Obj)) (σ:St) (EE:Value->Hp->Hp->Prop):Value->Shared->Prop:=fun e s'=>∃H1 s1 E',Inv X pins σ H1 s1/\oN X.prog X.w X.stack H1 s1 E' e s'/\∀cls H2,E' cls none H2->EE cls H1 H2
def XLs (X:Cx) (pins:List (Addr×Obj)) (EE:Value->St->Hp->Hp->Prop):Value->Shared->Prop:=fun e s'=>∃σ1 H1 s1 E',Inv X pins σ1 H1 s1/\oN X.prog X.w X.stack H1 s1 E' e s'/\∀cls H2,E' cls none H2->EE cls σ1 H1 H2
structure PX (X:Cx) (e:Expr) (t:TX):Prop where
 mk ::
 go:∀(pins:List (Addr×Obj)) (s:Shared) (σ:St) (H:Hp) (Q:VK) (EE:Value->Hp->Hp->Prop),Inv X pins σ H s->t σ H Q EE->wpAny (model X.prog X.w) X.A (eval e X.env) (EP X pins σ Q) (XL X pins σ EE) s
structure PSX (X:Cx) (st:Stmt) (t:Jw):Prop where
 mk ::
 go:∀(pins:List (Addr×Obj)) (s:Shared) (σ:St) (H:Hp) (D:Ends) (EE:Value->St->Hp->Hp->Prop),Inv X pins σ H s->t D EE σ H->wpAny (model X.prog X.w) X.A (exec st X.env) (SP X pins D) (XLs X pins EE) s
structure We (X:Cx) (st:List Stmt) (t:Jw):Prop where
 mk ::
 go:∀(pins:List (Addr×Obj)) (s:Shared) (σ:St) (H:Hp) (D:Ends) (EE:Value->St->Hp->Hp->Prop),Inv X pins σ H s->t D EE σ H->wpAny (model X.prog X.w) X.A (execs st X.env) (SP X pins D) (XLs X pins EE) s
def xPe (te:TE):TX:=fun σ H Q _=>te σ H Q
def Qk (sp:Sp) (Ju:List V) (ta:TA):TX:=fun σ H Q EE=>ta σ H fun vs H1=>sp (vs++Ju) H1 Q (fun cls _ H2=>EE cls H1 H2)
def xIf (tc:TT) (a b:TX):TX:=fun σ H Q EE=>tc σ H fun d H1=>if d=true then a σ H1 Q EE else b σ H1 Q EE
def Uw (i:Nat) (t:TX):Jw:=fun D EE σ H=>t σ H (fun v H'=>D.nx (σ.set i (some v)) H') (fun cls H1 H2=>EE cls σ H1 H2)
def Uz (t:TX):Jw:=fun D EE σ H=>t σ H (fun _ H'=>D.nx σ H') (fun cls H1 H2=>EE cls σ H1 H2)
def Xc (tc:TT) (a b:Jw):Jw:=fun D EE σ H=>tc σ H fun d H1=>if d=true then a D EE σ H1 else b D EE σ H1
def xPs (t:TS):Jw:=fun D _ σ H=>t D σ H
def Xb (a b:Jw):Jw:=fun D EE σ H=>a { D with nx:=fun σ' H'=>b D EE σ' H' } EE σ H
section
variable {X:Cx}
theorem Fz {k:Nat} {x:Str} {p pos:Pos} {e:Expr} {es:List Expr} {ps:List Str} {sp:Sp} {t:TA} (c:M7 X.prog X.w X.K X.mg X.base k x ps sp) (hr:eU k X.A) (ha:PA X (e::es) t)
  (hn:∀e s,X.xe e s->False:=by exact fun _ _ z=>z) (hg:Gl X x:=by rfl) (hdb:(x==("__debug__" : Str))=false:=by decide) (h1:bJ e=true:=by rfl) (h2:es.all bJ=true:=by rfl) :
  PX X (.Call (.Name x p) (e::es) [] pos) (Qk sp [] t):=by
 refine .mk ?_
 intro pins s σ H Q EE I h
 refine uq (pN I hg c.m ?_ hdb)
 refine PySem.W.callWith_K (h₀:=X.base) I.ok.mod.QK c.kp (dN (ha pos pins s σ H _ I h) (fun us s1 ⟨vs,H1,I1,r,q⟩=>⟨I1.vB,?_⟩) fun _ _ z=>(hn _ _ z).elim) (bL h1) (bO h2)
 dsimp only at q
 rw[qD] at q
 have hl2:us.length=ps.length:=by rw[<- r.length]; exact c.G.len _ _ _ _ q
 have hb:=c.b s1 us I1.vB (by rw[qD]; exact hl2)
 rw[qD] at hb
 refine wpAny_call (codeAny_mono (c.G.run _ _ s1 H1 ⟨us,[]⟩ us vs _ _ hr I1.env0 hb r q) fun r s' z=>?_)
 cases r with
 | error e'=>exact⟨H1,s1,fun cls _ H2=>EE cls H1 H2,I1,z,fun cls H2 y=>y⟩
 | ok fl=>
  cases fl with
  | ret u=>
   obtain⟨v,H2,I2,Xr,q2⟩:=I1.after z
   exact⟨v,H2,I2,Xr,q2⟩
  | next=>exact False.elim z
  | brk=>exact False.elim z
  | cont=>exact False.elim z
theorem Oh {i:Nat} {x:Str} {e:Expr} {te:TX} {pos pos':Pos} (hN:X.N.Nodup) (he:PX X e te) (hi:X.N[i]?=some x:=by rfl) (hx:Loc X.env.scope x:=by first | exact Or.inl rfl | exact Or.inr rfl) (hs:swapsWith e (some (.Name x pos')) pos.line X.env=pure false:=by rfl) (hf:X.fn x=true\/X.env.scope.names.lookup x=some .local:=by first | exact .inl rfl | exact .inr rfl) (hn:∀e s,X.xe e s->False:=by exact fun _ _ z=>z) :
  PSX X (.Assign [.Name x pos'] e pos) (Uw i te):=by
 refine .mk ?_
 intro pins s σ H D EE I h
 refine wpAny_Assign_Name (dN (he.go pins s σ H _ _ I h) (fun v s1 ⟨y,H1,I1,r1,q1⟩=>?_) fun e s z=>?_) hs
 ·exact jq I1 hN hi hx r1 (fun s2 I2=>⟨_,H1,I2,q1⟩) hf
 ·obtain⟨H1,s1,E',I1,c,q⟩:=z
  exact⟨σ,H1,s1,E',I1,c,q⟩
theorem KC {st:Stmt} {a:Jw} (ha:PSX X st a):We X [st] a:=by
 refine .mk ?_
 intro pins s σ H D EE I h
 refine wpAny_execs_cons (dN (ha.go pins s σ H _ EE I h) (fun fl s1 z=>?_) fun _ _ z=>z)
 cases fl with
 | next=>exact Kd z
 | ret u=>exact z
 | brk=>exact z
 | cont=>exact z
end
section
variable {X:Cx}
theorem Jb (hc:X.calm=true):cL X (.builtin "any") (fun vs H Q=>∃(p:Addr) (ns:List Int),vs=[.ref p]/\H p=some (.lst (ns.map V.int))/\Q (.bl (ns.any fun n=>n != 0)) H):=by
 refine .mk ?_
 intro pins s σ H vs us Q I r h
 obtain⟨p,ns,rfl,hp,q⟩:=h
 obtain⟨u,rfl,ru⟩:=r.one
 cases ru
 obtain⟨z,its,n,rv,e⟩:=I.hok p _ hp
 have hlen:=rv.length
 rw[eY] at hlen
 have hl:s.heap.IsList p its.toArray:=⟨_,e,rfl,n,rfl⟩
 have lt:p<s.heap.objs.size:=eQ e
 refine call_any_walk (Km hl ?_)
 refine⟨_,_,_,_,_,_,fun i=>(ns.map fun n=>n != 0).getD i false,rfl,Walks.list (A:=X.A.in1) (I.ok.hd hc) _ p (dH lt) _,⟨⟨_,j_ _ rfl,rfl,rfl⟩,hl.push _⟩,fun i v s' Q' E' hv hq=>?_,fun h' tk hk=>?_⟩
 ·have hv':its[i]?=some v:=by simpa using(show its.toArray[i]?=some v from hv)
  obtain⟨t,rfl⟩:=oO rv i v hv'
  have hi:i<ns.length:=by rw[hlen]; exact(iM.mp hv').1
  have eb:(ns.map fun n=>n != 0).getD i false=(ns.getD i 0 != 0):=by simp[oK,hi]
  dsimp only at hq
  rw[eb] at hq
  exact PySem.P.truthy_int hq
 ·have e3:(List.range its.toArray.size).any (fun i=>(ns.map fun n=>n != 0).getD i false)=ns.any fun n=>n != 0:=by
   have:=range_any (ns.map fun n=>n != 0)
   rw[eY] at this
   rw[dI,<- hlen,this,List.any_map]; rfl
  refine⟨.bl (ns.any fun n=>n != 0),H,I.kept (t':=tk) (fun b o eb=>?_),by rw[<- e3]; rfl,q⟩
  exact hk b o (by simpa using dH (eQ eb)) (fM _ eb)
end
theorem PQ {K:PySem.W.Frag} {js:List Nat} {a:Addr} {ns:List Int} {ta:TA} {tc:TT} {te:TE} {σ:St} {H:Hp} {Q:VK} (kp:Nat->Int->Bool) (f:Nat->Int->Int) (hl:∀R:List V->Hp->Prop,R [.ref a] H->ta σ H R) (hb:H a=some (.lst (ns.map V.int))) (hn:ns.length<=1000)
  (test:∀(i:Nat) (x:Int) H',ns[i]?=some x->aA H H'->∀R:Bool->Hp->Prop,R (kp i x) H'->tc (some (.int (i:Nat))::some (.int x)::bK js σ) H' R)
  (val:∀(i:Nat) (x:Int) H',ns[i]?=some x->kp i x=true->aA H H'->∀R:VK,R (.int (f i x)) H'->te (some (.int (i:Nat))::some (.int x)::bK js σ) H' R)
  (fin:∀acc H',aA H H'->H acc=none->H' acc=some (.lst ((((List.range ns.length).filter fun i=>kp i (ns.getD i 0)).map fun i=>f i (ns.getD i 0)).map V.int))->Q (.ref acc) H'):d8 2 js (QQ K ta) (Ir K 2 (jy (cF 0) (jy (cF 1) y_))) tc te σ H Q:=by
 refine hl _ ⟨a,rfl,⟨_,fQ.of hb⟩,fun acc hacc=>?_⟩
 refine⟨fun i m ys H2=>m=ns.length-i/\i<=ns.length/\ys=((List.range i).filter fun i=>kp i (ns.getD i 0)).map (fun i=>V.int (f i (ns.getD i 0)))/\aA H H2/\H2 acc=some (.lst ys),⟨_,rfl,dG _,rfl,aM hacc _,az⟩,?_⟩
 rintro i m ys H2 ⟨rfl,hi,rfl,sm,hy⟩
 have hq:fQ K H2 a (ns.map V.int):=fQ.of (sm _ _ hb)
 by_cases hlt:i<ns.length
 ·have e1:ns[i]?=some ns[i]:=jg hlt
  have e2:ns.getD i 0=ns[i]:=by simp[oK,hlt]
  refine .inr ⟨⟨_,.int ns[i],hq,by rw[dz,e1]; rfl⟩,fun x H3 y=>?_⟩
  obtain⟨p,y',fp,rfl,rfl,h2⟩:=y
  have q2:=h2 _ hq
  rw[dz,e1] at q2
  cases q2
  have s3:aA H2 (upd H2 p (.tup [.int (i:Nat),.int ns[i]])):=aM fp _
  refine⟨p,_,rfl,bW.of az,rfl,(show(_=_/\_=_)/\tc _ _ _ from⟨⟨rfl,by simp⟩,?_⟩)⟩
  have hs:=w6 (fun i=>kp i (ns.getD i 0)) (fun i=>V.int (f i (ns.getD i 0))) i
  refine test i _ _ e1 (sm.trans s3) _ ?_
  cases h:kp i ns[i] with
  | true=>
   rw[bc rfl]
   rw[e2,h,bc rfl] at hs
   refine val i _ _ e1 h (sm.trans s3) _ ⟨s3 _ _ hy,aZ (by have:=BK (fun i=>kp i (ns.getD i 0)) (fun i=>V.int (f i (ns.getD i 0))) i; omega),ns.length-(i+1),by omega,rfl,hlt,hs.symm,(sm.trans s3).dw hacc,az⟩
  | false=>
   rw[aX (by decide)]
   rw[e2,h,aX (by decide),qD] at hs
   exact⟨ns.length-(i+1),by omega,rfl,hlt,hs.symm,sm.trans s3,s3 _ _ hy⟩
 ·have e:i=ns.length:=by omega
  subst e
  refine .inl ⟨⟨_,hq,by rw[eY]; exact bD _⟩,fin _ _ sm hacc ?_⟩
  rw[hy,Am]; rfl
abbrev iw (K:PySem.W.Frag) (x:Str) (st:Stmt) (f:Addr):Prop:=∃(oc:Value) (od an:Option Addr) (sl:Array (Option Value)) (kV dc pm cd ct:Value),PySem.W.nsIn K mainGlobals x=some (some (.ref f))/\K.lookup f=some ⟨oc,od,.func (PySem.W.fnOf x x (cZ st) (cA st) (aG st) .none kV dc pm an cd ct),sl⟩/\PySem.W.codeIn K cd x=true/\PySem.W.keepIn K (.ref f)=true
abbrev Ul (K:PySem.W.Frag) (x:Str) (st:Stmt) (f:Addr) (T:Addr) (i:Int):Prop:=∃(oc oT:Value) (od an dT:Option Addr) (sl sT:Array (Option Value)) (kV dc pm cd ct:Value) (t:Tok) (nT:Nat),PySem.W.nsIn K mainGlobals x=some (some (.ref f))/\K.lookup f=some ⟨oc,od,.func (PySem.W.fnOf x x (cZ st) (cA st) (aG st) (.ref T) kV dc pm an cd ct),sl⟩/\PySem.W.codeIn K cd x=true/\PySem.W.keepIn K (.ref f)=true/\K.lookup T=some ⟨oT,dT,.seq #[.int i t] nT,sT⟩
structure Wl (K:PySem.W.Frag) (mg:Str->Option Value) (x:Str) (st:Stmt) (ps:List Str) where
 f:Addr
 fd:FuncData
 F:gW K x x st f fd
 b:Binds K fd ps []
 m:mg x=some (.ref f)
structure T7 (K:PySem.W.Frag) (mg:Str->Option Value) (x:Str) (st:Stmt) (ps:List Str) (i:Int) where
 f:Addr
 fd:FuncData
 T:Addr
 t:Tok
 F:Ew K x x st f fd T i t
 b:Binds K fd ps []
 bd:Binds K fd ps [.int i t]
 m:mg x=some (.ref f)
section
variable {K:PySem.W.Frag} {h:Heap} {mg:Str->Option Value}
theorem iw.mk {x:Str} {st:Stmt} {f:Addr} {oc:Value} {od an:Option Addr} {sl:Array (Option Value)} {kV dc pm cd ct:Value} (a:PySem.W.nsIn K mainGlobals x=some (some (.ref f))) (l:K.lookup f=some ⟨oc,od,.func (PySem.W.fnOf x x (cZ st) (cA st) (aG st) .none kV dc pm an cd ct),sl⟩) (c:PySem.W.codeIn K cd x=true) (k:PySem.W.keepIn K (.ref f)=true):iw K x st f:=⟨oc,od,an,sl,kV,dc,pm,cd,ct,a,l,c,k⟩
theorem Ul.mk {x:Str} {st:Stmt} {f T:Addr} {i:Int} {oc oT:Value} {od an dT:Option Addr} {sl sT:Array (Option Value)} {kV dc pm cd ct:Value} {t:Tok} {nT:Nat} (a:PySem.W.nsIn K mainGlobals x=some (some (.ref f))) (l:K.lookup f=some ⟨oc,od,.func (PySem.W.fnOf x x (cZ st) (cA st) (aG st) (.ref T) kV dc pm an cd ct),sl⟩) (c:PySem.W.codeIn K cd x=true) (k:PySem.W.keepIn K (.ref f)=true) (e:K.lookup T=some ⟨oT,dT,.seq #[.int i t] nT,sT⟩):Ul K x st f T i:=⟨oc,oT,od,an,dT,sl,sT,kV,dc,pm,cd,ct,t,nT,a,l,c,k,e⟩
theorem iw.has {x:Str} {st:Stmt} {f:Addr} (e:iw K x st f) (X:K.In h) (G:h.Ns mainGlobals mg) {ps:List Str} (H:∀(kV doc pm:Value) (an:Option Addr) (cdv ct:Value) (us:List Value),us.length=ps.length->bindArgs (PySem.W.fnOf x x (cZ st) (cA st) (aG st) .none kV doc pm an cdv ct) ⟨us,[]⟩=pure (ps.zip us)):Nonempty (Wl K mg x st ps):=by
 obtain⟨oc,od,an,sl,kV,dc,pm,cd,ct,a,l,c,k⟩:=e
 have F:=Mp (st:=st) l c k
 exact⟨⟨_,_,F,F.binds H,PySem.W.mg_of X G a⟩⟩
theorem Ul.has {x:Str} {st:Stmt} {f T:Addr} {i:Int} (e:Ul K x st f T i) (X:K.In h) (G:h.Ns mainGlobals mg) {ps:List Str}
  (H:∀(t:Tok) (kV doc pm:Value) (an:Option Addr) (cdv ct:Value) (us:List Value),(us++[]).length=ps.length->∃k,bindArgs (PySem.W.fnOf x x (cZ st) (cA st) (aG st) (.ref T) kV doc pm an cdv ct) ⟨us,[]⟩=seqItems? (.ref T) >>= k/\k (some #[.int i t])=pure (ps.zip (us++[])))
  (H':∀(t:Tok) (kV doc pm:Value) (an:Option Addr) (cdv ct:Value) (us:List Value),(us++[Value.int i t]).length=ps.length->∃k,bindArgs (PySem.W.fnOf x x (cZ st) (cA st) (aG st) (.ref T) kV doc pm an cdv ct) ⟨us,[]⟩=seqItems? (.ref T) >>= k/\k (some #[.int i t])=pure (ps.zip (us++[.int i t]))):Nonempty (T7 K mg x st ps i):=by
 obtain⟨oc,oT,od,an,dT,sl,sT,kV,dc,pm,cd,ct,t,nT,a,l,c,k,e⟩:=e
 have F:Ew K x x st f _ T i t:=⟨⟨_,_,_,_,_,_,_,_,_,rfl,l,c⟩,k,⟨_,_,e,rfl⟩⟩
 exact⟨⟨_,_,_,_,F,F.binds (H t),F.binds (H' t),PySem.W.mg_of X G a⟩⟩
def Wl.ct {x:Str} {st:Stmt} {ps:List Str} {k:Nat} {sp:Sp} (h:Wl K mg x st ps) (P:Program) (w:World) (base:Heap) (G:bG P w K mg base gK k h.f h.fd ps sp):Ct P w K mg base k x ps sp:=⟨h.f,h.fd,G,h.F.kp,h.b,h.m⟩
def Wl.ctE {x:Str} {st:Stmt} {ps:List Str} {k:Nat} {sp:Sp} (h:Wl K mg x st ps) (P:Program) (w:World) (base:Heap) (G:bG P w K mg base (oN P w) k h.f h.fd ps sp):M7 P w K mg base k x ps sp:=⟨h.f,h.fd,G,h.F.kp,h.b,h.m⟩
def T7.ct {x:Str} {st:Stmt} {ps:List Str} {i:Int} {k:Nat} {sp:Sp} (h:T7 K mg x st ps i) (P:Program) (w:World) (base:Heap) (G:bG P w K mg base gK k h.f h.fd ps sp):M8 P w K mg base k x ps i sp:=⟨h.f,h.fd,h.t,G,h.F.kp,h.b,h.bd,h.m⟩
abbrev Nb (K:PySem.W.Frag) (x:Str):Prop:=PySem.W.nsIn K mainGlobals x=some none
abbrev Ni (K:PySem.W.Frag) (x:Str) (i:Int):Prop:=∃t,PySem.W.nsIn K mainGlobals x=some (some (.int i t))
abbrev Cj (K:PySem.W.Frag) (x s:Str):Prop:=∃t,PySem.W.nsIn K mainGlobals x=some (some (.str s t))
theorem Ni.mk {x:Str} {i:Int} {t:Tok} (a:PySem.W.nsIn K mainGlobals x=some (some (.int i t))):Ni K x i:=⟨t,a⟩
theorem Cj.mk {x s:Str} {t:Tok} (a:PySem.W.nsIn K mainGlobals x=some (some (.str s t))):Cj K x s:=⟨t,a⟩
theorem Ni.gi {x:Str} {i:Int} (e:Ni K x i) (X:K.In h) (G:h.Ns mainGlobals mg):Gi mg x i:=let ⟨t,z⟩:=e; ⟨t,PySem.W.mg_of X G z⟩
theorem Cj.gs {x s:Str} (e:Cj K x s) (X:K.In h) (G:h.Ns mainGlobals mg):Gs mg x s:=let ⟨t,z⟩:=e; ⟨t,PySem.W.mg_of X G z⟩
abbrev NT (K:PySem.W.Frag) (x:Str) (vs:List Value):Prop:=∃(a:Addr) (n:Nat) (sl:Array (Option Value)),PySem.W.nsIn K mainGlobals x=some (some (.ref a))/\K.lookup a=some ⟨.type "tuple",none,.seq vs.toArray n,sl⟩
theorem NT.mk {x:Str} {vs:List Value} {a:Addr} {n:Nat} {sl:Array (Option Value)} (b:PySem.W.nsIn K mainGlobals x=some (some (.ref a))) (l:K.lookup a=some ⟨.type "tuple",none,.seq vs.toArray n,sl⟩):NT K x vs:=⟨a,n,sl,b,l⟩
end
section
variable {X:Cx} {pins:List (Addr×Obj)} {σ:St} {H1:Hp} {s1 s':Shared}
theorem IK {e:Value} {E:XK} {D:Ends} {hx:Str} {CH:Addr} {hp pos:Pos} {b0:Stmt} {body:List Stmt} {ts:TS} (I:Inv X pins σ H1 s1) (c:oN X.prog X.w X.stack H1 s1 E e s')
  (hE:∀cls H2,E cls none H2->PySem.W.exmOne X.K cls (.ref CH)=some true/\∀a H3,(aA H1 H2->aA H1 H3)->T6 H3 a cls->ts D σ H3)
  (hg:Gl X hx) (hm:X.mg hx=some (.ref CH)) (hs:∀e,zL (X.in' e) (b0::body) ts) (hn:∀e s,X.xe e s->False) (st:X.stack=X.env::X.outer) (fL:X.env.frame=some X.env.locals) (hd:(hx==("__debug__" : Str))=false) :
  wpAny (model X.prog X.w) X.A (noteFrame e X.env) (fun _ s2=>wpAny (model X.prog X.w) X.A (setFlight e none) (fun _ s3=>wpAny (model X.prog X.w) X.A (handleBy e X.env [.ExceptHandler (some (.Name hx hp)) none (b0::body) pos]) (SP X pins D) X.xe s3) X.xe s2) X.xe s':=by
 obtain⟨a,T0,cls,H2,rfl,os,bare,un,hok,ha,hT0,n0,⟨WK,Ss⟩,q⟩:=c
 have na:H1 a=none:=I.hok.none WK
 have X7:H1 T0=none:=I.hok.none Ss
 obtain⟨ex,q⟩:=hE cls H2 q
 have I2:Inv X pins σ H2 s':=I.call' (ch:=[]) os un hok bare fun b z=>nomatch z
 have ff:s'.heap.FunFrames X.base (X.env::X.outer):=by rw[<- st]; exact I2.stack
 have fr:X.A.frames=some (X.env::X.outer):=by rw[<- st]; exact I2.ok.frames
 refine noteE2 fr ff fL (vA.at (hok a _ ha)) (vV.at (hok T0 _ hT0)) n0 fun h3 T nt=>?_
 have fT:s'.heap.get? T=none:=by
  cases z:s'.heap.get? T with
  | none=>rfl
  | some o=>exact absurd (eQ z) (Nat.not_lt.mpr nt.fresh)
 have nT:H2 T=none:=hok.none fT
 have Ta:T≠a:=fun z=>by rw[z,ha] at nT; cases nT
 have TT:T≠T0:=fun z=>by rw[z,hT0] at nT; cases nT
 have I3:Inv X pins σ (upd (upd (upd H2 T0 (M_ T0)) a (vA a cls T)) T (vV T)) { s' with heap:=h3 }:=by
  refine I2.ext (fun b=>b=a\/b=T0\/b=T) (fun b o z y x=>nt.keep b o (fun w=>z (.inl w)) (fun w=>z (.inr (.inl w))) (by rw[<- st]; exact y) x) (fun b o z x=>nt.slot b o (fun w=>z (.inl w)) (fun w=>z (.inr (.inl w))) x) (fun b o z x=>?_) (fun b z=>?_) (fun b z=>?_) (fun b u z y=>?_)
  ·rcases z with rfl | rfl | rfl
   ·obtain⟨oe,vs,e1,_⟩:=nt.ex; exact⟨_,e1⟩
   ·exact nt.old
   ·rw[fT] at x; cases x
  ·rcases z with rfl | rfl | rfl
   ·exact .inr ⟨_,ha⟩
   ·exact .inr ⟨_,hT0⟩
   ·exact .inl ⟨nT,fT⟩
  ·rw[aJ fun w=>z (.inr (.inr w)),aJ fun w=>z (.inl w),aJ fun w=>z (.inr (.inl w))]
  ·rcases z with rfl | rfl | rfl
   ·rw[aJ (Ne.symm Ta),az] at y; cases y; exact Lb nt.ex
   ·rw[aJ (Ne.symm TT),aJ n0,az] at y; cases y; exact QG nt.old
   ·rw[az] at y; cases y; exact FW nt.tb
 have Uc:upd (upd (upd H2 T0 (M_ T0)) a (vA a cls T)) T (vV T) a=some (vA a cls T):=by rw[aJ (Ne.symm Ta),az]
 have WQ:upd (upd (upd H2 T0 (M_ T0)) a (vA a cls T)) T (vV T) T=some (vV T):=az
 have sm:aA H1 H2->aA H1 (upd (upd (upd H2 T0 (M_ T0)) a (vA a cls T)) T (vV T)):=fun y b o z=>by
  have g:=y b o z
  rw[aJ (fun w=>by rw[w,nT] at g; cases g),aJ (fun w=>by rw[w,na] at z; cases z),aJ (fun w=>by rw[w,X7] at z; cases z)]
  exact g
 have q3:=q a _ sm ⟨T,Uc⟩
 generalize upd (upd (upd H2 T0 (M_ T0)) a (vA a cls T)) T (vV T)=H3 at I3 Uc WQ q3
 generalize ({ s' with heap:=h3 }:Shared)=s3 at I3
 refine wpAny_handleBy_cons (codeAny_handlers_test ?_) (by intro z; cases z)
 refine Calls.Name_function_global I3.ok.kind hg (Calls.loadGlobal_global (by rw[I3.ok.glob]; exact I3.mod.glob.keeps I3.bk) hm ?_) hd
 obtain⟨oe,vs,e1,⟨ec,_⟩,ed,ev⟩:=vA.at (I3.hok a _ Uc)
 have LT:PySem.W.Looks (model X.prog X.w) s3.heap (typeOf (.ref a)) cls:=ec▸(PySem.W.Looks.ld e1).andThen .now
 refine(PySem.W.exm_one I3.vB LT ex).here ?_
 refine codeAny_handlers_suite (Iu I3 Uc WQ fun s4 I4=>?_)
 refine dN (hs (.ref a) pins s4 _ _ _ (I4.inE (.ref a)) q3) (fun fl s6 z=>?_) fun e6 s6 z=>(hn _ _ z).elim
 cases fl with
 | next=>
  obtain⟨σ6,H6,I6,q6⟩:=z
  exact⟨σ6,H6,I6.Ow I4.ok,q6⟩
 | ret u=>
  obtain⟨v,σ6,H6,I6,rv,q6⟩:=z
  exact⟨v,σ6,H6,I6.Ow I4.ok,rv,q6⟩
 | brk=>
  obtain⟨σ6,H6,I6,q6⟩:=z
  exact⟨σ6,H6,I6.Ow I4.ok,q6⟩
 | cont=>
  obtain⟨σ6,H6,I6,q6⟩:=z
  exact⟨σ6,H6,I6.Ow I4.ok,q6⟩
def Qp (ok:Value->Prop) (tb:Jw) (ts:TS):TS:=fun D σ H=>tb D (fun cls σ1 H1 H2=>ok cls/\∀a H3,(aA H1 H2->aA H1 H3)->T6 H3 a cls->ts D σ1 H3) σ H
theorem Oi {K:PySem.W.Frag} {hx:Str} {CH:Addr} {hp pos tp:Pos} {body:List Stmt} {b0:Stmt} {suite:List Stmt} {tb:Jw} {ts:TS} (hK:X.K=K)
  (hb:We X body tb) (hs:∀e,zL (X.in' e) (b0::suite) ts) (hm:X.mg hx=some (.ref CH)) (hgx:Gl X hx:=by rfl)
  (hn:∀e s,X.xe e s->False:=by exact fun _ _ z=>z) (st:X.stack=X.env::X.outer:=by rfl) (fL:X.env.frame=some X.env.locals:=by rfl) (hd:(hx==("__debug__" : Str))=false:=by decide) :
  PS X (.Try body [.ExceptHandler (some (.Name hx hp)) none (b0::suite) pos] [] [] tp) (Qp (fun cls=>PySem.W.exmOne K cls (.ref CH)=some true) tb ts):=by
 subst hK
 refine .mk ?_
 intro pins s σ H D I h
 refine wpAny_Try_except (dN (hb.go pins s σ H D _ I h) (fun fl s1 z=>?_) fun e s' z=>?_)
 ·cases fl with
  | next=>exact Kd z
  | ret u=>exact z
  | brk=>exact z
  | cont=>exact z
 ·obtain⟨σ1,H1,s1,E',I1,c,q⟩:=z
  exact IK I1 c q hgx hm hs hn st fL hd
end
section
variable {P:Program} {w:World} {K:PySem.W.Frag} {mg:Str->Option Value} {base:Heap}
structure CtF (P:Program) (w:World) (K:PySem.W.Frag) (mg:Str->Option Value) (base:Heap) (k:Nat) (x:Str) (ps:List Str) (i:Int) (sp:Sp) where
 f:Addr
 fd:FuncData
 t:Tok
 G:bG P w K mg base (oN P w) k f fd ps sp
 kp:PySem.W.keepIn K (.ref f)=true
 b:Binds K fd ps []
 bd:Binds K fd ps [.int i t]
 m:mg x=some (.ref f)
end
section
variable {X:Cx}
end
section
variable {X:Cx}
def Vr:List V->Hp->VK->Prop:=fun vs H Q=>∃j:Int,vs=[.int j]/\-(2 ^ 62)<=j/\j<2 ^ 62/\∀p H',H p=none->aA H H'->H' p=some (.T_ 0 j)->Q (.ref p) H'
def Vt:List V->Hp->VK->Prop:=fun vs H Q=>∃(p:Addr) (j:Int),vs=[.ref p]/\H p=some (.T_ 0 j)/\-(2 ^ 62)<=j/\j<2 ^ 62/\j.toNat<=1000/\∀l H',H l=none->aA H H'->H' l=some (.lst ((List.range j.toNat).map fun i:Nat=>V.int i))->Q (.ref l) H'
end
def Mr (ns:List Int) (i:Int) (j:Nat):Prop:=ns[j]?=some i/\∀m,m<j->ns[m]?≠some i
section
variable {X:Cx}
end
section
variable {X:Cx}
end
section
variable {X:Cx}
end
section
variable {X:Cx}
end
section
variable {X:Cx}
end
section
variable {X:Cx}
end
abbrev TAX:=St->Hp->(List V->Hp->Prop)->(Value->Hp->Hp->Prop)->Prop
structure W2 (X:Cx) (es:List Expr) (t:TAX):Prop where
 mk ::
 go:∀(pos:Pos) (pins:List (Addr×Obj)) (s:Shared) (σ:St) (H:Hp) (Q:List V->Hp->Prop) (EE:Value->Hp->Hp->Prop),Inv X pins σ H s->t σ H Q EE->wpAny (model X.prog X.w) X.A (spliced (backTo pos (starEach es X.env))) (AP X pins σ Q) (XL X pins σ EE) s
def Ux:TAX:=fun _ H Q _=>Q [] H
def Qj (t:TX) (u:TAX):TAX:=fun σ H Q EE=>t σ H (fun v H1=>u σ H1 (fun vs H2=>Q (v::vs) H2) EE) EE
def Uy (t:TAX):TX:=fun σ H Q EE=>t σ H (fun xs H1=>xs.length<=sizeLine/\∀p H',H1 p=none->aA H1 H'->H' p=some (.lst xs)->Q (.ref p) H') EE
def Xa (t:TAX):TX:=fun σ H Q EE=>t σ H (fun xs H1=>xs.length<=sizeLine/\∀p H',H1 p=none->aA H1 H'->H' p=some (.tup xs)->Q (.ref p) H') EE
section
variable {X:Cx}
theorem Og:W2 X [] Ux:=.mk <| fun _ _ _ _ H Q EE I h=>Calls.spliced_nil ⟨[],H,I,.nil,h⟩
theorem QB {e:Expr} {es:List Expr} {t:TX} {u:TAX} (ha:PX X e t) (hr:W2 X es u) (h:bJ e=true:=by rfl):W2 X (e::es) (Qj t u):=by
 refine .mk ?_
 intro pos pins s σ H Q EE I q
 rw[bL h]
 show wpAny _ _ (spliced ((false,eval e X.env)::backTo pos (starEach es X.env))) _ _ s
 refine Calls.spliced_cons (dN (ha.go pins s σ H _ EE I q) (fun u s1 ⟨v,H1,I1,r1,q1⟩=>?_) fun _ _ z=>z)
 exact dN (hr.go pos pins s1 σ H1 _ EE I1 q1) (fun us s2 ⟨xs,H2,I2,r2,q2⟩=>⟨v::xs,H2,I2,.cons r1 r2,q2⟩) fun _ _ z=>z
theorem RJ {es:List Expr} {t:TAX} {pos:Pos} (h:W2 X es t):PX X (.List es pos) (Uy t):=by
 refine .mk ?_
 intro pins s σ H Q EE I hq
 refine wpAny_List_spliced (dN (h.go pos pins s σ H _ EE I hq) (fun us s1 ⟨xs,H1,I1,r,z,q⟩=>⟨by rw[<- r.length]; exact z,?_⟩) fun _ _ z=>z)
 have fr:H1 s1.heap.objs.size=none:=I1.hok.fresh (bD _)
 exact⟨.ref s1.heap.objs.size,upd H1 s1.heap.objs.size (.lst xs),I1.laid (t':=s1.toks) (fun b u e=>fM _ e) (bD _) ⟨z,us,0,r,j_ _ rfl⟩,rfl,q _ _ fr (aM fr _) az⟩
end
theorem uY {K:PySem.W.Frag} {nt:Nat} {g:TG} {js:List Nat} {a:Addr} {xs:List V} {tl te:TE} {σ:St} {H:Hp} {Q:VK} (τ:Nat->St) (hτ:∀i,(τ i).length=nt) (hl:∀R:VK,R (.ref a) H->tl σ H R) (ha:H a=some (.lst xs))
  (h:∀acc,H acc=none->∃Pv:Nat->List V->Hp->Prop,Pv 0 [] (upd H acc (.lst []))/\(∀i ys H',Pv i ys H'->H' a=some (.lst xs)) /\
   (∀i x ys H',xs[i]?=some x->Pv i ys H'->(∀R:St->Hp->Prop,R (τ i++bK js σ) H'->g x (List.replicate nt none++bK js σ) H' R)/\te (τ i++bK js σ) H' fun y H4=>H4 acc=some (.lst ys)/\ys.length<sizeLine/\Pv (i+1) (ys++[y]) (upd H4 acc (.lst (ys++[y]))))/\∀ys H',Pv xs.length ys H'->Q (.ref acc) H'):d8 nt js (j8 K tl) g ql te σ H Q:=by
 refine hl _ ⟨a,rfl,⟨xs,fQ.of ha⟩,fun acc hacc=>?_⟩
 obtain⟨Pv,p0,pA,ps,pf⟩:=h acc hacc
 refine⟨fun i m ys H2=>m=xs.length-i/\i<=xs.length/\Pv i ys H2,⟨_,rfl,dG _,p0⟩,?_⟩
 rintro i m ys H2 ⟨rfl,hi,hP⟩
 have ht:fQ K H2 a xs:=fQ.of (pA _ _ _ hP)
 by_cases hlt:i<xs.length
 ·refine .inr ⟨⟨xs,xs[i],ht,jg hlt⟩,fun x H3 y=>?_⟩
  obtain⟨e1,y⟩:=y
  subst e1
  obtain⟨gg,tt⟩:=ps i x ys _ (y xs ht) hP
  refine gg _ ⟨⟨?_,?_⟩,?_⟩
  ·rw[List.drop_append_of_le_length (by rw[hτ]; exact bD _),<- hτ i,Hw,Kc]
  ·rw[dR,dR,hτ,yq]
  unfold ql
  simp only[if_true]
  have e:(fun(y:V) (H4:Hp)=>H4 acc=some (.lst ys)/\ys.length<sizeLine/\Pv (i+1) (ys++[y]) (upd H4 acc (.lst (ys++[y]))))=fun y H4=>H4 acc=some (.lst ys)/\ys.length<sizeLine/\∃m',m'<xs.length-i/\(m'=xs.length-(i+1)/\i+1<=xs.length/\Pv (i+1) (ys++[y]) (upd H4 acc (.lst (ys++[y])))):=
   funext fun y=>funext fun H4=>propext ⟨fun⟨z1,z2,z3⟩=>⟨z1,z2,xs.length-(i+1),by omega,rfl,hlt,z3⟩,fun⟨z1,z2,_,_,_,_,z3⟩=>⟨z1,z2,z3⟩⟩
  rw[e] at tt
  exact tt
 ·have e:i=xs.length:=by omega
  subst e
  exact .inl ⟨⟨xs,ht,bD _⟩,pf _ _ hP⟩
theorem FT {X:Cx} {K:PySem.W.Frag} {o:Expr} {to:TE} {name:Str} {apos cpos:Pos} {T id:String} {r:V->List V->Hp->VK->Prop} (hK:X.K=K) (pa:PlainAttrs T) (slot:Slot T name id) (hty:typeOf (.builtin id)=pure (.type "method_descriptor")) (hm:Wg X id r) (ho:PE X o to)
  (hbase:attributeBase o name X.env (eval o X.env)=eval o X.env:=by rfl) (hline:(apos.endLine==cpos.line)=true:=by rfl):PE X (.Call (.Attribute o name apos) [] [] cpos) (Rh K T r to):=by
 subst hK
 exact RW pa slot hty hm ho hbase hline
theorem zH.fix {K:PySem.W.Frag} {G H:Hp} {p:Addr} {xs:List V} (h:zH K G p xs) (f:∀o,G p=some (.zb o (.lst xs))->H p=some (.zb o (.lst xs))):zH K H p xs:=h.elim (fun⟨o,z⟩=>.inl ⟨o,f o z⟩) .inr
theorem Uk.gt {K:PySem.W.Frag} {mg:Str->Option Value} {x:Str} {W:List V} (h:Uk K mg x W):GT K mg x W:=by
 obtain⟨a,h1,_,h3⟩:=h
 exact⟨a,h1,h3⟩
theorem aA.no {H H1:Hp} {b:Addr} (s:aA H H1) (n:H1 b=none):H b=none:=by
 cases z:H b with
 | none=>rfl
 | some o=>rw[s _ _ z] at n; cases n
mutual
theorem Lh:∀d:PyData,nZ d=true->d.hasDict=false
 | .tuple ds,h=>by
  unfold PyData.hasDict
  exact wK ds (by unfold nZ at h; exact h)
 | .list _,h=>by unfold nZ at h; cases h
 | .dict _,h=>by unfold nZ at h; cases h
 | .none,_=>by unfold PyData.hasDict; rfl
 | .bool _,_=>by unfold PyData.hasDict; rfl
 | .int _,_=>by unfold PyData.hasDict; rfl
 | .str _,_=>by unfold PyData.hasDict; rfl
theorem wK:∀ds:List PyData,bC ds=true->PyData.hasDictAll ds=false
 | [],_=>by unfold PyData.hasDictAll; rfl
 | d::ds,h=>by
  unfold bC at h
  obtain⟨h1,h2⟩:=Bool.and_eq_true_iff.mp h
  unfold PyData.hasDictAll
  rw[Lh d h1,wK ds h2]; rfl
end
section
variable {prog:Program} {w:World} {A:Around} {E:Value->Shared->Prop} {s:Shared}
end
section
variable {X:Cx} {pins:List (Addr×Obj)} {σ:St} {H1:Hp} {s1 s':Shared}
end
end L2
namespace Zg
open PySem L2
def top (i:Nat):Stmt:=PySem.Challenge.pw_waithands_k16_plays_again_and_shared.main.body.getD i (.Pass ⟨0,0,0,0⟩)
abbrev nM:Stmt:=top 7
abbrev qz:Stmt:=top 8
abbrev jF:Stmt:=top 9
abbrev jd:Stmt:=top 10
abbrev tV:Stmt:=top 12
abbrev jE:Stmt:=top 13
abbrev Dg:Stmt:=top 14
abbrev jc:Stmt:=top 15
abbrev xZ:Stmt:=top 16
abbrev Df:Stmt:=top 18
abbrev kO:Stmt:=top 19
abbrev nF:Stmt:=top 20
abbrev qy:Stmt:=top 32
abbrev cP:Stmt:=top 33
abbrev kZ:Stmt:=top 34
abbrev kY:Stmt:=top 35
abbrev qw:Stmt:=top 36
abbrev uc:Stmt:=top 37
abbrev nO:Stmt:=top 38
abbrev k_:Stmt:=top 39
abbrev jG:Stmt:=top 40
abbrev je:Stmt:=top 41
abbrev nP:Stmt:=top 42
abbrev Dh:Stmt:=top 44
abbrev fX:Stmt:=top 45
abbrev kW:Stmt:=top 46
abbrev jb:Stmt:=top 47
abbrev kJ:Stmt:=top 48
abbrev tU:Stmt:=top 53
abbrev x_:Stmt:=top 54
abbrev nG:Stmt:=top 55
abbrev nH:Stmt:=top 56
abbrev tX:Stmt:=top 58
abbrev tZ:Stmt:=top 59
abbrev qm:Stmt:=top 60
abbrev xY:Stmt:=top 61
abbrev qt:Stmt:=top 62
abbrev tY:Stmt:=top 63
abbrev iy:Stmt:=top 64
abbrev qp:Stmt:=top 65
abbrev t_:Stmt:=top 66
abbrev nJ:Stmt:=top 67
abbrev qu:Stmt:=top 68
abbrev tW:Stmt:=top 69
structure Bi (mg:Str->Option Value):Prop where
 isinstance:mg "isinstance" = none
 int:mg "int" = none
 bool:mg "bool" = none
 tuple:mg "tuple" = none
 len:mg "len" = none
 max:mg "max" = none
 min:mg "min" = none
 enumerate:mg "enumerate" = none
 zip:mg "zip" = none
 sum:mg "sum" = none
 all:mg "all" = none
 list:mg "list" = none
 reversed:mg "reversed" = none
 range:mg "range" = none
 any:mg "any" = none
 abs:mg "abs" = none
 repr:mg "repr" = none
structure Co (K:PySem.W.Frag) (mg:Str->Option Value):Prop where
 GX:Uk K mg "WHATS" Ql
 OVER:Gs mg "OVER" "over"
 UNDER:Gs mg "UNDER" "under"
 EACH:Gs mg "EACH" "each"
 oJ:Gi mg "MOST_UNITS" 1000000000000
 jZ:Gi mg "MOST_HANDS" 12
 Jk:Gi mg "MOST_PACE" 1000000
 Jl:Gi mg "MOST_LATE" 4
 Eu:Gi mg "MOST_EVERY" 6
 xr:Gi mg "MOST_REST" 9
 Et:Gi mg "MOST_RULES" 3
 Jj:Gi mg "MOST_ROWS" 4
 Ji:Gi mg "MOST_SPAN" 4
 vW:Gi mg "PLACES_CALLED" 5
 Es:Gi mg "MOST_SINCE" 5
 qd:Gi mg "TRIPLES_SEEN" 3
local macro_rules | `(tactic| walk_at "o")=>`(tactic| first | exact Or.inl rfl | exact Or.inr rfl)
local macro_rules | `(tactic| walk_at "c")=>`(tactic| exact⟨rfl,rfl,rfl,by decide +kernel,rfl,by decide +kernel,by decide +kernel⟩)
local macro_rules | `(tactic| walk_at "rd")=>`(tactic| simp only[L2.start,Ah,List.map_nil,nQ,Ar,Nat.reduceAdd,Nat.reduceSub,List.replicate,Fv,Kc,qD,
 Hh,Nu,Nt,U3,EY,zZ,cF,Qv,NZ,NQ,J7,N8,if_true,if_false,Ko,Bool.not_true,Bool.not_false,N7,N6,RB,Rx,Rz,yc,N_,Oa,J8,N5,Ry,Vo,tC,Rb,Zv,Ob,rI,rU,JL,U9,Zx,U6,Qx,Xf,Qs,Xg,mY,Rg,oY,CJ,tB,CP,Zw,Ez,Qq,V7,U5,U7,Ra,Qu,Qo,Xi,Rh,U8,U4,Qw,Yd,Qt,Rc,ZD,Zy,Zz,ZC,Xe,JQ,JM,xPe,Qk,xIf,Uw,Uz,Xc,xPs,Xb,Uy,Xa,Qj,Ux,Vr,Vt])
section
variable {P:Program} {w:World} {K:PySem.W.Frag} {mg:Str->Option Value} {base:Heap} {f:Addr} {fd:FuncData} {k:Nat}
theorem Bb {X:Cx}:mU X (binaryOp .FloorDiv) (rI (fun _ j=>0<j/\j<10 ^ 60) fun i j=>.int (i / j)):=VG fun i j _ _ _ _ _ hc q=>by
 have h1:(0:Int)<j:=hc.1
 have h2:j<10 ^ 60:=hc.2
 refine PyProof.Rows.floordiv_int (by omega) (by rw[Int.fdiv_eq_ediv_of_nonneg i (by omega)]; exact q) (.inl (PyProof.noPylong_of_log2 ?_))
 have:j.natAbs<10 ^ 60:=by omega
 by_cases z:j.natAbs=0
 ·omega
 ·have h3:j.natAbs<2 ^ 1000:=wI this (by decide +kernel)
  have:=(Nat.log2_lt z).mpr h3
  omega
structure fH where
 w:Str
 s:Nat
 g:Str
 n:Int
 t:Int
def mW (r:fH):PyData:=.tuple [.str r.w,.int r.s,.str r.g,.int r.n,.int r.t]
def m_ (rs:List fH):PyData:=.tuple (rs.map mW)
def ue (dF:List (List fH)):PyData:=.tuple (dF.map m_)
structure my (r:fH):Prop where
 w:r.w∈(["come","done","wait"]:List Str)
 s:1<=r.s/\r.s<=4
 n:0<=r.n/\r.n<=1000000000000
 e:r.g = "each" -> 1<=r.n
def dh (l:List Int):PyData:=.tuple (l.map .int)
def zW (dm:List (List Int)):PyData:=.tuple (dm.map dh)
structure mC (dm:List (List Int)):Prop where
 n:dm.length=4
 l:∀x∈dm,x.length=3
def vZ (w:Str) (s:Nat) (dm:List (List Int)):Int:=((dm.take s).map fun l=>l.getD (iZ w) 0).sum
def says (r:fH) (h:Int) (dm:List (List Int)):Option Int:=
 if r.g = "each" then some ((vZ r.w r.s dm+r.n*r.s-1) / (r.n*r.s))
 else if(r.g = "over" /\ vZ r.w r.s dm>r.n*r.s)\/(r.g = "under" /\ vZ r.w r.s dm<r.n*r.s) then some (h+r.t) else none
def Qz:Option Int->V
 | none=>.non
 | some i=>.int i
def j6 (h:Int) (dm:List (List Int)):List fH->Int
 | []=>h
 | r::rs=>match says r h dm with
  | some i=>i
  | none=>j6 h dm rs
def topOf (h:Int):List Int->Int
 | []=>h
 | b::r=>dJ b r
def j4 (dF:List (List fH)) (l m h:Int) (dm:List (List Int)):Int:=
 let x:=topOf h (dF.map (j6 h dm))
 let y:=if l>x then l else x
 if m<y then m else y
theorem Hb (w:Str):iZ w<3:=by
 unfold iZ
 split
 ·decide
 ·split <;> decide
theorem bA {H:Hp} {ds:List PyData} {v:V} (h:At H (.tuple ds) v):∃a xs,v=.ref a/\H a=some (.tup xs)/\ak H ds xs:=by unfold At at h; exact h
theorem ak.aN {H:Hp} {d:PyData} {ds:List PyData} {xs:List V} (h:ak H (d::ds) xs):∃x r,xs=x::r/\At H d x/\ak H ds r:=by unfold ak at h; exact h
theorem ak.j5 {H:Hp} {xs:List V} (h:ak H [] xs):xs=[]:=by unfold ak at h; exact h
theorem dY {G:Hp}:∀{cs:List Int} {xs:List V},ak G (cs.map PyData.int) xs->xs=cs.map V.int
 | [],xs,h=>by unfold ak at h; exact h
 | c::cs,xs,h=>by
  obtain⟨x,r,rfl,h1,h2⟩:=ak.aN h
  unfold At at h1
  rw[h1,dY h2]; rfl
theorem bI {H:Hp}:∀cs:List Int,ak H (cs.map .int) (cs.map V.int)
 | []=>ak.nil
 | c::cs=>ak.cons (At.int c) (bI cs)
theorem row_shape {H:Hp} {r:fH} {v:V} (h:At H (mW r) v):∃a,v=.ref a/\H a=some (.tup [.str r.w,.int r.s,.str r.g,.int r.n,.int r.t]):=by
 obtain⟨a,xs,rfl,h1,h2⟩:=bA h
 obtain⟨x1,_,rfl,a1,h2⟩:=ak.aN h2
 obtain⟨x2,_,rfl,a2,h2⟩:=ak.aN h2
 obtain⟨x3,_,rfl,a3,h2⟩:=ak.aN h2
 obtain⟨x4,_,rfl,a4,h2⟩:=ak.aN h2
 obtain⟨x5,_,rfl,a5,h2⟩:=ak.aN h2
 cases ak.j5 h2
 unfold At at a1 a2 a3 a4 a5
 subst a1 a2 a3 a4 a5
 exact⟨a,rfl,h1⟩
theorem Gz {K:PySem.W.Frag} {js:List Nat} {a:Addr} {xs:List V} {ds:List PyData} {f:Nat->Int} {tl te:TE} {σ:St} {H:Hp} {Q:VK} (hl:∀R:VK,R (.ref a) H->tl σ H R) (ha:H a=some (.tup xs)) (hd:ak H ds xs) (hz:ds.length<=sizeLine)
  (step:∀(i:Nat) x d H',aA H H'->ds[i]?=some d->At H' d x->∀R:VK,(∀cV,aA H' cV->R (.int (f i)) cV)->te (some x::bK js σ) H' R)
  (fin:∀acc H',aA H H'->H' acc=some (.lst (((List.range ds.length).map f).map V.int))->Q (.ref acc) H'):dM js (uK K tl) te σ H Q:=by
 refine hl _ ⟨a,rfl,⟨xs,bW.of ha⟩,fun acc hacc=>?_⟩
 have hlen:=hd.length
 refine⟨fun i m ys H2=>m=ds.length-i/\i<=ds.length/\ys=((List.range i).map f).map V.int/\aA H H2/\H2 acc=some (.lst ys),⟨_,rfl,dG _,rfl,aM hacc _,az⟩,?_⟩
 rintro i m ys H2 ⟨rfl,hi,rfl,sm,hy⟩
 have ht:bW K H2 a xs:=bW.of (sm _ _ ha)
 by_cases hlt:i<ds.length
 ·refine .inr ⟨⟨xs,xs[i]'(by omega),ht,jg (by omega)⟩,fun x H3 y=>?_⟩
  obtain⟨e,y⟩:=y
  subst e
  obtain⟨d,e1,e2⟩:=hd.get (y xs ht)
  refine step i x d _ sm e1 (e2.mono sm) _ fun H4 s4=>⟨s4 _ _ hy,?_,ds.length-(i+1),by omega,rfl,hlt,?_,?_,az⟩
  ·rw[eY,eY,Kl]; omega
  ·rw[List.range_succ]; simp
  ·refine fun b o q=>?_
   have nb:b≠acc:=bH q hacc
   rw[aJ nb]
   exact s4 _ _ (sm _ _ q)
 ·have e:i=ds.length:=by omega
  subst e
  exact .inl ⟨⟨xs,ht,by omega⟩,fin _ _ sm hy⟩
def CT (K:PySem.W.Frag) (js:List Nat) (te:TE) (σ:St) (Q:VK) (x:V) (H1:Hp):Prop:=dM js (uK K (fun _ H R=>R x H)) te σ H1 Q
theorem v8 {K:PySem.W.Frag} {js:List Nat} {tl te:TE} {σ:St} {H:Hp} {Q:VK}:dM js (uK K tl) te σ H Q=tl σ H (CT K js te σ Q):=rfl
def C_:Sp:=fun vs H Q _=>∃(v u:V) (h:Int) (r:fH) (dm:List (List Int)),vs=[v,.int h,u]/\At H (mW r) v/\At H (zW dm) u/\my r/\mC dm/\∀H',aA H H'->Q (Qz (says r h dm)) H'
theorem Zd.of {v u:V} {h:Int} {r:fH} {dm:List (List Int)} {H:Hp} {Q:VK} {E:XK} (a1:At H (mW r) v) (a2:At H (zW dm) u) (h1:my r) (h2:mC dm) (q:∀H',aA H H'->Q (Qz (says r h dm)) H'):C_ ([v,.int h,u]++[]) H Q E:=⟨v,u,h,r,dm,rfl,a1,a2,h1,h2,q⟩
theorem vG {dm:List (List Int)} {w:Str} {s:Nat}:((List.range (dm.take s).length).map fun i=>((dm.take s).getD i []).getD (iZ w) 0).sum=vZ w s dm:=by
 unfold vZ
 congr 1
 generalize dm.take s=l
 apply List.ext_getElem
 ·simp
 ·intro i h1 h2
  simp at h1 h2
  simp[oK,h2]
theorem qX:aQ ["row","hands","newest","what","span","sign","number","step","place","total","mark"] ["row","hands","newest"] (aG nF):=(by walk_at "c")
theorem Bc (F:gW K "row_says" "row_says" nF f fd) (B:Bi mg) (O:Co K mg):bG P w K mg base gK (k+1) f fd ["row","hands","newest"] C_:=by
 refine F.ok qX (by rintro vs H Q E ⟨v,u,h,r,dm,rfl,_⟩; rfl) (fun cdv A outer s H vs Q E hr h=>?_)
 obtain⟨v,u,h,r,dm,rfl,a1,a2,hR,hN,q⟩:=h
 have ND:=qX.nd
 refine⟨_,(aq (cQ (pv 0) (b8 (K:=K) (n:=5) rfl rfl (aF (aD (i:=3) ND rfl (by walk_at "o")) (aF (aD (i:=4) ND rfl (by walk_at "o")) (aF (aD (i:=5) ND rfl (by walk_at "o")) (aF (aD (i:=6) ND rfl (by walk_at "o")) (aF (aD (i:=7) ND rfl (by walk_at "o")) b7))))))) (aq (aV (i:=8) ND rfl (by walk_at "o") (nU (K:=K) rfl PySem.F.plainAttrs_tuple PySem.F.slot_tuple_index PySem.F.type_tuple_index (Ii (K:=K) rfl) (FQ (K:=K) rfl O.GX) (aa (pv 3) aj))) (aq (aV (i:=9) ND rfl (by walk_at "o") (pb (qO rfl) B.sum En (aa (fu (N':=["triple","place"]) (js:=[8]) rfl (e_ (K:=K) rfl (fj iT (pv 2) ie (h_ (pv 4)))) sU.mk1 rfl (by decide) rfl (fun fp s' H'=>(a_ aO (pv 0) (pv 1) (fun _ _=>rfl)))) aj))) (aq (aV (i:=10) ND rfl (by walk_at "o") (aU jN (pv 6) (pv 4))) (aq (bQ (bf gP (pv 5) (qI O.EACH) (bu _)) (aC (aK (aU Bb (aU gU (aU bB (pv 9) (pv 10)) ao) (pv 10)))) bz) (aq (bQ (PW.pt (pJ (PW.pt (Kw (bf gP (pv 5) (qI O.OVER) (bu _)) (FJ (bf Ba (pv 9) (pv 10) (bu _))))) (jK (PW.pt (Kw (bf gP (pv 5) (qI O.UNDER) (bu _)) (FJ (bf Az (pv 9) (pv 10) (bu _)))))))) (aC (aK (aU bB (pv 1) (pv 7)))) bz) (aC (aK yz)))))))),?_⟩
 obtain⟨a,rfl,h1⟩:=row_shape a1
 obtain⟨b,xs,rfl,h2,h3⟩:=bA a2
 walk_at "rd"
 refine⟨a,_,rfl,bW.of h1,rfl,?_⟩
 walk_at "rd"
 intro aw ho hw
 refine⟨.inr (.inl ⟨rfl,ho⟩),aw,r.w,rfl,hw _,rfl,hR.w,?_⟩
 show dM _ _ _ _ _ _
 rw[v8]
 walk_at "rd"
 refine⟨b,xs,rfl,h2,fun p H1 s1 e1=>?_⟩
 rw[uW (by omega),rO] at e1
 have h3':ak H1 ((dm.take r.s).map dh) (xs.take r.s):=by rw[List.map_take]; exact(h3.take r.s).mono s1
 have hs4:=hR.s
 have htl:(dm.take r.s).length<=4:=by rw[pI]; omega
 refine Gz (a:=p) (f:=fun i=>((dm.take r.s).getD i []).getD (iZ r.w) 0) (fun R hR=>hR) e1 h3' (jH (aZ (by rw[eY]; omega))) (fun i x d H' s' ed hx R hR'=>?_) (fun acc H' s' hl=>?_)
 ·rw[dz] at ed
  obtain⟨l,el,rfl⟩:=nR.mp ed
  have l3:l.length=3:=hN.l l (Od (vK el))
  obtain⟨c,ys,rfl,g1,g2⟩:=bA hx
  cases dY g2
  show Rb _ _ _ [some _,some (.int (iZ r.w:Nat))] H' R
  walk_at "rd"
  have hw:=Hb r.w
  refine Ix.tup g1 (v:=.int (l.getD (iZ r.w) 0)) (aP (by rw[dz,jg (by omega),oK,jg (by omega)]; rfl)) ?_
  have:=hR' H' (aA.refl H')
  have eg:(dm.take r.s).getD i []=l:=by rw[oK,el]; rfl
  rw[eg] at this
  exact this
 ·have sm:=s1.trans s'
  rw[eY] at hl
  refine⟨acc,_,rfl,.inl hl,.inl (by have:=hR.n; omega),?_⟩
  rw[vG]
  have q1:=q H' sm
  unfold says at q1
  refine bF (fun c1=>?_) (fun c1=>?_)
  ·have c1':=iK c1
   rw[bc c1'] at q1
   have h1n:=hR.e c1'
   have hpos:0<r.n*(r.s:Int):=Int.mul_pos (by omega) (by omega)
   have hup:r.n*(r.s:Int)<=1000000000000*4:=Int.mul_le_mul hR.n.2 (by omega) (by omega) (by decide)
   exact⟨⟨hpos,Int.lt_of_le_of_lt hup (by decide)⟩,q1⟩
  ·have c1':=Aj c1
   rw[aX c1'] at q1
   generalize vZ r.w r.s dm=tot at q1 ⊢
   generalize r.n*(r.s:Int)=mark at q1 ⊢
   by_cases o1:r.g = "over"
   ·have u1:¬r.g = "under" := by rw[o1]; decide +kernel
    rw[lu o1,bc rfl]
    by_cases o2:mark<tot
    ·rw[lu o2,bc rfl]
     rw[bc (.inl ⟨o1,o2⟩)] at q1; exact q1
    ·rw[jJ o2,aX (by decide),jJ u1,aX (by decide)]
     rw[aX (fun z=>by rcases z with z | z; exact o2 z.2; exact u1 z.1)] at q1; exact q1
   ·rw[jJ o1,aX (by decide)]
    by_cases u1:r.g = "under"
    ·rw[lu u1,bc rfl]
     by_cases o2:tot<mark
     ·rw[lu o2,bc rfl]
      rw[bc (.inr ⟨u1,o2⟩)] at q1; exact q1
     ·rw[jJ o2,aX (by decide)]
      rw[aX (fun z=>by rcases z with z | z; exact o1 z.1; exact o2 z.2)] at q1; exact q1
    ·rw[jJ u1,aX (by decide)]
     rw[aX (fun z=>by rcases z with z | z; exact o1 z.1; exact u1 z.1)] at q1; exact q1
def Rk:Sp:=fun vs H Q _=>∃(v u:V) (h:Int) (rs:List fH) (dm:List (List Int)),vs=[v,.int h,u]/\At H (m_ rs) v/\At H (zW dm) u/\(∀r∈rs,my r)/\mC dm/\∀H',aA H H'->Q (.int (j6 h dm rs)) H'
theorem Rw.of {v u:V} {h:Int} {rs:List fH} {dm:List (List Int)} {H:Hp} {Q:VK} {E:XK} (a1:At H (m_ rs) v) (a2:At H (zW dm) u) (h1:∀r∈rs,my r) (h2:mC dm) (q:∀H',aA H H'->Q (.int (j6 h dm rs)) H'):Rk ([v,.int h,u]++[]) H Q E:=⟨v,u,h,rs,dm,rfl,a1,a2,h1,h2,q⟩
theorem o_:aQ ["rule","hands","newest","row","said"] ["rule","hands","newest"] (aG kO):=(by walk_at "c")
theorem yF (F:gW K "rule_wish" "rule_wish" kO f fd) (oE:Ct P w K mg base k "row_says" ["row","hands","newest"] C_):bG P w K mg base gK (k+1) f fd ["rule","hands","newest"] Rk:=by
 refine F.ok o_ (by rintro vs H Q E ⟨v,u,h,r,dm,rfl,_⟩; rfl) (fun cdv A outer s H vs Q E hr h=>?_)
 obtain⟨v,u,h,rs,dm,rfl,a1,a2,hR,hN,q⟩:=h
 have ND:=o_.nd
 refine⟨_,(aq (gR PassesOwn.never rfl (e_ (K:=K) rfl (pv 0)) (aD (i:=3) ND rfl (by walk_at "o")) (aq (aV (i:=4) ND rfl (by walk_at "o") (pf oE hr (aa (pv 3) (aa (pv 1) (aa (pv 2) aj))))) (aC (bQ (bf Ox (pv 4) yz (bu _)) (aC (aK (pv 4))) bz)))) (aC (aK (pv 1)))),?_⟩
 obtain⟨a,xs,rfl,h1,h2⟩:=bA a1
 have hlen:=h2.length
 rw[eY] at hlen
 walk_at "rd"
 rw[JN]
 walk_at "rd"
 refine TK.of h1 (fun n σ H'=>∃o1 o2,σ=[some (.ref a),some (.int h),some u,o1,o2]/\aA H H'/\j6 h dm (rs.drop n)=j6 h dm rs) ⟨_,_,rfl,aA.refl H,rfl⟩ (fun n σ H' _ ⟨o1,o2,_,sm,_⟩=>sm _ _ h1) ?_ ?_
 ·rintro n x σ H1 hx ⟨o1,o2,rfl,sm,e⟩
  obtain⟨d,e1,e2⟩:=h2.get hx
  rw[dz] at e1
  obtain⟨r,er,rfl⟩:=nR.mp e1
  have hn:n<rs.length:=by
   obtain⟨z,_⟩:=iM.mp er; exact z
  have ed:rs.drop n=r::rs.drop (n+1):=by
   rw[Kv hn]
   obtain⟨z,ez⟩:=iM.mp er
   rw[ez]
  rw[ed,j6] at e
  walk_at "rd"
  refine Zd.of (e2.mono sm) (a2.mono sm) (hR r (vK er)) hN fun H2 s2=>?_
  have s2:=sm.trans s2
  cases es:says r h dm with
  | none=>
   rw[es] at e
   refine⟨trivial,?_⟩
   exact⟨_,_,rfl,s2,e⟩
  | some i=>
   rw[es] at e
   refine⟨trivial,?_⟩
   have e:i=j6 h dm rs:=e
   show Q (.int i) H2
   rw[e]; exact q H2 s2
 ·rintro σ H1 ⟨o1,o2,rfl,sm,e⟩
  walk_at "rd"
  rw[hlen,Hw] at e
  have e:h=j6 h dm rs:=e
  rw[e]
  have:=q H1 sm
  rw[<- e] at this ⊢
  exact this
def KH (d0 d1 d3 d4 d5:PyData) (l m:Int) (dF:List (List fH)):PyData:=.tuple [d0,d1,.tuple [.int l,.int m],d3,d4,d5,ue dF]
def CZ:Sp:=fun vs H Q _=>∃(v u:V) (h l m:Int) (d0 d1 d3 d4 d5:PyData) (dF:List (List fH)) (dm:List (List Int)),vs=[v,.int h,u]/\At H (KH d0 d1 d3 d4 d5 l m dF) v/\At H (zW dm) u/\(∀rs∈dF,∀r∈rs,my r)/\dF.length<=100/\mC dm /\
 ∀H',aA H H'->Q (.int (j4 dF l m h dm)) H'
theorem Fl:aQ ["post","hands","newest","least","most","wishes","wished"] ["post","hands","newest"] (aG Df):=(by walk_at "c")
theorem O1 (F:gW K "wish" "wish" Df f fd) (B:Bi mg) (lV:Ct P w K mg base k "rule_wish" ["rule","hands","newest"] Rk):bG P w K mg base gK (k+1) f fd ["post","hands","newest"] CZ:=by
 refine F.ok Fl (by rintro vs H Q E ⟨v,u,h,l,m,d0,d1,d3,d4,d5,dF,dm,rfl,_⟩; rfl) (fun cdv A outer s H vs Q E hr h=>?_)
 obtain⟨v,u,h,l,m,d0,d1,d3,d4,d5,dF,dm,rfl,a1,a2,hR,hn,hN,q⟩:=h
 have ND:=Fl.nd
 refine⟨_,(aq (cQ (a_ aO (pv 0) ao (fun _ _=>rfl)) (b8 (K:=K) (n:=2) rfl rfl (aF (aD (i:=3) ND rfl (by walk_at "o")) (aF (aD (i:=4) ND rfl (by walk_at "o")) b7)))) (aq (yr (i:=5) ND rfl (by walk_at "o") (N':=["rule","hands","newest"]) (js:=[1,2]) rfl (e_ (K:=K) rfl (a_ aO (pv 0) ao (fun _ _=>rfl))) sU.mk2 rfl (by decide) rfl (fun fp s' H'=>(pf lV hr (aa (pv 0) (aa (pv 1) (aa (pv 2) aj)))))) (aq (aV (i:=6) ND rfl (by walk_at "o") (yC rfl B.max (aa (pv 5) aj) (pv 1))) (aC (aK (pb (eO rfl) B.min l_ (aa (pb (jA rfl) B.max qT (aa (pv 6) (aa (pv 3) aj))) (aa (pv 4) aj)))))))),?_⟩
 obtain⟨a,xs,rfl,h1,h2⟩:=bA a1
 obtain⟨x0,_,rfl,b0,h2⟩:=ak.aN h2
 obtain⟨x1,_,rfl,b1,h2⟩:=ak.aN h2
 obtain⟨x2,_,rfl,b2,h2⟩:=ak.aN h2
 obtain⟨x3,_,rfl,b3,h2⟩:=ak.aN h2
 obtain⟨x4,_,rfl,b4,h2⟩:=ak.aN h2
 obtain⟨x5,_,rfl,b5,h2⟩:=ak.aN h2
 obtain⟨x6,_,rfl,b6,h2⟩:=ak.aN h2
 cases ak.j5 h2
 obtain⟨c,ys,rfl,g1,g2⟩:=bA b2
 obtain⟨y0,_,rfl,k0,g2⟩:=ak.aN g2
 obtain⟨y1,_,rfl,k1,g2⟩:=ak.aN g2
 cases ak.j5 g2
 unfold At at k0 k1
 subst k0 k1
 obtain⟨e,zs,rfl,m1,m2⟩:=bA b6
 walk_at "rd"
 refine Ix.tup h1 (aP (j:=2) rfl) ⟨c,_,rfl,bW.of g1,rfl,?_⟩
 walk_at "rd"
 rw[v8]
 walk_at "rd"
 refine Ix.tup h1 (aP (j:=6) rfl) ?_
 refine Gz (a:=e) (f:=fun i=>j6 h dm (dF.getD i [])) (fun R hR=>hR) m1 m2 (jH (aZ (by rw[eY]; omega))) (fun i x d H' s' ed hx R hR'=>?_) (fun acc H' s' hl=>?_)
 ·rw[dz] at ed
  obtain⟨rs,el,rfl⟩:=nR.mp ed
  show mY _ _ _ _ [some x,some (.int h),some u] H' R
  walk_at "rd"
  refine Rw.of hx (a2.mono s') (hR rs (vK el)) hN fun H2 s2=>?_
  have:=hR' H2 s2
  have eg:dF.getD i []=rs:=by rw[oK,el]; rfl
  rw[eg] at this
  exact this
 ·rw[eY] at hl
  have el:(List.range dF.length).map (fun i=>j6 h dm (dF.getD i []))=dF.map (j6 h dm):=by
   apply List.ext_getElem
   ·simp
   ·intro i h1 h2
    simp at h1 h2
    simp[oK,h2]
  rw[el] at hl
  have q1:=q H' s'
  unfold j4 topOf at q1
  refine⟨acc,_,rfl,hl,fun en=>?_,fun b r er=>?_⟩
  ·rw[en] at q1
   exact q1
  ·rw[er] at q1
   exact q1
def xU:Sp:=fun vs H Q _=>∃(v x:V) (a:Addr) (r:Int) (b:Addr) (ns:List Int) (u:List V),v=.ref a/\vs=[v]/\H a=some (.tup (x::.int r::.ref b::u))/\H b=some (.tup (ns.map V.int))/\Q (.int (r+ns.sum)) H
theorem rA:aQ ["stand"] ["stand"] (aG nP):=(by walk_at "c")
theorem Bj (F:gW K "hands_of" "hands_of" nP f fd) (B:Bi mg):bG P w K mg base gK (k+1) f fd ["stand"] xU:=by
 refine F.ok rA (by rintro vs H Q E ⟨v,x,a,r,b,ns,u,_,rfl,_⟩; rfl) (fun cdv A outer s H vs Q E hr h=>?_)
 obtain⟨v,x,a,r,b,ns,u,rfl,rfl,h1,h2,q⟩:=h
 have ND:=rA.nd
 refine⟨_,(aC (aK (aU bB (a_ aO (pv 0) ao (fun _ _=>rfl)) (pb (qO rfl) B.sum En (aa (a_ aO (pv 0) ao (fun _ _=>rfl)) aj))))),?_⟩
 walk_at "rd"
 refine⟨a,_,1,_,rfl,rfl,.inr h1,aP (j:=1) rfl,?_⟩
 refine⟨a,_,2,_,rfl,rfl,.inr h1,aP (j:=2) rfl,?_⟩
 refine⟨b,ns,rfl,.inr h2,?_⟩
 exact⟨_,_,rfl,rfl,q⟩
theorem Mm {X:Cx}:Wf X (fun o i H Q=>∃(p:Addr) (xs:List V) (j:Nat) (v:V),o=.ref p/\i=.int j/\H p=some (.lst xs)/\xs[j]?=some v/\Q v H):=by
 intro pins s σ H o i ov iv Q I ro ri h
 obtain⟨p,xs,j,v,rfl,rfl,hp,hv,q⟩:=h
 cases ro
 obtain⟨t,rfl⟩:=ri
 obtain⟨its,r,pl,hz⟩:=I.list (fQ.of (K:=X.K) hp)
 obtain⟨w,ew,Hq⟩:=r.get hv
 have hl:=r.length
 have hn:=uJ
 have hj:j<xs.length:=by obtain⟨z,_⟩:=iM.mp hv; exact z
 exact wpAny_getItem_list pl.isList (by omega) (by omega) (by simpa using ew) ⟨v,H,I,Hq,q⟩
theorem Px {n j:Nat} (h:j<n):Py n (j:Int)=some j:=by
 unfold Py
 rw[bc (by omega),bc (by omega),rO]
structure cJ where
 w:Int
 r:Int
 cs:List Int
 s:Int
 t:Int
 us:List (List Int)
def fJ (x:cJ):PyData:=.tuple [.int x.w,.int x.r,.tuple (x.cs.map .int),.int x.s,.int x.t,.tuple (x.us.map dh)]
structure iI (x:cJ):Prop where
 c:x.cs.length=5
 u:x.us.length=3
 l:∀y∈x.us,y.length=3
structure cU where
 p:Int
 m:Int
 lo:Int
 hi:Int
 a:Nat
 e:Int
 u:Int
 d:Int
 dF:List (List fH)
def eZ (x:cU):PyData:=KH (.int x.p) (.int x.m) (.int x.a) (.int x.e) (.tuple [.int x.u,.int x.d]) x.lo x.hi x.dF
structure qe (x:cU):Prop where
 a:x.a<=4
 p:0<=x.p/\x.p<=1000000
 n:x.dF.length<=100
 g:∀rs∈x.dF,∀r∈rs,my r
theorem jt {H:Hp} {x:cU} {v:V} (h:At H (eZ x) v):∃a b c d,v=.ref a/\H a=some (.tup [.int x.p,.int x.m,.ref b,.int x.a,.int x.e,.ref c,.ref d])/\H c=some (.tup [.int x.u,.int x.d]):=by
 obtain⟨a,xs,rfl,h1,h2⟩:=bA h
 obtain⟨x0,_,rfl,b0,h2⟩:=ak.aN h2
 obtain⟨x1,_,rfl,b1,h2⟩:=ak.aN h2
 obtain⟨x2,_,rfl,b2,h2⟩:=ak.aN h2
 obtain⟨x3,_,rfl,b3,h2⟩:=ak.aN h2
 obtain⟨x4,_,rfl,b4,h2⟩:=ak.aN h2
 obtain⟨x5,_,rfl,b5,h2⟩:=ak.aN h2
 obtain⟨x6,_,rfl,b6,h2⟩:=ak.aN h2
 cases ak.j5 h2
 unfold At at b0 b1 b3 b4
 subst b0 b1 b3 b4
 obtain⟨b,ys,rfl,_,_⟩:=bA b2
 obtain⟨c,zs,rfl,g1,g2⟩:=bA b5
 obtain⟨d,ws,rfl,_,_⟩:=bA b6
 obtain⟨y0,_,rfl,k0,g2⟩:=ak.aN g2
 obtain⟨y1,_,rfl,k1,g2⟩:=ak.aN g2
 cases ak.j5 g2
 unfold At at k0 k1
 subst k0 k1
 exact⟨a,b,c,d,rfl,h1,g1⟩
theorem mG {H:Hp} {x:cJ} {v:V} (h:At H (fJ x) v):∃a b c,v=.ref a/\H a=some (.tup [.int x.w,.int x.r,.ref b,.int x.s,.int x.t,.ref c])/\H b=some (.tup (x.cs.map V.int))/\At H (.tuple (x.us.map dh)) (.ref c):=by
 obtain⟨a,xs,rfl,h1,h2⟩:=bA h
 obtain⟨x0,_,rfl,b0,h2⟩:=ak.aN h2
 obtain⟨x1,_,rfl,b1,h2⟩:=ak.aN h2
 obtain⟨x2,_,rfl,b2,h2⟩:=ak.aN h2
 obtain⟨x3,_,rfl,b3,h2⟩:=ak.aN h2
 obtain⟨x4,_,rfl,b4,h2⟩:=ak.aN h2
 obtain⟨x5,_,rfl,b5,h2⟩:=ak.aN h2
 cases ak.j5 h2
 unfold At at b0 b1 b3 b4
 subst b0 b1 b3 b4
 obtain⟨b,ys,rfl,g1,g2⟩:=bA b2
 cases dY g2
 obtain⟨c,zs,rfl,_,_⟩:=bA b5
 exact⟨a,b,c,rfl,h1,g1,b5⟩
def nD (e s:Int):Int:=if s+1<e then s+1 else 0
def yV (e s t:Int):Bool:=if s+1<e then false else decide (t=0)
def Fd:Sp:=fun vs H Q _=>∃(v:V) (x:cU) (s t:Int),vs=[v,.int s,.int t]/\At H (eZ x) v/\∀p H',aA H H'->H' p=some (.tup [.int (nD x.e s),.bl (yV x.e s t)])->Q (.ref p) H'
theorem iU:aQ ["post","since","rest","every"] ["post","since","rest"] (aG fX):=(by walk_at "c")
theorem pK (F:gW K "since_and_look" "since_and_look" fX f fd):bG P w K mg base gK (k+1) f fd ["post","since","rest"] Fd:=by
 refine F.ok iU (by rintro vs H Q E ⟨v,x,s,t,rfl,_⟩; rfl) (fun cdv A outer s H vs Q E hr h=>?_)
 obtain⟨v,x,sn,t,rfl,a1,q⟩:=h
 have ND:=iU.nd
 refine⟨_,(aq (aV (i:=3) ND rfl (by walk_at "o") (a_ aO (pv 0) ao (fun _ _=>rfl))) (aq (bQ (bf Az (aU bB (pv 1) ao) (pv 3) (bu _)) (aC (aK (bj (aa (aU bB (pv 1) ao) (aa fU aj))))) bz) (aC (aK (bj (aa ao (aa (ig gP (pv 2) ao (bu _)) aj))))))),?_⟩
 obtain⟨a,b,c,d,rfl,h1,h2⟩:=jt a1
 walk_at "rd"
 refine Ix.tup h1 (aP (j:=4) rfl) ?_
 walk_at "rd"
 refine bF (fun c1=>?_) (fun c1=>?_)
 ·have c1':=iK c1
  refine⟨(by decide),fun p H1 f1 s1 e1=>q p H1 s1 ?_⟩
  unfold nD yV
  rw[bc c1',bc c1']; exact e1
 ·have c1':=Aj c1
  refine⟨(by decide),fun p H1 f1 s1 e1=>q p H1 s1 ?_⟩
  unfold nD yV
  rw[aX c1',aX c1']; exact e1
def zm (x:cU) (h fr:Int) (dm:List (List Int)):Int:=if fr<j4 x.dF x.lo x.hi h dm-h then fr else j4 x.dF x.lo x.hi h dm-h
def z8:Sp:=fun vs H Q _=>∃(v u:V) (x:cU) (h fr:Int) (dm:List (List Int)),vs=[v,.int h,u,.int fr]/\At H (eZ x) v/\At H (zW dm) u/\qe x/\mC dm/\∀H',aA H H'->Q (.int (zm x h fr dm)) H'
theorem ph:aQ ["post","hands","newest","free"] ["post","hands","newest","free"] (aG kW):=(by walk_at "c")
theorem yG (F:gW K "change_of" "change_of" kW f fd) (B:Bi mg) (qP:Ct P w K mg base k "wish" ["post","hands","newest"] CZ):bG P w K mg base gK (k+1) f fd ["post","hands","newest","free"] z8:=by
 refine F.ok ph (by rintro vs H Q E ⟨v,u,x,h,fr,dm,rfl,_⟩; rfl) (fun cdv A outer s H vs Q E hr h=>?_)
 obtain⟨v,u,x,h,fr,dm,rfl,a1,a2,hP,hN,q⟩:=h
 have ND:=ph.nd
 refine⟨_,(aC (aK (pb (eO rfl) B.min l_ (aa (aU gU (pf qP hr (aa (pv 0) (aa (pv 1) (aa (pv 2) aj)))) (pv 1)) (aa (pv 3) aj))))),?_⟩
 walk_at "rd"
 refine⟨v,u,h,x.lo,x.hi,_,_,_,_,_,x.dF,dm,rfl,a1,a2,hP.g,hP.n,hN,fun H1 s1=>?_⟩
 walk_at "rd"
 exact q H1 s1
def bh:List Int->Int->List Int×Int
 | [],n=>([],n)
 | c::cs,n=>((c-(if(bh cs n).2<c then(bh cs n).2 else c))::(bh cs n).1,(bh cs n).2-(if(bh cs n).2<c then(bh cs n).2 else c))
theorem oh:∀(cs:List Int) (n:Int),(bh cs n).1.length=cs.length
 | [],_=>rfl
 | c::cs,n=>by rw[bh,nQ,nQ,oh cs n]
def JW:Sp:=fun vs H Q _=>∃(r n:Int) (b:Addr) (cs:List Int),vs=[.int r,.ref b,.int n]/\H b=some (.tup (cs.map V.int))/\cs.length<=100/\∀p b' H',aA H H'->H' p=some (.tup [.int (r-(bh cs n).2),.ref b'])->H' b'=some (.tup ((bh cs n).1.map V.int))->Q (.ref p) H'
theorem oZ:aQ ["ready","called","many","left","place","gone"] ["ready","called","many"] (aG kJ):=(by walk_at "c")
theorem yE (F:gW K "sent_home" "sent_home" kJ f fd) (B:Bi mg):bG P w K mg base gK (k+1) f fd ["ready","called","many"] JW:=by
 refine F.ok oZ (by rintro vs H Q E ⟨r,n,b,cs,rfl,_⟩; rfl) (fun cdv A outer s H vs Q E hr h=>?_)
 obtain⟨r,n,b,cs,rfl,h1,hlen,q⟩:=h
 have ND:=oZ.nd
 refine⟨_,(aq (aV (i:=3) ND rfl (by walk_at "o") (pt (I_) B.list GJ (aa (pv 1) aj))) (aq (gR PassesOwn.never rfl (RP B.reversed B.range (aa (pb (gA (K:=K) rfl) B.len oH (aa (pv 3) aj)) aj)) (aD (i:=4) ND rfl (by walk_at "o")) (aq (aV (i:=5) ND rfl (by walk_at "o") (pb (eO rfl) B.min l_ (aa (a_ aO (pv 3) (pv 4) (fun _ _=>rfl)) (aa (pv 2) aj)))) (aq (Oj (pv 3) (pv 4) Mm (pv 5) DY set_list) (aC (yt (i:=2) ND rfl (by walk_at "o") (pv 5) DY))))) (aC (aK (bj (aa (aU gU (pv 0) (pv 2)) (aa (pt (eN) B.tuple dq (aa (pv 3) aj)) aj))))))),?_⟩
 walk_at "rd"
 refine⟨b,_,rfl,h1,fun p1 f1=>?_⟩
 have s1:=aM f1 (HO.lst (cs.map V.int))
 have e1:upd H p1 (HO.lst (cs.map V.int)) p1=some (.lst (cs.map V.int)):=az
 generalize upd H p1 (HO.lst (cs.map V.int))=H1 at s1 e1 ⊢
 rw[JP]
 walk_at "rd"
 refine⟨p1,_,rfl,.inl (fQ.of e1),?_⟩
 rw[eY]
 refine WY.of (n:=cs.length) rfl (by omega) (fun i σ H'=>∃o4 o5:Option V,σ=[some (.int r),some (.ref b),some (.int (bh (cs.drop (cs.length-i)) n).2),some (.ref p1),o4,o5]/\H' p1=some (.lst ((cs.take (cs.length-i)++(bh (cs.drop (cs.length-i)) n).1).map V.int))/\aA H H')
  ⟨_,_,by rw[Nat.sub_zero,Hw]; rfl,by rw[Nat.sub_zero,Hw,qF]; simpa[bh] using e1,s1⟩ ?_ ?_
 ·rintro i σ H2 hi ⟨o4,o5,rfl,h2,s2⟩
  obtain⟨j,ej⟩:∃j:Nat,cs.length-i=j+1:=⟨cs.length-i-1,by omega⟩
  have ej2:cs.length-(i+1)=j:=by omega
  have ei:(cs.length:Int)-1-(i:Nat)=(j:Nat):=by omega
  rw[ej] at h2
  rw[ei,ej,ej2]
  have hj:j<cs.length:=by omega
  have dj:cs.drop j=cs[j]::cs.drop (j+1):=Kv hj
  have tj:cs.take (j+1)=cs.take j++[cs[j]]:=by rw[yg,jg hj]; rfl
  rw[dj,bh]
  generalize bh (cs.drop (j+1)) n=gh at h2 ⊢
  rw[tj] at h2
  generalize cs[j]=cj at h2 ⊢
  have lt:(cs.take j).length=j:=by rw[pI]; omega
  have gj:((cs.take j++[cj]++gh.1).map V.int)[j]?=some (.int cj):=by
   rw[dz,List.append_assoc,Al (by omega),lt,Ag]; rfl
  walk_at "rd"
  refine Ix.lst h2 (aP gj) ?_
  walk_at "rd"
  refine⟨p1,_,j,_,rfl,rfl,h2,gj,?_⟩
  walk_at "rd"
  refine⟨p1,_,_,j,rfl,rfl,h2,Px (by rw[eY,dR,dR,lt]; show j<j+1+_; omega),?_⟩
  refine⟨_,rfl,_,_,rfl,rfl,_,_,rfl,?_,fun z o w=>?_⟩
  ·rw[az]
   congr 2
   have e:cs.take j++[cj]++gh.1=cs.take j++(cj::gh.1):=by simp
   rw[e,yh,yh,List.set_append_right _ _ (by rw[eY]; omega),eY,lt,Ag]
   rfl
  ·rw[aJ (bH w f1)]
   exact s2 _ _ w
 ·rintro σ H2 ⟨o4,o5,rfl,h2,s2⟩
  rw[Ag,List.drop_zero,List.take_zero,Kc] at h2
  rw[Ag,List.drop_zero]
  walk_at "rd"
  refine⟨p1,_,rfl,h2,fun p3 f3=>?_⟩
  have s3:=aM f3 (HO.tup ((bh cs n).1.map V.int))
  have e3:upd H2 p3 (HO.tup ((bh cs n).1.map V.int)) p3=some (.tup ((bh cs n).1.map V.int)):=az
  generalize upd H2 p3 (HO.tup ((bh cs n).1.map V.int))=H3 at s3 e3 ⊢
  refine⟨(by decide),fun p4 H4 f4 s4 e4=>?_⟩
  exact q p4 p3 H4 (s2.trans (s3.trans s4)) e4 (s4 _ _ e3)
def eV (x:cU) (st:cJ) (ch:Int):cJ:=
 if ch=0 then st else if 0<ch then { st with cs:=st.cs.take x.a++[st.cs.getD x.a 0+ch]++st.cs.drop (x.a+1),t:=x.u }
 else { st with r:=st.r-(bh st.cs (-ch)).2,cs:=(bh st.cs (-ch)).1,t:=x.d }
def CW:Sp:=fun vs H Q _=>∃(v u:V) (x:cU) (st:cJ) (ch:Int),vs=[v,u,.int ch]/\At H (eZ x) v/\At H (fJ st) u/\qe x/\iI st/\∀u' H',aA H H'->At H' (fJ (eV x st ch)) u'->Q u' H'
theorem kj:aQ ["post","stand","change","late","rests","wait","ready","called","since","rest","seen"] ["post","stand","change"] (aG jb):=(by walk_at "c")
theorem uz (F:gW K "with_change" "with_change" jb f fd) (B:Bi mg) (lU:Ct P w K mg base k "sent_home" ["ready","called","many"] JW):bG P w K mg base gK (k+1) f fd ["post","stand","change"] CW:=by
 refine F.ok kj (by rintro vs H Q E ⟨v,u,x,st,ch,rfl,_⟩; rfl) (fun cdv A outer s H vs Q E hr h=>?_)
 obtain⟨v,u,x,st,ch,rfl,a1,a2,hP,hS,q⟩:=h
 have ND:=kj.nd
 refine⟨_,(aq (bQ (bf gP (pv 2) ao (bu _)) (aC (aK (pv 1))) bz) (aq (uw (i:=3) (j:=4) rfl ND rfl rfl (by decide) rfl rfl (aa (a_ aO (pv 0) ao (fun _ _=>rfl)) (aa (a_ aO (pv 0) ao (fun _ _=>rfl)) aj)) (by rfl)) (aq (cQ (pv 1) (b8 (K:=K) (n:=6) rfl rfl (aF (aD (i:=5) ND rfl (by walk_at "o")) (aF (aD (i:=6) ND rfl (by walk_at "o")) (aF (aD (i:=7) ND rfl (by walk_at "o")) (aF (aD (i:=8) ND rfl (by walk_at "o")) (aF (aD (i:=9) ND rfl (by walk_at "o")) (aF (aD (i:=10) ND rfl (by walk_at "o")) b7)))))))) (aq (bQ (bf Ba (pv 2) ao (bu _)) (aq (aV (i:=7) ND rfl (by walk_at "o") (aU jO (aU jO (fj iT (pv 7) ie (h_ (pv 3))) (bj (aa (aU bB (a_ aO (pv 7) (pv 3) (fun _ _=>rfl)) (pv 2)) aj))) (fj iT (pv 7) (h_ (aU bB (pv 3) ao)) ie))) (aC (aV (i:=9) ND rfl (by walk_at "o") (a_ aO (pv 4) ao (fun _ _=>rfl))))) (aq (cQ (pf lU hr (aa (pv 6) (aa (pv 7) (aa (QD Jz (pv 2)) aj)))) (b8 (K:=K) (n:=2) rfl rfl (aF (aD (i:=6) ND rfl (by walk_at "o")) (aF (aD (i:=7) ND rfl (by walk_at "o")) b7)))) (aC (aV (i:=9) ND rfl (by walk_at "o") (a_ aO (pv 4) ao (fun _ _=>rfl)))))) (aC (aK (bj (aa (pv 5) (aa (pv 6) (aa (pv 7) (aa (pv 8) (aa (pv 9) (aa (pv 10) aj))))))))))))),?_⟩
 walk_at "rd"
 refine bF (fun c1=>?_) (fun c1=>?_)
 ·have:=q u H (aA.refl H)
  unfold eV at this
  rw[bc (iK c1)] at this
  exact this a2
 have c1':=Aj c1
 obtain⟨pa,pb,pc,pd,rfl,p1,p2⟩:=jt a1
 obtain⟨sa,sb,sc,rfl,g1,g2,g3⟩:=mG a2
 have ha4:=hP.a
 have hc5:=hS.c
 refine Ix.tup p1 (aP (j:=3) rfl) (Ix.tup p1 (aP (j:=5) rfl) ⟨_,_,rfl,?_⟩)
 refine⟨sa,_,rfl,bW.of g1,rfl,?_⟩
 walk_at "rd"
 refine bF (fun c2=>?_) (fun c2=>?_)
 ·have c2':=iK c2
  have ga:(st.cs.map V.int)[x.a]?=some (.int (st.cs.getD x.a 0)):=by
   rw[dz,jg (by omega),oK,jg (by omega)]; rfl
  refine⟨sb,_,rfl,g2,fun p3 H3 s3 e3=>?_⟩
  rw[uW (by omega),rO] at e3
  refine Ix.tup (s3 _ _ g2) (aP ga) ?_
  walk_at "rd"
  refine⟨(by decide),fun p4 H4 f4 s4 e4=>?_⟩
  refine⟨p3,p4,_,_,rfl,rfl,s4 _ _ e3,e4,jH (aZ (by simp; omega)),fun p5 H5 s5 e5=>?_⟩
  walk_at "rd"
  have Vl:=s3.trans (s4.trans s5)
  refine⟨sb,_,rfl,Vl _ _ g2,fun p6 H6 s6 e6=>?_⟩
  rw[pQ (by omega)] at e6
  refine⟨p5,p6,_,_,rfl,rfl,s6 _ _ e5,e6,jH (aZ (by simp; omega)),fun p7 H7 s7 e7=>?_⟩
  have ZQ:=Vl.trans (s6.trans s7)
  walk_at "rd"
  refine Ix.tup (ZQ _ _ p2) (aP (j:=0) rfl) ⟨(by decide),fun p8 H8 f8 s8 e8=>?_⟩
  have Vk:=ZQ.trans s8
  refine q (.ref p8) H8 Vk ?_
  unfold eV
  rw[aX c1',bc c2']
  refine At.tup e8 (ak.cons (At.int _) (ak.cons (At.int _) (ak.cons (At.tup (s8 _ _ e7) ?_) (ak.cons (At.int _) (ak.cons (At.int _) (ak.cons (g3.mono Vk) ak.nil))))))
  have e:(((x.a:Int)+1).toNat)=x.a+1:=by omega
  rw[e]
  have:=bI (H:=H8) (st.cs.take x.a++[st.cs.getD x.a 0+ch]++st.cs.drop (x.a+1))
  simpa using this
 ·have c2':=Aj c2
  refine⟨st.r,-ch,sb,st.cs,rfl,g2,by omega,fun p3 b3 H3 s3 e3 e4=>?_⟩
  refine⟨p3,_,rfl,bW.of e3,rfl,?_⟩
  walk_at "rd"
  refine Ix.tup (s3 _ _ p2) (aP (j:=1) rfl) ⟨(by decide),fun p8 H8 f8 s8 e8=>?_⟩
  have Vk:=s3.trans s8
  refine q (.ref p8) H8 Vk ?_
  unfold eV
  rw[aX c1',aX (by omega)]
  exact At.tup e8 (ak.cons (At.int _) (ak.cons (At.int _) (ak.cons (At.tup (s8 _ _ e4) (bI _)) (ak.cons (At.int _) (ak.cons (At.int _) (ak.cons (g3.mono Vk) ak.nil))))))
def cB (x:cU) (st:cJ) (come:Int):Int:=if(if 0>x.m-st.w then 0 else x.m-st.w)<come then(if 0>x.m-st.w then 0 else x.m-st.w) else come
def jf (st:cJ):Int:=st.r+st.cs.getD 0 0
def eG (x:cU) (st:cJ) (come:Int):Int:=if jf st*x.p<st.w+cB x st come then jf st*x.p else st.w+cB x st come
def cW (x:cU) (st:cJ) (come:Int):List (List Int):=[come,eG x st come,st.w+cB x st come-eG x st come]::st.us
def gq (x:cU) (st:cJ) (come:Int):cJ:=⟨st.w+cB x st come-eG x st come,jf st,st.cs.drop 1++[0],nD x.e st.s,if 0>st.t-1 then 0 else st.t-1,(cW x st come).take 3⟩
def oM (x:cU) (st:cJ) (come fr:Int):Int:=if yV x.e st.s st.t=true then zm x (jf st+(st.cs.drop 1++[0]).sum) fr (cW x st come) else 0
def tu:Sp:=fun vs H Q _=>∃(v u:V) (x:cU) (st:cJ) (come fr:Int),vs=[v,u,.int come,.int fr]/\At H (eZ x) v/\At H (fJ st) u/\qe x/\iI st /\
 ∀p u' H',aA H H'->At H' (fJ (eV x (gq x st come) (oM x st come fr))) u'->H' p=some (.tup [u',.int (eG x st come),.int (come-cB x st come),.int (oM x st come fr)])->Q (.ref p) H'
theorem Fp:aQ ["post","stand","come","free","pace","room","wait","ready","called","since","rest","seen","taken","done","newest","looks","moved","change"] ["post","stand","come","free"] (aG Dh):=(by walk_at "c")
theorem Bt {x:cU} {st:cJ} {come:Int} (h:iI st):iI (gq x st come):=by
 refine⟨?_,?_,fun y hy=>?_⟩
 ·show(st.cs.drop 1++[0]).length=5
  have:=h.c
  simp; omega
 ·show((cW x st come).take 3).length=3
  have:=h.u
  unfold cW
  simp; omega
 ·have hy:=Od hy
  unfold cW at hy
  rcases dZ.mp hy with z | z
  ·rw[z]; rfl
  ·exact h.l y z
theorem O3 {T:Addr} {tk:Tok} (F:Ew K "beat" "beat" Dh f fd T 12 tk) (B:Bi mg) (O:Co K mg) (gB:Ct P w K mg base k "since_and_look" ["post","since","rest"] Fd) (lW:Ct P w K mg base k "change_of" ["post","hands","newest","free"] z8) (gF:Ct P w K mg base k "hands_of" ["stand"] xU)
  (jm:Ct P w K mg base k "with_change" ["post","stand","change"] CW):bG P w K mg base gK (k+1) f fd ["post","stand","come","free"] tu:=by
 refine F.ok Fp (by rintro vs H Q E ⟨v,u,x,st,come,fr,rfl,_⟩; rfl) (fun cdv A outer s H vs Q E hr h=>?_)
 obtain⟨v,u,x,st,come,fr,rfl,a1,a2,hP,hS,q⟩:=h
 have ND:=Fp.nd
 refine⟨_,(aq (cQ (fj iT (pv 0) ie (h_ ao)) (b8 (K:=K) (n:=2) rfl rfl (aF (aD (i:=4) ND rfl (by walk_at "o")) (aF (aD (i:=5) ND rfl (by walk_at "o")) b7)))) (aq (cQ (pv 1) (b8 (K:=K) (n:=6) rfl rfl (aF (aD (i:=6) ND rfl (by walk_at "o")) (aF (aD (i:=7) ND rfl (by walk_at "o")) (aF (aD (i:=8) ND rfl (by walk_at "o")) (aF (aD (i:=9) ND rfl (by walk_at "o")) (aF (aD (i:=10) ND rfl (by walk_at "o")) (aF (aD (i:=11) ND rfl (by walk_at "o")) b7)))))))) (aq (yt (i:=7) ND rfl (by walk_at "o") (a_ aO (pv 8) ao (fun _ _=>rfl)) Mg) (aq (aV (i:=8) ND rfl (by walk_at "o") (aU jO (fj iT (pv 8) (h_ ao) ie) (bj (aa ao aj)))) (aq (aV (i:=12) ND rfl (by walk_at "o") (pb (eO rfl) B.min l_ (aa (pv 2) (aa (pb (jA rfl) B.max qT (aa (aU gU (pv 5) (pv 6)) (aa ao aj))) aj)))) (aq (yt (i:=6) ND rfl (by walk_at "o") (pv 12) Mg) (aq (aV (i:=13) ND rfl (by walk_at "o") (pb (eO rfl) B.min l_ (aa (pv 6) (aa (aU jN (pv 7) (pv 4)) aj)))) (aq (yt (i:=6) ND rfl (by walk_at "o") (pv 13) DY) (aq (aV (i:=14) ND rfl (by walk_at "o") (aU jO (bj (aa (bj (aa (pv 2) (aa (pv 13) (aa (pv 6) aj)))) aj)) (pv 11))) (aq (cQ (pf gB hr (aa (pv 0) (aa (pv 9) (aa (pv 10) aj)))) (b8 (K:=K) (n:=2) rfl rfl (aF (aD (i:=9) ND rfl (by walk_at "o")) (aF (aD (i:=15) ND rfl (by walk_at "o")) b7)))) (aq (aV (i:=16) ND rfl (by walk_at "o") (bj (aa (pv 6) (aa (pv 7) (aa (pv 8) (aa (pv 9) (aa (pb (jA rfl) B.max qT (aa (aU gU (pv 10) ao) (aa ao aj))) (aa (fj iT (pv 14) ie (h_ (cI O.qd))) aj)))))))) (aq (aV (i:=17) ND rfl (by walk_at "o") (cu (bT (pv 15)) (pf lW hr (aa (pv 0) (aa (pf gF hr (aa (pv 16) aj)) (aa (pv 14) (aa (pv 3) aj))))) ao)) (aC (aK (bj (aa (pf jm hr (aa (pv 0) (aa (pv 16) (aa (pv 17) aj)))) (aa (pv 13) (aa (aU gU (pv 2) (pv 12)) (aa (pv 17) aj))))))))))))))))))),?_⟩
 obtain⟨pa,pb,pc,pd,rfl,p1,p2⟩:=jt a1
 obtain⟨sa,sb,sc,rfl,g1,g2,g3⟩:=mG a2
 have hc5:=hS.c
 have hpp:=hP.p
 have gc0:(st.cs.map V.int)[0]?=some (.int (st.cs.getD 0 0)):=by
  rw[dz,jg (by omega),oK,jg (by omega)]; rfl
 walk_at "rd"
 refine⟨pa,_,rfl,p1,fun q1 H1 s1 e1=>?_⟩
 rw[uW (by decide)] at e1
 replace e1:H1 q1=some (.tup [.int x.p,.int x.m]):=e1
 refine⟨q1,_,rfl,bW.of e1,rfl,?_⟩
 walk_at "rd"
 refine⟨sa,_,rfl,bW.of (s1 _ _ g1),rfl,?_⟩
 walk_at "rd"
 refine⟨_,rfl,Ix.tup (s1 _ _ g2) (aP gc0) ⟨_,_,rfl,rfl,?_⟩⟩
 refine⟨sb,_,rfl,s1 _ _ g2,fun q2 H2 s2 e2=>?_⟩
 rw[pQ (by decide)] at e2
 have s12:=s1.trans s2
 refine⟨(by decide),fun q3 H3 f3 s3 e3=>?_⟩
 refine⟨q2,q3,_,_,rfl,rfl,s3 _ _ e2,e3,jH (aZ (by simp; omega)),fun q4 H4 s4 e4=>?_⟩
 have Cp:=s12.trans (s3.trans s4)
 walk_at "rd"
 refine⟨_,rfl,_,_,rfl,rfl,.inr (by omega),_,rfl,_,_,rfl,rfl,(by decide),fun q5 H5 f5 s5 e5=>⟨(by decide),fun q6 H6 f6 s6 e6=>?_⟩⟩
 replace e5:H5 q5=some (.tup [.int come,.int (eG x st come),.int (st.w+cB x st come-eG x st come)]):=e5
 obtain⟨sc',us',ec,gu,au⟩:=bA g3
 cases ec
 have Rr:=Cp.trans (s5.trans s6)
 have lus:us'.length=3:=by have:=au.length; rw[eY,hS.u] at this; exact this
 refine⟨q6,sc,_,_,rfl,rfl,e6,Rr _ _ gu,jH (aZ (by simp; omega)),fun q7 H7 s7 e7=>?_⟩
 have Xp:=Rr.trans s7
 have a7:At H7 (zW (cW x st come)) (.ref q7):=At.tup e7 (ak.cons (At.tup ((s6.trans s7) _ _ e5) (bI [come,eG x st come,st.w+cB x st come-eG x st come])) (au.mono Xp))
 have hN:mC (cW x st come):=⟨by show st.us.length+1=4; rw[hS.u],fun y hy=>by
  rcases dZ.mp hy with z | z
  ·rw[z]; rfl
  ·exact hS.l y z⟩
 refine⟨.ref pa,x,st.s,st.t,rfl,a1.mono Xp,fun q8 H8 s8 e8=>?_⟩
 refine⟨q8,_,rfl,bW.of e8,rfl,?_⟩
 walk_at "rd"
 have s18:=Xp.trans s8
 obtain⟨q7',nws,en,gn,an⟩:=bA (a7.mono s8)
 cases en
 refine⟨q7,_,rfl,gn,fun q9 H9 s9 e9=>?_⟩
 rw[uW (by decide)] at e9
 have s19:=s18.trans s9
 refine⟨(by decide),fun RG Ck Tn ud e10=>?_⟩
 have Vn:=s19.trans ud
 have e4':H4 q4=some (.tup ((st.cs.drop 1++[0]).map V.int)):=by rw[e4]; simp
 have Vj:aA H4 Ck:=s5.trans (s6.trans (s7.trans (s8.trans (s9.trans ud))))
 have am:At Ck (fJ (gq x st come)) (.ref RG):=by
  refine At.tup e10 (ak.cons (At.int _) (ak.cons (At.int _) (ak.cons (At.tup (Vj _ _ e4') (bI _)) (ak.cons (At.int _) (ak.cons (At.int _) (ak.cons (At.tup (ud _ _ e9) ?_) ak.nil))))))
  show ak Ck (((cW x st come).take 3).map dh) _
  rw[List.map_take]
  exact(an.take 3).mono (s9.trans ud)
 have fin:∀(c:Int) (Jm:Hp),oM x st come fr=c->aA Ck Jm->CW [.ref pa,.ref RG,.int c] Jm (fun y H1=>4<=sizeLine/\∀p H',H1 p=none->aA H1 H'->H' p=some (.tup [y,.int (eG x st come),.int (come-cB x st come),.int c])->Q (.ref p) H') E0:=fun c Jm ec Ft=>by
  subst ec
  have Vm:=Vn.trans Ft
  exact⟨.ref pa,.ref RG,x,gq x st come,_,rfl,a1.mono Vm,am.mono Ft,hP,Bt hS,fun u' H12 Xq a12=>⟨(by decide),fun q13 Uj f13 m9 QW=>q q13 u' Uj (Vm.trans (Xq.trans m9)) (a12.mono m9) QW⟩⟩
 refine bF (fun c1=>?_) (fun c1=>?_)
 ·refine⟨.ref RG,_,RG,jf st,q4,st.cs.drop 1++[0],_,rfl,rfl,e10,Vj _ _ e4',?_⟩
  refine⟨.ref pa,.ref q7,x,_,fr,cW x st come,rfl,a1.mono Vn,a7.mono (s8.trans (s9.trans ud)),hP,hN,fun Jm Ft=>?_⟩
  exact fin _ Jm (by unfold oM; rw[bc c1]) Ft
 ·exact fin 0 Ck (by unfold oM; rw[aX (by rw[c1]; decide)]) (aA.refl _)
local macro_rules | `(tactic| walk_at "cap")=>`(tactic| simp only[bK,Ah,List.map_nil,List.getElem?_cons_zero,List.getElem?_cons_succ,Option.join_some])
def du:List fH->Str->Int
 | [],_=>0
 | r::rs,w=>if r.w=w/\du rs w<(r.s:Int)-1 then(r.s:Int)-1 else du rs w
structure xx (rs:List fH) (w:Str) (v:Int):Prop where
 z:0<=v
 le:∀r∈rs,r.w=w->(r.s:Int)-1<=v
 at':v=0\/∃r∈rs,r.w=w/\(r.s:Int)-1=v
theorem xx.one {rs:List fH} {w:Str} {v u:Int} (h:xx rs w v) (k:xx rs w u):v=u:=by
 have h1:v<=u:=by
  rcases h.at' with z | ⟨r,hr,e,z⟩
  ·have:=k.z; omega
  ·have:=k.le r hr e; omega
 have h2:u<=v:=by
  rcases k.at' with z | ⟨r,hr,e,z⟩
  ·have:=h.z; omega
  ·have:=h.le r hr e; omega
 omega
theorem pZ:∀(rs:List fH) (w:Str),xx rs w (du rs w)
 | [],w=>⟨Af 0,by simp,.inl rfl⟩
 | r::rs,w=>by
  have ih:=pZ rs w
  have e:du (r::rs) w=if r.w=w/\du rs w<(r.s:Int)-1 then(r.s:Int)-1 else du rs w:=rfl
  rw[e]
  have z:=ih.z
  by_cases c:r.w=w/\du rs w<(r.s:Int)-1
  ·rw[bc c]
   refine⟨by omega,fun x hx hw=>?_,.inr ⟨r,fO,c.1,rfl⟩⟩
   rcases dZ.mp hx with y | y
   ·rw[y]; exact Af _
   ·have:=ih.le x y hw; omega
  ·rw[aX c]
   refine⟨z,fun x hx hw=>?_,?_⟩
   ·rcases dZ.mp hx with y | y
    ·subst y
     have:¬du rs w<(x.s:Int)-1:=fun q=>c ⟨hw,q⟩
     omega
    ·exact ih.le x y hw
   ·rcases ih.at' with y | ⟨x,hx,e1,e2⟩
    ·exact .inl y
    ·exact .inr ⟨x,gQ _ hx,e1,e2⟩
def lH (x:cU):List Int:=[du x.dF.flatten "come",du x.dF.flatten "done",du x.dF.flatten "wait"]
theorem yU:∀(r:List Int) (b:Int),(∀y∈b::r,y<=dJ b r)/\dJ b r∈b::r
 | [],b=>⟨fun y hy=>by rw[fP.mp hy]; exact Af _,fP.mpr rfl⟩
 | c::r,b=>by
  have ih:=yU r (if c>b then c else b)
  have e:dJ b (c::r)=dJ (if c>b then c else b) r:=rfl
  rw[e]
  obtain⟨h1,h2⟩:=ih
  have hb:=h1 _ fO
  have hb2:b<=dJ (if c>b then c else b) r/\c<=dJ (if c>b then c else b) r:=by
   generalize dJ (if c>b then c else b) r=M at hb
   by_cases z:c>b
   ·rw[bc z] at hb; omega
   ·rw[aX z] at hb; omega
  refine⟨fun y hy=>?_,?_⟩
  ·rcases dZ.mp hy with z | z
   ·subst z; exact hb2.1
   ·rcases dZ.mp z with z | z
    ·subst z; exact hb2.2
    ·exact h1 y (gQ _ z)
  ·rcases dZ.mp h2 with z | z
   ·rw[z]
    split
    ·exact gQ _ fO
    ·exact fO
   ·exact gQ _ (gQ _ z)
def xT:Sp:=fun vs H Q _=>∃(p:Addr) (t:Str) (rs:List fH) (xs:List V),vs=[.ref p,.str t]/\H p=some (.lst xs)/\ak H (rs.map mW) xs/\rs.length<=1000/\(∀r∈rs,my r)/\∀H',aA H H'->Q (.int (du rs t)) H'
theorem m6:aQ ["rows","what"] ["rows","what"] (aG jE):=(by walk_at "c")
theorem vM (F:gW K "most_ahead" "most_ahead" jE f fd) (B:Bi mg):bG P w K mg base gK (k+1) f fd ["rows","what"] xT:=by
 refine F.ok m6 (by rintro vs H Q E ⟨p,t,rs,xs,rfl,_⟩; rfl) (fun cdv A outer s H vs Q E hr h=>?_)
 obtain⟨p,t,rs,xs,rfl,hp,hA,hn,hR,q⟩:=h
 have ND:=m6.nd
 refine⟨_,(aC (aK (yC rfl B.max (aa (lE (nt:=1) (N':=["row","what"]) (js:=[1]) rfl (dU (K:=K) rfl (pv 0)) mF.of (fun fp s' H'=>(aD (i:=0) (by show List.Nodup (["row","what"]:List Str); decide) rfl (.inl (gO rfl)) (.inr (gO rfl)))) (fun fp s' H'=>Gk (bf gP (a_ aO (pv 0) ao (fun _ _=>rfl)) (pv 1) (bu _))) (fun fp s' H'=>(aU gU (a_ aO (pv 0) ao (fun _ _=>rfl)) ao))) aj) ao))),?_⟩
 walk_at "rd"
 have hlen:xs.length=rs.length:=by rw[hA.length,eY]
 have row:∀(i:Nat) x,xs[i]?=some x->∃r,rs[i]?=some r/\At H (mW r) x:=fun i x hx=>by
  obtain⟨d,hd,a⟩:=hA.get hx
  rw[dz] at hd
  cases e:rs[i]? with
  | none=>rw[e] at hd; simp at hd
  | some r=>rw[e] at hd; simp at hd; exact⟨r,rfl,by rw[hd]; exact a⟩
 refine PN (fun i=>decide ((rs.getD i ⟨"",0,"",0,0⟩).w=t)) (fun i=>.int (((rs.getD i ⟨"",0,"",0,0⟩).s:Nat)-1)) (fun R hR=>?_) hp (by omega) (fun i x H' hx s' R hR=>?_) (fun i x H' hx hk s' R hR=>?_) (fun acc H' s' hacc hl=>?_)
 ·walk_at "rd"; exact hR
 ·obtain⟨r,er,ax⟩:=row i x hx
  obtain⟨b,rfl,hb⟩:=row_shape ax
  have eg:rs.getD i ⟨"",0,"",0,0⟩=r:=by rw[oK,er]; rfl
  rw[eg] at hR
  walk_at "rd"
  refine Ix.tup (s' _ _ hb) (aP (j:=0) rfl) ?_
  walk_at "cap"
  walk_at "rd"
  exact hR
 ·obtain⟨r,er,ax⟩:=row i x hx
  obtain⟨b,rfl,hb⟩:=row_shape ax
  have eg:rs.getD i ⟨"",0,"",0,0⟩=r:=by rw[oK,er]; rfl
  rw[eg] at hR
  walk_at "rd"
  refine Ix.tup (s' _ _ hb) (aP (j:=1) rfl) ?_
  walk_at "rd"
  exact hR
 ·have hl':H' acc=some (.lst ((((List.range xs.length).filter fun i=>decide ((rs.getD i ⟨"",0,"",0,0⟩).w=t)).map fun i=>(((rs.getD i ⟨"",0,"",0,0⟩).s:Nat):Int)-1).map V.int)):=by rw[hl,Am]; rfl
  have mem:∀y,y∈(((List.range xs.length).filter fun i=>decide ((rs.getD i ⟨"",0,"",0,0⟩).w=t)).map fun i=>(((rs.getD i ⟨"",0,"",0,0⟩).s:Nat):Int)-1)↔∃r∈rs,r.w=t/\(r.s:Int)-1=y:=fun y=>by
   simp only[mX,List.mem_filter,yf,decide_eq_true_eq]
   constructor
   ·rintro⟨i,⟨hi,hw⟩,rfl⟩
    have e:rs.getD i ⟨"",0,"",0,0⟩=rs[i]'(by omega):=by rw[oK,jg (by omega)]; rfl
    rw[e] at hw ⊢
    exact⟨_,Dl _,hw,rfl⟩
   ·rintro⟨r,hr',hw,rfl⟩
    obtain⟨i,hi,e⟩:=yp.mp hr'
    have e':rs.getD i ⟨"",0,"",0,0⟩=r:=by rw[oK,jg hi,<- e]; rfl
    exact⟨i,⟨by omega,by rw[e']; exact hw⟩,by rw[e']⟩
  generalize (((List.range xs.length).filter fun i=>decide ((rs.getD i ⟨"",0,"",0,0⟩).w=t)).map fun i=>(((rs.getD i ⟨"",0,"",0,0⟩).s:Nat):Int)-1)=ns at hl' mem
  refine⟨acc,ns,rfl,hl',fun e=>?_,fun b r e=>?_⟩
  ·have:(0:Int)=du rs t:=by
    refine xx.one (rs:=rs) (w:=t) ⟨Af 0,fun r hr' hw=>?_,.inl rfl⟩ (pZ rs t)
    have:=(mem ((r.s:Int)-1)).mpr ⟨r,hr',hw,rfl⟩
    rw[e] at this
    simp at this
   rw[this]
   exact q H' s'
  ·have:dJ b r=du rs t:=by
    obtain⟨m1,m2⟩:=yU r b
    rw[<- e] at m1 m2
    obtain⟨r',h1,h2,h3⟩:=(mem _).mp m2
    refine xx.one (rs:=rs) (w:=t) ⟨?_,fun x hx hw=>m1 _ ((mem _).mpr ⟨x,hx,hw,rfl⟩),.inr ⟨r',h1,h2,h3⟩⟩ (pZ rs t)
    have:=(hR r' h1).s
    omega
   rw[this]
   exact q H' s'
theorem Dr {H:Hp} {x:cU} {v:V} (h:At H (eZ x) v):∃a b c d ws,v=.ref a/\H a=some (.tup [.int x.p,.int x.m,.ref b,.int x.a,.int x.e,.ref c,.ref d])/\H d=some (.tup ws)/\ak H (x.dF.map m_) ws:=by
 obtain⟨a,b,c,d,rfl,h1,_⟩:=jt h
 obtain⟨a',xs,e,h2,h3⟩:=bA h
 cases e
 rw[h1] at h2
 cases h2
 obtain⟨_,_,e,b0,h3⟩:=ak.aN h3
 cases e
 obtain⟨_,_,e,b0,h3⟩:=ak.aN h3
 cases e
 obtain⟨_,_,e,b0,h3⟩:=ak.aN h3
 cases e
 obtain⟨_,_,e,b0,h3⟩:=ak.aN h3
 cases e
 obtain⟨_,_,e,b0,h3⟩:=ak.aN h3
 cases e
 obtain⟨_,_,e,b0,h3⟩:=ak.aN h3
 cases e
 obtain⟨_,_,e,b6,h3⟩:=ak.aN h3
 cases e
 obtain⟨d',ws,e,g1,g2⟩:=bA b6
 cases e
 exact⟨a,b,c,d,ws,rfl,h1,g1,g2⟩
structure Qe (x:cU):Prop where
 n:x.dF.flatten.length<=900
 r:∀r∈x.dF.flatten,my r
def sY:Sp:=fun vs H Q _=>∃(v:V) (x:cU),vs=[v]/\At H (eZ x) v/\Qe x/\∀p H',aA H H'->H' p=some (.tup ((lH x).map V.int))->Q (.ref p) H'
theorem wy:aQ ["post","rows"] ["post"] (aG tV):=(by walk_at "c")
theorem HR (F:gW K "needed" "needed" tV f fd) (B:Bi mg) (O:Co K mg) (jU:Ct P w K mg base k "most_ahead" ["rows","what"] xT):bG P w K mg base gK (k+1) f fd ["post"] sY:=by
 refine F.ok wy (by rintro vs H Q E ⟨v,x,rfl,_⟩; rfl) (fun cdv A outer s H vs Q E hr h=>?_)
 obtain⟨v,x,rfl,hv,hN,q⟩:=h
 have ND:=wy.nd
 refine⟨_,(aq (aV (i:=1) ND rfl (by walk_at "o") (K6 (N':=["rule","row"]) (js:=[]) rfl (e_ (K:=K) rfl (a_ aO (pv 0) ao (fun _ _=>rfl))) mF.of rfl rfl (by decide) rfl rfl (fun fp s' H'=>(e_ (K:=K) rfl (pv 0))) (fun fp s' H'=>(pv 1)))) (aC (aK (pt (eN) B.tuple dq (aa (fu (N':=["what","rows"]) (js:=[1]) rfl (e_ (K:=K) rfl (FQ (K:=K) rfl O.GX)) sU.mk1 rfl (by decide) rfl (fun fp s' H'=>(pf jU hr (aa (pv 1) (aa (pv 0) aj))))) aj))))),?_⟩
 obtain⟨a,b,c,d,ws,rfl,h1,h2,h3⟩:=Dr hv
 walk_at "rd"
 have eD:x.dF.map m_=(x.dF.map fun rs=>rs.map mW).map PyData.tuple:=by rw[Am]; rfl
 have eF:(x.dF.map fun rs=>rs.map mW).flatten=x.dF.flatten.map mW:=by rw[List.map_flatten]
 rw[eD] at h3
 refine Mw _ (fun R hR=>?_) h2 h3 (by rw[eF,eY]; have:=hN.n; omega) (fun y H' R hR=>?_) (fun y z H' R hR=>?_) (fun acc ys H' s' hacc hl hA=>?_)
 ·walk_at "rd"
  exact Ix.tup h1 (aP (j:=6) rfl) hR
 ·walk_at "rd"; exact hR
 ·walk_at "rd"; exact hR
 rw[eF] at hA
 refine Mv (es:=(lH x).map PyData.int) rfl (by show 3<=sizeLine; decide) rfl (fun i u e H2 hu he s2 R hR=>?_) (fun qb ys2 H2 s2 aam hl2 V6=>?_)
 ·walk_at "cap"
  walk_at "rd"
  have hi:i<3:=by
   by_cases z:i<3
   ·exact z
   ·rw[List.getElem?_eq_none (by show 3<=i; omega)] at hu; cases hu
  have go:∀(E2:XK) t,u=.str t->e=.int (du x.dF.flatten t)->xT ([V.ref acc,u]++[]) H2 R E2:=fun E2 t e1 e2=>by
   rw[e1]
   exact⟨acc,t,x.dF.flatten,ys,rfl,s2 _ _ hl,(hA.mono s').mono s2,(by have:=hN.n; omega),hN.r,fun H3 s3=>hR _ _ s3 (by rw[e2]; exact At.int _)⟩
  match i,hi,hu,he with
  | 0,_,hu,he=>cases hu; cases he; exact go _ "come" rfl rfl
  | 1,_,hu,he=>cases hu; cases he; exact go _ "done" rfl rfl
  | 2,_,hu,he=>cases hu; cases he; exact go _ "wait" rfl rfl
 ·cases dY V6
  refine⟨qb,_,rfl,hl2,fun l hl3=>?_⟩
  exact q l _ (s'.trans (s2.trans (aM hl3 _))) az
theorem JK (ws:List Int):PyData.hasDict (dh ws)=false/\PyData.canLay0 (dh ws)=true/\PyData.depth (dh ws)=1:=by
 obtain⟨d1,d2,d3⟩:=jx ws
 exact⟨by simpa[dh,PyData.hasDict] using d1,by simpa[dh,PyData.canLay0] using d2,by show PyData.depthAll _+1=1; rw[d3]⟩
theorem oV:∀us:List (List Int),PyData.hasDictAll (us.map dh)=false/\PyData.canLayAll0 (us.map dh)=true/\PyData.depthAll (us.map dh)<=1
 | []=>⟨rfl,rfl,dG _⟩
 | u::us=>by
  obtain⟨h1,h2,h3⟩:=oV us
  obtain⟨g1,g2,g3⟩:=JK u
  refine⟨?_,?_,?_⟩
  ·show(PyData.hasDict (dh u) || PyData.hasDictAll (us.map dh))=false
   rw[h1,g1]; rfl
  ·show(PyData.canLay0 (dh u)&&PyData.canLayAll0 (us.map dh))=true
   rw[h2,g2]; rfl
  ·show max (PyData.depth (dh u)) (PyData.depthAll (us.map dh))<=1
   rw[g3]; omega
theorem xP (n:cJ):PyData.hasDict (fJ n)=false/\PyData.canLay0 (fJ n)=true/\PyData.depth (fJ n)<=60:=by
 obtain⟨d1,d2,d3⟩:=jx n.cs
 obtain⟨e1,e2,e3⟩:=oV n.us
 refine⟨by simpa[fJ,PyData.hasDict,PyData.hasDictAll] using⟨d1,e1⟩,by simpa[fJ,PyData.canLay0,PyData.canLayAll0] using⟨d2,e2⟩,?_⟩
 simp only[fJ,PyData.depth,PyData.depthAll,d3]
 omega
def pM (ws:List Int) (i:Nat) (u:List Int):List Int:=(List.range 3).map fun j=>if ws.getD j 0>i then u.getD j 0 else 0
def yW (ws:List Int) (us:List (List Int)):List (List Int):=(List.range 3).map fun i=>pM ws i (us.getD i [])
def lL (x:cU) (st:cJ):cJ:=⟨st.w,st.r,st.cs,if x.e-1<st.s then x.e-1 else st.s,st.t,yW (lH x) st.us⟩
def Ff:Sp:=fun vs H Q _=>∃(t b:Addr) (i:Nat) (u ws:List Int),vs=[.ref t,.int i,.ref b]/\H t=some (.tup (u.map V.int))/\H b=some (.tup (ws.map V.int))/\u.length=3/\ws.length=3/\∀p H',aA H H'->H' p=some (.tup ((pM ws i u).map V.int))->Q (.ref p) H'
theorem km:aQ ["triple","place","wants"] ["triple","place","wants"] (aG jc):=(by walk_at "c")
theorem uA (F:gW K "lean_triple" "lean_triple" jc f fd) (B:Bi mg):bG P w K mg base gK (k+1) f fd ["triple","place","wants"] Ff:=by
 refine F.ok km (by rintro vs H Q E ⟨t,b,i,u,ws,rfl,_⟩; rfl) (fun cdv A outer s H vs Q E hr h=>?_)
 obtain⟨t,b,i,u,ws,rfl,h1,h2,n1,n2,q⟩:=h
 have ND:=km.nd
 refine⟨_,(aC (aK (pt (eN) B.tuple dq (aa (lE (nt:=2) (N':=["number","want","place"]) (js:=[1]) rfl (Oo (K:=K) rfl B.zip (aa (pv 0) (aa (pv 2) aj))) mF.of (fun fp s' H'=>(b8 (K:=K) (n:=2) rfl rfl (aF (aD (i:=0) (by show List.Nodup (["number","want","place"]:List Str); decide) rfl (.inl (gO rfl)) (.inr (gO rfl))) (aF (aD (i:=1) (by show List.Nodup (["number","want","place"]:List Str); decide) rfl (.inl (gO rfl)) (.inr (gO rfl))) b7)))) (fun fp s' H'=>jQ) (fun fp s' H'=>(cu (bf Ba (pv 1) (pv 2) (bu _)) (pv 0) ao))) aj)))),?_⟩
 walk_at "rd"
 refine Iz (es:=(pM ws i u).map PyData.int) (fun R hR=>?_) h1 h2 (by rw[eY,n1]; rfl) (by rw[eY,n2]; rfl) (by show 3<=sizeLine; decide) (cC.mpr fun d hd=>by obtain⟨z,_,rfl⟩:=mX.mp hd; rfl) (fun j x y e H' hx hy he s' R hR=>?_) (fun acc zs H' s' hacc hl hA=>?_)
 ·walk_at "rd"; exact hR
 ·rw[dz] at hx hy
  obtain⟨x',ex,rfl⟩:=nR.mp hx
  obtain⟨y',ey,rfl⟩:=nR.mp hy
  have ee:e=.int (if y'>i then x' else 0):=by
   rw[dz] at he
   obtain⟨z,ez,rfl⟩:=nR.mp he
   unfold pM at ez
   rw[dz] at ez
   obtain⟨j',ej,rfl⟩:=nR.mp ez
   have:j'=j:=by
    obtain⟨hh,e2⟩:=iM.mp ej
    rw[List.getElem_range] at e2
    exact e2.symm
   subst this
   rw[oK,oK,ex,ey]
   rfl
  walk_at "cap"
  walk_at "rd"
  refine bF (fun c=>?_) (fun c=>?_)
  ·refine hR _ _ (aA.refl _) ?_
   rw[ee,bc (by have:=iK c; omega)]
   exact At.int _
  ·refine hR _ _ (aA.refl _) ?_
   rw[ee,aX (by have:=Aj c; omega)]
   exact At.int _
 ·cases dY hA
  refine⟨acc,_,rfl,hl,fun l hl3=>?_⟩
  exact q l _ (s'.trans (aM hl3 _)) az
def sZ:Sp:=fun vs H Q _=>∃(v u:V) (x:cU) (st:cJ),vs=[v,u]/\At H (eZ x) v/\At H (fJ st) u/\Qe x/\iI st/\∀u' H',aA H H'->At H' (fJ (lL x st)) u'->Q u' H'
theorem Lean.of {v u:V} {x:cU} {st:cJ} {H:Hp} {Q:VK} {E:XK} (a1:At H (eZ x) v) (a2:At H (fJ st) u) (n:Qe x) (i:iI st) (q:∀u' H',aA H H'->At H' (fJ (lL x st)) u'->Q u' H'):sZ ([v,u]++[]) H Q E:=⟨v,u,x,st,rfl,a1,a2,n,i,q⟩
theorem Fo:aQ ["post","stand","wait","ready","called","since","rest","seen","wants","lean_seen"] ["post","stand"] (aG Dg):=(by walk_at "c")
theorem O2 (F:gW K "lean" "lean" Dg f fd) (B:Bi mg) (jD:Ct P w K mg base k "needed" ["post"] sY) (jn:Ct P w K mg base k "lean_triple" ["triple","place","wants"] Ff):bG P w K mg base gK (k+1) f fd ["post","stand"] sZ:=by
 refine F.ok Fo (by rintro vs H Q E ⟨v,u,x,st,rfl,_⟩; rfl) (fun cdv A outer s H vs Q E hr h=>?_)
 obtain⟨v,u,x,st,rfl,hv,hu,hN,hS,q⟩:=h
 have ND:=Fo.nd
 refine⟨_,(aq (cQ (pv 1) (b8 (K:=K) (n:=6) rfl rfl (aF (aD (i:=2) ND rfl (by walk_at "o")) (aF (aD (i:=3) ND rfl (by walk_at "o")) (aF (aD (i:=4) ND rfl (by walk_at "o")) (aF (aD (i:=5) ND rfl (by walk_at "o")) (aF (aD (i:=6) ND rfl (by walk_at "o")) (aF (aD (i:=7) ND rfl (by walk_at "o")) b7)))))))) (aq (aV (i:=8) ND rfl (by walk_at "o") (pf jD hr (aa (pv 0) aj))) (aq (aV (i:=9) ND rfl (by walk_at "o") (pt (eN) B.tuple dq (aa (lE (nt:=2) (N':=["place","triple","wants"]) (js:=[8]) rfl (KR (K:=K) rfl B.enumerate (aa (pv 7) aj)) mF.of (fun fp s' H'=>(b8 (K:=K) (n:=2) rfl rfl (aF (aD (i:=0) (by show List.Nodup (["place","triple","wants"]:List Str); decide) rfl (.inl (gO rfl)) (.inr (gO rfl))) (aF (aD (i:=1) (by show List.Nodup (["place","triple","wants"]:List Str); decide) rfl (.inl (gO rfl)) (.inr (gO rfl))) b7)))) (fun fp s' H'=>jQ) (fun fp s' H'=>(pf jn hr (aa (pv 1) (aa (pv 0) (aa (pv 2) aj)))))) aj))) (aC (aK (bj (aa (pv 2) (aa (pv 3) (aa (pv 4) (aa (pb (eO rfl) B.min l_ (aa (pv 5) (aa (aU gU (a_ aO (pv 0) ao (fun _ _=>rfl)) ao) aj))) (aa (pv 6) (aa (pv 9) aj)))))))))))),?_⟩
 obtain⟨a,b,c,rfl,h1,h2,h3⟩:=mG hu
 obtain⟨pa,pb,pc,pd,rfl,g1,_⟩:=jt hv
 walk_at "rd"
 refine⟨a,_,rfl,bW.of h1,rfl,?_⟩
 walk_at "rd"
 refine⟨_,x,rfl,hv,hN,fun p H1 s1 e1=>?_⟩
 walk_at "rd"
 obtain⟨c',zs,ec,h4,h5⟩:=bA h3
 cases ec
 have hzl:zs.length=3:=by rw[h5.length,eY,hS.u]
 refine Ec (es:=(yW (lH x) st.us).map dh) (fun R hR=>?_) (s1 _ _ h4) (by rw[hzl]; rfl) (by show 3<=sizeLine; decide) (cC.mpr fun d hd=>by
   obtain⟨z,_,rfl⟩:=mX.mp hd
   exact cC.mpr fun d hd=>by obtain⟨z,_,rfl⟩:=mX.mp hd; rfl) (fun j y e H' hy he s' R hR=>?_) (fun acc W_ H' s' hacc hl hA=>?_)
 ·walk_at "rd"; exact hR
 ·obtain⟨d,hd,ay⟩:=h5.get hy
  rw[dz] at hd
  obtain⟨t,et,rfl⟩:=nR.mp hd
  have ht3:t.length=3:=hS.l t (vK et)
  obtain⟨ty,ts,rfl,k1,k2⟩:=bA ay
  cases dY k2
  have ee:e=dh (pM (lH x) j t):=by
   rw[dz] at he
   obtain⟨z,ez,rfl⟩:=nR.mp he
   unfold yW at ez
   rw[dz] at ez
   obtain⟨j',ej,rfl⟩:=nR.mp ez
   have:j'=j:=by
    obtain⟨hh,e2⟩:=iM.mp ej
    rw[List.getElem_range] at e2
    exact e2.symm
   subst this
   rw[oK,et]
   rfl
  walk_at "cap"
  walk_at "rd"
  refine⟨ty,p,j,t,lH x,rfl,s' _ _ (s1 _ _ k1),s' _ _ e1,ht3,rfl,fun r H2 s2 e2=>?_⟩
  refine hR _ _ s2 ?_
  rw[ee]
  exact At.tup e2 (bI _)
 ·refine⟨acc,W_,rfl,hl,fun l hl3=>?_⟩
  have sl:=aM hl3 (HO.tup W_)
  have A1:At (upd H' l (.tup W_)) (.tuple ((yW (lH x) st.us).map dh)) (.ref l):=At.tup az ((hA.mono fB).mono sl)
  refine Ix.tup (sl _ _ (s' _ _ (s1 _ _ g1))) (aP (j:=4) rfl) ?_
  walk_at "rd"
  refine⟨(by show 6<=sizeLine; decide),fun r H3 f3 s3 e3=>?_⟩
  have ss:aA H H3:=s1.trans (s'.trans (sl.trans s3))
  refine q _ _ ss (At.tup e3 ?_)
  exact ak.cons (At.int _) (ak.cons (At.int _) (ak.cons (At.tup (ss _ _ h2) (bI _)) (ak.cons (At.int _) (ak.cons (At.int _) (ak.cons (A1.mono s3) ak.nil)))))
def Fi:Sp:=fun vs H Q _=>∃(v u u':V) (x:cU) (st st':cJ),vs=[v,u,u']/\At H (eZ x) v/\At H (fJ st) u/\At H (fJ st') u'/\Qe x/\iI st/\iI st'/\∀H',aA H H'->Q (.bl (PyData.eqv (fJ (lL x st)) (fJ (lL x st')))) H'
def nj (x:cU) (st:cJ) (c:Int):cJ:=eV x (gq x st c) (oM x st c 12)
def vI (x:cU) (st:cJ) (c:Int):List Int:=[eG x st c,c-cB x st c,oM x st c 12]
def iY (x:cU):cJ->List Int->List (List Int)
 | _,[]=>[]
 | st,c::cs=>vI x st c::iY x (nj x st c) cs
def gG (x:cU):cJ->List Int->cJ
 | st,[]=>st
 | st,c::cs=>gG x (nj x st c) cs
theorem gJ (x:cU):∀(st:cJ) (l:List Int) (c:Int),gG x st (l++[c])=nj x (gG x st l) c
 | _,[],_=>rfl
 | st,d::l,c=>gJ x (nj x st d) l c
theorem jL (x:cU):∀(st:cJ) (l:List Int) (c:Int),iY x st (l++[c])=iY x st l++[vI x (gG x st l) c]
 | _,[],_=>rfl
 | st,d::l,c=>by
  show vI x st d::iY x (nj x st d) (l++[c])=vI x st d::(iY x (nj x st d) l++[vI x (gG x (nj x st d) l) c])
  rw[jL]
theorem mK (x:cU):∀(st:cJ) (l:List Int),(iY x st l).length=l.length
 | _,[]=>rfl
 | st,d::l=>by show(iY x (nj x st d) l).length+1=l.length+1; rw[mK]
theorem Nj {x:cU} {st:cJ} {ch:Int} (hx:qe x) (hs:iI st):iI (eV x st ch):=by
 have hc:=hs.c
 have ha:=hx.a
 unfold eV
 split
 ·exact hs
 ·split
  ·refine⟨?_,hs.u,hs.l⟩
   simp only[dR,pI,Kg,nQ,Ar]
   omega
  ·refine⟨?_,hs.u,hs.l⟩
   simp only[oh]
   exact hc
theorem F_ {x:cU} {st:cJ} {c:Int} (hx:qe x) (hs:iI st):iI (nj x st c):=Nj hx (Bt hs)
theorem p_ {x:cU} (hx:qe x):∀{l:List Int} {st:cJ},iI st->iI (gG x st l)
 | [],_,hs=>hs
 | c::l,_,hs=>p_ hx (l:=l) (F_ hx hs)
def xV:Sp:=fun vs H Q _=>∃(v:V) (x:cU),vs=[v]/\At H (eZ x) v/\∀u H',aA H H'->At H' (fJ ⟨0,x.lo,[0,0,0,0,0],0,0,[[0,0,0],[0,0,0],[0,0,0]]⟩) u->Q u H'
theorem Dq {H:Hp} {x:cU} {v:V} (h:At H (eZ x) v):∃a b c d,v=.ref a/\H a=some (.tup [.int x.p,.int x.m,.ref b,.int x.a,.int x.e,.ref c,.ref d])/\H b=some (.tup [.int x.lo,.int x.hi])/\H c=some (.tup [.int x.u,.int x.d])/\At H (ue x.dF) (.ref d):=by
 obtain⟨a,xs,rfl,h1,h2⟩:=bA h
 obtain⟨x0,_,rfl,b0,h2⟩:=ak.aN h2
 obtain⟨x1,_,rfl,b1,h2⟩:=ak.aN h2
 obtain⟨x2,_,rfl,b2,h2⟩:=ak.aN h2
 obtain⟨x3,_,rfl,b3,h2⟩:=ak.aN h2
 obtain⟨x4,_,rfl,b4,h2⟩:=ak.aN h2
 obtain⟨x5,_,rfl,b5,h2⟩:=ak.aN h2
 obtain⟨x6,_,rfl,b6,h2⟩:=ak.aN h2
 cases ak.j5 h2
 unfold At at b0 b1 b3 b4
 subst b0 b1 b3 b4
 obtain⟨b,ys,rfl,g3,g4⟩:=bA b2
 obtain⟨c,zs,rfl,g1,g2⟩:=bA b5
 obtain⟨d,ws,rfl,_,_⟩:=bA b6
 cases dY (cs:=[x.u,x.d]) g2
 cases dY (cs:=[x.lo,x.hi]) g4
 exact⟨a,b,c,d,rfl,h1,g3,g1,b6⟩
theorem kI:aQ ["post","least","nothing"] ["post"] (aG je):=(by walk_at "c")
theorem uE (F:gW K "first_stand" "first_stand" je f fd) (B:Bi mg):bG P w K mg base gK (k+1) f fd ["post"] xV:=by
 refine F.ok kI (by rintro vs H Q E ⟨v,x,rfl,_⟩; rfl) (fun cdv A outer s H vs Q E hr h=>?_)
 obtain⟨pA,x,rfl,a1,q⟩:=h
 have ND:=kI.nd
 refine⟨_,(aq (aV (i:=1) ND rfl (by walk_at "o") (a_ aO (a_ aO (pv 0) ao (fun _ _=>rfl)) ao (fun _ _=>rfl))) (aq (aV (i:=2) ND rfl (by walk_at "o") (bj (aa ao (aa ao (aa ao aj))))) (aC (aK (bj (aa ao (aa (pv 1) (aa (bj (aa ao (aa ao (aa ao (aa ao (aa ao aj)))))) (aa ao (aa ao (aa (bj (aa (pv 2) (aa (pv 2) (aa (pv 2) aj)))) aj))))))))))),?_⟩
 obtain⟨pa,pb,pc,pd,rfl,p1,p2,p3,_⟩:=Dq a1
 walk_at "rd"
 refine Ix.tup p1 (v:=.ref pb) rfl (Ix.tup p2 (v:=.int x.lo) rfl ⟨(by decide),fun p4 H4 f4 s4 e4=>⟨(by decide),fun p5 H5 f5 s5 e5=>⟨(by decide),fun p6 H6 f6 s6 e6=>⟨(by decide),fun p7 H7 f7 s7 e7=>?_⟩⟩⟩⟩)
 have ZP:=s5.trans (s6.trans s7)
 refine q _ _ (s4.trans ZP) ?_
 have tri:At H7 (dh [0,0,0]) (.ref p4):=At.tup (ZP _ _ e4) (bI [0,0,0])
 exact At.tup e7 (ak.cons (At.int _) (ak.cons (At.int _) (ak.cons (At.tup ((s6.trans s7) _ _ e5) (bI [0,0,0,0,0])) (ak.cons (At.int _) (ak.cons (At.int _) (ak.cons (At.tup (s7 _ _ e6) (ak.cons tri (ak.cons tri (ak.cons tri ak.nil)))) ak.nil))))))
theorem lM:∀cs:List Int,bC (cs.map PyData.int)=true
 | []=>rfl
 | c::cs=>by show(nZ (.int c)&&bC (cs.map .int))=true; rw[lM cs]; rfl
theorem zX:∀us:List (List Int),bC (us.map dh)=true
 | []=>rfl
 | u::us=>by
  show(bC (u.map PyData.int)&&bC (us.map dh))=true
  rw[zX us,lM u]; rfl
theorem g_ (n:cJ):nZ (fJ n)=true:=by
 simp only[fJ,nZ,bC,lM,zX,Bool.and_self]
def sX:Sp:=fun vs H Q _=>∃(v u:V) (l:Addr) (x:cU) (st:cJ) (load:List Int),vs=[v,u,.ref l]/\At H (eZ x) v/\At H (fJ st) u/\qe x/\iI st/\H l=some (.lst (load.map V.int))/\load.length<=1000 /\
 ∀p xs H',aA H H'->H p=none->H' p=some (.lst xs)->ak H' ((iY x st load).map dh) xs->Q (.ref p) H'
theorem wu:aQ ["post","stand","load","told","come","done","away","change"] ["post","stand","load"] (aG tU):=(by walk_at "c")
theorem HQ (F:gW K "played" "played" tU f fd) (B:Bi mg) (fG:M8 P w K mg base k "beat" ["post","stand","come","free"] 12 tu):bG P w K mg base gK (k+1) f fd ["post","stand","load"] sX:=by
 refine F.ok wu (by rintro vs H Q E ⟨v,u,l,x,st,load,rfl,_⟩; rfl) (fun cdv A outer s H vs Q E hr h=>?_)
 obtain⟨pA,sA,l,x,st,load,rfl,a1,a2,hx,hs,hl,hz,q⟩:=h
 have ND:=wu.nd
 refine⟨_,(aq (aV (i:=3) ND rfl (by walk_at "o") (cg aj)) (aq (gR PassesOwn.never rfl (dU (K:=K) rfl (pv 2)) (aD (i:=4) ND rfl (by walk_at "o")) (aq (cQ (Wx fG hr (aa (pv 0) (aa (pv 1) (aa (pv 4) aj)))) (b8 (K:=K) (n:=4) rfl rfl (aF (aD (i:=1) ND rfl (by walk_at "o")) (aF (aD (i:=5) ND rfl (by walk_at "o")) (aF (aD (i:=6) ND rfl (by walk_at "o")) (aF (aD (i:=7) ND rfl (by walk_at "o")) b7)))))) (aC (iW (nU (K:=K) rfl PySem.F.plainAttrs_list PySem.F.slot_list_append PySem.F.type_list_append gm (pv 3) (aa (bj (aa (pv 5) (aa (pv 6) (aa (pv 7) aj)))) aj)))))) (aC (aK (pv 3))))),?_⟩
 walk_at "rd"
 refine⟨(by decide),fun p H1 f1 s1 e1=>?_⟩
 rw[oX]
 walk_at "rd"
 have pl:l≠p:=fun z=>by rw[z,f1] at hl; cases hl
 refine LK.of (s1 _ _ hl) (fun i σ H'=>∃(u:V) (o1 o2 o3 o4:Option V) (xs:List V),σ=[some pA,some u,some (.ref l),some (.ref p),o1,o2,o3,o4]/\At H' (fJ (gG x st (load.take i))) u/\H' p=some (.lst xs)/\ak (hid p H') ((iY x st (load.take i)).map dh) xs/\SX p H H')
  ⟨_,_,_,_,_,_,rfl,a2.mono s1,e1,ak.nil,SX.of s1⟩ (fun i σ H' _ ⟨_,_,_,_,_,_,_,_,_,_,sx⟩=>sx.get pl hl) ?_ ?_
 ·rintro i y σ H2 hy ⟨u,o1,o2,o3,o4,xs,rfl,a3,e3,a4,sx⟩
  rw[dz] at hy
  obtain⟨c,hc,rfl⟩:=nR.mp hy
  walk_at "rd"
  have sH:=SX.same f1 sx
  refine⟨pA,u,x,_,c,12,rfl,a1.mono sH,a3,hx,p_ hx hs,fun p5 u5 H5 s5 a5 e5=>?_⟩
  refine⟨p5,_,rfl,bW.of e5,rfl,?_⟩
  walk_at "rd"
  refine⟨.inl ⟨rfl,_,fQ.of (s5 _ _ e3)⟩,(by decide),fun p6 H6 f6 s6 e6=>?_⟩
  have T9:=s5.trans s6
  have Ud:=T9 _ _ e3
  have n6:p6≠p:=fun z=>by rw[<- z] at e3; rw[s5 _ _ e3] at f6; cases f6
  have hn:xs.length=(load.take i).length:=by rw[a4.length,eY,mK]
  have hi:i<load.length:=(iM.mp hc).1
  refine⟨p,xs,_,rfl,rfl,Ud,aZ (by rw[hn,pI]; omega),?_⟩
  have hg:=take_snoc hc
  rw[hg,gJ,jL]
  refine⟨u5,_,_,_,_,_,rfl,?_,az,?_,(sx.trans (SX.of T9)).trans SX.upd⟩
  ·exact((At.vP Ud _ _ (g_ _) (a5.mono s6)).mono (by rw[<- ik (o:=HO.lst (xs++[V.ref p6]))]; exact aA.refl _)).mono fB
  ·rw[ik,yh]
   exact ak.append (a4.mono (aA.hid T9)) (ak.cons (At.tup (by rw[bM n6]; exact e6) (bI _)) ak.nil)
 ·rintro σ H2 ⟨u,o1,o2,o3,o4,xs,rfl,a3,e3,a4,sx⟩
  walk_at "rd"
  rw[eY,qF] at a4
  exact q p xs H2 (SX.same f1 sx) f1 e3 (a4.mono fB)
def Fj:Sp:=fun vs H Q _=>∃(v u:V) (l:Addr) (x:cU) (st:cJ) (load:List Int),vs=[v,u,.ref l]/\At H (eZ x) v/\At H (fJ st) u/\qe x/\iI st/\H l=some (.lst (load.map V.int)) /\
 ∀u' H',aA H H'->At H' (fJ (gG x st load)) u'->Q u' H'
theorem Aa:aQ ["post","stand","load","come"] ["post","stand","load"] (aG x_):=(by walk_at "c")
theorem Le (F:gW K "after" "after" x_ f fd) (B:Bi mg) (fG:M8 P w K mg base k "beat" ["post","stand","come","free"] 12 tu):bG P w K mg base gK (k+1) f fd ["post","stand","load"] Fj:=by
 refine F.ok Aa (by rintro vs H Q E ⟨v,u,l,x,st,load,rfl,_⟩; rfl) (fun cdv A outer s H vs Q E hr h=>?_)
 obtain⟨pA,sA,l,x,st,load,rfl,a1,a2,hx,hs,hl,q⟩:=h
 have ND:=Aa.nd
 refine⟨_,(aq (gR PassesOwn.never rfl (dU (K:=K) rfl (pv 2)) (aD (i:=3) ND rfl (by walk_at "o")) (aC (aV (i:=1) ND rfl (by walk_at "o") (a_ aO (Wx fG hr (aa (pv 0) (aa (pv 1) (aa (pv 3) aj)))) ao (fun _ _=>rfl))))) (aC (aK (pv 1)))),?_⟩
 walk_at "rd"
 rw[oX]
 walk_at "rd"
 refine LK.of hl (fun i σ H'=>∃(u:V) (o1:Option V),σ=[some pA,some u,some (.ref l),o1]/\At H' (fJ (gG x st (load.take i))) u/\aA H H')
  ⟨_,_,rfl,a2,aA.refl _⟩ (fun i σ H' _ ⟨_,_,_,_,sm⟩=>sm _ _ hl) ?_ ?_
 ·rintro i y σ H2 hy ⟨u,o1,rfl,a3,sm⟩
  rw[dz] at hy
  obtain⟨c,hc,rfl⟩:=nR.mp hy
  walk_at "rd"
  refine⟨pA,u,x,_,c,12,rfl,a1.mono sm,a3,hx,p_ hx hs,fun p5 u5 H5 s5 a5 e5=>?_⟩
  refine Ix.tup e5 (v:=u5) rfl ?_
  have hg:=take_snoc hc
  rw[hg,gJ]
  exact⟨u5,_,rfl,a5,sm.trans s5⟩
 ·rintro σ H2 ⟨u,o1,rfl,a3,sm⟩
  walk_at "rd"
  rw[eY,qF] at a3
  exact q u H2 sm a3
def JV (K:PySem.W.Frag):Sp:=fun vs H Q _=>∃(s:Addr) (ns:List Int) (i:Int),vs=[.ref s,.int i]/\fQ K H s (ns.map V.int)/\0<=i/\i<=1000/\∀p H',H p=none->aA H H'->Tp H' p 0->Q (.ref p) H'
theorem wz:aQ ["_law_script","_law_k","_law_cell"] ["_law_script","_law_k"] (aG tX):=(by walk_at "c")
theorem HS (F:gW K "_law_tape" "_law_tape" tX f fd) (B:Bi mg):bG P w K mg base gK (k+1) f fd ["_law_script","_law_k"] (JV K):=by
 refine F.ok wz (by rintro vs H Q E ⟨a,ns,i,rfl,_⟩; rfl) (fun cdv A outer s H vs Q E hr h=>?_)
 obtain⟨a,ns,i,rfl,hS,h0,h1,q⟩:=h
 have ND:=wz.nd
 refine⟨_,(aq (aV (i:=2) ND rfl (by walk_at "o") (cu (bf Az (pv 1) (pb (gA (K:=K) rfl) B.len oH (aa (pv 0) aj)) (bu _)) (a_ Gf (pv 0) (pv 1) (fun _ _=>rfl)) ao)) (aC (aK (K3 (aa (aU jN (pb (BW) B.abs MJ (aa (pv 2) aj)) (pt (xf) B.int Eo (aa (ig QF (pb (BW) B.abs MJ (aa (pv 2) aj)) (aU nW ao ao) (bu _)) aj))) (aa (aU bB (aU bB (aU lF (pv 2) ao) (aU jN ao (pv 1))) ao) (aa ao aj))))))),?_⟩
 walk_at "rd"
 refine⟨a,_,rfl,.inl hS,?_⟩
 show ∃WN j,V.int i=V.int WN/\V.int ((ns.map V.int).length:Int)=V.int j/\_
 walk_at "rd"
 have TQ:∀c:Int,0<=(if c<0 then -c else c):=fun c=>by split <;> omega
 have fin:∀(c x y:Int),x=(if c<0 then -c else c)*(if decide (10 ^ Int.toNat 18<=(if c<0 then -c else c))=true then 1 else 0)->y=c % 2305843009213693951+39373*i+17->∀p,H p=none->Q (.ref p) (upd H p (.lst [.int x,.int y,.int 0])):=fun c x y ex ey p hp=>by
  have hx:0<=x:=by
   rw[ex]
   have nn:=TQ c
   generalize (if c<0 then -c else c)=u at nn ⊢
   split
   ·rw[Int.mul_one]; exact nn
   ·rw[Int.mul_zero]; exact Af 0
  have h2:=Dk c (show(2305843009213693951:Int)≠0 by decide)
  have h3:=Dm c (show(0:Int)<2305843009213693951 by decide)
  exact q p _ hp (aM hp _) ⟨x,y,0,az,hx,by omega,by omega,Af 0,Af 0⟩
 have cm:∀(c:Int) (b:Bool),Qi c (if b=true then 1 else 0):=fun c b=>.inr (by cases b <;> decide)
 refine bF (fun c1=>?_) (fun c1=>?_)
 ·have c1':=iK c1
  have hi:i.toNat<ns.length:=by rw[eY] at c1'; omega
  refine⟨a,_,i,.int (ns[i.toNat]),rfl,rfl,hS,?_,?_⟩
  ·have:=aP (xs:=ns.map V.int) (j:=i.toNat) (v:=.int (ns[i.toNat])) (by rw[dz,jg hi]; rfl)
   rwa [show((i.toNat:Nat):Int)=i by omega] at this
  ·walk_at "rd"
   refine⟨⟨by decide,by decide,by decide⟩,cm _ _,by decide,.inl (by decide),(by show 3<=sizeLine; decide),fun p hp=>?_⟩
   exact fin _ _ _ rfl rfl p hp
 ·refine⟨⟨by decide,by decide,by decide⟩,cm _ _,by decide,.inl (by decide),(by show 3<=sizeLine; decide),fun p hp=>?_⟩
  exact fin 0 _ _ rfl rfl p hp
def i_:Sp:=fun vs H Q _=>∃(a:Addr) (m:Int) (n:Nat),vs=[.ref a,.int m]/\Tp H a n/\n<=1000000000/\0<m/\m<1000000000000000/\∀v H',0<=v->v<m->Tp H' a (n+1)->SX a H H'->Q (.int v) H'
theorem wB:aQ ["_law_tape_here","_law_many","_law_found","_law_once","_law_twice"] ["_law_tape_here","_law_many"] (aG tZ):=(by walk_at "c")
theorem HX (F:gW K "_law_draw" "_law_draw" tZ f fd) (B:Bi mg):bG P w K mg base gK (k+1) f fd ["_law_tape_here","_law_many"] i_:=by
 refine F.ok wB (by rintro vs H Q E ⟨a,m,n,rfl,_⟩; rfl) (fun cdv A outer s H vs Q E hr h=>?_)
 obtain⟨a,m,n,rfl,⟨x,y,z,hT,hx,hy,hy2,hz,hz2⟩,hn,hm,hm2,q⟩:=h
 have ND:=wB.nd
 refine⟨_,(aq (bQ (bf Ba (a_ aO (pv 0) ao (fun _ _=>rfl)) ao (bu _)) (aq (aV (i:=2) ND rfl (by walk_at "o") (aU lF (a_ aO (pv 0) ao (fun _ _=>rfl)) (pv 1))) (aq (cQ (aU Bb (a_ aO (pv 0) ao (fun _ _=>rfl)) (pv 1)) (Dt (pv 0) ao set_list)) (aC (aK (pv 2))))) bz) (aq (cQ (aU bB (a_ aO (pv 0) ao (fun _ _=>rfl)) ao) (Dt (pv 0) ao set_list)) (aq (aV (i:=3) ND rfl (by walk_at "o") (aU lF (aU nW (aU bB (a_ aO (pv 0) ao (fun _ _=>rfl)) (aU jN ao (a_ aO (pv 0) ao (fun _ _=>rfl)))) ao) ao)) (aq (aV (i:=4) ND rfl (by walk_at "o") (aU lF (aU jN (aU bB (pv 3) (a_ aO (pv 0) ao (fun _ _=>rfl))) (aU bB (aU bB (aU lF (pv 3) ao) ao) (a_ aO (pv 0) ao (fun _ _=>rfl)))) ao)) (aC (aK (aU lF (aU Oz (aU lF (aU bB (aU jN (pv 4) ao) (pv 3)) ao) ao) (pv 1)))))))),?_⟩
 walk_at "rd"
 refine Ix.lst hT (aP (j:=0) rfl) ?_
 walk_at "rd"
 refine bF (fun c1=>?_) (fun c1=>?_)
 ·refine Ix.lst hT (aP (j:=0) rfl) ?_
  walk_at "rd"
  refine⟨hm,Ix.lst hT (aP (j:=0) rfl) ?_⟩
  walk_at "rd"
  refine⟨⟨hm,Int.lt_trans hm2 (by decide)⟩,a,_,0,0,rfl,rfl,hT,rfl,?_⟩
  refine q _ _ (Dk _ (by omega)) (Dm _ hm) ⟨x / m,y,z,az,Int.ediv_nonneg hx (by omega),hy,hy2,hz,by omega⟩ SX.upd
 ·refine Ix.lst hT (aP (j:=2) rfl) ?_
  walk_at "rd"
  refine⟨a,_,2,2,rfl,rfl,hT,rfl,?_⟩
  have hT2:upd H a (.lst [.int x,.int y,.int (z+1)]) a=some (.lst [.int x,.int y,.int (z+1)]):=az
  show Hr (V.ref a) (V.int 1) (upd H a (.lst [.int x,.int y,.int (z+1)])) _
  generalize eH:upd H a (.lst [.int x,.int y,.int (z+1)])=H2 at hT2 ⊢
  have sx:SX a H H2:=by rw[<- eH]; exact SX.upd
  refine Ix.lst hT2 (aP (j:=1) rfl) (Ix.lst hT2 (aP (j:=2) rfl) ?_)
  walk_at "rd"
  refine⟨.inl (by decide),⟨by decide,by decide,by omega⟩,by decide,Ix.lst hT2 (aP (j:=2) rfl) ?_⟩
  generalize eo:(y+39373*(z+1)) ^ Int.toNat 5 % 2147483647=o
  have o1:0<=o:=by rw[<- eo]; exact Dk _ (by decide)
  have o2:o<2147483647:=by rw[<- eo]; exact Dm _ (by decide)
  walk_at "rd"
  refine⟨by decide,Ix.lst hT2 (aP (j:=2) rfl) ?_⟩
  walk_at "rd"
  have m1:=Dk o (show(40009:Int)≠0 by decide)
  have m2:=Dm o (show(0:Int)<40009 by decide)
  refine⟨.inl (by omega),by decide,?_⟩
  generalize et:(o+(z+1))*(o % 40009+7+(z+1)) % 2147483629=t
  have t1:0<=t:=by rw[<- et]; exact Dk _ (by decide)
  have t2:t<2147483629:=by rw[<- et]; exact Dm _ (by decide)
  refine⟨.inl (by omega),by decide,⟨by decide,by decide⟩,hm,?_⟩
  exact q _ _ (Dk _ (by omega)) (Dm _ hm) ⟨x,y,z+1,hT2,hx,hy,hy2,by omega,by omega⟩ sx
theorem b_.of {a:Addr} {m:Int} {n:Nat} {H:Hp} {Q:VK} {E:XK} (t:Tp H a n) (hn:n<=1000000000) (h1:0<m) (h2:m<1000000000000000) (q:∀v H',0<=v->v<m->Tp H' a (n+1)->SX a H H'->Q (.int v) H'):i_ ([.ref a,.int m]++[]) H Q E:=⟨a,m,n,rfl,t,hn,h1,h2,q⟩
def mH:Sp:=fun vs H Q _=>∃(a:Addr) (n:Nat),vs=[.ref a]/\Tp H a n/\n<=900000000/\∀v H',0<=v->v<=1000000000000->Tp H' a (n+4)->SX a H H'->Q (.int v) H'
theorem vq.of {a:Addr} {n:Nat} {H:Hp} {Q:VK} {E:XK} (t:Tp H a n) (hn:n<=900000000) (q:∀v H',0<=v->v<=1000000000000->Tp H' a (n+4)->SX a H H'->Q (.int v) H'):mH ([.ref a]++[]) H Q E:=⟨a,n,rfl,t,hn,q⟩
theorem tH:aQ ["_law_tape_here","_law_way","_law_great"] ["_law_tape_here"] (aG qm):=(by walk_at "c")
theorem Du (F:gW K "_law_units" "_law_units" qm f fd) (B:Bi mg) (aL:Ct P w K mg base k "_law_draw" ["_law_tape_here","_law_many"] i_):bG P w K mg base gK (k+1) f fd ["_law_tape_here"] mH:=by
 refine F.ok tH (by rintro vs H Q E ⟨a,n,rfl,_⟩; rfl) (fun cdv A outer s H vs Q E hr h=>?_)
 obtain⟨a,n,rfl,tp,hn,q⟩:=h
 have ND:=tH.nd
 refine⟨_,(aq (aV (i:=1) ND rfl (by walk_at "o") (pf aL hr (aa (pv 0) (aa ao aj)))) (aq (bQ (bf Az (pv 1) ao (bu _)) (aC (aK (pf aL hr (aa (pv 0) (aa ao aj))))) bz) (aq (bQ (bf gP (pv 1) ao (bu _)) (aC (aK (pf aL hr (aa (pv 0) (aa ao aj))))) bz) (aq (aV (i:=2) ND rfl (by walk_at "o") (aU bB (aU jN (pf aL hr (aa (pv 0) (aa (aU nW ao ao) aj))) (aU nW ao ao)) (pf aL hr (aa (pv 0) (aa (aU nW ao ao) aj))))) (aC (aK (cu (bf gP (pv 1) ao (bu _)) (pv 2) (aU gU (aU nW ao ao) (aU lF (pv 2) ao))))))))),?_⟩
 walk_at "rd"
 refine b_.of tp (by omega) (by decide) (by decide) fun v1 H1 l1 u1 t1 s1=>?_
 walk_at "rd"
 refine bF (fun c1=>?_) (fun c1=>?_)
 ·refine b_.of t1 (by omega) (by decide) (by decide) fun v2 H2 l2 u2 t2 s2=>?_
  exact q v2 H2 l2 (by omega) (t2.mono (by omega)) (s1.trans s2)
 ·refine bF (fun c2=>?_) (fun c2=>?_)
  ·refine b_.of t1 (by omega) (by decide) (by decide) fun v2 H2 l2 u2 t2 s2=>?_
   exact q v2 H2 l2 (by omega) (t2.mono (by omega)) (s1.trans s2)
  ·refine⟨⟨by decide,by decide,by decide⟩,?_⟩
   refine b_.of t1 (by omega) (by decide) (by decide) fun v2 H2 l2 u2 t2 s2=>?_
   walk_at "rd"
   have e6:(10:Int) ^ Int.toNat 6=1000000:=by decide
   have Tt:(10:Int) ^ Int.toNat 12=1000000000000:=by decide
   rw[e6] at u2
   refine⟨⟨by decide,by decide,by decide⟩,.inr (by decide),⟨by decide,by decide,by decide⟩,?_⟩
   refine b_.of t2 (by omega) (by decide) (by decide) fun v3 H3 l3 u3 t3 s3=>?_
   rw[e6] at u3
   walk_at "rd"
   rw[e6,Tt]
   refine bF (fun c3=>?_) (fun c3=>?_)
   ·exact q _ H3 (by omega) (by omega) (t3.mono (by omega)) (s1.trans (s2.trans s3))
   ·have m1:=Dk (v2*1000000+v3) (show(3:Int)≠0 by decide)
    have m2:=Dm (v2*1000000+v3) (show(0:Int)<3 by decide)
    exact⟨⟨by decide,by decide,by decide⟩,by decide,q _ H3 (by omega) (by omega) (t3.mono (by omega)) (s1.trans (s2.trans s3))⟩
def vy (i:Int):Prop:=0<=i/\i<=1000000000000
def QX (u:List Int):Prop:=∃a b c,u=[a,b,c]/\vy a/\vy b/\vy c
structure MP (r:fH):Prop where
 is:my r
 g:r.g∈(["over","under","each"]:List Str)
 z:r.g = "each" -> r.t=0
 t:r.g ≠ "each" -> -12<=r.t/\r.t<=12/\r.t≠0
def JX:Sp:=fun vs H Q _=>∃(a:Addr) (n:Nat) (b:Bool),vs=[.ref a,.bl b]/\Tp H a n/\n<=800000000/\∀v r H',MP r->At (hid a H') (mW r) v->Tp H' a (n+12)->SX a H H'->Q v H'
theorem Row.of {a:Addr} {n:Nat} {b:Bool} {H:Hp} {Q:VK} {E:XK} (t:Tp H a n) (hn:n<=800000000) (q:∀v r H',MP r->At (hid a H') (mW r) v->Tp H' a (n+12)->SX a H H'->Q v H'):JX ([.ref a,.bl b]++[]) H Q E:=⟨a,n,b,rfl,t,hn,q⟩
theorem z9:aQ ["_law_tape_here","_law_small","_law_sign","_law_what","_law_span","_law_number","_law_step"] ["_law_tape_here","_law_small"] (aG xY):=(by walk_at "c")
theorem La (F:gW K "_law_row" "_law_row" xY f fd) (B:Bi mg) (aL:Ct P w K mg base k "_law_draw" ["_law_tape_here","_law_many"] i_) (cN:Ct P w K mg base k "_law_units" ["_law_tape_here"] mH):bG P w K mg base gK (k+1) f fd ["_law_tape_here","_law_small"] JX:=by
 refine F.ok z9 (by rintro vs H Q E ⟨a,n,b,rfl,_⟩; rfl) (fun cdv A outer s H vs Q E hr h=>?_)
 obtain⟨a,n,b,rfl,tp,hn,q⟩:=h
 have ND:=z9.nd
 refine⟨_,(aq (aV (i:=2) ND rfl (by walk_at "o") (a_ aO (cg (aa gb (aa gb (aa gb aj)))) (pf aL hr (aa (pv 0) (aa ao aj))) (fun _ _=>rfl))) (aq (aV (i:=3) ND rfl (by walk_at "o") (a_ aO (cg (aa gb (aa gb (aa gb (aa gb aj))))) (pf aL hr (aa (pv 0) (aa ao aj))) (fun _ _=>rfl))) (aq (aV (i:=4) ND rfl (by walk_at "o") (cu (bT (pv 1)) (a_ aO (cg (aa ao (aa ao (aa ao (aa (aU bB ao (pf aL hr (aa (pv 0) (aa ao aj)))) aj))))) (pf aL hr (aa (pv 0) (aa ao aj))) (fun _ _=>rfl)) (aU bB ao (pf aL hr (aa (pv 0) (aa ao aj)))))) (aq (aV (i:=5) ND rfl (by walk_at "o") (cu (bT (pv 1)) (pf aL hr (aa (pv 0) (aa ao aj))) (pf cN hr (aa (pv 0) aj)))) (aq (bQ (bf gP (pv 2) gb (bu _)) (aC (aK (bj (aa (pv 3) (aa (pv 4) (aa (pv 2) (aa (pb (jA rfl) B.max qT (aa ao (aa (pv 5) aj))) (aa ao aj)))))))) bz) (aq (aV (i:=6) ND rfl (by walk_at "o") (aU bB ao (pf aL hr (aa (pv 0) (aa (cu (bT (pv 1)) ao ao) aj))))) (aC (aK (bj (aa (pv 3) (aa (pv 4) (aa (pv 2) (aa (pv 5) (aa (cu (bf Az (aU bB (pf aL hr (aa (pv 0) (aa ao aj))) (aU jN (pt (xf) B.int Eo (aa (ig gP (pv 2) gb (bu _)) aj)) ao)) ao (bu _)) (pv 6) (aU gU ao (pv 6))) aj)))))))))))))),?_⟩
 walk_at "rd"
 refine⟨(by decide),fun p1 H1 f1 s1 e1=>?_⟩
 refine b_.of (tp.same s1) (by omega) (by decide) (by decide) fun y1 H2 l2 u2 t2 s2=>?_
 have n1:p1≠a:=tp.ne f1
 obtain⟨g,hg,eg⟩:=wJ (ts:=["over","under","each"]) l2 u2
 refine Ix.lst (s2.get n1 e1) eg ?_
 refine⟨(by decide),fun p3 H3 f3 s3 e3=>?_⟩
 refine b_.of (t2.same s3) (by omega) (by decide) (by decide) fun y4 H4 l4 u4 t4 s4=>?_
 have n3:p3≠a:=t2.ne f3
 obtain⟨w,hw,ew⟩:=wJ (ts:=["come","done","wait","wait"]) l4 u4
 have hw':w∈(["come","done","wait"]:List Str):=by
  simp only[dZ,jh,or_false] at hw ⊢
  rcases hw with z | z | z | z
  ·exact .inl z
  ·exact .inr (.inl z)
  ·exact .inr (.inr z)
  ·exact .inr (.inr z)
 refine Ix.lst (s4.get n3 e3) ew ?_
 have ZG:SX a H H4:=(SX.of s1).trans (s2.trans ((SX.of s3).trans s4))
 have fin:∀(sp:Nat) (nn tt:Int) (H8:Hp) (m:Nat),(1<=sp/\sp<=4)->Tp H8 a m->m<=n+12->SX a H H8->(0<=nn/\nn<=1000000000000)->(g = "each" -> 1<=nn)->(g = "each" -> tt=0)->(g ≠ "each" -> -12<=tt/\tt<=12/\tt≠0)->∀p H',H8 p=none->aA H8 H'->H' p=some (.tup [.str w,.int sp,.str g,.int nn,.int tt])->Q (.ref p) H':=fun sp nn tt H8 m hsp t8 hm s8 hnn hge hz ht p H' fp ZK ep=>by
  have pa:p≠a:=t8.ne fp
  refine q _ ⟨w,sp,g,nn,tt⟩ H' ⟨⟨hw',hsp,hnn,hge⟩,hg,hz,ht⟩ (At.tup (by rw[bM pa]; exact ep) ?_) ((t8.same ZK).mono hm) (s8.trans (SX.of ZK))
  exact ak.cons (At.str _) (ak.cons (At.int _) (ak.cons (At.str _) (ak.cons (At.int _) (ak.cons (At.int _) ak.nil))))
 cases b with
 | false=>
  walk_at "rd"
  refine b_.of t4 (by omega) (by decide) (by decide) fun y5 H5 l5 u5 t5 s5=>?_
  walk_at "rd"
  refine vq.of t5 (by omega) fun num H6 l6 u6 t6 s6=>?_
  walk_at "rd"
  obtain⟨sp,hsp⟩:∃sp:Nat,1+y5=(sp:Int):=⟨(1+y5).toNat,by omega⟩
  rw[hsp]
  have sx:SX a H H6:=ZG.trans (s5.trans s6)
  refine bF (fun c1=>?_) (fun c1=>?_)
  ·exact⟨(by decide),fin _ _ _ H6 _ (by omega) t6 (by omega) sx (by split <;> omega) (fun _=>by split <;> omega) (fun _=>rfl) (fun z=>absurd (iK c1) z)⟩
  ·have c1':=Aj c1
   refine b_.of t6 (by omega) (by decide) (by decide) fun y8 H8 l8 u8 t8 s8=>?_
   walk_at "rd"
   refine b_.of t8 (by omega) (by decide) (by decide) fun y9 H9 l9 u9 t9 s9=>?_
   walk_at "rd"
   refine⟨.inr (by decide),?_⟩
   refine bF (fun c2=>?_) (fun c2=>?_)
   ·exact⟨(by decide),fin _ _ _ H9 _ (by omega) t9 (by omega) (sx.trans (s8.trans s9)) ⟨l6,u6⟩ (fun z=>absurd z c1') (fun z=>absurd z c1') (fun _=>by omega)⟩
   ·exact⟨(by decide),fin _ _ _ H9 _ (by omega) t9 (by omega) (sx.trans (s8.trans s9)) ⟨l6,u6⟩ (fun z=>absurd z c1') (fun z=>absurd z c1') (fun _=>by omega)⟩
 | true=>
  walk_at "rd"
  refine b_.of t4 (by omega) (by decide) (by decide) fun y5 H5 l5 u5 t5 s5=>?_
  walk_at "rd"
  refine⟨(by decide),fun p6 H6 f6 s6 e6=>?_⟩
  refine b_.of (t5.same s6) (by omega) (by decide) (by decide) fun y7 H7 l7 u7 t7 s7=>?_
  have n6:p6≠a:=t5.ne f6
  obtain⟨x,hx,ex⟩:=mL (ts:=[1,1,1,1+y5]) l7 u7
  refine Ix.lst (s7.get n6 e6) ex ?_
  have hx':1<=x/\x<=4:=by
   simp only[dZ,jh,or_false] at hx
   rcases hx with rfl | rfl | rfl | rfl <;> omega
  refine b_.of t7 (by omega) (by decide) (by decide) fun num H8 l8 u8 t8 s8=>?_
  walk_at "rd"
  obtain⟨sp,rfl⟩:∃sp:Nat,x=(sp:Int):=⟨x.toNat,by omega⟩
  have sx:SX a H H8:=ZG.trans (s5.trans ((SX.of s6).trans (s7.trans s8)))
  refine bF (fun c1=>?_) (fun c1=>?_)
  ·exact⟨(by decide),fin _ _ _ H8 _ (by omega) t8 (by omega) sx (by split <;> omega) (fun _=>by split <;> omega) (fun _=>rfl) (fun z=>absurd (iK c1) z)⟩
  ·have c1':=Aj c1
   refine b_.of t8 (by omega) (by decide) (by decide) fun y8 H9 l9 u9 t9 s9=>?_
   walk_at "rd"
   refine b_.of t9 (by omega) (by decide) (by decide) fun y9 Ck l10 u10 Wv ud=>?_
   walk_at "rd"
   refine⟨.inr (by decide),?_⟩
   refine bF (fun c2=>?_) (fun c2=>?_)
   ·exact⟨(by decide),fin _ _ _ Ck _ (by omega) Wv (by omega) (sx.trans (s9.trans ud)) (by omega) (fun z=>absurd z c1') (fun z=>absurd z c1') (fun _=>by omega)⟩
   ·exact⟨(by decide),fin _ _ _ Ck _ (by omega) Wv (by omega) (sx.trans (s9.trans ud)) (by omega) (fun z=>absurd z c1') (fun z=>absurd z c1') (fun _=>by omega)⟩
theorem NK (r:fH):nZ (mW r)=true:=rfl
theorem Ad (rs:List fH):nZ (m_ rs)=true:=by
 show bC (rs.map mW)=true
 exact cC.mpr fun d hd=>by obtain⟨r,_,rfl⟩:=mX.mp hd; rfl
structure TV (rs:List fH):Prop where
 lo:1<=rs.length
 hi:rs.length<=4
 g:∀r∈rs,MP r
def xQ:Sp:=fun vs H Q _=>∃(a:Addr) (n:Nat) (bs:Bool),vs=[.ref a,.bl bs]/\Tp H a n/\n<=700000000/\∀p dF H',dF.length<=3->(∀rs∈dF,TV rs)->At (hid a H') (ue dF) (.ref p)->Tp H' a (n+300)->SX a H H'->Q (.ref p) H'
theorem tL:aQ ["_law_tape_here","_law_small","_law_rules_here","_law_k"] ["_law_tape_here","_law_small"] (aG qt):=(by walk_at "c")
theorem Dw (F:gW K "_law_rules" "_law_rules" qt f fd) (B:Bi mg) (aL:Ct P w K mg base k "_law_draw" ["_law_tape_here","_law_many"] i_) (P_:Ct P w K mg base k "_law_row" ["_law_tape_here","_law_small"] JX):bG P w K mg base gK (k+1) f fd ["_law_tape_here","_law_small"] xQ:=by
 refine F.ok tL (by rintro vs H Q E ⟨a,n,bs,rfl,_⟩; rfl) (fun cdv A outer s H vs Q E hr h=>?_)
 obtain⟨a,n,bs,rfl,tp,hn,q⟩:=h
 have ND:=tL.nd
 refine⟨_,(aq (aV (i:=2) ND rfl (by walk_at "o") (cg aj)) (aq (gR PassesOwn.never rfl (cM (by rfl) B.range (aa (pf aL hr (aa (pv 0) (aa (cu (bT (pv 1)) ao ao) aj))) aj)) (aD (i:=3) ND rfl (by walk_at "o")) (aC (iW (nU (K:=K) rfl PySem.F.plainAttrs_list PySem.F.slot_list_append PySem.F.type_list_append gm (pv 2) (aa (pt (eN) B.tuple dq (aa (fu (N':=["_law_j","_law_tape_here","_law_small"]) (js:=[0,1]) rfl (cM (by rfl) B.range (aa (aU bB ao (pf aL hr (aa (pv 0) (aa (cu (bT (pv 1)) ao ao) aj)))) aj)) sU.mk2 rfl (by decide) rfl (fun fp s' H'=>(pf P_ hr (aa (pv 1) (aa (pv 2) aj))))) aj)) aj))))) (aC (aK (pt (eN) B.tuple dq (aa (pv 2) aj)))))),?_⟩
 walk_at "rd"
 refine⟨dG _,fun p H1 f1 s1 e1=>?_⟩
 have pa:p≠a:=tp.ne f1
 rw[zY]
 walk_at "rd"
 refine(fun(hT:∀(m:Int) (H2:Hp),0<=m->m<4->Tp H2 a (n+1)->SX a H1 H2->FK _ _ _ _ [.int m] H2)=>bF (fun _=>b_.of (tp.same s1) (by omega) (by decide) (by decide) fun m H2 l2 u2 t2 s2=>hT m H2 l2 (by omega) t2 s2) (fun _=>b_.of (tp.same s1) (by omega) (by decide) (by decide) fun m H2 l2 u2 t2 s2=>hT m H2 l2 (by omega) t2 s2)) ?_
 intro m H2 l2 u2 t2 s2
 refine FK.of (n:=m.toNat) (by omega) (by omega) (fun i σ H'=>∃(dF:List (List fH)) (ys:List V) (o3:Option V),σ=[some (.ref a),some (.bl bs),some (.ref p),o3]/\dF.length=i/\ys.length=i/\(∀rs∈dF,TV rs)/\H' p=some (.lst ys)/\ak (hid p (hid a H')) (dF.map m_) ys/\Tp H' a (n+1+60*i)/\SX a H H')
  ⟨[],[],_,rfl,rfl,rfl,fun d h=>by simp at h,s2.get pa e1,ak.nil,t2,(SX.of s1).trans s2⟩ ?_ ?_
 ·rintro i σ H3 hi ⟨dF,ys,o3,rfl,ld,ly,od,h3,a3,t3,s3⟩
  walk_at "rd"
  refine⟨.inl ⟨rfl,_,fQ.of h3⟩,?_⟩
  rw[qj]
  walk_at "rd"
  refine(fun(hT:∀(r:Int) (H4:Hp),0<=r->r<4->Tp H4 a (n+1+60*i+1)->SX a H3 H4->∃WN j_1,V.int 1=V.int WN/\V.int r=V.int j_1/\CK _ _ _ _ [.int (WN+j_1)] H4)=>bF (fun _=>b_.of t3 (by omega) (by decide) (by decide) fun r H4 l4 u4 t4 s4=>hT r H4 l4 (by omega) t4 s4) (fun _=>b_.of t3 (by omega) (by decide) (by decide) fun r H4 l4 u4 t4 s4=>hT r H4 l4 (by omega) t4 s4)) ?_
  intro r H4 l4 u4 t4 s4
  have h4:=s4.get pa h3
  walk_at "rd"
  refine CK.of (n:=(1+r).toNat) (by omega) (by omega) fun acc hacc=>?_
  have ca:acc≠a:=t4.ne hacc
  have cp:acc≠p:=fun z=>by subst z; rw[hacc] at h4; cases h4
  refine⟨fun j zs H'=>∃es:List fH,es.length=j/\zs.length=j/\(∀d∈es,MP d)/\ak (hid acc (hid a H')) (es.map mW) zs/\H' acc=some (.lst zs)/\Tp H' a (n+1+60*i+1+12*j)/\SX a H4 H',?_,?_,?_⟩
  ·exact⟨[],rfl,rfl,fun d h=>by simp at h,ak.nil,az,t4.dw ca,(SX.refl a H4).dw hacc ca⟩
  ·rintro j zs H5 hj ⟨es,le,lz,oe,a5,c5,t5,s5⟩
   show mY _ _ _ _ [some _,some (.ref a),some (.bl bs)] H5 _
   walk_at "rd"
   refine Row.of t5 (by omega) fun v d H6 rk a6 t6 s6=>?_
   have c6:=s6.get ca c5
   have c6':hid a H6 acc=some (.lst zs):=by rw[bM ca]; exact c6
   refine⟨c6,(by rw[lz]; exact aZ (by omega)),es++[d],by rw[dR,le]; rfl,by rw[dR,lz]; rfl,fun x hx=>?_,?_,az,?_,?_⟩
   ·rcases lB.mp hx with z | z
    ·exact oe x z
    ·rw[fP.mp z]; exact rk
   ·rw[bV ca,ik,yh]
    exact(a5.mono (aA.hid s6)).append (ak.cons (At.vP c6' _ v (NK d) a6) ak.nil)
   ·exact(t6.dw ca).mono (by omega)
   ·exact(s5.trans s6).dw hacc ca
  ·rintro zs H6 ⟨es,le,lz,oe,a6,c6,t6,s6⟩
   have h6:=s6.get pa h4
   refine⟨acc,zs,rfl,c6,fun l hl=>?_⟩
   have la:l≠a:=t6.ne hl
   have lp:l≠p:=fun z=>by subst z; rw[hl] at h6; cases h6
   refine⟨p,ys,_,rfl,rfl,by rw[aJ (Ne.symm lp)]; exact h6,by rw[ly]; exact aZ (by omega),?_⟩
   have A1:At (hid a (upd H6 l (.tup zs))) (m_ es) (.ref l):=by
    rw[bV la]
    have fr:hid a H6 l=none:=by rw[bM la]; exact hl
    exact At.tup az ((a6.mono fB).mono (aM fr _))
   have h7:hid a (upd H6 l (.tup zs)) p=some (.lst ys):=by rw[bM pa,aJ (Ne.symm lp)]; exact h6
   have ZM:SX a H3 (upd H6 l (.tup zs)):=(s4.trans s6).trans (SX.of (aM hl _))
   refine⟨dF++[es],ys++[.ref l],_,rfl,by rw[dR,ld]; rfl,by rw[dR,ly]; rfl,fun x hx=>?_,az,?_,?_,?_⟩
   ·rcases lB.mp hx with z | z
    ·exact od x z
    ·rw[fP.mp z]; exact⟨by omega,by omega,oe⟩
   ·rw[bV pa,ik,yh]
    exact(a3.mono (aA.hid ZM)).append (ak.cons (At.vP h7 _ _ (Ad es) A1) ak.nil)
   ·exact((t6.dw la).dw pa).mono (by omega)
   ·exact(s3.trans ZM).dw f1 pa
 ·rintro σ H3 ⟨dF,ys,o3,rfl,ld,ly,od,h3,a3,t3,s3⟩
  walk_at "rd"
  refine⟨p,ys,rfl,h3,fun l hl=>?_⟩
  have la:l≠a:=t3.ne hl
  refine q l dF _ (by omega) od ?_ ((t3.dw la).mono (by omega)) (s3.trans (SX.of (aM hl _)))
  rw[bV la]
  have fr:hid a H3 l=none:=by rw[bM la]; exact hl
  exact At.tup az ((a3.mono fB).mono (aM fr _))
structure G7 (x:cU):Prop where
 p:1<=x.p/\x.p<=1000000
 m:vy x.m
 lo:0<=x.lo/\x.lo<=x.hi
 hi:x.hi<=12
 a:x.a<=4
 e:1<=x.e/\x.e<=6
 u:0<=x.u/\x.u<=9
 d:0<=x.d/\x.d<=9
 n:x.dF.length<=3
 r:∀rs∈x.dF,TV rs
theorem G7.is {x:cU} (h:G7 x):qe x:=⟨h.a,by have:=h.p; omega,by have:=h.n; omega,fun rs hrs r hr=>((h.r rs hrs).g r hr).is⟩
def xR:Sp:=fun vs H Q _=>∃(a:Addr) (n:Nat),vs=[.ref a]/\Tp H a n/\n<=100000000/\∀p x H',G7 x->At (hid a H') (eZ x) (.ref p)->Tp H' a (n+400)->SX a H H'->Q (.ref p) H'
theorem iC:aQ ["_law_tape_here","_law_least","_law_hands","_law_rests","_law_late","_law_every"] ["_law_tape_here"] (aG iy):=(by walk_at "c")
theorem rR (F:gW K "_law_small_post" "_law_small_post" iy f fd) (B:Bi mg) (aL:Ct P w K mg base k "_law_draw" ["_law_tape_here","_law_many"] i_) (qQ:Ct P w K mg base k "_law_rules" ["_law_tape_here","_law_small"] xQ):bG P w K mg base gK (k+1) f fd ["_law_tape_here"] xR:=by
 refine F.ok iC (by rintro vs H Q E ⟨a,n,rfl,_⟩; rfl) (fun cdv A outer s H vs Q E hr h=>?_)
 obtain⟨a,n,rfl,tp,hn,q⟩:=h
 have ND:=iC.nd
 refine⟨_,(aq (aV (i:=1) ND rfl (by walk_at "o") (pf aL hr (aa (pv 0) (aa ao aj)))) (aq (aV (i:=2) ND rfl (by walk_at "o") (bj (aa (pv 1) (aa (aU bB (aU bB (pv 1) ao) (pf aL hr (aa (pv 0) (aa ao aj)))) aj)))) (aq (aV (i:=3) ND rfl (by walk_at "o") (a_ aO (cg (aa (bj (aa ao (aa ao aj))) (aa (bj (aa ao (aa ao aj))) (aa (bj (aa ao (aa ao aj))) (aa (bj (aa ao (aa ao aj))) aj))))) (pf aL hr (aa (pv 0) (aa ao aj))) (fun _ _=>rfl))) (aq (uw (i:=4) (j:=5) rfl ND rfl rfl (by decide) rfl rfl (aa (a_ aO (cg (aa ao (aa ao (aa ao (aa ao aj))))) (pf aL hr (aa (pv 0) (aa ao aj))) (fun _ _=>rfl)) (aa (a_ aO (cg (aa ao (aa ao (aa ao (aa ao aj))))) (pf aL hr (aa (pv 0) (aa ao aj))) (fun _ _=>rfl)) aj)) (by rfl)) (aC (aK (bj (aa (aU bB ao (pf aL hr (aa (pv 0) (aa ao aj)))) (aa (aU bB ao (pf aL hr (aa (pv 0) (aa ao aj)))) (aa (pv 2) (aa (pv 4) (aa (pv 5) (aa (pv 3) (aa (pf qQ hr (aa (pv 0) (aa fU aj))) aj)))))))))))))),?_⟩
 walk_at "rd"
 refine b_.of tp (by omega) (by decide) (by decide) fun y1 H1 l1 u1 t1 s1=>?_
 walk_at "rd"
 refine b_.of t1 (by omega) (by decide) (by decide) fun y2 H2 l2 u2 t2 s2=>⟨_,_,rfl,rfl,(by decide),fun p3 H3 f3 s3 e3=>?_⟩
 have n3:=t2.ne f3
 refine⟨(by decide),fun q1 G1 g1 r1 d1=>⟨(by decide),fun q2 G2 g2 r2 d2=>⟨(by decide),fun q3 G3 g3 r3 d3=>⟨(by decide),fun q4 G4 g4 r4 d4=>⟨(by decide),fun p4 H4 f4 s4 e4=>?_⟩⟩⟩⟩⟩
 have x34:aA H3 H4:=r1.trans (r2.trans (r3.trans (r4.trans s4)))
 have t4:=(t2.same s3).same x34
 have m1:=((t2.same s3)).ne g1
 have m2:=((t2.same s3).same r1).ne g2
 have m3:=(((t2.same s3).same r1).same r2).ne g3
 have m4:=((((t2.same s3).same r1).same r2).same r3).ne g4
 have n4:=(((((t2.same s3).same r1).same r2).same r3).same r4).ne f4
 refine b_.of t4 (by omega) (by decide) (by decide) fun y5 H5 l5 u5 t5 s5=>?_
 have pick:∃(pr:Addr) (uu dd:Int),Cq [V.ref q1,V.ref q2,V.ref q3,V.ref q4] y5=some (.ref pr)/\pr≠a/\H5 pr=some (.tup [.int uu,.int dd])/\(0<=uu/\uu<=9)/\(0<=dd/\dd<=9):=by
  have:y5=0\/y5=1\/y5=2\/y5=3:=by omega
  rcases this with rfl | rfl | rfl | rfl
  ·exact⟨q1,0,0,aP (j:=0) rfl,m1,s5.get m1 (s4 _ _ (r4 _ _ (r3 _ _ (r2 _ _ d1)))),by decide,by decide⟩
  ·exact⟨q2,1,0,aP (j:=1) rfl,m2,s5.get m2 (s4 _ _ (r4 _ _ (r3 _ _ d2))),by decide,by decide⟩
  ·exact⟨q3,0,1,aP (j:=2) rfl,m3,s5.get m3 (s4 _ _ (r4 _ _ d3)),by decide,by decide⟩
  ·exact⟨q4,2,1,aP (j:=3) rfl,m4,s5.get m4 (s4 _ _ d4),by decide,by decide⟩
 obtain⟨pr,uu,dd,ep,Z3,epr,hu,hd⟩:=pick
 refine Ix.lst (s5.get n4 e4) ep ?_
 refine⟨(by decide),fun p6 H6 f6 s6 e6=>?_⟩
 have t6:=t5.same s6
 have n6:=t5.ne f6
 refine b_.of t6 (by omega) (by decide) (by decide) fun y7 H7 l7 u7 t7 s7=>?_
 obtain⟨lt,hlt,elt⟩:=mL (ts:=[0,1,0,2]) l7 u7
 have hlt':0<=lt/\lt<=2:=by
  simp only[dZ,jh,or_false] at hlt
  rcases hlt with rfl | rfl | rfl | rfl <;> omega
 refine Ix.lst (s7.get n6 e6) elt ?_
 clear elt hlt l7 u7
 refine⟨(by decide),fun p8 H8 f8 s8 e8=>?_⟩
 have t8:=t7.same s8
 have n8:=t7.ne f8
 refine b_.of t8 (by omega) (by decide) (by decide) fun y9 H9 l9 u9 t9 s9=>?_
 obtain⟨ev,hev,eev⟩:=mL (ts:=[1,2,1,3]) l9 u9
 have ab3:1<=ev/\ev<=3:=by
  simp only[dZ,jh,or_false] at hev
  rcases hev with rfl | rfl | rfl | rfl <;> omega
 refine Ix.lst (s9.get n8 e8) eev ⟨_,_,rfl,?_⟩
 clear eev hev l9 u9
 refine b_.of t9 (by omega) (by decide) (by decide) fun y10 Ck l10 u10 Wv ud=>⟨_,_,rfl,rfl,?_⟩
 refine b_.of Wv (by omega) (by decide) (by decide) fun y11 Jm l11 u11 Xj Ft=>⟨_,_,rfl,rfl,?_⟩
 refine⟨a,_,true,rfl,Xj,by omega,fun VD dF W9 Td Tc a14 U_ Cp=>⟨(by decide),fun XM M4 Wa Ac Ms=>?_⟩⟩
 have n15:=U_.ne Wa
 obtain⟨la,hla⟩:∃la:Nat,lt=(la:Int):=⟨lt.toNat,by omega⟩
 rw[hla] at Ms
 have x5:SX a H5 M4:=(SX.of s6).trans (s7.trans ((SX.of s8).trans (s9.trans (ud.trans (Ft.trans (Cp.trans (SX.of Ac)))))))
 have x3:SX a H3 M4:=(SX.of x34).trans (s5.trans x5)
 refine q XM ⟨1+y10,3+y11,y1,y1+1+y2,la,ev,uu,dd,dF⟩ M4 ⟨by show 1<=1+y10/\1+y10<=1000000; omega,by show 0<=3+y11/\3+y11<=1000000000000; omega,by show 0<=y1/\y1<=y1+1+y2; omega,by show y1+1+y2<=12; omega,by show la<=4; omega,by show 1<=ev/\ev<=6; omega,hu,hd,Td,Tc⟩ ?_ ((U_.same Ac).mono (by omega)) ?_
 ·exact At.tup (by rw[bM n15]; exact Ms) (ak.cons (At.int _) (ak.cons (At.int _) (ak.cons (At.tup (by rw[bM n3]; exact x3.get n3 e3) (bI [y1,y1+1+y2])) (ak.cons (At.int _) (ak.cons (At.int _) (ak.cons (At.tup (by rw[bM Z3]; exact x5.get Z3 epr) (bI [uu,dd])) (ak.cons (a14.mono (SX.of Ac)) ak.nil)))))))
 ·exact s1.trans (s2.trans ((SX.of s3).trans x3))
structure ZL (K:PySem.W.Frag) (mg:Str->Option Value) (bw:Addr):Prop where
 GZ:mg "TooLong" = some (.ref bw)
 DN:PySem.W.excIn K bw UG "ValueError.__new__" = true
 Eb:PySem.W.exmOne K (.ref bw) (.ref bw)=some true
variable {bw:Addr}
def xX (x:cU) (st:cJ) (c:Int):Nat->cJ
 | 0=>st
 | n+1=>nj x (xX x st c n) c
def LI (x:cU) (st:cJ) (c:Int) (n:Nat):PyData:=fJ (lL x (xX x st c n))
theorem De {x:cU} {st:cJ} {c:Int} (hx:qe x) (hs:iI st):∀n,iI (xX x st c n)
 | 0=>hs
 | n+1=>F_ hx (De hx hs n)
noncomputable def qL (L:Nat->PyData) (n:Nat):Option Nat:=(List.range n).find? fun i=>decide (L i=L n)
def mz (L:Nat->PyData) (i b:Nat):Prop:=qL L i=some b/\∀j,j<i->qL L j=none
theorem mz.lt {L:Nat->PyData} {i b:Nat} (h:mz L i b):b<i:=by
 have:=List.mem_of_find?_eq_some h.1
 exact yf.mp this
theorem SN (n:cJ):xu (fJ n):=by
 have hi:∀l:List Int,gk (l.map .int)=true:=fun l=>uG.mpr fun d hd=>by obtain⟨x,_,rfl⟩:=mX.mp hd; rfl
 have ht:gk (n.us.map dh)=true:=uG.mpr fun d hd=>by
  obtain⟨u,_,rfl⟩:=mX.mp hd
  exact hi u
 refine⟨⟨_,rfl⟩,?_,?_⟩
 ·show gk _=true
  simp only[gk,rT,hi,ht,Bool.and_self]
 ·obtain⟨_,_,d3⟩:=jx n.cs
  obtain⟨_,_,e3⟩:=oV n.us
  simp only[fJ,PyData.depth,PyData.depthAll,d3]
  omega
def Bv (L:Nat->PyData) (n:Nat):List (PyData×V):=(List.range n).map fun i=>(L i,V.int (i:Nat))
theorem Ly (L:Nat->PyData) (n:Nat):(Bv L n).length=n:=by unfold Bv; rw[eY,Kl]
theorem Bu (L:Nat->PyData) (n m:Nat):oU (Bv L n) (L m)=((List.range n).find? fun i=>decide (L i=L m)).map fun i=>V.int (i:Nat):=by
 unfold oU Bv
 rw[List.find?_map,Option.map_map]
 rfl
theorem Lx {L:Nat->PyData} {n:Nat} (h:qL L n=none):putK (Bv L n) (L n) (.int (n:Nat))=Bv L (n+1):=by
 rw[Ky]
 ·unfold Bv
  rw[List.range_succ,yh]; rfl
 ·rw[Bu]
  unfold qL at h
  rw[h]; rfl
def su (C:Addr):Sp:=fun vs H Q E=>∃(v u:V) (x:cU) (st:cJ) (c:Int) (m:Nat),vs=[v,u,.int c,.int m]/\At H (eZ x) v/\At H (fJ st) u/\qe x/\Qe x/\iI st/\m<=1000 /\
 (∀i b,i<=m->mz (LI x st c) i b->∀p H',aA H H'->H' p=some (.tup [.int b,.int ((i:Int)-b)])->Q (.ref p) H')/\((∀j,j<=m->qL (LI x st c) j=none)->∀H',aA H H'->E (.ref C) none H')
theorem qY:aQ ["post","stand","come","most","met","many","lean_stand","begin"] ["post","stand","come","most"] (aG nG):=(by walk_at "c")
theorem Bd (F:gW K "round_of" "round_of" nG f fd) (B:Bi mg) (Z:ZL K mg bw) (jo:Ct P w K mg base k "lean" ["post","stand"] sZ) (fG:M8 P w K mg base k "beat" ["post","stand","come","free"] 12 tu):bG P w K mg base (oN P w) (k+1) f fd ["post","stand","come","most"] (su bw):=by
 refine F.Z0 qY (by rintro vs H Q E ⟨v,u,x,st,c,m,rfl,_⟩; rfl) (fun cdv A outer s H vs Q E Tf hr h=>?_)
 obtain⟨pA,sA,x,st,c,m,rfl,a1,a2,hx,hn,hs,hm,q1,q2⟩:=h
 have ND:=qY.nd
 refine⟨_,(aq (aV (i:=4) ND rfl (by walk_at "o") K4) (aq (gR PassesOwn.leaving rfl (cM (by rfl) B.range (aa (aU bB (pv 3) ao) aj)) (aD (i:=5) ND rfl (by walk_at "o")) (aq (aV (i:=6) ND rfl (by walk_at "o") (pf jo hr (aa (pv 0) (aa (pv 1) aj)))) (aq (bQ (bf (R0 hr.units) (pv 6) (pv 4) (by with_unfolding_all rfl)) (aq (aV (i:=7) ND rfl (by walk_at "o") (a_ (V0 hr.units) (pv 4) (pv 6) (fun _ _=>rfl))) (aC (aK (bj (aa (pv 7) (aa (aU gU (pv 5) (pv 7)) aj)))))) bz) (aq (cQ (pv 5) (Dt (pv 4) (pv 6) (Rn hr.units))) (aC (aV (i:=1) ND rfl (by walk_at "o") (a_ aO (Wx fG hr (aa (pv 0) (aa (pv 1) (aa (pv 2) aj)))) ao (fun _ _=>rfl)))))))) (aC (KD ⟨Z.GZ,Z.DN⟩ Tf (aa (Vx (yw gb (yw (Vy (pv 3)) (yw gb RM)))) aj))))),?_⟩
 walk_at "rd"
 intro p H1 f1 s1 n1 hφ
 show xN _ _ _ _ _ _
 rw[zY]
 walk_at "rd"
 have nS:∀n:cJ,nZ (fJ n)=true:=g_
 refine FK.of (n:=m+1) (by omega) (by omega) (fun i σ H'=>∃u o5 o6 o7,σ=[some pA,some u,some (.int c),some (.int m),some (.ref p),o5,o6,o7]/\At H' (fJ (xX x st c i)) u/\iQ H' p (Bv (LI x st c) i)/\(∀j,j<i->qL (LI x st c) j=none)/\aA H H') ⟨_,_,_,_,rfl,a2.mono s1,n1,fun j hj=>absurd hj (Nat.not_lt_zero _),s1⟩ ?_ ?_
 ·rintro i σ H2 hi ⟨u,o5,o6,o7,rfl,a3,n3,hj,s3⟩
  walk_at "rd"
  refine Lean.of (a1.mono s3) a3 hn (De hx hs i) fun u4 H4 s4 a4=>?_
  have n4:=n3.same s4
  have ky:qg H4 (LI x st c i) u4:=⟨SN _,a4⟩
  refine⟨p,_,_,rfl,n4,ky,?_⟩
  have ev:=Bu (LI x st c) i i
  cases hm2:qL (LI x st c) i with
  | some b=>
   have V2:=hm2
   unfold qL at V2
   rw[V2] at ev
   rw[ev,bc (show(Option.map (fun i:Nat=>V.int (i:Nat)) (some b)).isSome=true from rfl)]
   refine⟨p,_,_,_,rfl,n4,ky,ev,_,_,rfl,rfl,(by decide),fun p5 H5 f5 s5 e5=>?_⟩
   rw[wH] at e5
   exact q1 i b (by omega) ⟨hm2,hj⟩ p5 H5 (s3.trans (s4.trans s5)) e5
  | none=>
   have V2:=hm2
   unfold qL at V2
   rw[V2] at ev
   rw[ev,aX (show ¬(Option.map (fun i:Nat=>V.int (i:Nat)) none).isSome=true by simp)]
   refine⟨p,_,_,rfl,n4,by rw[Ly,sizeLine_eq]; omega,ky,fun H5 p5=>?_⟩
   rw[wH] at p5
   have n5:=p5.2
   rw[Lx hm2] at n5
   have Vl:aA H H5:=mD.same p5 (s3.trans s4) f1
   refine⟨pA,u,x,_,c,12,rfl,a1.mono Vl,mD.at n4 p5 (nS _) (a3.mono s4),hx,De hx hs i,fun p6 u6 H6 s6 a6 e6=>Ix.tup e6 (v:=u6) rfl ?_⟩
   refine⟨u6,_,_,_,rfl,a6,n5.same s6,fun j hji=>?_,Vl.trans s6⟩
   rcases An j i with z | z
   ·exact hj j z
   ·rw[show j=i by omega]; exact hm2
 ·rintro σ H2 ⟨u,o5,o6,o7,rfl,a3,n3,hj,s3⟩
  walk_at "rd"
  have hd:=Tu (n:=(m:Int)) (k:=4) (by decide) (by omega)
  have l1:(Str.ofString "no round within ").length=16:=rfl
  have l2:(Str.ofString " beats").length=6:=rfl
  have l0:Str.empty.length=0:=rfl
  have e3:(Str.empty++Str.ofString "no round within " ++ tx (dg m)++Str.ofString " beats").length<=sizeLine:=by
   simp only[Str.length_append,Cw,l0,l1,l2,sizeLine_eq]; omega
  refine⟨_,rfl,?_,_,Tj (by omega) (by omega),?_,_,rfl,?_,_,rfl,e3,e3,by decide,fun H' s'=>q2 (fun j hj'=>hj j (by omega)) H' (s3.trans s')⟩
  ·simp only[Str.length_append,l0,l1,sizeLine_eq]; omega
  ·rw[Cw,sizeLine_eq]; omega
  ·simp only[Str.length_append,Cw,l0,l1,sizeLine_eq]; omega
theorem Round.of {C:Addr} {v u:V} {x:cU} {st:cJ} {c j:Int} {m:Nat} {H:Hp} {Q:VK} {E:XK} (ej:j=m) (a1:At H (eZ x) v) (a2:At H (fJ st) u) (hx:qe x) (hn:Qe x) (hs:iI st) (hm:m<=1000)
  (q1:∀i b,i<=m->mz (LI x st c) i b->∀p H',aA H H'->H' p=some (.tup [.int b,.int ((i:Int)-b)])->Q (.ref p) H') (q2:(∀j,j<=m->qL (LI x st c) j=none)->∀H',aA H H'->E (.ref C) none H'):su C ([v,u,.int c,.int j]++[]) H Q E:=by
 subst ej
 exact⟨v,u,x,st,c,m,rfl,a1,a2,hx,hn,hs,hm,q1,q2⟩
variable {bw:Addr}
def BR (x:cU) (st:cJ) (c:Int) (n:Nat):List Int:=(List.range n).map fun i=>oM x (xX x st c i) c 12
theorem sE (x:cU) (st:cJ) (c:Int) (n:Nat):(BR x st c n).length=n:=by unfold BR; rw[eY,Kl]
theorem wg (x:cU) (st:cJ) (c:Int):∀n,gG x st (List.replicate n c)=xX x st c n
 | 0=>rfl
 | n+1=>by
  have:List.replicate (n+1) c=List.replicate n c++[c]:=List.replicate_succ'
  rw[this,gJ,wg x st c n]; rfl
theorem Ax (x:cU) (st:cJ) (c:Int):∀n,iY x st (List.replicate n c)=(List.range n).map fun i=>vI x (xX x st c i) c
 | 0=>rfl
 | n+1=>by
  have:List.replicate (n+1) c=List.replicate n c++[c]:=List.replicate_succ'
  rw[this,jL,Ax x st c n,wg,List.range_succ,yh]; rfl
theorem Ae {α:Type}:∀(n:Nat) (x:α),(List.replicate n [x]).flatten=List.replicate n x
 | 0,_=>rfl
 | n+1,x=>by rw[Dn,Hx,Ae n x,Dn]; rfl
def vL (l:List Int):List Int:=((List.range l.length).filter fun i=>l.getD i 0 != 0).map fun i=>((i:Nat):Int)+1
theorem KJ (l:List Int):∀y∈vL l,0<=y:=fun y hy=>by
 obtain⟨i,_,rfl⟩:=mX.mp hy
 omega
theorem Ij {b:Int} {r:List Int} (h:0<=b):dJ 0 (b::r)=dJ b r:=by
 show dJ (if b>0 then b else 0) r=dJ b r
 by_cases z:b>0
 ·rw[bc z]
 ·rw[aX z,show b=0 by omega]
def restV (x:cU) (st:cJ) (c:Int) (i b:Nat):V:=if(((BR x st c i).drop b).any fun n=>n != 0)=true then .non else .int (dJ 0 (vL (BR x st c i)))
def Fe (C:Addr):Sp:=fun vs H Q E=>∃(v u:V) (x:cU) (st:cJ) (c:Int) (m:Nat),vs=[v,u,.int c,.int m]/\At H (eZ x) v/\At H (fJ st) u/\qe x/\Qe x/\iI st/\m<=1000 /\
 (∀i b,i<=m->mz (LI x st c) i b->∀H',aA H H'->Q (restV x st c i b) H')/\((∀j,j<=m->qL (LI x st c) j=none)->∀H',aA H H'->E (.ref C) none H')
theorem qZ:aQ ["post","stand","come","most","begin","length","changes"] ["post","stand","come","most"] (aG nH):=(by walk_at "c")
theorem Be (F:gW K "rests_at" "rests_at" nH f fd) (B:Bi mg) (gC:M7 P w K mg base k "round_of" ["post","stand","come","most"] (su bw)) (jC:Ct P w K mg base k "played" ["post","stand","load"] sX):bG P w K mg base (oN P w) (k+1) f fd ["post","stand","come","most"] (Fe bw):=by
 refine F.Z0 qZ (by rintro vs H Q E ⟨v,u,x,st,c,m,rfl,_⟩; rfl) (fun cdv A outer s H vs Q E Tf hr h=>?_)
 obtain⟨pA,sA,x,st,c,m,rfl,a1,a2,hx,hn,hs,hm,q1,q2⟩:=h
 have ND:=qZ.nd
 refine⟨_,(aq (cQ (pfe gC hr (aa (pv 0) (aa (pv 1) (aa (pv 2) (aa (pv 3) aj))))) (b8 (K:=K) (n:=2) rfl rfl (aF (aD (i:=4) ND rfl (by walk_at "o")) (aF (aD (i:=5) ND rfl (by walk_at "o")) b7)))) (aq (yr (i:=6) ND rfl (by walk_at "o") (N':=["row"]) (js:=[]) rfl (dU (K:=K) rfl (pf jC hr (aa (pv 0) (aa (pv 1) (aa (aU RX (cg (aa (pv 2) aj)) (aU bB (pv 4) (pv 5))) aj))))) sU.Su rfl (by decide) rfl (fun fp s' H'=>(a_ aO (pv 0) ao (fun _ _=>rfl)))) (aq (bQ (bT (pb (Jb rfl) B.any Tz (aa (fj Ny (pv 6) (h_ (pv 4)) ie) aj))) (aC (aK yz)) bz) (aC (aK (yC rfl B.max (aa (lE (nt:=2) (N':=["place","change"]) (js:=[]) rfl (Ot (K:=K) rfl B.enumerate (aa (pv 6) aj)) mF.of (fun fp s' H'=>(b8 (K:=K) (n:=2) rfl rfl (aF (aD (i:=0) (by show List.Nodup (["place","change"]:List Str); decide) rfl (.inl (gO rfl)) (.inr (gO rfl))) (aF (aD (i:=1) (by show List.Nodup (["place","change"]:List Str); decide) rfl (.inl (gO rfl)) (.inr (gO rfl))) b7)))) (fun fp s' H'=>Gk (bf uy (pv 1) ao (bu _))) (fun fp s' H'=>(aU bB (pv 0) ao))) aj) ao)))))),?_⟩
 walk_at "rd"
 refine Round.of rfl a1 a2 hx hn hs hm (fun i b hi hR p1 H1 s1 e1=>?_) (fun hj H1 s1 H2 s2=>?_)
 ·refine⟨p1,_,rfl,bW.of e1,rfl,?_⟩
  walk_at "rd"
  have hb:=hR.lt
  rw[Hi]
  walk_at "rd"
  refine⟨(by decide),fun p2 H2 f2 s2 e2=>⟨p2,_,_,rfl,rfl,e2,by omega,by omega,?_,fun p3 f3=>?_⟩⟩
  ·show 1*_<=sizeLine
   rw[sizeLine_eq]; omega
  have s3:=aM f3 (.lst (List.replicate ((b:Int)+((i:Int)-b)).toNat [V.int c]).flatten)
  have e3:upd H2 p3 (.lst (List.replicate ((b:Int)+((i:Int)-b)).toNat [V.int c]).flatten) p3=some (.lst ((List.replicate i c).map V.int)):=by
   rw[az,show((b:Int)+((i:Int)-b)).toNat=i by omega,List.map_replicate]
   congr 2
   exact Ae i _
  generalize upd H2 p3 (.lst (List.replicate ((b:Int)+((i:Int)-b)).toNat [V.int c]).flatten)=H3 at *
  have m9:=s1.trans (s2.trans s3)
  refine⟨pA,sA,p3,x,st,_,rfl,a1.mono m9,a2.mono m9,hx,hs,e3,by rw[yq]; omega,fun p4 xs H4 s4 f4 e4 A4=>?_⟩
  rw[Ax,Am] at A4
  have hlx:xs.length=i:=by rw[A4.length,eY,Kl]
  refine W6.of (es:=(BR x st c i).map .int) e4 (by rw[eY,sE,hlx]) (by rw[eY,sE,sizeLine_eq]; omega) (lM _) (fun j y e H' hy he s' R hR'=>?_) fun acc ys H5 s5 f5 e5 A5=>?_
  ·obtain⟨d,hd,ad⟩:=A4.get hy
   rw[dz] at hd he
   unfold BR at he
   rw[dz] at he
   cases hg:(List.range i)[j]? with
   | none=>rw[hg] at hd; cases hd
   | some j'=>
   rw[hg] at hd he
   cases hd
   cases he
   obtain⟨a,ws,rfl,ha,hw⟩:=bA (ad.mono s')
   cases dY (cs:=vI x (xX x st c j') c) hw
   walk_at "rd"
   exact Ix.tup ha (v:=.int (oM x (xX x st c j') c 12)) rfl (hR' _ _ (aA.refl _) (At.int _))
  cases dY A5
  refine⟨acc,_,rfl,fQ.of e5,fun p6 f6=>⟨p6,(BR x st c i).drop b,rfl,by rw[az,pQ (by omega),rO,List.map_drop],?_⟩⟩
  have s6:=aM f6 (.lst (pR ((BR x st c i).map V.int) (some (b:Int)) none))
  generalize upd H5 p6 (.lst (pR ((BR x st c i).map V.int) (some (b:Int)) none))=H6 at *
  have Rr:=m9.trans (s4.trans (s5.trans s6))
  have rv:∀v,restV x st c i b=v->(∀H',aA H6 H'->Q v H'):=fun v e H' s'=>by rw[<- e]; exact q1 i b hi hR H' (Rr.trans s')
  by_cases ha:(((BR x st c i).drop b).any fun n=>n != 0)=true
  ·rw[bc ha]
   exact rv _ (by unfold restV; rw[bc ha]) _ (aA.refl _)
  ·rw[aX ha]
   have rv':=rv (.int (dJ 0 (vL (BR x st c i)))) (by unfold restV; rw[aX ha])
   refine PQ (ns:=BR x st c i) (fun _ n=>n != 0) (fun i _=>(i:Nat)+1) (fun R hR'=>?_) (s6 _ _ e5) (by rw[sE]; omega) (fun j y H' hy s' R hR'=>?_) (fun j y H' hy hk s' R hR'=>?_) fun qb H7 s7 f7 e7=>?_
   ·walk_at "rd"; exact hR'
   ·walk_at "rd"
    have e:(!decide (y=0))=(y != 0):=by by_cases z:y=0 <;> simp[z]
    rw[e]; exact hR'
   ·walk_at "rd"; exact hR'
   refine⟨qb,vL (BR x st c i),rfl,e7,fun z=>?_,fun b' r' z=>?_⟩
   ·have:=rv' _ s7
    rw[z] at this
    exact this
   ·have h0:=KJ (BR x st c i) b' (by rw[z]; exact fO)
    have:=rv' _ s7
    rw[z,Ij h0] at this
    exact this
 ·exact q2 hj H2 (s2 s1)
theorem z_:aQ ["post","one","other"] ["post","one","other"] (aG xZ):=(by walk_at "c")
theorem Ld (F:gW K "alike" "alike" xZ f fd) (jo:Ct P w K mg base k "lean" ["post","stand"] sZ):bG P w K mg base gK (k+1) f fd ["post","one","other"] Fi:=by
 refine F.ok z_ (by rintro vs H Q E ⟨v,u,u',x,st,st',rfl,_⟩; rfl) (fun cdv A outer s H vs Q E hr h=>?_)
 obtain⟨v,u,u',x,st,st',rfl,hv,hu,hu',hN,hS,hS',q⟩:=h
 have ND:=z_.nd
 refine⟨_,(aC (aK (ig (R1 hr.units) (pf jo hr (aa (pv 0) (aa (pv 1) aj))) (pf jo hr (aa (pv 0) (aa (pv 2) aj))) (bu _)))),?_⟩
 walk_at "rd"
 refine Lean.of hv hu hN hS fun v1 H1 s1 a1=>?_
 refine Lean.of (hv.mono s1) (hu'.mono s1) hN hS' fun v2 H2 s2 a2=>?_
 obtain⟨d1,d2,d3⟩:=xP (lL x st)
 obtain⟨e1,e2,e3⟩:=xP (lL x st')
 exact⟨_,_,a1.mono s2,a2,d1,e1,d2,e2,d3,q _ (s1.trans s2)⟩
theorem wA:aQ ["_law_tape_here","_law_pace","_law_most","_law_hands","_law_rests","_law_late","_law_every"] ["_law_tape_here"] (aG tY):=(by walk_at "c")
theorem HW (F:gW K "_law_post" "_law_post" tY f fd) (B:Bi mg) (aL:Ct P w K mg base k "_law_draw" ["_law_tape_here","_law_many"] i_) (cN:Ct P w K mg base k "_law_units" ["_law_tape_here"] mH) (qQ:Ct P w K mg base k "_law_rules" ["_law_tape_here","_law_small"] xQ):bG P w K mg base gK (k+1) f fd ["_law_tape_here"] xR:=by
 refine F.ok wA (by rintro vs H Q E ⟨a,n,rfl,_⟩; rfl) (fun cdv A outer s H vs Q E hr h=>?_)
 obtain⟨a,n,rfl,tp,hn,q⟩:=h
 have ND:=wA.nd
 refine⟨_,(aq (aV (i:=1) ND rfl (by walk_at "o") (a_ aO (cg (aa ao (aa (aU bB ao (pf aL hr (aa (pv 0) (aa ao aj)))) (aa (aU bB ao (pf aL hr (aa (pv 0) (aa (aU nW ao ao) aj)))) aj)))) (pf aL hr (aa (pv 0) (aa ao aj))) (fun _ _=>rfl))) (aq (aV (i:=2) ND rfl (by walk_at "o") (pf aL hr (aa (pv 0) (aa ao aj)))) (aq (aV (i:=3) ND rfl (by walk_at "o") (bj (aa (pf aL hr (aa (pv 0) (aa (aU bB (pv 2) ao) aj))) (aa (pv 2) aj)))) (aq (aV (i:=4) ND rfl (by walk_at "o") (bj (aa (pf aL hr (aa (pv 0) (aa ao aj))) (aa (pf aL hr (aa (pv 0) (aa ao aj))) aj)))) (aq (uw (i:=5) (j:=6) rfl ND rfl rfl (by decide) rfl rfl (aa (pf aL hr (aa (pv 0) (aa ao aj))) (aa (aU bB ao (pf aL hr (aa (pv 0) (aa ao aj)))) aj)) (by rfl)) (aC (aK (bj (aa (pv 1) (aa (pf cN hr (aa (pv 0) aj)) (aa (pv 3) (aa (pv 5) (aa (pv 6) (aa (pv 4) (aa (pf qQ hr (aa (pv 0) (aa fU aj))) aj))))))))))))))),?_⟩
 have e6:(10:Int) ^ Int.toNat 6=1000000:=by decide
 walk_at "rd"
 refine b_.of tp (by omega) (by decide) (by decide) fun y1 H1 l1 u1 t1 s1=>?_
 walk_at "rd"
 refine⟨⟨by decide,by decide,by decide⟩,b_.of t1 (by omega) (by decide) (by decide) fun y2 H2 l2 u2 t2 s2=>⟨_,_,rfl,rfl,(by decide),fun p3 H3 f3 s3 e3=>?_⟩⟩
 rw[e6] at u2
 have n3:=t2.ne f3
 refine b_.of (t2.same s3) (by omega) (by decide) (by decide) fun y4 H4 l4 u4 t4 s4=>?_
 obtain⟨pc,Yi,epc⟩:=mL (ts:=[1,1+y1,1+y2]) l4 u4
 have Yh:1<=pc/\pc<=1000000:=by
  simp only[dZ,jh,or_false] at Yi
  rcases Yi with rfl | rfl | rfl <;> omega
 refine Ix.lst (s4.get n3 e3) epc ?_
 clear Yi epc l4 u4
 refine b_.of t4 (by omega) (by decide) (by decide) fun y5 H5 l5 u5 t5 s5=>⟨_,_,rfl,rfl,?_⟩
 refine b_.of t5 (by omega) (by omega) (by omega) fun y6 H6 l6 u6 t6 s6=>⟨(by decide),fun p7 H7 f7 s7 e7=>?_⟩
 have n7:=t6.ne f7
 refine b_.of (t6.same s7) (by omega) (by decide) (by decide) fun y8 H8 l8 u8 t8 s8=>?_
 refine b_.of t8 (by omega) (by decide) (by decide) fun y9 H9 l9 u9 t9 s9=>⟨(by decide),fun XN Ck Tn ud e10=>?_⟩
 have n10:=t9.ne Tn
 refine b_.of (t9.same ud) (by omega) (by decide) (by decide) fun y11 Jm l11 u11 Xj Ft=>?_
 refine b_.of Xj (by omega) (by decide) (by decide) fun y12 H12 l12 u12 t12 s12=>⟨_,_,rfl,rfl,_,_,rfl,?_⟩
 refine vq.of t12 (by omega) fun y13 Uj l13 u13 t13 m9=>?_
 refine⟨a,_,false,rfl,t13,by omega,fun VD dF W9 Td Tc a14 U_ Cp=>⟨(by decide),fun XM M4 Wa Ac Ms=>?_⟩⟩
 have n15:=U_.ne Wa
 obtain⟨la,hla⟩:∃la:Nat,y11=(la:Int):=⟨y11.toNat,by omega⟩
 rw[hla] at Ms
 have x10:SX a Ck M4:=Ft.trans (s12.trans (m9.trans (Cp.trans (SX.of Ac))))
 have x7:SX a H7 M4:=s8.trans (s9.trans ((SX.of ud).trans x10))
 refine q XM ⟨pc,y13,y6,y5,la,1+y12,y8,y9,dF⟩ M4 ⟨Yh,⟨l13,u13⟩,by show 0<=y6/\y6<=y5; omega,by show y5<=12; omega,by show la<=4; omega,by show 1<=1+y12/\1+y12<=6; omega,by show 0<=y8/\y8<=9; omega,by show 0<=y9/\y9<=9; omega,Td,Tc⟩ ?_ ((U_.same Ac).mono (by omega)) ?_
 ·exact At.tup (by rw[bM n15]; exact Ms) (ak.cons (At.int _) (ak.cons (At.int _) (ak.cons (At.tup (by rw[bM n7]; exact x7.get n7 e7) (bI [y6,y5])) (ak.cons (At.int _) (ak.cons (At.int _) (ak.cons (At.tup (by rw[bM n10]; exact x10.get n10 e10) (bI [y8,y9])) (ak.cons (a14.mono (SX.of Ac)) ak.nil)))))))
 ·exact s1.trans (s2.trans ((SX.of s3).trans (s4.trans (s5.trans (s6.trans ((SX.of s7).trans x7))))))
structure Ci (x:cJ):Prop where
 w:vy x.w
 r:0<=x.r
 c:x.cs.length=5
 cn:∀y∈x.cs,0<=y
 sm:x.r+x.cs.sum<=12
 s:0<=x.s/\x.s<=5
 t:0<=x.t/\x.t<=9
 u:x.us.length=3
 ul:∀y∈x.us,QX y
theorem Ci.is {x:cJ} (h:Ci x):iI x:=⟨h.c,h.u,fun y hy=>by obtain⟨a,b,c,rfl,_⟩:=h.ul y hy; rfl⟩
def Fb:Sp:=fun vs H Q _=>∃(a:Addr) (n:Nat),vs=[.ref a]/\Tp H a n/\n<=100000000/\∀p x H',Ci x->At (hid a H') (fJ x) (.ref p)->Tp H' a (n+60)->SX a H H'->Q (.ref p) H'
theorem tK:aQ ["_law_tape_here","_law_left","_law_called","_law_k","_law_seen"] ["_law_tape_here"] (aG qp):=(by walk_at "c")
theorem Dv (F:gW K "_law_stand" "_law_stand" qp f fd) (B:Bi mg) (aL:Ct P w K mg base k "_law_draw" ["_law_tape_here","_law_many"] i_) (cN:Ct P w K mg base k "_law_units" ["_law_tape_here"] mH) :
  bG P w K mg base gK (k+1) f fd ["_law_tape_here"] Fb:=by
 refine F.ok tK (by rintro vs H Q E ⟨a,n,rfl,_⟩; rfl) (fun cdv A outer s H vs Q E hr h=>?_)
 obtain⟨a,n,rfl,tp,hn,q⟩:=h
 have ND:=tK.nd
 refine⟨_,(aq (uw (i:=1) (j:=2) rfl ND rfl rfl (by decide) rfl rfl (aa ao (aa (K3 aj) aj)) (by rfl)) (aq (gR PassesOwn.never rfl (cM (by rfl) B.range (aa ao aj)) (aD (i:=3) ND rfl (by walk_at "o")) (aq (iW (nU (K:=K) rfl PySem.F.plainAttrs_list PySem.F.slot_list_append PySem.F.type_list_append gm (pv 2) (aa (pf aL hr (aa (pv 0) (aa (aU bB (pb (eO rfl) B.min l_ (aa (pv 1) (aa ao aj))) ao) aj))) aj))) (aC (aV (i:=1) ND rfl (by walk_at "o") (aU gU (pv 1) (a_ aO (pv 2) (pv 3) (fun _ _=>rfl))))))) (aq (aV (i:=4) ND rfl (by walk_at "o") (pt (eN) B.tuple dq (aa (fu (N':=["_law_k","_law_tape_here"]) (js:=[0]) rfl (cM (by rfl) B.range (aa ao aj)) sU.mk1 rfl (by decide) rfl (fun fp s' H'=>(KZ (aa (pf cN hr (aa (pv 1) aj)) (aa (pf cN hr (aa (pv 1) aj)) (aa (pf cN hr (aa (pv 1) aj)) aj)))))) aj))) (aC (aK (KZ (aa (pf cN hr (aa (pv 0) aj)) (aa (pf aL hr (aa (pv 0) (aa (aU bB (pv 1) ao) aj))) (aa (pt (eN) B.tuple dq (aa (pv 2) aj)) (aa (pf aL hr (aa (pv 0) (aa ao aj))) (aa (pf aL hr (aa (pv 0) (aa ao aj))) (aa (pv 4) aj)))))))))))),?_⟩
 walk_at "rd"
 refine⟨dG _,fun p hp=>⟨_,_,rfl,?_⟩⟩
 have pa:p≠a:=tp.ne hp
 refine Gp (n:=5) (fun R hR=>hR) (by decide) (fun i σ H'=>∃(left:Int) (cs:List Int) (o3:Option V),σ=[some (.ref a),some (.int left),some (.ref p),o3,none]/\H' p=some (.lst (cs.map V.int))/\cs.length=i/\(∀c∈cs,0<=c)/\cs.sum+left=12/\(0<=left/\left<=12)/\Tp H' a (n+i)/\SX a H H')
  ⟨12,[],none,rfl,az,rfl,fun c h=>by simp at h,rfl,⟨by decide,by decide⟩,tp.same (aM hp _),SX.of (aM hp _)⟩ ?_ ?_
 ·rintro i σ H1 hi ⟨left,cs,o3,rfl,h1,h2,h3,h4,h5,t1,s1⟩
  walk_at "rd"
  refine⟨.inl ⟨rfl,_,fQ.of h1⟩,?_⟩
  refine b_.of t1 (by omega) (by split <;> omega) (by split <;> omega) fun v H2 l2 u2 t2 s2=>?_
  have h1':=s2.get pa h1
  refine⟨p,_,_,rfl,rfl,h1',by rw[eY]; exact aZ (by omega),?_⟩
  have e:(cs.map V.int++[V.int v])=(cs++[v]).map V.int:=by simp
  rw[e]
  refine Ix.lst az (v:=.int v) ?_ ?_
  ·have:=aP (xs:=(cs++[v]).map V.int) (j:=i) (v:=.int v) (by subst h2; simp)
   rw[wH]; exact this
  ·walk_at "rd"
   have lv:v<=left:=by split at u2 <;> omega
   refine⟨left-v,cs++[v],_,rfl,az,by rw[dR,h2]; rfl,fun c hc=>?_,?_,by omega,?_,?_⟩
   ·rcases lB.mp hc with z | z
    ·exact h3 c z
    ·rw[fP.mp z]; exact l2
   ·rw[List.sum_append]; simp; omega
   ·exact t2.dw pa
   ·exact(s1.trans s2).dw hp pa
 ·rintro σ H1 ⟨left,cs,o3,rfl,h1,h2,h3,h4,h5,t1,s1⟩
  walk_at "rd"
  refine Mu (n:=3) (fun R hR=>hR) (by decide) fun acc hacc=>?_
  have ca:acc≠a:=t1.ne hacc
  refine⟨fun i ys H'=>∃us:List (List Int),us.length=i/\(∀u∈us,QX u)/\ak (hid acc (hid a H')) (us.map dh) ys/\ys.length=i/\H' acc=some (.lst ys)/\Tp H' a (n+5+12*i)/\SX a H1 H',?_,?_,?_⟩
  ·exact⟨[],rfl,fun u h=>by simp at h,ak.nil,rfl,az,t1.dw ca,(SX.refl a H1).dw hacc ca⟩
  ·rintro i ys H2 hi ⟨us,l2,u2,a2,y2,c2,t2,s2⟩
   show Ra _ [some _,some (.ref a)] H2 _
   walk_at "rd"
   refine vq.of t2 (by omega) fun v1 H3 l3 u3 t3 s3=>?_
   refine vq.of t3 (by omega) fun v2 H4 l4 u4 t4 s4=>?_
   refine vq.of t4 (by omega) fun v3 H5 l5 u5 t5 s5=>?_
   refine⟨(by show 3<=sizeLine; decide),fun t ht=>?_⟩
   have Jq:=s3.trans (s4.trans s5)
   have ta:t≠a:=t5.ne ht
   have c5:=Jq.get ca c2
   have tc:t≠acc:=fun z=>by subst z; rw[ht] at c5; cases c5
   refine⟨by rw[aJ (Ne.symm tc)]; exact c5,aZ (by omega),us++[[v1,v2,v3]],by rw[dR,l2]; rfl,fun u hu=>?_,?_,by rw[dR,y2]; rfl,az,?_,?_⟩
   ·rcases lB.mp hu with z | z
    ·exact u2 u z
    ·rw[fP.mp z]; exact⟨v1,v2,v3,rfl,⟨l3,u3⟩,⟨l4,u4⟩,⟨l5,u5⟩⟩
   ·rw[bV ca,ik,bV ta,bV tc,yh]
    have fr:(hid acc (hid a H5)) t=none:=by rw[bM tc,bM ta]; exact ht
    refine ak.append ((a2.mono (aA.hid Jq)).mono (aM fr _)) (ak.cons (At.tup az ?_) ak.nil)
    exact ak.cons (At.int _) (ak.cons (At.int _) (ak.cons (At.int _) ak.nil))
   ·exact((t5.dw ta).dw ca).mono (by omega)
   ·exact(((s2.trans Jq).trans (SX.of (aM ht _))).dw hacc ca)
  ·rintro ys H2 ⟨us,l2,u2,a2,y2,c2,t2,s2⟩
   refine⟨acc,ys,rfl,c2,fun l hl=>?_⟩
   have la:l≠a:=t2.ne hl
   have A1:At (hid a (upd H2 l (.tup ys))) (.tuple (us.map dh)) (.ref l):=by
    rw[bV la]
    have fr:hid a H2 l=none:=by rw[bM la]; exact hl
    exact At.tup az ((a2.mono fB).mono (aM fr _))
   have p2:upd H2 l (.tup ys) p=some (.lst (cs.map V.int)):=by
    have:=s2.get pa h1
    rw[aJ (fun z=>by subst z; rw[hl] at this; cases this)]; exact this
   refine vq.of (t2.dw la) (by omega) fun v3 H3 l3 u3 t3 s3=>?_
   refine b_.of t3 (by omega) (by omega) (by omega) fun v4 H4 l4 u4 t4 s4=>?_
   refine⟨p,_,rfl,s4.get pa (s3.get pa p2),fun m hm=>?_⟩
   have ma:m≠a:=t4.ne hm
   have A2:At (hid a (upd H4 m (.tup (cs.map V.int)))) (.tuple (cs.map .int)) (.ref m):=by
    rw[bV ma]
    exact At.tup az (bI cs)
   have A1':At (hid a (upd H4 m (.tup (cs.map V.int)))) (.tuple (us.map dh)) (.ref l):=(A1.mono (s3.trans s4)).mono (SX.of (aM hm _))
   refine b_.of (t4.dw ma) (by omega) (by decide) (by decide) fun v5 H5 l5 u5 t5 s5=>?_
   refine b_.of t5 (by omega) (by decide) (by decide) fun v6 H6 l6 u6 t6 s6=>?_
   refine⟨(by show 6<=sizeLine; decide),fun z hz=>?_⟩
   have za:z≠a:=t6.ne hz
   have fr:hid a H6 z=none:=by rw[bM za]; exact hz
   have T9:=s5.trans s6
   refine q z ⟨v3,v4,cs,v5,v6,us⟩ _ ⟨⟨l3,u3⟩,l4,h2,h3,by show v4+cs.sum<=12; omega,⟨l5,by show v5<=5; omega⟩,⟨l6,by show v6<=9; omega⟩,l2,u2⟩ ?_ ((t6.dw za).mono (by omega)) ?_
   ·rw[bV za]
    exact At.tup az (ak.cons (At.int _) (ak.cons (At.int _) (ak.cons ((A2.mono T9).mono (aM fr _)) (ak.cons (At.int _) (ak.cons (At.int _) (ak.cons ((A1'.mono T9).mono (aM fr _)) ak.nil))))))
   ·refine SX.trans s1 (SX.trans s2 (SX.trans (SX.of (aM hl _)) (SX.trans s3 (SX.trans s4 (SX.trans (SX.of (aM hm _)) (SX.trans s5 (SX.trans s6 (SX.of (aM hz _)))))))))
end
def whole (d:PyData):Bool:=isInt d && !isBool d
def fV (d:PyData) (i:Int):Bool:=match d with
 | .int n=>decide (i<=n)
 | _=>false
def cH (d:PyData) (i j:Int):Bool:=match d with
 | .int n=>decide (i<=n)&&decide (n<=j)
 | _=>false
def dD (d:PyData) (n:Int):Bool:=match d with
 | .tuple ds=>decide ((ds.length:Int)=n)
 | _=>false
section
variable {P:Program} {w:World} {K:PySem.W.Frag} {mg:Str->Option Value} {base:Heap} {f:Addr} {fd:FuncData} {k:Nat}
theorem rm:aQ ["thing"] ["thing"] (aG nM):=(by walk_at "c")
theorem Bg (F:gW K "is_whole" "is_whole" nM f fd) (B:Bi mg):bG P w K mg base gK (k+1) f fd ["thing"] (mV whole):=by
 refine F.ok rm (mV.len rfl) (fun cdv A outer s H vs Q E hr h=>?_)
 obtain⟨v,d,rfl,hv,q⟩:=h
 have ND:=rm.nd
 refine⟨_,(aC (aK (cR (pb Pz B.isinstance dX (aa (pv 0) (aa (pty (by rfl) B.int Eo) aj))) (jM (RV (pb Mf B.isinstance dX (aa (pv 0) (aa (pty (by rfl) B.bool Qa) aj)))))))),?_⟩
 walk_at "rd"
 refine Wj.of hv ?_
 walk_at "rd"
 cases e:isInt d with
 | true=>
  rw[bc rfl]
  refine Wj.of hv ?_
  walk_at "rd"
  have:=q H (aA.refl H)
  unfold whole at this
  rw[e] at this
  exact this
 | false=>
  rw[aX (by decide)]
  have:=q H (aA.refl H)
  unfold whole at this
  rw[e] at this
  exact this
theorem tR:aQ ["thing","least"] ["thing","least"] (aG qz):=(by walk_at "c")
theorem vX {d:PyData} (h:whole d=true):∃i,d=.int i:=by
 cases d <;> first | exact⟨_,rfl⟩ | (exfalso; revert h; simp[whole,isInt,isBool])
theorem DK (F:gW K "is_from" "is_from" qz f fd) (gD:Ct P w K mg base k "is_whole" ["thing"] (mV whole)):bG P w K mg base gK (k+1) f fd ["thing","least"] (gY fV):=by
 refine F.ok tR (gY.len rfl) (fun cdv A outer s H vs Q E hr h=>?_)
 obtain⟨v,d,i,rfl,hv,q⟩:=h
 have ND:=tR.nd
 refine⟨_,(aC (aK (cR (pf gD hr (aa (pv 0) aj)) (jM (ig QF (pv 0) (pv 1) (bu _)))))),?_⟩
 walk_at "rd"
 refine B1.of hv fun H1 s1=>?_
 walk_at "rd"
 have q1:=q H1 s1
 cases e:whole d with
 | true=>
  rw[bc rfl]
  obtain⟨n,rfl⟩:=vX e
  unfold At at hv
  subst hv
  walk_at "rd"
  exact q1
 | false=>
  rw[aX (by decide)]
  have:fV d i=false:=by cases d <;> first | rfl | (exfalso; revert e; simp[whole,isInt,isBool])
  rw[this] at q1
  exact q1
theorem m7:aQ ["thing","least","most"] ["thing","least","most"] (aG jF):=(by walk_at "c")
theorem vN (F:gW K "is_between" "is_between" jF f fd) (gD:Ct P w K mg base k "is_whole" ["thing"] (mV whole)):bG P w K mg base gK (k+1) f fd ["thing","least","most"] (m5 cH):=by
 refine F.ok m7 (m5.len rfl) (fun cdv A outer s H vs Q E hr h=>?_)
 obtain⟨v,d,i,j,rfl,hv,q⟩:=h
 have ND:=m7.nd
 refine⟨_,(aC (aK (cR (pf gD hr (aa (pv 0) aj)) (jM (K7 A_ A_ (pv 1) (pv 0) (pv 2)))))),?_⟩
 walk_at "rd"
 refine B1.of hv fun H1 s1=>?_
 walk_at "rd"
 have q1:=q H1 s1
 cases e:whole d with
 | true=>
  rw[bc rfl]
  obtain⟨n,rfl⟩:=vX e
  unfold At at hv
  subst hv
  walk_at "rd"
  have q1:Q (.bl (decide (i<=n)&&decide (n<=j))) H1:=q1
  cases e1:decide (i<=n) with
  | true=>rw[e1] at q1; rw[bc rfl]; exact q1
  | false=>rw[e1] at q1; rw[aX (by decide)]; exact q1
 | false=>
  rw[aX (by decide)]
  have:cH d i j=false:=by cases d <;> first | rfl | (exfalso; revert e; simp[whole,isInt,isBool])
  rw[this] at q1
  exact q1
theorem kE:aQ ["thing","many"] ["thing","many"] (aG jd):=(by walk_at "c")
theorem cD {H:Hp} {d:PyData} {v:V} (h:At H d v) (e:isTup d=true):∃a xs ds,d=.tuple ds/\v=.ref a/\H a=some (.tup xs)/\ak H ds xs:=by
 cases d <;> first | (exfalso; revert e; simp[isTup]; done) | skip
 unfold At at h
 obtain⟨a,xs,e1,e2,e3⟩:=h
 exact⟨a,xs,_,rfl,e1,e2,e3⟩
theorem uD (F:gW K "is_tuple_of" "is_tuple_of" jd f fd) (B:Bi mg):bG P w K mg base gK (k+1) f fd ["thing","many"] (gY dD):=by
 refine F.ok kE (gY.len rfl) (fun cdv A outer s H vs Q E hr h=>?_)
 obtain⟨v,d,i,rfl,hv,q⟩:=h
 have ND:=kE.nd
 refine⟨_,(aC (aK (cR (pb yX B.isinstance dX (aa (pv 0) (aa (pty (by rfl) B.tuple dq) aj))) (jM (ig gP (pb (gA (K:=K) rfl) B.len oH (aa (pv 0) aj)) (pv 1) (bu _)))))),?_⟩
 walk_at "rd"
 refine Wj.of hv ?_
 walk_at "rd"
 have q1:=q H (aA.refl H)
 cases e:isTup d with
 | true=>
  rw[bc rfl]
  obtain⟨a,xs,ds,rfl,rfl,h1,h2⟩:=cD hv e
  refine⟨a,xs,rfl,.inr (bW.of h1),rfl,?_⟩
  have:V.bl (decide (V.int (xs.length:Int)=V.int i))=V.bl (dD (.tuple ds) i):=by
   unfold dD; rw[h2.length]; simp
  rw[this]
  exact q1
 | false=>
  rw[aX (by decide)]
  have:dD d i=false:=by cases d <;> first | rfl | (exfalso; revert e; simp[isTup])
  rw[this] at q1
  exact q1
def fD (d:PyData) (n:Int):Bool:=match d with
 | .tuple ds=>decide ((ds.length:Int)=n)&&(ds.map (fV · 0)).all id
 | _=>false
theorem m8:aQ ["thing","many"] ["thing","many"] (aG jG):=(by walk_at "c")
def Dd (f:PyData->Int->Bool):Sp:=fun vs H Q _=>∃v d i,vs=[v,.int i]/\At H d v/\i<=1000/\∀H',aA H H'->Q (.bl (f d i)) H'
theorem Cn.of {g:PyData->Int->Bool} {v:V} {d:PyData} {i:Int} {H:Hp} {Q:VK} {E:XK} (h:At H d v) (hi:i<=1000) (q:∀H',aA H H'->Q (.bl (g d i)) H'):Dd g ([v,.int i]++[]) H Q E:=⟨v,d,i,rfl,h,hi,q⟩
theorem Dd.len {g:PyData->Int->Bool} {ps:List Str} (h:ps.length=2):∀vs H Q E,Dd g vs H Q E->vs.length=ps.length:=by rintro vs H Q E ⟨v,d,i,rfl,_⟩; exact h.symm
theorem vO (F:gW K "are_counts" "are_counts" jG f fd) (B:Bi mg) (aY:Ct P w K mg base k "is_tuple_of" ["thing","many"] (gY dD)) (dB:Ct P w K mg base k "is_from" ["thing","least"] (gY fV)) :
  bG P w K mg base gK (k+1) f fd ["thing","many"] (Dd fD):=by
 refine F.ok m8 (Dd.len rfl) (fun cdv A outer s H vs Q E hr h=>?_)
 obtain⟨v,d,i,rfl,hv,hi,q⟩:=h
 have ND:=m8.nd
 refine⟨_,(aq (bQ (fZ (bT (pf aY hr (aa (pv 0) (aa (pv 1) aj))))) (aC (aK fU)) bz) (aC (aK (pb (jB rfl) B.all vo (aa (fu (N':=["number"]) (js:=[]) rfl (e_ (K:=K) rfl (pv 0)) sU.Su rfl (by decide) rfl (fun fp s' H'=>(pf dB hr (aa (pv 0) (aa ao aj))))) aj))))),?_⟩
 walk_at "rd"
 refine M9.of hv fun H1 s1=>?_
 walk_at "rd"
 cases e:dD d i with
 | false=>
  rw[bc (by decide)]
  have:fD d i=false:=by
   cases d <;> first | rfl | skip
   rename_i ds
   have e':decide ((ds.length:Int)=i)=false:=e
   show(decide ((ds.length:Int)=i)&&_)=false
   rw[e']; rfl
  have q1:=q H1 s1
  rw[this] at q1
  exact q1
 | true=>
  rw[aX (by decide)]
  have et:isTup d=true:=by cases d <;> first | rfl | (exfalso; revert e; simp[dD])
  obtain⟨a,xs,ds,rfl,rfl,h1,h2⟩:=cD hv et
  have e':decide ((ds.length:Int)=i)=true:=e
  refine Ef (f:=(fV · 0)) (fun R hR=>?_) (s1 _ _ h1) (h2.mono s1) (jH (aZ (by have:=iK e'; omega))) (fun x d' H' s' hx R hR=>?_) (fun acc H' s' hl=>?_)
  ·walk_at "rd"; exact hR
  ·walk_at "rd"
   exact M9.of hx hR
  ·refine⟨acc,_,rfl,hl,?_⟩
   have q1:=q H' (s1.trans s')
   have q1:Q (.bl (decide ((ds.length:Int)=i)&&(ds.map (fV · 0)).all id)) H':=q1
   rw[e'] at q1
   exact q1
def intOf:PyData->Int
 | .int i=>i
 | _=>0
def partsOf:PyData->List PyData
 | .tuple ds=>ds
 | _=>[]
def uN (r c:PyData):Bool:=fV r 0&&fD c 5&&decide (intOf r+((partsOf c).map intOf).sum<=12)
theorem BJ {d:PyData} {i:Int} (h:fV d i=true):∃n,d=.int n/\i<=n:=by
 cases d <;> first | exact⟨_,rfl,iK h⟩ | (exfalso; revert h; simp[fV])
theorem ints_of {H:Hp}:∀{ds:List PyData} {xs:List V},ak H ds xs->(ds.map (fV · 0)).all id=true->xs=(ds.map intOf).map V.int
 | [],xs,h,_=>by unfold ak at h; rw[h]; rfl
 | d::ds,xs,h,e=>by
  unfold ak at h
  obtain⟨x,r,rfl,h1,h2⟩:=h
  have e':fV d 0=true/\(ds.map (fV · 0)).all id=true:=by simpa using e
  obtain⟨n,rfl,_⟩:=BJ e'.1
  unfold At at h1
  rw[h1,ints_of h2 e'.2]
  rfl
theorem zg {d:PyData} {n:Int} (h:fD d n=true):∃ds,d=.tuple ds/\(ds.length:Int)=n/\(ds.map (fV · 0)).all id=true:=by
 cases d <;> first | (exfalso; revert h; simp[fD]; done) | skip
 rename_i ds
 have h':(decide ((ds.length:Int)=n)&&(ds.map (fV · 0)).all id)=true:=h
 rw[uo] at h'
 exact⟨ds,rfl,iK h'.1,h'.2⟩
theorem pF:aQ ["ready","called"] ["ready","called"] (aG k_):=(by walk_at "c")
theorem yJ (F:gW K "are_hands" "are_hands" k_ f fd) (B:Bi mg) (O:Co K mg) (dB:Ct P w K mg base k "is_from" ["thing","least"] (gY fV)) (dC:Ct P w K mg base k "are_counts" ["thing","many"] (Dd fD)) :
  bG P w K mg base gK (k+1) f fd ["ready","called"] (Hm uN):=by
 refine F.ok pF (Hm.len rfl) (fun cdv A outer s H vs Q E hr h=>?_)
 obtain⟨v,d,v',d',rfl,hv,hv',q⟩:=h
 have ND:=pF.nd
 refine⟨_,(aq (bQ (PW.pt (pJ (fZ (bT (pf dB hr (aa (pv 0) (aa ao aj))))) (jK (fZ (bT (pf dC hr (aa (pv 1) (aa (cI O.vW) aj)))))))) (aC (aK fU)) bz) (aC (aK (ig A_ (aU bB (pv 0) (pb (qO rfl) B.sum En (aa (pv 1) aj))) (cI O.jZ) (bu _))))),?_⟩
 walk_at "rd"
 refine M9.of hv fun H1 s1=>?_
 walk_at "rd"
 cases e:fV d 0 with
 | false=>
  rw[bc (by decide)]
  have q1:=q H1 s1
  unfold uN at q1
  rw[e] at q1
  exact q1
 | true=>
  rw[aX (by decide)]
  refine Cn.of (hv'.mono s1) (by decide) fun H2 s2=>?_
  walk_at "rd"
  have q2:=q H2 (s1.trans s2)
  unfold uN at q2
  rw[e] at q2
  cases e2:fD d' 5 with
  | false=>
   rw[bc (by decide)]
   rw[e2] at q2
   exact q2
  | true=>
   rw[aX (by decide)]
   rw[e2] at q2
   obtain⟨ds,rfl,hn,ha⟩:=zg e2
   obtain⟨n,rfl,_⟩:=BJ e
   obtain⟨a,xs,ds',e3,rfl,h1,h2⟩:=cD hv' rfl
   cases e3
   unfold At at hv
   subst hv
   walk_at "rd"
   refine⟨a,ds.map intOf,rfl,.inr (s2 _ _ (s1 _ _ (by rw[h1,ints_of h2 ha]))),?_⟩
   exact q2
def fW (d:PyData):Bool:=match d with
 | .tuple [a,b,c,e,r,s]=>fV a 0&&uN b c&&cH e 0 5&&cH r 0 9&&dD s 3&&((partsOf s).map (fD · 3)).all id
 | _=>false
theorem Sx {α:Type} {l:List α} (h:l.length=6):∃a b c d e f,l=[a,b,c,d,e,f]:=by
 match l,h with
 | [a,b,c,d,e,f],_=>exact⟨a,b,c,d,e,f,rfl⟩
theorem rn:aQ ["thing","wait","ready","called","since","rest","seen"] ["thing"] (aG nO):=(by walk_at "c")
theorem Bh (F:gW K "is_stand" "is_stand" nO f fd) (B:Bi mg) (O:Co K mg) (aY:Ct P w K mg base k "is_tuple_of" ["thing","many"] (gY dD)) (dB:Ct P w K mg base k "is_from" ["thing","least"] (gY fV))
  (aR:Ct P w K mg base k "is_between" ["thing","least","most"] (m5 cH)) (lZ:Ct P w K mg base k "are_hands" ["ready","called"] (Hm uN)) (dC:Ct P w K mg base k "are_counts" ["thing","many"] (Dd fD)) :
  bG P w K mg base gK (k+1) f fd ["thing"] (mV fW):=by
 refine F.ok rn (mV.len rfl) (fun cdv A outer s H vs Q E hr h=>?_)
 obtain⟨v,d,rfl,hv,q⟩:=h
 have ND:=rn.nd
 refine⟨_,(aq (bQ (fZ (bT (pf aY hr (aa (pv 0) (aa ao aj))))) (aC (aK fU)) bz) (aq (cQ (pv 0) (b8 (K:=K) (n:=6) rfl rfl (aF (aD (i:=1) ND rfl (by walk_at "o")) (aF (aD (i:=2) ND rfl (by walk_at "o")) (aF (aD (i:=3) ND rfl (by walk_at "o")) (aF (aD (i:=4) ND rfl (by walk_at "o")) (aF (aD (i:=5) ND rfl (by walk_at "o")) (aF (aD (i:=6) ND rfl (by walk_at "o")) b7)))))))) (aC (aK (cR (pf dB hr (aa (pv 1) (aa ao aj))) (cR (pf lZ hr (aa (pv 2) (aa (pv 3) aj))) (cR (pf aR hr (aa (pv 4) (aa ao (aa (cI O.Es) aj)))) (cR (pf aR hr (aa (pv 5) (aa ao (aa (cI O.xr) aj)))) (cR (pf aY hr (aa (pv 6) (aa (cI O.qd) aj))) (jM (pb (jB rfl) B.all vo (aa (fu (N':=["triple"]) (js:=[]) rfl (e_ (K:=K) rfl (pv 6)) sU.Su rfl (by decide) rfl (fun fp s' H'=>(pf dC hr (aa (pv 0) (aa (pb (gA (K:=K) rfl) B.len oH (aa (KY (K:=K) rfl (Uk.gt O.GX)) aj)) aj))))) aj)))))))))))),?_⟩
 walk_at "rd"
 refine M9.of hv fun H1 s1=>?_
 walk_at "rd"
 cases e:dD d 6 with
 | false=>
  rw[bc (by decide)]
  have q1:=q H1 s1
  have:fW d=false:=by
   unfold fW
   split
   ·exfalso; revert e; simp[dD]
   ·rfl
  rw[this] at q1
  exact q1
 | true=>
  rw[aX (by decide)]
  have et:isTup d=true:=by cases d <;> first | rfl | (exfalso; revert e; simp[dD])
  obtain⟨a,xs,ds,rfl,rfl,h1,h2⟩:=cD hv et
  have e':(ds.length:Int)=6:=iK e
  obtain⟨d1,d2,d3,d4,d5,d6,rfl⟩:=Sx (show ds.length=6 by omega)
  obtain⟨x1,_,rfl,a1,h2⟩:=ak.aN h2
  obtain⟨x2,_,rfl,a2,h2⟩:=ak.aN h2
  obtain⟨x3,_,rfl,a3,h2⟩:=ak.aN h2
  obtain⟨x4,_,rfl,a4,h2⟩:=ak.aN h2
  obtain⟨x5,_,rfl,a5,h2⟩:=ak.aN h2
  obtain⟨x6,_,rfl,a6,h2⟩:=ak.aN h2
  cases ak.j5 h2
  refine⟨a,_,rfl,bW.of (s1 _ _ h1),rfl,?_⟩
  walk_at "rd"
  have no:∀{H':Hp},aA H H'->fW (.tuple [d1,d2,d3,d4,d5,d6])=false->Q (.bl false) H':=fun {H'} s' e=>by rw[<- e]; exact q H' s'
  refine M9.of (a1.mono s1) fun H2 s2=>?_
  walk_at "rd"
  have s2:=s1.trans s2
  refine bF (fun b1=>?_) (fun b1=>no s2 (by simp[fW,b1]))
  refine B2.of (a2.mono s2) (a3.mono s2) fun H3 s3=>?_
  walk_at "rd"
  have s3:=s2.trans s3
  refine bF (fun b2=>?_) (fun b2=>no s3 (by simp[fW,b2]))
  refine G9.of (a4.mono s3) fun H4 s4=>?_
  walk_at "rd"
  have s4:=s3.trans s4
  refine bF (fun b3=>?_) (fun b3=>no s4 (by simp[fW,b3]))
  refine G9.of (a5.mono s4) fun H5 s5=>?_
  walk_at "rd"
  have s5:=s4.trans s5
  refine bF (fun b4=>?_) (fun b4=>no s5 (by simp[fW,b4]))
  refine M9.of (a6.mono s5) fun H6 s6=>?_
  walk_at "rd"
  have s6:=s5.trans s6
  refine bF (fun b5=>?_) (fun b5=>no s6 (by simp[fW,b5]))
  have et6:isTup d6=true:=by cases d6 <;> first | rfl | (exfalso; revert b5; simp[dD])
  obtain⟨a',xs',ds',rfl,rfl,h1',h2'⟩:=cD a6 et6
  have b5':(ds'.length:Int)=3:=iK b5
  refine Ef (f:=(fD · 3)) (fun R hR=>?_) (s6 _ _ h1') (h2'.mono s6) (jH (aZ (by omega))) (fun x d' H' s' hx R hR=>?_) (fun acc H' s' hl=>?_)
  ·walk_at "rd"; exact hR
  ·walk_at "rd"
   intro aw hw
   refine⟨aw,_,rfl,.inr (hw _),?_⟩
   exact Cn.of hx (by decide) hR
  ·refine⟨acc,_,rfl,hl,?_⟩
   have q1:=q H' (s6.trans s')
   have:fW (.tuple [d1,d2,d3,d4,d5,.tuple ds'])=(ds'.map (fD · 3)).all id:=by
    show(_&&_&&_&&_&&_&&_)=_
    rw[b1,b2,b3,b4,b5]; rfl
   rw[this] at q1
   exact q1
theorem Ph {α:Type} {l:List α} (h:l.length=2):∃a b,l=[a,b]:=by
 match l,h with
 | [a,b],_=>exact⟨a,b,rfl⟩
theorem Ce {d:PyData} {i j:Int} (h:cH d i j=true):∃n,d=.int n/\i<=n/\n<=j:=by
 cases d <;> first | (exfalso; revert h; simp[cH]; done) | skip
 rename_i n
 have h':(decide (i<=n)&&decide (n<=j))=true:=h
 rw[uo] at h'
 exact⟨n,rfl,iK h'.1,iK h'.2⟩
theorem iR {d:PyData} {n:Int} (h:dD d n=true):∃ds,d=.tuple ds/\(ds.length:Int)=n:=by
 cases d <;> first | (exfalso; revert h; simp[dD]; done) | skip
 exact⟨_,rfl,iK h⟩
def jX (d:PyData):Bool:=match d with
 | .tuple [l,m]=>cH m 0 12&&cH l 0 (intOf m)
 | _=>false
theorem eX:aQ ["thing","least","most"] ["thing"] (aG cP):=(by walk_at "c")
theorem jP (F:gW K "are_bounds_of_hands" "are_bounds_of_hands" cP f fd) (O:Co K mg) (aY:Ct P w K mg base k "is_tuple_of" ["thing","many"] (gY dD)) (aR:Ct P w K mg base k "is_between" ["thing","least","most"] (m5 cH)) :
  bG P w K mg base gK (k+1) f fd ["thing"] (mV jX):=by
 refine F.ok eX (mV.len rfl) (fun cdv A outer s H vs Q E hr h=>?_)
 obtain⟨v,d,rfl,hv,q⟩:=h
 have ND:=eX.nd
 refine⟨_,(aq (bQ (fZ (bT (pf aY hr (aa (pv 0) (aa ao aj))))) (aC (aK fU)) bz) (aq (cQ (pv 0) (b8 (K:=K) (n:=2) rfl rfl (aF (aD (i:=1) ND rfl (by walk_at "o")) (aF (aD (i:=2) ND rfl (by walk_at "o")) b7)))) (aC (aK (cR (pf aR hr (aa (pv 2) (aa ao (aa (cI O.jZ) aj)))) (jM (pf aR hr (aa (pv 1) (aa ao (aa (pv 2) aj)))))))))),?_⟩
 have no:∀{H':Hp},aA H H'->jX d=false->Q (.bl false) H':=fun {H'} s' e=>by rw[<- e]; exact q H' s'
 walk_at "rd"
 refine M9.of hv fun H1 s1=>?_
 walk_at "rd"
 refine ji (fun c1=>no s1 ?_) (fun c1=>?_)
 ·unfold jX
  split
  ·exfalso; revert c1; simp[dD]
  ·rfl
 obtain⟨ds,rfl,hn⟩:=iR c1
 obtain⟨d1,d2,rfl⟩:=Ph (show ds.length=2 by omega)
 obtain⟨a,xs,ds',e,rfl,h1,h2⟩:=cD hv rfl
 cases e
 obtain⟨x1,_,rfl,a1,h2⟩:=ak.aN h2
 obtain⟨x2,_,rfl,a2,h2⟩:=ak.aN h2
 cases ak.j5 h2
 refine⟨a,_,rfl,bW.of (s1 _ _ h1),rfl,?_⟩
 walk_at "rd"
 refine G9.of (a2.mono s1) fun H2 s2=>?_
 have s2:=s1.trans s2
 walk_at "rd"
 refine bF (fun c2=>?_) (fun c2=>no s2 (by simp[jX,c2]))
 obtain⟨n,rfl,_⟩:=Ce c2
 unfold At at a2
 subst a2
 refine G9.of (a1.mono s2) fun H3 s3=>?_
 have q1:=q H3 (s2.trans s3)
 have e:jX (.tuple [d1,.int n])=cH d1 0 n:=by
  show(_&&_)=_
  rw[c2]; rfl
 rw[e] at q1
 exact q1
def pairD (d:PyData) (m:Int):Bool:=match d with
 | .tuple ds=>decide ((ds.length:Int)=2)&&(ds.map (cH · 0 m)).all id
 | _=>false
theorem pC:aQ ["thing"] ["thing"] (aG kZ):=(by walk_at "c")
theorem yI (F:gW K "are_rests" "are_rests" kZ f fd) (B:Bi mg) (O:Co K mg) (aY:Ct P w K mg base k "is_tuple_of" ["thing","many"] (gY dD)) (aR:Ct P w K mg base k "is_between" ["thing","least","most"] (m5 cH)) :
  bG P w K mg base gK (k+1) f fd ["thing"] (mV (pairD · 9)):=by
 refine F.ok pC (mV.len rfl) (fun cdv A outer s H vs Q E hr h=>?_)
 obtain⟨v,d,rfl,hv,q⟩:=h
 have ND:=pC.nd
 refine⟨_,(aq (bQ (fZ (bT (pf aY hr (aa (pv 0) (aa ao aj))))) (aC (aK fU)) bz) (aC (aK (pb (jB rfl) B.all vo (aa (fu (N':=["beats"]) (js:=[]) rfl (e_ (K:=K) rfl (pv 0)) sU.Su rfl (by decide) rfl (fun fp s' H'=>(pf aR hr (aa (pv 0) (aa ao (aa (cI O.xr) aj)))))) aj))))),?_⟩
 have no:∀{H':Hp},aA H H'->pairD d 9=false->Q (.bl false) H':=fun {H'} s' e=>by rw[<- e]; exact q H' s'
 walk_at "rd"
 refine M9.of hv fun H1 s1=>?_
 walk_at "rd"
 refine ji (fun c1=>no s1 ?_) (fun c1=>?_)
 ·cases d <;> first | rfl | skip
  show(decide _&&_)=false
  rw[show decide _=false from c1]; rfl
 obtain⟨ds,rfl,hn⟩:=iR c1
 obtain⟨a,xs,ds',e,rfl,h1,h2⟩:=cD hv rfl
 cases e
 refine Ef (f:=(cH · 0 9)) (fun R hR=>?_) (s1 _ _ h1) (h2.mono s1) (jH (aZ (by omega))) (fun x d' H' s' hx R hR=>?_) (fun acc H' s' hl=>?_)
 ·walk_at "rd"; exact hR
 ·walk_at "rd"
  exact G9.of hx hR
 ·refine⟨acc,_,rfl,hl,?_⟩
  have q1:=q H' (s1.trans s')
  have q1:Q (.bl (decide ((ds.length:Int)=2)&&(ds.map (cH · 0 9)).all id)) H':=q1
  rw[lu hn] at q1
  exact q1
def isZ:PyData->Bool
 | .int n=>decide (n=0)
 | _=>false
def Ye (d:PyData):Bool:=(["come","done","wait"]:List Str).any (S_ d ·)
def iV (c e g:PyData):Bool:=if S_ c "each" = true then cH e 1 1000000000000&&cH g 0 0 else(["over","under"]:List Str).any (S_ c ·)&&cH e 0 1000000000000&&cH g (-12) 12 && !isZ g
def vJ (d:PyData):Bool:=match d with
 | .tuple [a,b,c,e,g]=>Ye a&&cH b 1 4&&iV c e g
 | _=>false
theorem wD:aQ ["thing","what","span","sign","number","step"] ["thing"] (aG uc):=(by walk_at "c")
theorem H_ (F:gW K "is_row" "is_row" uc f fd) (O:Co K mg) (aY:Ct P w K mg base k "is_tuple_of" ["thing","many"] (gY dD)) (aR:Ct P w K mg base k "is_between" ["thing","least","most"] (m5 cH)) :
  bG P w K mg base gK (k+1) f fd ["thing"] (Dc vJ):=by
 refine F.ok wD (Dc.len rfl) (fun cdv A outer s H vs Q E hr h=>?_)
 obtain⟨v,d,rfl,hv,nd,q⟩:=h
 have ND:=wD.nd
 refine⟨_,(aq (bQ (fZ (bT (pf aY hr (aa (pv 0) (aa ao aj))))) (aC (aK fU)) bz) (aq (cQ (pv 0) (b8 (K:=K) (n:=5) rfl rfl (aF (aD (i:=1) ND rfl (by walk_at "o")) (aF (aD (i:=2) ND rfl (by walk_at "o")) (aF (aD (i:=3) ND rfl (by walk_at "o")) (aF (aD (i:=4) ND rfl (by walk_at "o")) (aF (aD (i:=5) ND rfl (by walk_at "o")) b7))))))) (aq (bQ (PW.pt (pJ (bf (rE (K:=K) rfl hr.units) (pv 1) (KY (K:=K) rfl (Uk.gt O.GX)) (by with_unfolding_all rfl)) (jK (fZ (bT (pf aR hr (aa (pv 2) (aa ao (aa (cI O.Ji) aj))))))))) (aC (aK fU)) bz) (aq (bQ (bf (K_ hr.Q9) (pv 3) (qI O.EACH) (bu _)) (aC (aK (cR (pf aR hr (aa (pv 4) (aa ao (aa (cI O.oJ) aj)))) (jM (pf aR hr (aa (pv 5) (aa ao (aa ao aj)))))))) bz) (aq (bQ (PW.pt (pJ (bf (rE (K:=K) rfl hr.units) (pv 3) (bj (aa (qI O.OVER) (aa (qI O.UNDER) aj))) (by with_unfolding_all rfl)) (jK (fZ (bT (pf aR hr (aa (pv 4) (aa ao (aa (cI O.oJ) aj))))))))) (aC (aK fU)) bz) (aC (aK (cR (pf aR hr (aa (pv 5) (aa (QD Jz (cI O.jZ)) (aa (cI O.jZ) aj)))) (jM (ig uy (pv 5) ao (bu _))))))))))),?_⟩
 have no:∀{H':Hp},aA H H'->vJ d=false->Q (.bl false) H':=fun {H'} s' e=>by rw[<- e]; exact q H' s'
 walk_at "rd"
 refine M9.of hv fun H1 s1=>?_
 walk_at "rd"
 refine ji (fun c1=>no s1 ?_) (fun c1=>?_)
 ·unfold vJ
  split
  ·exfalso; revert c1; simp[dD]
  ·rfl
 obtain⟨ds,rfl,hn⟩:=iR c1
 obtain⟨d1,d2,d3,d4,d5,rfl⟩:=Pg (show ds.length=5 by omega)
 have np:=nd.parts
 obtain⟨a,xs,ds',e,rfl,h1,h2⟩:=cD hv rfl
 cases e
 obtain⟨x1,_,rfl,a1,h2⟩:=ak.aN h2
 obtain⟨x2,_,rfl,a2,h2⟩:=ak.aN h2
 obtain⟨x3,_,rfl,a3,h2⟩:=ak.aN h2
 obtain⟨x4,_,rfl,a4,h2⟩:=ak.aN h2
 obtain⟨x5,_,rfl,a5,h2⟩:=ak.aN h2
 cases ak.j5 h2
 refine⟨a,_,rfl,bW.of (s1 _ _ h1),rfl,?_⟩
 walk_at "rd"
 intro aw hw
 refine⟨d1,["come","done","wait"],aw,rfl,hw _,a1.mono s1,Lg (np d1 (by simp)),?_⟩
 refine ji (fun c2=>no s1 ?_) (fun c2=>?_)
 ·have:Ye d1=false:=c2
  simp[vJ,this]
 have c2':Ye d1=true:=c2
 refine G9.of (a2.mono s1) fun H2 s2=>?_
 have s2:=s1.trans s2
 walk_at "rd"
 refine ji (fun c3=>no s2 (by simp[vJ,c3])) (fun c3=>?_)
 have hr0:∀{b:Bool} {H':Hp},aA H H'->iV d3 d4 d5=b->Q (.bl b) H':=fun {b H'} s' e=>by
  have:vJ (.tuple [d1,d2,d3,d4,d5])=b:=by
   show(_&&_&&_)=_
   rw[c2',c3,e]; rfl
  rw[<- this]; exact q H' s'
 refine⟨d3,"each",rfl,a3.mono s2,Lg (np d3 (by simp)),?_⟩
 refine bF (fun c4=>?_) (fun c4=>?_)
 ·refine G9.of (a4.mono s2) fun H3 s3=>?_
  have s3:=s2.trans s3
  walk_at "rd"
  refine bF (fun c5=>?_) (fun c5=>hr0 s3 (by simp[iV,c4,c5]))
  refine G9.of (a5.mono s3) fun H4 s4=>?_
  exact hr0 (s3.trans s4) (by simp[iV,c4,c5])
 ·refine⟨(by decide),fun p H3 f3 s3 e3=>?_⟩
  have s3:=s2.trans s3
  refine⟨d3,["over","under"],p,rfl,bW.of e3,a3.mono s3,Lg (np d3 (by simp)),?_⟩
  refine ji (fun c5=>hr0 s3 (by unfold iV; rw[c4,c5]; rfl)) (fun c5=>?_)
  refine G9.of (a4.mono s3) fun H4 s4=>?_
  have s4:=s3.trans s4
  walk_at "rd"
  refine ji (fun c6=>hr0 s4 (by unfold iV; rw[c4,c5,c6]; rfl)) (fun c6=>?_)
  refine G9.of (a5.mono s4) fun H5 s5=>?_
  have s5:=s4.trans s5
  walk_at "rd"
  refine bF (fun c7=>?_) (fun c7=>hr0 s5 (by unfold iV; rw[c4,c5,c6,c7]; rfl))
  obtain⟨n,rfl,_⟩:=Ce c7
  unfold At at a5
  subst a5
  walk_at "rd"
  refine hr0 s5 ?_
  unfold iV; rw[c4,c5,c6,c7]; rfl
def wF (d:PyData):Bool:=match d with
 | .tuple ds=>decide ((1:Int)<=ds.length)&&decide ((ds.length:Int)<=4)&&(ds.map vJ).all id
 | _=>false
def uf (d:PyData):Bool:=match d with
 | .tuple ds=>decide ((ds.length:Int)<=3)&&(ds.map wF).all id
 | _=>false
theorem Gy {K:PySem.W.Frag} {js:List Nat} {a:Addr} {xs:List V} {ds:List PyData} {f:PyData->Bool} {tl te:TE} {σ:St} {H:Hp} {Q:VK} (hl:∀R:VK,R (.ref a) H->tl σ H R) (ha:H a=some (.tup xs)) (hd:ak H ds xs) (hz:ds.length<=sizeLine)
  (nd:∀d∈ds,d.hasDict=false)
  (step:∀x d H',aA H H'->At H' d x->d.hasDict=false->∀R:VK,(∀cV,aA H' cV->R (.bl (f d)) cV)->te (some x::bK js σ) H' R)
  (fin:∀acc H',aA H H'->H' acc=some (.lst ((ds.map f).map V.bl))->Q (.ref acc) H'):dM js (uK K tl) te σ H Q:=by
 refine hl _ ⟨a,rfl,⟨xs,bW.of ha⟩,fun acc hacc=>?_⟩
 have hlen:=hd.length
 refine⟨fun i m ys H2=>m=ds.length-i/\i<=ds.length/\ys=((ds.take i).map f).map V.bl/\aA H H2/\H2 acc=some (.lst ys),⟨_,rfl,dG _,rfl,aM hacc _,az⟩,?_⟩
 rintro i m ys H2 ⟨rfl,hi,rfl,sm,hy⟩
 have ht:bW K H2 a xs:=bW.of (sm _ _ ha)
 by_cases hlt:i<ds.length
 ·refine .inr ⟨⟨xs,xs[i]'(by omega),ht,jg (by omega)⟩,fun x H3 y=>?_⟩
  obtain⟨e,y⟩:=y
  subst e
  obtain⟨d,e1,e2⟩:=hd.get (y xs ht)
  refine step x d _ sm (e2.mono sm) (nd d (vK e1)) _ fun H4 s4=>⟨s4 _ _ hy,?_,ds.length-(i+1),by omega,rfl,hlt,?_,?_,az⟩
  ·rw[eY,eY,pI]; omega
  ·rw[yg,e1]; simp
  ·refine fun b o q=>?_
   have nb:b≠acc:=bH q hacc
   rw[aJ nb]
   exact s4 _ _ (sm _ _ q)
 ·have e:i=ds.length:=by omega
  subst e
  refine .inl ⟨⟨xs,ht,by omega⟩,fin _ _ sm ?_⟩
  rw[hy,qF]
theorem tO:aQ ["thing"] ["thing"] (aG qw):=(by walk_at "c")
theorem Dz (F:gW K "is_rule" "is_rule" qw f fd) (B:Bi mg) (O:Co K mg) (vm:Ct P w K mg base k "is_row" ["thing"] (Dc vJ)) :
  bG P w K mg base gK (k+1) f fd ["thing"] (Dc wF):=by
 refine F.ok tO (Dc.len rfl) (fun cdv A outer s H vs Q E hr h=>?_)
 obtain⟨v,d,rfl,hv,nd,q⟩:=h
 have ND:=tO.nd
 refine⟨_,(aq (bQ (PW.pt (pJ (fZ (bT (pb yX B.isinstance dX (aa (pv 0) (aa (pty (by rfl) B.tuple dq) aj))))) (jK (fZ (Kz A_ A_ ao (pb (gA (K:=K) rfl) B.len oH (aa (pv 0) aj)) (cI O.Jj)))))) (aC (aK fU)) bz) (aC (aK (pb (jB rfl) B.all vo (aa (fu (N':=["row"]) (js:=[]) rfl (e_ (K:=K) rfl (pv 0)) sU.Su rfl (by decide) rfl (fun fp s' H'=>(pf vm hr (aa (pv 0) aj)))) aj))))),?_⟩
 have no:∀{H':Hp},aA H H'->wF d=false->Q (.bl false) H':=fun {H'} s' e=>by rw[<- e]; exact q H' s'
 walk_at "rd"
 refine Wj.of hv ?_
 walk_at "rd"
 refine ji (fun c1=>no (aA.refl H) ?_) (fun c1=>?_)
 ·cases d <;> first | rfl | (exfalso; revert c1; simp[isTup])
 obtain⟨a,xs,ds,rfl,rfl,h1,h2⟩:=cD hv c1
 refine⟨a,xs,rfl,.inr (bW.of h1),?_⟩
 rw[h2.length]
 walk_at "rd"
 by_cases c2:(1:Int)<=ds.length
 ·rw[lu c2]
  walk_at "rd"
  by_cases c3:(ds.length:Int)<=4
  ·rw[lu c3]
   walk_at "rd"
   refine Gy (f:=vJ) (fun R hR=>?_) h1 h2 (jH (aZ (by omega))) nd.parts (fun x d' H' s' hx Ub R hR=>?_) (fun acc H' s' hl=>?_)
   ·walk_at "rd"; exact hR
   ·walk_at "rd"
    exact N1.of hx (.inl Ub) hR
   ·refine⟨acc,_,rfl,hl,?_⟩
    have q1:=q H' s'
    have q1:Q (.bl (decide ((1:Int)<=ds.length)&&decide ((ds.length:Int)<=4)&&(ds.map vJ).all id)) H':=q1
    rw[lu c2,lu c3] at q1
    exact q1
  ·rw[jJ c3]
   walk_at "rd"
   exact no (aA.refl H) (by show(_&&decide _&&_)=false; rw[jJ c3]; simp)
 ·rw[jJ c2]
  walk_at "rd"
  exact no (aA.refl H) (by show(decide _&&_&&_)=false; rw[jJ c2]; rfl)
theorem pq:aQ ["thing"] ["thing"] (aG kY):=(by walk_at "c")
theorem yH (F:gW K "are_rules" "are_rules" kY f fd) (B:Bi mg) (O:Co K mg) (qR:Ct P w K mg base k "is_rule" ["thing"] (Dc wF)) :
  bG P w K mg base gK (k+1) f fd ["thing"] (Dc uf):=by
 refine F.ok pq (Dc.len rfl) (fun cdv A outer s H vs Q E hr h=>?_)
 obtain⟨v,d,rfl,hv,nd,q⟩:=h
 have ND:=pq.nd
 refine⟨_,(aq (bQ (PW.pt (pJ (fZ (bT (pb yX B.isinstance dX (aa (pv 0) (aa (pty (by rfl) B.tuple dq) aj))))) (jK (bf Ba (pb (gA (K:=K) rfl) B.len oH (aa (pv 0) aj)) (cI O.Et) (bu _))))) (aC (aK fU)) bz) (aC (aK (pb (jB rfl) B.all vo (aa (fu (N':=["rule"]) (js:=[]) rfl (e_ (K:=K) rfl (pv 0)) sU.Su rfl (by decide) rfl (fun fp s' H'=>(pf qR hr (aa (pv 0) aj)))) aj))))),?_⟩
 have no:∀{H':Hp},aA H H'->uf d=false->Q (.bl false) H':=fun {H'} s' e=>by rw[<- e]; exact q H' s'
 walk_at "rd"
 refine Wj.of hv ?_
 walk_at "rd"
 refine ji (fun c1=>no (aA.refl H) ?_) (fun c1=>?_)
 ·cases d <;> first | rfl | (exfalso; revert c1; simp[isTup])
 obtain⟨a,xs,ds,rfl,rfl,h1,h2⟩:=cD hv c1
 refine⟨a,xs,rfl,.inr (bW.of h1),?_⟩
 rw[h2.length]
 walk_at "rd"
 refine bF (fun c2=>no (aA.refl H) ?_) (fun c2=>?_)
 ·have:=iK c2
  show(decide _&&_)=false
  rw[jJ (by omega)]; rfl
 ·have:=Aj c2
  refine Gy (f:=wF) (fun R hR=>?_) h1 h2 (jH (aZ (by omega))) nd.parts (fun x d' H' s' hx Ub R hR=>?_) (fun acc H' s' hl=>?_)
  ·walk_at "rd"; exact hR
  ·walk_at "rd"
   exact N1.of hx (.inl Ub) hR
  ·refine⟨acc,_,rfl,hl,?_⟩
   have q1:=q H' s'
   have q1:Q (.bl (decide ((ds.length:Int)<=3)&&(ds.map wF).all id)) H':=q1
   rw[lu (by omega)] at q1
   exact q1
def ju (d:PyData):Bool:=match d with
 | .tuple [p,r,h,l,e,t,u]=>cH p 1 1000000&&cH r 0 1000000000000&&jX h&&cH l 0 4&&cH e 1 6&&pairD t 9&&uf u
 | _=>false
theorem tQ:aQ ["thing","pace","room","hands","late","every","rests","rules"] ["thing"] (aG qy):=(by walk_at "c")
theorem DG (F:gW K "is_post" "is_post" qy f fd) (O:Co K mg) (aY:Ct P w K mg base k "is_tuple_of" ["thing","many"] (gY dD)) (aR:Ct P w K mg base k "is_between" ["thing","least","most"] (m5 cH))
  (cT:Ct P w K mg base k "are_bounds_of_hands" ["thing"] (mV jX)) (lY:Ct P w K mg base k "are_rests" ["thing"] (mV (pairD · 9))) (lX:Ct P w K mg base k "are_rules" ["thing"] (Dc uf)) :
  bG P w K mg base gK (k+1) f fd ["thing"] (Dc ju):=by
 refine F.ok tQ (Dc.len rfl) (fun cdv A outer s H vs Q E hr h=>?_)
 obtain⟨v,d,rfl,hv,nd,q⟩:=h
 have ND:=tQ.nd
 refine⟨_,(aq (bQ (fZ (bT (pf aY hr (aa (pv 0) (aa ao aj))))) (aC (aK fU)) bz) (aq (cQ (pv 0) (b8 (K:=K) (n:=7) rfl rfl (aF (aD (i:=1) ND rfl (by walk_at "o")) (aF (aD (i:=2) ND rfl (by walk_at "o")) (aF (aD (i:=3) ND rfl (by walk_at "o")) (aF (aD (i:=4) ND rfl (by walk_at "o")) (aF (aD (i:=5) ND rfl (by walk_at "o")) (aF (aD (i:=6) ND rfl (by walk_at "o")) (aF (aD (i:=7) ND rfl (by walk_at "o")) b7))))))))) (aC (aK (cR (pf aR hr (aa (pv 1) (aa ao (aa (cI O.Jk) aj)))) (cR (pf aR hr (aa (pv 2) (aa ao (aa (cI O.oJ) aj)))) (cR (pf cT hr (aa (pv 3) aj)) (cR (pf aR hr (aa (pv 4) (aa ao (aa (cI O.Jl) aj)))) (cR (pf aR hr (aa (pv 5) (aa ao (aa (cI O.Eu) aj)))) (cR (pf lY hr (aa (pv 6) aj)) (jM (pf lX hr (aa (pv 7) aj))))))))))))),?_⟩
 walk_at "rd"
 refine M9.of hv fun H1 s1=>?_
 walk_at "rd"
 have no:∀{H':Hp},aA H H'->ju d=false->Q (.bl false) H':=fun {H'} s' e=>by rw[<- e]; exact q H' s'
 refine ji (fun c1=>no s1 ?_) (fun c1=>?_)
 ·unfold ju
  split
  ·exfalso; revert c1; simp[dD]
  ·rfl
 obtain⟨ds,rfl,hn⟩:=iR c1
 obtain⟨d1,d2,d3,d4,d5,d6,d7,rfl⟩:=X8 (show ds.length=7 by omega)
 have np:=nd.parts
 obtain⟨a,xs,ds',e,rfl,h1,h2⟩:=cD hv rfl
 cases e
 obtain⟨x1,_,rfl,a1,h2⟩:=ak.aN h2
 obtain⟨x2,_,rfl,a2,h2⟩:=ak.aN h2
 obtain⟨x3,_,rfl,a3,h2⟩:=ak.aN h2
 obtain⟨x4,_,rfl,a4,h2⟩:=ak.aN h2
 obtain⟨x5,_,rfl,a5,h2⟩:=ak.aN h2
 obtain⟨x6,_,rfl,a6,h2⟩:=ak.aN h2
 obtain⟨x7,_,rfl,a7,h2⟩:=ak.aN h2
 cases ak.j5 h2
 refine⟨a,_,rfl,bW.of (s1 _ _ h1),rfl,?_⟩
 walk_at "rd"
 refine G9.of (a1.mono s1) fun H2 s2=>?_
 walk_at "rd"
 have s2:=s1.trans s2
 refine bF (fun b1=>?_) (fun b1=>no s2 (by simp[ju,b1]))
 refine G9.of (a2.mono s2) fun H3 s3=>?_
 walk_at "rd"
 have s3:=s2.trans s3
 refine bF (fun b2=>?_) (fun b2=>no s3 (by simp[ju,b2]))
 refine B1.of (a3.mono s3) fun H4 s4=>?_
 walk_at "rd"
 have s4:=s3.trans s4
 refine bF (fun b3=>?_) (fun b3=>no s4 (by simp[ju,b3]))
 refine G9.of (a4.mono s4) fun H5 s5=>?_
 walk_at "rd"
 have s5:=s4.trans s5
 refine bF (fun b4=>?_) (fun b4=>no s5 (by simp[ju,b4]))
 refine G9.of (a5.mono s5) fun H6 s6=>?_
 walk_at "rd"
 have s6:=s5.trans s6
 refine bF (fun b5=>?_) (fun b5=>no s6 (by simp[ju,b5]))
 refine B1.of (a6.mono s6) fun H7 s7=>?_
 walk_at "rd"
 have s7:=s6.trans s7
 refine bF (fun b6=>?_) (fun b6=>no s7 (by simp[ju,b6]))
 refine N1.of (a7.mono s7) (.inl (np d7 (by simp))) fun H8 s8=>?_
 have q1:=q H8 (s7.trans s8)
 have e:ju (.tuple [d1,d2,d3,d4,d5,d6,d7])=uf d7:=by
  show(_&&_&&_&&_&&_&&_&&_)=_
  rw[b1,b2,b3,b4,b5,b6]; rfl
 rw[e] at q1
 exact q1
structure C16 where
 x:cU
 st:cJ
 ld:List Int
 c:Int
 fr:Int
 sm:Bool
structure iJ (e:C16):Prop where
 x:G7 e.x
 st:Ci e.st
 l:e.ld.length<=24
 u:∀y∈e.ld,vy y
 c:0<=e.c/\e.c<=4
 f:0<=e.fr/\e.fr<=12
theorem Gr {x:cU} (h:G7 x):Ci ⟨0,x.lo,[0,0,0,0,0],0,0,[[0,0,0],[0,0,0],[0,0,0]]⟩:=by
 have:=h.lo
 have:=h.hi
 have z:vy 0:=⟨by decide,by decide⟩
 refine⟨z,by show 0<=x.lo; omega,rfl,fun y hy=>?_,?_,(by show(0:Int)<=0/\(0:Int)<=5; decide),(by show(0:Int)<=0/\(0:Int)<=9; decide),rfl,fun y hy=>?_⟩
 ·have:y=0:=by simpa using hy
  omega
 ·show x.lo+(0+(0+(0+(0+(0+0)))))<=12
  omega
 ·have:y=[0,0,0]:=by simpa using hy
  exact⟨0,0,0,this,z,z,z⟩
def J0:Sp:=fun vs H Q _=>∃(a:Addr) (n:Nat),vs=[.ref a]/\Tp H a n/\n<=1000000/\∀(p:Addr) (v u:V) (l:Addr) (c:C16) H',iJ c->H' p=some (.tup [v,u,.ref l,.int c.c,.int c.fr,.bl c.sm])->H l=none->H' l=some (.lst (c.ld.map V.int))->At (hid a H') (eZ c.x) v->At (hid a H') (fJ c.st) u->Tp H' a (n+1000)->SX a H H'->Q (.ref p) H'
theorem wC:aQ ["_law_tape_here","_law_small","_law_post_here","_law_load","_law_stand_here"] ["_law_tape_here"] (aG t_):=(by walk_at "c")
theorem HY (F:gW K "_law_case" "_law_case" t_ f fd) (B:Bi mg) (aL:Ct P w K mg base k "_law_draw" ["_law_tape_here","_law_many"] i_) (cN:Ct P w K mg base k "_law_units" ["_law_tape_here"] mH) (vh:Ct P w K mg base k "_law_small_post" ["_law_tape_here"] xR) (Mz:Ct P w K mg base k "_law_post" ["_law_tape_here"] xR) (cO:Ct P w K mg base k "first_stand" ["post"] xV) (Jc:Ct P w K mg base k "_law_stand" ["_law_tape_here"] Fb):bG P w K mg base gK (k+1) f fd ["_law_tape_here"] J0:=by
 refine F.ok wC (by rintro vs H Q E ⟨a,n,rfl,_⟩; rfl) (fun cdv A outer s H vs Q E hr h=>?_)
 obtain⟨a,n,rfl,tp,hn,q⟩:=h
 have ND:=wC.nd
 refine⟨_,(aq (aV (i:=1) ND rfl (by walk_at "o") (ig gP (pf aL hr (aa (pv 0) (aa ao aj))) ao (bu _))) (aq (aV (i:=2) ND rfl (by walk_at "o") (cu (bT (pv 1)) (pf vh hr (aa (pv 0) aj)) (pf Mz hr (aa (pv 0) aj)))) (aq (yr (i:=3) ND rfl (by walk_at "o") (N':=["_law_turn","_law_small","_law_tape_here"]) (js:=[1,0]) rfl (cM (by rfl) B.range (aa (pf aL hr (aa (pv 0) (aa ao aj))) aj)) sU.mk2 rfl (by decide) rfl (fun fp s' H'=>(cu (bT (pv 1)) (pf aL hr (aa (pv 2) (aa ao aj))) (pf cN hr (aa (pv 2) aj))))) (aq (aV (i:=4) ND rfl (by walk_at "o") (cu (bT (pv 1)) (pf cO hr (aa (pv 2) aj)) (pf Jc hr (aa (pv 0) aj)))) (aC (aK (bj (aa (pv 2) (aa (pv 4) (aa (pv 3) (aa (pf aL hr (aa (pv 0) (aa ao aj))) (aa (pf aL hr (aa (pv 0) (aa ao aj))) (aa (pv 1) aj))))))))))))),?_⟩
 simp only[tG 1,tG 2,tG 3,tG 4]
 refine eE.of (fun σ H'=>∃b:Bool,σ=[some (.ref a),some (.bl b),none,none,none]/\Tp H' a (n+1)/\SX a H H') ?_ fun N hN=>?_
 rotate_left
 ·walk_at "rd"
  exact b_.of tp (by omega) (by decide) (by decide) fun y1 H1 l1 u1 t1 s1=>by walk_at "rd"; exact hN _ _ ⟨_,rfl,t1,s1⟩
 rintro _ H1 ⟨b,rfl,t1,s1⟩
 refine eE.of (fun σ H'=>∃(v:V) (x:cU),σ=[some (.ref a),some (.bl b),some v,none,none]/\G7 x/\At (hid a H') (eZ x) v/\Tp H' a (n+401)/\SX a H H') ?_ fun N hN=>?_
 rotate_left
 ·walk_at "rd"
  cases b
  ·rw[aX (by decide)]
   exact⟨a,_,rfl,t1,by omega,fun p x H2 hx a2 t2 s2=>hN _ _ ⟨_,x,rfl,hx,a2,t2.mono (by omega),s1.trans s2⟩⟩
  ·rw[bc (by decide)]
   exact⟨a,_,rfl,t1,by omega,fun p x H2 hx a2 t2 s2=>hN _ _ ⟨_,x,rfl,hx,a2,t2.mono (by omega),s1.trans s2⟩⟩
 clear t1 s1 H1
 rintro _ H1 ⟨v,x,rfl,hx,a1,t1,s1⟩
 refine eE.of (fun σ H'=>∃(l:Addr) (ld:List Int),σ=[some (.ref a),some (.bl b),some v,some (.ref l),none]/\ld.length<=24/\(∀y∈ld,vy y)/\H l=none/\H' l=some (.lst (ld.map V.int))/\At (hid a H') (eZ x) v/\Tp H' a (n+600)/\SX a H H') ?_ fun N hN=>?_
 rotate_left
 ·walk_at "rd"
  show dM _ _ _ _ _ _
  rw[qj]
  walk_at "rd"
  refine b_.of t1 (by omega) (by decide) (by decide) fun r H2 l2 u2 t2 s2=>?_
  refine CK.of (n:=r.toNat) (by omega) (by omega) fun acc hacc=>?_
  have ca:acc≠a:=t2.ne hacc
  have M5:=s1.trans s2
  have fa:H acc=none:=by
   cases z:H acc with
   | none=>rfl
   | some o=>rw[M5.get ca z] at hacc; cases hacc
  refine⟨fun j zs H'=>∃ld:List Int,zs=ld.map V.int/\ld.length=j/\(∀y∈ld,vy y)/\H' acc=some (.lst zs)/\Tp H' a (n+402+4*j)/\SX a H2 H',⟨[],rfl,rfl,fun d h=>by simp at h,az,t2.dw ca,(SX.refl a H2).dw hacc ca⟩,?_,?_⟩
  ·rintro j _ H3 hj ⟨ld,rfl,lj,hu,e3,t3,s3⟩
   have fin:∀(y:Int) (H4:Hp),vy y->Tp H4 a (n+402+4*j+4)->SX a H3 H4->H4 acc=some (.lst (ld.map V.int))/\(ld.map V.int).length<sizeLine/\∃X_:List Int,ld.map V.int++[V.int y]=X_.map V.int/\X_.length=j+1/\(∀y∈X_,vy y)/\upd H4 acc (.lst (ld.map V.int++[.int y])) acc=some (.lst (ld.map V.int++[.int y]))/\Tp (upd H4 acc (.lst (ld.map V.int++[.int y]))) a (n+402+4*(j+1))/\SX a H2 (upd H4 acc (.lst (ld.map V.int++[.int y]))):=fun y H4 hy t4 s4=>
    ⟨s4.get ca e3,by rw[eY,lj]; exact aZ (by omega),ld++[y],by simp,by rw[dR,lj]; rfl,fun z hz=>(lB.mp hz).elim (hu z) fun w=>by rw[fP.mp w]; exact hy,az,(t4.dw ca).mono (by omega),(s3.trans s4).dw hacc ca⟩
   show Xg _ _ _ [some _,some (.bl b),some (.ref a)] H3 _
   walk_at "rd"
   cases b
   ·rw[aX (by decide)]
    exact vq.of t3 (by omega) fun y H4 l4 u4 t4 s4=>fin y H4 ⟨l4,u4⟩ t4 s4
   ·rw[bc (by decide)]
    exact b_.of t3 (by omega) (by decide) (by decide) fun y H4 l4 u4 t4 s4=>fin y H4 ⟨l4,by omega⟩ (t4.mono (by omega)) s4
  ·rintro _ H3 ⟨ld,rfl,lj,hu,e3,t3,s3⟩
   exact hN _ _ ⟨acc,ld,rfl,by omega,hu,fa,e3,a1.mono (s2.trans s3),t3.mono (by omega),M5.trans s3⟩
 clear t1 s1 H1 a1
 rintro _ H1 ⟨l,ld,rfl,lld,hu,fl,e1,a1,t1,s1⟩
 have la:l≠a:=tp.ne fl
 refine eE.of (fun σ H'=>∃(u:V) (st:cJ),σ=[some (.ref a),some (.bl b),some v,some (.ref l),some u]/\Ci st/\At (hid a H') (fJ st) u/\Tp H' a (n+660)/\SX a H1 H') ?_ fun N hN=>?_
 rotate_left
 ·walk_at "rd"
  cases b
  ·rw[aX (by decide)]
   exact⟨a,_,rfl,t1,by omega,fun p st H2 hx a2 t2 s2=>hN _ _ ⟨_,st,rfl,hx,a2,t2.mono (by omega),s2⟩⟩
  ·rw[bc (by decide)]
   refine⟨v,x,rfl,a1.mono fB,fun u H2 s2 a2=>hN _ _ ⟨_,_,rfl,Gr hx,?_,(t1.same s2).mono (by omega),SX.of s2⟩⟩
   exact At.tupS (fun b xs e=>by rw[bM ((t1.same s2).neT e)]; exact e) _ _ (g_ _) a2
 rintro _ H2 ⟨u,st,rfl,hs,a2,t2,s2⟩
 walk_at "rd"
 refine b_.of t2 (by omega) (by decide) (by decide) fun y3 H3 l3 u3 t3 s3=>?_
 refine b_.of t3 (by omega) (by decide) (by decide) fun y4 H4 l4 u4 t4 s4=>⟨(by decide),fun p H5 f5 s5 e5=>?_⟩
 have Jq:SX a H2 H5:=s3.trans (s4.trans (SX.of s5))
 exact q p v u l ⟨x,st,ld,y3,y4,b⟩ H5 ⟨hx,hs,lld,hu,⟨l3,by show y3<=4; omega⟩,⟨l4,by show y4<=12; omega⟩⟩ e5 fl (Jq.get la (s2.get la e1)) (a1.mono (s2.trans Jq)) (a2.mono Jq) ((t4.same s5).mono (by omega)) (s1.trans (s2.trans Jq))
variable {bw:Addr}
theorem mz.one {L:Nat->PyData} {i b i' b':Nat} (h:mz L i b) (h':mz L i' b'):i=i'/\b=b':=by
 have e:i=i':=by
  rcases Nat.lt_trichotomy i i' with z | z | z
  ·have:=h.1.symm.trans (h'.2 i z); cases this
  ·exact z
  ·have:=h'.1.symm.trans (h.2 i' z); cases this
 subst e
 exact⟨rfl,Option.some.inj (h.1.symm.trans h'.1)⟩
def uh (x:cU) (st:cJ) (c:Int) (i b:Nat):PyData:=if(((BR x st c i).drop b).any fun n=>n != 0)=true then .none else .int (dJ 0 (vL (BR x st c i)))
theorem J5 {H:Hp} {x:cU} {st:cJ} {c:Int} {i b:Nat}:At H (uh x st c i b) (restV x st c i b):=by
 unfold uh restV
 split
 ·unfold At; rfl
 ·exact At.int _
open Classical in
noncomputable def j7 (x:cU) (st:cJ) (c:Int):List PyData:=
 if h:∃p:Nat×Nat,p.1<=60/\mz (LI x st c) p.1 p.2 then[.tuple [.int h.choose.2,.int ((h.choose.1:Int)-h.choose.2)],uh x st c h.choose.1 h.choose.2] else[.str "long"]
theorem NP {x:cU} {st:cJ} {c:Int} {i b:Nat} (hi:i<=60) (h:mz (LI x st c) i b):j7 x st c=[.tuple [.int b,.int ((i:Int)-b)],uh x st c i b]:=by
 have z:∃p:Nat×Nat,p.1<=60/\mz (LI x st c) p.1 p.2:=⟨(i,b),hi,h⟩
 unfold j7
 rw[dif_pos z]
 obtain⟨e1,e2⟩:=z.choose_spec.2.one h
 rw[e1,e2]
theorem Rv {x:cU} {st:cJ} {c:Int} (h:∀j,j<=60->qL (LI x st c) j=none):j7 x st c=[.str "long"]:=by
 unfold j7
 rw[dif_neg]
 rintro⟨p,hp,hq⟩
 have:=hq.1.symm.trans (h _ hp)
 cases this
def JZ:Sp:=fun vs H Q _=>∃(p:Addr) (v u l fr sm:V) (x:cU) (st:cJ) (c:Int),vs=[.ref p]/\H p=some (.tup [v,u,l,.int c,fr,sm])/\At H (eZ x) v/\At H (fJ st) u/\qe x/\Qe x/\iI st/\∀q ys H',aA H H'->H q=none->H' q=some (.lst ys)->ak H' (j7 x st c) ys->Q (.ref q) H'
theorem q_:aQ ["_law_case_here","_law_told"] ["_law_case_here"] (aG nJ):=(by walk_at "c")
theorem Bf (F:gW K "_law_rounds" "_law_rounds" nJ f fd) (Z:ZL K mg bw) (gC:M7 P w K mg base k "round_of" ["post","stand","come","most"] (su bw)) (oG:M7 P w K mg base k "rests_at" ["post","stand","come","most"] (Fe bw)):bG P w K mg base gK (k+1) f fd ["_law_case_here"] JZ:=by
 refine F.ok q_ (by rintro vs H Q E ⟨p,v,u,l,fr,sm,x,st,c,rfl,_⟩; rfl) (fun cdv A outer s H vs Q E hr h=>?_)
 obtain⟨p,v,u,l,fr,sm,x,st,c,rfl,hp,a1,a2,hx,hn,hs,q⟩:=h
 have ND:=q_.nd
 refine⟨_,(aq (aV (i:=1) ND rfl (by walk_at "o") yz) (aq (Oi (K:=K) rfl (KC (Oh (i:=1) ND (RJ (QB (Fz gC hr (aa (a_ aO (pv 0) ao (fun _ _=>rfl)) (aa (a_ aO (pv 0) ao (fun _ _=>rfl)) (aa (a_ aO (pv 0) ao (fun _ _=>rfl)) (aa ao aj))))) (QB (Fz oG hr (aa (a_ aO (pv 0) ao (fun _ _=>rfl)) (aa (a_ aO (pv 0) ao (fun _ _=>rfl)) (aa (a_ aO (pv 0) ao (fun _ _=>rfl)) (aa ao aj))))) Og))))) (fun e=>(aC (aV (i:=1) ND rfl (by walk_at "o") (cg (aa gb aj))))) Z.GZ) (aC (aK (pv 1))))),?_⟩
 walk_at "rd"
 unfold Qp
 walk_at "rd"
 have e0:∀(H':Hp),aA H H'->H' p=some (.tup [v,u,l,.int c,fr,sm]):=fun H' s'=>s' _ _ hp
 refine Ix.tup hp (aP (j:=0) rfl) (Ix.tup hp (aP (j:=1) rfl) (Ix.tup hp (aP (j:=3) rfl) ?_))
 have bad:(∀j,j<=60->qL (LI x st c) j=none)->∀H1 H2,aA H H1->aA H1 H2->PySem.W.exmOne K (.ref bw) (Value.ref bw)=some true/\∀(a:Addr) (H3:Hp),(aA H1 H2->aA H1 H3)->T6 H3 a (.ref bw)->1<=sizeLine/\∀(p:Addr) (H':Hp),H3 p=none->aA H3 H'->H' p=some (.lst [V.str "long"])->Q (.ref p) H':=by
  refine fun hj H1 H2 s1 s2=>⟨Z.Eb,fun a H3 s3 _=>⟨by decide,fun p4 H4 f4 s4 e4=>?_⟩⟩
  have m9:=s1.trans (s3 s2)
  have f0:H p4=none:=by
   cases z:H p4 with
   | none=>rfl
   | some o=>rw[m9 _ _ z] at f4; cases f4
  refine q p4 _ H4 (m9.trans s4) f0 e4 ?_
  rw[Rv hj]
  exact ak.cons (At.str _) ak.nil
 refine⟨v,u,x,st,c,60,rfl,a1,a2,hx,hn,hs,by decide,fun i b hi hR p1 H1 s1 e1=>?_,fun hj H1 s1=>bad hj H H1 (aA.refl _) s1⟩
 have hp1:=e0 H1 s1
 refine Ix.tup hp1 (aP (j:=0) rfl) (Ix.tup hp1 (aP (j:=1) rfl) (Ix.tup hp1 (aP (j:=3) rfl) ?_))
 refine⟨v,u,x,st,c,60,rfl,a1.mono s1,a2.mono s1,hx,hn,hs,by decide,fun i' b' hi' hR' H2 s2=>⟨by decide,fun p3 H3 f3 s3 e3=>?_⟩,fun hj H2 s2=>bad hj H1 H2 s1 s2⟩
 obtain⟨rfl,rfl⟩:=hR.one hR'
 have m9:=s1.trans s2
 have f0:H p3=none:=by
  cases z:H p3 with
  | none=>rfl
  | some o=>rw[m9 _ _ z] at f3; cases f3
 refine q p3 _ H3 (m9.trans s3) f0 e3 ?_
 rw[NP hi hR]
 exact ak.cons (At.tup ((s2.trans s3) _ _ e1) (bI [(b:Int),(i:Int)-b])) (ak.cons J5 ak.nil)
def Mr (x:cU):cJ:=⟨0,x.lo,[0,0,0,0,0],0,0,[[0,0,0],[0,0,0],[0,0,0]]⟩
def nC (x:cU) (st:cJ) (c fr:Int):PyData:=.tuple [fJ (eV x (gq x st c) (oM x st c fr)),.int (eG x st c),.int (c-cB x st c),.int (oM x st c fr)]
noncomputable def iH (e:C16):Nat->List PyData
 | 0=>[.int (j4 e.x.dF e.x.lo e.x.hi (e.st.r+e.st.cs.sum) ([e.c,1,2]::e.st.us)),.tuple ((lH e.x).map .int),fJ (Mr e.x)]
 | 1=>[nC e.x e.st e.c 12,nC e.x e.st e.c 12,nC e.x e.st e.c e.fr]
 | 2=>(iY e.x e.st e.ld).map dh
 | 3=>[fJ (gG e.x e.st e.ld),fJ (lL e.x e.st),.bool (PyData.eqv (fJ (lL e.x e.st)) (fJ (lL e.x (gG e.x e.st e.ld))))]
 | 4=>[.bool (ju (eZ e.x)),.bool (fW (fJ e.st)),.bool (ju (fJ e.st)),.bool (fW (eZ e.x))]
 | _=>if e.sm=true then j7 e.x e.st e.c else[]
theorem Gq {m:Nat}:∀{ls:List (List fH)},(∀l∈ls,l.length<=m)->ls.flatten.length<=ls.length*m
 | [],_=>by simp
 | l::ls,h=>by
  have h1:=h l (by simp)
  have h2:=Gq (ls:=ls) fun l' hl'=>h l' (by simp[hl'])
  rw[Hx,dR,nQ,Nat.succ_mul]
  omega
theorem uv (x:cU):nZ (eZ x)=true:=by
 have h:bC (x.dF.map m_)=true:=cC.mpr fun d hd=>by obtain⟨z,_,rfl⟩:=mX.mp hd; exact Ad z
 unfold eZ KH ue
 simp only[nZ,bC,h,Bool.and_true,Bool.true_and]
theorem RK {x:cU} (h:G7 x):Qe x:=⟨by
 have h1:=Gq (m:=4) (ls:=x.dF) fun l hl=>(h.r l hl).hi
 have h2:=h.n
 have h3:x.dF.length*4<=3*4:=Nat.mul_le_mul_right 4 h2
 omega,fun r hr=>by
 obtain⟨l,hl,hr'⟩:=List.mem_flatten.mp hr
 exact((h.r l hl).g r hr').is⟩
structure ir (H:Hp) (e:C16) (p l:Addr):Prop where
 ex:∃v u,H p=some (.tup [v,u,.ref l,.int e.c,.int e.fr,.bl e.sm])/\At H (eZ e.x) v/\At H (fJ e.st) u
 l:H l=some (.lst (e.ld.map V.int))
def J1:Sp:=fun vs H Q _=>∃(p l:Addr) (i:Nat) (e:C16),vs=[.int i,.ref p]/\i<=5/\iJ e/\ir H e p l/\∀q ys H',aA H H'->H q=none->H' q=some (.lst ys)->ak H' (iH e i) ys->Q (.ref q) H'
theorem tM:aQ ["_law_what","_law_case_here","_law_post_here","_law_stand_here","_law_load","_law_come","_law_free","_law_small"] ["_law_what","_law_case_here"] (aG qu):=(by walk_at "c")
theorem Dy (F:gW K "_law_asked" "_law_asked" qu f fd) (qP:Ct P w K mg base k "wish" ["post","hands","newest"] CZ) (gF:Ct P w K mg base k "hands_of" ["stand"] xU) (jD:Ct P w K mg base k "needed" ["post"] sY) (cO:Ct P w K mg base k "first_stand" ["post"] xV) (fG:M8 P w K mg base k "beat" ["post","stand","come","free"] 12 tu)
  (jC:Ct P w K mg base k "played" ["post","stand","load"] sX) (sG:Ct P w K mg base k "after" ["post","stand","load"] Fj) (jo:Ct P w K mg base k "lean" ["post","stand"] sZ) (zx:Ct P w K mg base k "alike" ["post","one","other"] Fi) (mR:Ct P w K mg base k "is_post" ["thing"] (Dc ju)) (jV:Ct P w K mg base k "is_stand" ["thing"] (mV fW)) (El:Ct P w K mg base k "_law_rounds" ["_law_case_here"] JZ):bG P w K mg base gK (k+1) f fd ["_law_what","_law_case_here"] J1:=by
 refine F.ok tM (by rintro vs H Q E ⟨p,l,i,e,rfl,_⟩; rfl) (fun cdv A outer s H vs Q E hr h=>?_)
 obtain⟨p,l,i,e,rfl,hi,he,⟨⟨v,u,hp,a1,a2⟩,hl⟩,q⟩:=h
 have ND:=tM.nd
 refine⟨_,(aq (cQ (pv 1) (b8 (K:=K) (n:=6) rfl rfl (aF (aD (i:=2) ND rfl (by walk_at "o")) (aF (aD (i:=3) ND rfl (by walk_at "o")) (aF (aD (i:=4) ND rfl (by walk_at "o")) (aF (aD (i:=5) ND rfl (by walk_at "o")) (aF (aD (i:=6) ND rfl (by walk_at "o")) (aF (aD (i:=7) ND rfl (by walk_at "o")) b7)))))))) (aq (bQ (bf gP (pv 0) ao (bu _)) (aC (aK (cg (aa (pf qP hr (aa (pv 2) (aa (pf gF hr (aa (pv 3) aj)) (aa (aU jO (bj (aa (bj (aa (pv 5) (aa ao (aa ao aj)))) aj)) (a_ aO (pv 3) ao (fun _ _=>rfl))) aj)))) (aa (pf jD hr (aa (pv 2) aj)) (aa (pf cO hr (aa (pv 2) aj)) aj)))))) bz) (aq (bQ (bf gP (pv 0) ao (bu _)) (aC (aK (cg (aa (Wx fG hr (aa (pv 2) (aa (pv 3) (aa (pv 5) aj)))) (aa (ZZ fG hr (aa (pv 2) (aa (pv 3) (aa (pv 5) (aa ao aj))))) (aa (ZZ fG hr (aa (pv 2) (aa (pv 3) (aa (pv 5) (aa (pv 6) aj))))) aj)))))) bz) (aq (bQ (bf gP (pv 0) ao (bu _)) (aC (aK (pf jC hr (aa (pv 2) (aa (pv 3) (aa (pv 4) aj)))))) bz) (aq (bQ (bf gP (pv 0) ao (bu _)) (aC (aK (cg (aa (pf sG hr (aa (pv 2) (aa (pv 3) (aa (pv 4) aj)))) (aa (pf jo hr (aa (pv 2) (aa (pv 3) aj))) (aa (pf zx hr (aa (pv 2) (aa (pv 3) (aa (pf sG hr (aa (pv 2) (aa (pv 3) (aa (pv 4) aj)))) aj)))) aj)))))) bz) (aq (bQ (bf gP (pv 0) ao (bu _)) (aC (aK (cg (aa (pf mR hr (aa (pv 2) aj)) (aa (pf jV hr (aa (pv 3) aj)) (aa (pf mR hr (aa (pv 3) aj)) (aa (pf jV hr (aa (pv 2) aj)) aj))))))) bz) (aC (aK (cu (bT (pv 7)) (pf El hr (aa (pv 1) aj)) (cg aj)))))))))),?_⟩
 walk_at "rd"
 refine⟨p,_,rfl,bW.of hp,rfl,?_⟩
 walk_at "rd"
 have hx:=he.x.is
 have hs:=he.st.is
 have hn:=RK he.x
 have ff:∀{H1:Hp} {b:Addr},aA H H1->H1 b=none->H b=none:=fun {H1 b} s1 n1=>by
  cases z:H b with
  | none=>rfl
  | some o=>rw[s1 _ _ z] at n1; cases n1
 obtain⟨pu,us,rfl,hu,au⟩:=bA a2
 obtain⟨sa,sb,sc,eu,g1,g2,g3⟩:=mG a2
 cases eu
 rcases i with _ | _ | _ | _ | _ | _ | i
 ·rw[bc (by decide)]
  refine⟨_,_,pu,e.st.r,sb,e.st.cs,_,rfl,rfl,g1,g2,?_⟩
  refine⟨by decide,fun p1 H1 f1 s1 e1=>⟨by decide,fun p2 H2 f2 s2 e2=>?_⟩⟩
  have s12:=s1.trans s2
  refine Ix.tup (s12 _ _ g1) (aP (j:=5) rfl) ?_
  obtain⟨sc',us',ec,gu,au'⟩:=bA g3
  cases ec
  have lus:us'.length=3:=by have:=au'.length; rw[eY,hs.u] at this; exact this
  refine⟨p2,sc,_,_,rfl,rfl,e2,s12 _ _ gu,jH (aZ (by simp; omega)),fun p3 H3 s3 e3=>?_⟩
  have m9:=s12.trans s3
  have a3:At H3 (zW ([e.c,1,2]::e.st.us)) (.ref p3):=At.tup e3 (ak.cons (At.tup ((s2.trans s3) _ _ e1) (bI [e.c,1,2])) (au'.mono m9))
  have hN:mC ([e.c,1,2]::e.st.us):=⟨by show e.st.us.length+1=4; rw[hs.u],fun y hy=>by
   rcases dZ.mp hy with z | z
   ·rw[z]; rfl
   ·exact hs.l y z⟩
  refine⟨v,.ref p3,_,e.x.lo,e.x.hi,_,_,_,_,_,e.x.dF,_,rfl,a1.mono m9,a3,hx.g,hx.n,hN,fun H4 s4=>?_⟩
  have Cp:=m9.trans s4
  refine⟨v,e.x,rfl,a1.mono Cp,hn,fun p5 H5 s5 e5=>?_⟩
  have Ac:=Cp.trans s5
  refine⟨v,e.x,rfl,a1.mono Ac,fun u6 H6 s6 a6=>⟨by decide,fun p7 H7 f7 s7 e7=>?_⟩⟩
  exact q p7 _ H7 (Ac.trans (s6.trans s7)) (ff (Ac.trans s6) f7) e7 (ak.cons (At.int _) (ak.cons (At.tup ((s6.trans s7) _ _ e5) (bI _)) (ak.cons (a6.mono s7) ak.nil)))
 ·rw[aX (by decide),bc (by decide)]
  refine⟨v,_,e.x,e.st,e.c,12,rfl,a1,a2,hx,hs,fun p1 u1 H1 s1 b1 e1=>?_⟩
  refine⟨v,_,e.x,e.st,e.c,12,rfl,a1.mono s1,a2.mono s1,hx,hs,fun p2 u2 H2 s2 b2 e2=>?_⟩
  have s12:=s1.trans s2
  refine⟨v,_,e.x,e.st,e.c,e.fr,rfl,a1.mono s12,a2.mono s12,hx,hs,fun p3 u3 H3 s3 b3 e3=>⟨by decide,fun p4 H4 f4 s4 e4=>?_⟩⟩
  have Xo:=s3.trans s4
  have Cp:=s2.trans Xo
  have bt:∀{H5:Hp} {u':V} {r:Addr} {fr:Int},At H5 (fJ (eV e.x (gq e.x e.st e.c) (oM e.x e.st e.c fr))) u'->H5 r=some (.tup [u',.int (eG e.x e.st e.c),.int (e.c-cB e.x e.st e.c),.int (oM e.x e.st e.c fr)])->At H5 (nC e.x e.st e.c fr) (.ref r):=fun h1 h2=>At.tup h2 (ak.cons h1 (bI [_,_,_]))
  exact q p4 _ H4 (s1.trans Cp) (ff (s12.trans s3) f4) e4 (ak.cons (bt (b1.mono Cp) (Cp _ _ e1)) (ak.cons (bt (b2.mono Xo) (Xo _ _ e2)) (ak.cons (bt (b3.mono s4) (s4 _ _ e3)) ak.nil)))
 ·rw[aX (by decide),aX (by decide),bc (by decide)]
  exact⟨v,_,l,e.x,e.st,e.ld,rfl,a1,a2,hx,hs,hl,fK he.l (by decide),fun p1 xs H1 s1 f1 e1 A1=>q p1 xs H1 s1 f1 e1 A1⟩
 ·rw[aX (by decide),aX (by decide),aX (by decide),bc (by decide)]
  refine⟨v,_,l,e.x,e.st,e.ld,rfl,a1,a2,hx,hs,hl,fun u1 H1 s1 b1=>?_⟩
  refine⟨v,_,e.x,e.st,rfl,a1.mono s1,a2.mono s1,hn,hs,fun u2 H2 s2 b2=>?_⟩
  have s12:=s1.trans s2
  refine⟨v,_,l,e.x,e.st,e.ld,rfl,a1.mono s12,a2.mono s12,hx,hs,s12 _ _ hl,fun u3 H3 s3 b3=>?_⟩
  have m9:=s12.trans s3
  refine⟨v,_,u3,e.x,e.st,_,rfl,a1.mono m9,a2.mono m9,b3,hn,hs,p_ hx hs,fun H4 s4=>⟨by decide,fun p5 H5 f5 s5 e5=>?_⟩⟩
  have Jq:=s3.trans (s4.trans s5)
  exact q p5 _ H5 (s12.trans Jq) (ff (m9.trans s4) f5) e5 (ak.cons (b1.mono (s2.trans Jq)) (ak.cons (b2.mono Jq) (ak.cons (by unfold At; rfl) ak.nil)))
 ·rw[aX (by decide),aX (by decide),aX (by decide),aX (by decide),bc (by decide)]
  refine⟨v,_,rfl,a1,.inl (Lh _ (uv e.x)),fun H1 s1=>⟨_,_,rfl,a2.mono s1,fun H2 s2=>?_⟩⟩
  have s12:=s1.trans s2
  refine⟨_,_,rfl,a2.mono s12,.inl (xP e.st).1,fun H3 s3=>⟨_,_,rfl,a1.mono (s12.trans s3),fun H4 s4=>⟨by decide,fun p5 H5 f5 s5 e5=>?_⟩⟩⟩
  exact q p5 _ H5 (s12.trans (s3.trans (s4.trans s5))) (ff (s12.trans (s3.trans s4)) f5) e5 (ak.cons (by unfold At; rfl) (ak.cons (by unfold At; rfl) (ak.cons (by unfold At; rfl) (ak.cons (by unfold At; rfl) ak.nil))))
 ·rw[aX (by decide),aX (by decide),aX (by decide),aX (by decide),aX (by decide)]
  by_cases z:e.sm=true
  ·rw[bc z]
   refine⟨p,v,_,_,_,_,e.x,e.st,e.c,rfl,hp,a1,a2,hx,hn,hs,fun p1 ys H1 s1 f1 e1 A1=>q p1 ys H1 s1 f1 e1 ?_⟩
   show ak H1 (if e.sm=true then _ else _) ys
   rw[bc z]
   exact A1
  ·rw[aX z]
   refine⟨dG _,fun p1 H1 f1 s1 e1=>q p1 _ H1 s1 f1 e1 ?_⟩
   show ak H1 (if e.sm=true then _ else _) _
   rw[aX z]
   exact ak.nil
 ·omega
theorem uO:∀(cs:List Int) (g:Int),(bh cs g).1.sum=cs.sum-g+(bh cs g).2
 | [],g=>by simp[bh]; omega
 | c::cs,g=>by
  have:=uO cs g
  rw[bh,Hs,Hs,this]
  simp only
  generalize (if(bh cs g).2<c then(bh cs g).2 else c)=z
  omega
theorem wY:∀(cs:List Int) (g:Int),(∀c∈cs,0<=c)->0<=g->(∀c∈(bh cs g).1,0<=c)/\0<=(bh cs g).2/\((bh cs g).2=0\/(bh cs g).1.sum=0)
 | [],g,_,hg=>⟨by simp[bh],by simpa[bh] using hg,.inr (by simp[bh])⟩
 | c::cs,g,h,hg=>by
  obtain⟨h1,h2,h3⟩:=wY cs g (fun y hy=>h y (gQ _ hy)) hg
  have hc:=h c fO
  rw[bh]
  simp only
  generalize hG:(bh cs g).2=G at *
  refine⟨fun y hy=>?_,?_,?_⟩
  ·rcases dZ.mp hy with z | z
   ·rw[z]; split <;> omega
   ·exact h1 y z
  ·split <;> omega
  ·rw[Hs]
   split <;> omega
structure Wth (x:cU) (st n:cJ) (ch:Int):Prop where
 w:n.w=st.w
 s:n.s=st.s
 u:n.us=st.us
 r:0<=n.r
 c:n.cs.length=5
 cn:∀y∈n.cs,0<=y
 sm:n.r+n.cs.sum=st.r+st.cs.sum+ch
 t:n.t=if ch=0 then st.t else if 0<ch then x.u else x.d
theorem Cu {x:cU} {st:cJ} {ch:Int} (ha:x.a<=4) (hr:0<=st.r) (hl:st.cs.length=5) (hc:∀y∈st.cs,0<=y) (hz:0<=st.r+st.cs.sum+ch):Wth x st (eV x st ch) ch:=by
 by_cases c1:ch=0
 ·subst c1
  have e:eV x st 0=st:=rfl
  rw[e]
  exact⟨rfl,rfl,rfl,hr,hl,hc,by omega,rfl⟩
 ·by_cases c2:0<ch
  ·have e:eV x st ch={ st with cs:=st.cs.take x.a++[st.cs.getD x.a 0+ch]++st.cs.drop (x.a+1),t:=x.u }:=by unfold eV; rw[aX c1,bc c2]
   rw[e]
   refine⟨rfl,rfl,rfl,hr,?_,?_,?_,?_⟩
   ·simp only[dR,pI,Kg,nQ,Ar]
    omega
   ·intro y hy
    rcases lB.mp hy with z | z
    ·rcases lB.mp z with z | z
     ·exact hc y (Od z)
     ·rw[fP.mp z]
      have hlt:x.a<st.cs.length:=by omega
      have:0<=st.cs.getD x.a 0:=by
       rw[oK,jg hlt]
       exact hc _ (Dl hlt)
      omega
    ·exact hc y (List.mem_of_mem_drop z)
   ·show st.r+(st.cs.take x.a++[st.cs.getD x.a 0+ch]++st.cs.drop (x.a+1)).sum=_
    obtain⟨y0,y1,y2,y3,y4,ey⟩:=Pg hl
    rw[ey]
    have:x.a=0\/x.a=1\/x.a=2\/x.a=3\/x.a=4:=by omega
    rcases this with e | e | e | e | e <;> rw[e] <;> simp <;> omega
   ·show x.u=_
    rw[aX c1,bc c2]
  ·have e:eV x st ch={ st with r:=st.r-(bh st.cs (-ch)).2,cs:=(bh st.cs (-ch)).1,t:=x.d }:=by unfold eV; rw[aX c1,aX c2]
   rw[e]
   obtain⟨k1,k2,k3⟩:=wY st.cs (-ch) hc (by omega)
   have k4:=uO st.cs (-ch)
   have k5:=sW _ k1
   refine⟨rfl,rfl,rfl,?_,?_,k1,?_,?_⟩
   ·show 0<=st.r-(bh st.cs (-ch)).2
    omega
   ·show(bh st.cs (-ch)).1.length=5
    rw[oh]; exact hl
   ·show st.r-(bh st.cs (-ch)).2+(bh st.cs (-ch)).1.sum=_
    omega
   ·show x.d=_
    rw[aX c1,aX c2]
theorem lQ {st:cJ} (h:st.cs.length=5):jf st+(st.cs.drop 1++[0]).sum=st.r+st.cs.sum:=by
 obtain⟨a,b,c,d,e,hc⟩:=Pg h
 unfold jf
 rw[hc]
 simp
 omega
theorem J6 {st:cJ} (h:st.cs.length=5) (hr:0<=st.r) (hc:∀y∈st.cs,0<=y):0<=jf st:=by
 obtain⟨a,b,c,d,e,ec⟩:=Pg h
 have:=hc a (by rw[ec]; exact fO)
 unfold jf; rw[ec]; show 0<=st.r+a; omega
theorem Ls {st:cJ} (hc:∀y∈st.cs,0<=y):∀y∈st.cs.drop 1++[0],0<=y:=fun y hy=>by
 rcases lB.mp hy with z | z
 ·exact hc y (List.mem_of_mem_drop z)
 ·rw[fP.mp z]; exact Af 0
structure NxL (x:cU) (st:cJ) (c fr:Int):Prop where
 s:Ci (eV x (gq x st c) (oM x st c fr))
 d:0<=eG x st c/\eG x st c<=1000000000000
 a:0<=c-cB x st c/\c-cB x st c<=1000000000000
 h:-12<=oM x st c fr/\oM x st c fr<=12
theorem yL {x:cU} {st:cJ} {c fr:Int} (hx:G7 x) (hs:Ci st) (hc:vy c) (hf:0<=fr):NxL x st c fr:=by
 have hc5:=hs.c
 have h0:=sW _ hs.cn
 have h1:=hs.r
 have h2:=hs.sm
 have hlo:=hx.lo
 have hhi:=hx.hi
 have hw:=hs.w
 have hm:=hx.m
 have hp:=hx.p
 have hrd:=J6 hc5 hs.r hs.cn
 unfold vy at hc hw hm
 have hwb:0<=j4 x.dF x.lo x.hi (st.r+st.cs.sum) (cW x st c)/\j4 x.dF x.lo x.hi (st.r+st.cs.sum) (cW x st c)<=12:=by
  unfold j4
  simp only
  repeat' split <;> try omega
 have hbd:(0<=st.r+st.cs.sum+oM x st c fr/\st.r+st.cs.sum+oM x st c fr<=12)/\-12<=oM x st c fr/\oM x st c fr<=12:=by
  unfold oM
  rw[lQ hc5]
  split
  ·unfold zm
   split <;> omega
  ·omega
 have ht:0<=cB x st c/\cB x st c<=c/\st.w+cB x st c<=1000000000000:=by
  unfold cB
  repeat' split <;> omega
 have hd:0<=eG x st c/\eG x st c<=st.w+cB x st c:=by
  have:=Int.mul_nonneg hrd (show 0<=x.p by omega)
  unfold eG
  split <;> omega
 have hml:(st.cs.drop 1++[0]).length=5:=by simp[hc5]
 have hW:=Cu (x:=x) (st:=gq x st c) (ch:=oM x st c fr) hx.a hrd hml (Ls hs.cn) (by show 0<=jf st+(st.cs.drop 1++[0]).sum+oM x st c fr; rw[lQ hc5]; exact hbd.1.1)
 refine⟨⟨?_,hW.r,hW.c,hW.cn,?_,?_,?_,?_,?_⟩,⟨hd.1,by omega⟩,by omega,hbd.2⟩
 ·rw[hW.w]
  show 0<=st.w+cB x st c-eG x st c/\st.w+cB x st c-eG x st c<=_
  omega
 ·have:=hW.sm
  have e:(gq x st c).r+(gq x st c).cs.sum=st.r+st.cs.sum:=lQ hc5
  rw[e] at this
  omega
 ·rw[hW.s]
  have:=hs.s
  have:=hx.e
  show 0<=nD x.e st.s/\nD x.e st.s<=5
  unfold nD
  split <;> omega
 ·rw[hW.t]
  have:=hx.u
  have:=hx.d
  have:=hs.t
  show 0<=(if oM x st c fr=0 then(if 0>st.t-1 then 0 else st.t-1) else if 0<oM x st c fr then x.u else x.d)/\(if oM x st c fr=0 then(if 0>st.t-1 then 0 else st.t-1) else if 0<oM x st c fr then x.u else x.d)<=9
  repeat' split <;> try omega
 ·rw[hW.u]
  show((cW x st c).take 3).length=3
  unfold cW
  have:=hs.u
  simp; omega
 ·rw[hW.u]
  intro y hy
  have hy:=Od hy
  unfold cW at hy
  rcases dZ.mp hy with z | z
  ·exact⟨_,_,_,z,hc,⟨hd.1,by omega⟩,⟨by omega,by omega⟩⟩
  ·exact hs.ul y z
theorem GR {x:cU} (hx:G7 x):∀{l:List Int} {st:cJ},(∀y∈l,vy y)->Ci st->Ci (gG x st l)
 | [],_,_,hs=>hs
 | c::l,_,h,hs=>GR hx (l:=l) (fun y hy=>h y (gQ _ hy)) (yL hx hs (h c fO) (fr:=12) (by decide)).s
theorem qJ {b:Nat}:∀{us:List (List Int)},(∀u∈us,u.length=3/\∀z∈u,z.natAbs<=b)->aH b 1 (1600*us.length) (us.map dh)
 | [],_=>lG.mono (bD _) (by omega) (by omega)
 | u::us,h=>by
  obtain⟨h1,h2⟩:=h u fO
  have t:jY b 1 1509 (dh u):=(iu h2).tup.mono (bD _) (by omega) (by rw[h1]; omega)
  have:=(aH.one t).append (qJ fun x hx=>h x (gQ _ hx))
  exact this.mono (bD _) (bD _) (by rw[nQ]; omega)
theorem DQ {x:cJ} (o:Ci x):jY 100000000000000 3 20000 (fJ x):=by
 have g2:=uI o.cn
 have g3:=o.w
 have g4:=o.r
 have g5:=o.sm
 have g6:=sW _ o.cn
 have g7:=o.s
 have g8:=o.t
 unfold vy at g3
 have h1:aH 100000000000000 2 502 [.int x.w]:=(aH.one (dW (by omega))).mono (bD _) (by omega) (bD _)
 have h2:aH 100000000000000 2 502 [.int x.r]:=(aH.one (dW (by omega))).mono (bD _) (by omega) (bD _)
 have h3:aH 100000000000000 2 2515 [.tuple (x.cs.map .int)]:=(aH.one (iu (b:=100000000000000) (cs:=x.cs) fun c hc=>by have:=g2 c hc; have:=o.cn c hc; omega).tup).mono (bD _) (by omega) (by rw[o.c]; omega)
 have h4:aH 100000000000000 2 502 [.int x.s]:=(aH.one (dW (by omega))).mono (bD _) (by omega) (bD _)
 have h5:aH 100000000000000 2 502 [.int x.t]:=(aH.one (dW (by omega))).mono (bD _) (by omega) (bD _)
 have h6:aH 100000000000000 2 4805 [.tuple (x.us.map dh)]:=(aH.one (qJ (b:=100000000000000) (us:=x.us) fun u hu=>by
  obtain⟨a,b,c,rfl,ha,hb,hc⟩:=o.ul u hu
  refine⟨rfl,fun i hi=>?_⟩
  unfold vy at *
  simp only[dZ,jh,or_false] at hi
  rcases hi with rfl | rfl | rfl <;> omega).tup).mono (bD _) (by omega) (by rw[o.u]; omega)
 exact(h1.append (h2.append (h3.append (h4.append (h5.append h6))))).tup.mono (bD _) (by omega) (by omega)
theorem wL {m:Nat}:∀{ds:List PyData},(∀d∈ds,jY 100000000000000 m 3000 d)->aH 100000000000000 m (3002*ds.length) ds
 | [],_=>lG.mono (bD _) (by omega) (by omega)
 | d::ds,h=>by
  have:=(aH.one (h d fO)).append (wL fun x hx=>h x (gQ _ hx))
  exact this.mono (bD _) (bD _) (by rw[nQ]; omega)
theorem rF {m:Nat}:∀{ds:List PyData},(∀d∈ds,jY 100000000000000 m 13000 d)->aH 100000000000000 m (13002*ds.length) ds
 | [],_=>lG.mono (bD _) (by omega) (by omega)
 | d::ds,h=>by
  have:=(aH.one (h d fO)).append (rF fun x hx=>h x (gQ _ hx))
  exact this.mono (bD _) (bD _) (by rw[nQ]; omega)
theorem Ib {r:fH} (h:MP r):jY 100000000000000 1 3000 (mW r):=by
 have hw:=h.is.w
 have hg:=h.g
 have fw:fine 0 (.str r.w)=true:=by
  simp only[dZ,jh,or_false] at hw
  rcases hw with e | e | e <;> rw[e] <;> decide +kernel
 have fg:fine 0 (.str r.g)=true:=by
  simp only[dZ,jh,or_false] at hg
  rcases hg with e | e | e <;> rw[e] <;> decide +kernel
 have ht:r.t.natAbs<=100000000000000:=by
  by_cases z:r.g = "each"
  ·rw[h.z z]; decide
  ·have:=h.t z; omega
 have hs:=h.is.s
 have hn:=h.is.n
 exact((((aH.one (uF fw)).append ((aH.one (dW (i:=(r.s:Int)) (by omega))).append ((aH.one (uF fg)).append ((aH.one (dW (i:=r.n) (by omega))).append (aH.one (dW ht)))))).tup)).mono (bD _) (by omega) (by omega)
theorem Ie {x:cU} (o:G7 x):jY 100000000000000 4 50000 (eZ x):=by
 have g1:=o.p
 have g2:=o.m
 have g3:=o.lo
 have g4:=o.hi
 have g5:=o.a
 have g6:=o.e
 have g7:=o.u
 have g8:=o.d
 unfold vy at g2
 have it:∀i:Int,i.natAbs<=100000000000000->aH 100000000000000 3 502 [.int i]:=fun i h=>(aH.one (dW h)).mono (bD _) (by omega) (bD _)
 have pr:∀a b:Int,a.natAbs<=100->b.natAbs<=100->aH 100000000000000 3 1015 [.tuple [.int a,.int b]]:=fun a b ha hb=>(aH.one (iu (b:=100000000000000) (cs:=[a,b]) fun c hc=>by
  simp only[dZ,jh,or_false] at hc
  rcases hc with rfl | rfl <;> omega).tup).mono (bD _) (by omega) (by show 502*2+3+2<=1015; omega)
 have h7:aH 100000000000000 3 40000 [ue x.dF]:=by
  have q:∀d∈x.dF.map m_,jY 100000000000000 2 13000 d:=fun d hd=>by
   obtain⟨rs,hrs,rfl⟩:=mX.mp hd
   have:=o.r rs hrs
   have hl:=this.hi
   have z:=(wL (m:=1) (ds:=rs.map mW) fun d hd=>by
    obtain⟨r,hr,rfl⟩:=mX.mp hd
    exact Ib (this.g r hr)).tup
   exact z.mono (bD _) (by omega) (by rw[eY]; omega)
  have:=o.n
  exact(aH.one (rF q).tup).mono (bD _) (by omega) (by rw[eY]; omega)
 exact((it x.p (by omega)).append ((it x.m (by omega)).append ((pr x.lo x.hi (by omega) (by omega)).append ((it x.a (by omega)).append ((it x.e (by omega)).append ((pr x.u x.d (by omega) (by omega)).append h7)))))).tup.mono (bD _) (by omega) (by omega)
theorem vp {rs:List fH} {w:Str} (h:∀r∈rs,my r):0<=du rs w/\du rs w<=3:=by
 have A:=pZ rs w
 refine⟨A.z,?_⟩
 rcases A.at' with z | ⟨r,hr,_,z⟩
 ·omega
 ·have:=(h r hr).s; omega
theorem Sy {x:cU} {st:cJ} (hx:G7 x) (h:Ci st):Ci (lL x st):=by
 refine⟨h.w,h.r,h.c,h.cn,h.sm,?_,h.t,rfl,fun y hy=>?_⟩
 ·show 0<=(if x.e-1<st.s then x.e-1 else st.s)/\(if x.e-1<st.s then x.e-1 else st.s)<=5
  have:=h.s
  have:=hx.e
  split <;> omega
 ·obtain⟨i,hi,rfl⟩:=mX.mp hy
  have hi3:=yf.mp hi
  have hu:=h.u
  obtain⟨a,b,c,e,ha,hb,hc⟩:=h.ul (st.us.getD i []) (by rw[oK,jg (by omega)]; exact Dl _)
  have z:vy 0:=⟨by decide,by decide⟩
  rw[e]
  refine⟨_,_,_,rfl,?_,?_,?_⟩
  ·dsimp only
   split
   ·exact ha
   ·exact z
  ·dsimp only
   split
   ·exact hb
   ·exact z
  ·dsimp only
   split
   ·exact hc
   ·exact z
theorem pL {i:Int} {D:Nat} (h:i.natAbs<=100000000000000):aH 100000000000000 D 502 [.int i]:=(aH.one (dW h)).mono (bD _) (dG _) (bD _)
theorem Bl {st:cJ} {D:Nat} (h:Ci st) (hD:3<=D):aH 100000000000000 D 20002 [fJ st]:=(aH.one (DQ h)).mono (bD _) hD (bD _)
theorem wO {b:Bool} {D:Nat}:aH 100000000000000 D 502 [.bool b]:=(aH.one (wM (.inr ⟨b,rfl⟩))).mono (bD _) (dG _) (bD _)
theorem qK {x:cU} {st:cJ} {c fr:Int} (hx:G7 x) (hs:Ci st) (hc:vy c) (hf:0<=fr):aH 100000000000000 4 22000 [nC x st c fr]:=by
 have N:=yL hx hs hc hf
 have hd:=N.d
 have ha:=N.a
 have hh:=N.h
 exact(aH.one (((Bl (D:=3) N.s (bD _)).append ((pL (i:=eG x st c) (by omega)).append ((pL (i:=c-cB x st c) (by omega)).append (pL (i:=oM x st c fr) (by omega))))).tup)).mono (bD _) (bD _) (by omega)
theorem Ru {x:cU} {st:cJ} {c:Int} (hx:G7 x) (hs:Ci st) (hc:vy c):(vI x st c).length=3/\∀z∈vI x st c,z.natAbs<=100000000000000:=by
 have N:=yL hx hs hc (fr:=12) (by decide)
 have hd:=N.d
 have ha:=N.a
 have hh:=N.h
 refine⟨rfl,fun z hz=>?_⟩
 unfold vI at hz
 simp only[dZ,jh,or_false] at hz
 rcases hz with rfl | rfl | rfl <;> omega
theorem FN {x:cU} (hx:G7 x):∀{l:List Int} {st:cJ},(∀y∈l,vy y)->Ci st->∀u∈iY x st l,u.length=3/\∀z∈u,z.natAbs<=100000000000000
 | [],_,_,_,u,hu=>by simp[iY] at hu
 | c::l,st,h,hs,u,hu=>by
  rcases dZ.mp hu with z | z
  ·rw[z]; exact Ru hx hs (h c fO)
  ·exact FN hx (fun y hy=>h y (gQ _ hy)) (yL hx hs (h c fO) (fr:=12) (by decide)).s u z
theorem Ol {l:List Int}:0<=dJ 0 (vL l)/\dJ 0 (vL l)<=l.length:=by
 obtain⟨h1,h2⟩:=yU (vL l) 0
 refine⟨h1 0 fO,?_⟩
 rcases dZ.mp h2 with z | z
 ·rw[z]; omega
 ·unfold vL at z
  obtain⟨i,hi,e⟩:=mX.mp z
  have:=yf.mp (List.mem_filter.mp hi).1
  unfold vL
  rw[<- e]; omega
theorem Li (x:cU) (st:cJ) (c:Int):aH 100000000000000 4 3000 (j7 x st c):=by
 unfold j7
 split
 ·rename_i h
  have h60:=h.choose_spec.1
  have hR:=h.choose_spec.2
  generalize h.choose.1=i at *
  generalize h.choose.2=b at *
  have hb:=hR.lt
  have n1:aH 100000000000000 4 1010 [.tuple [.int (b:Int),.int ((i:Int)-b)]]:=(aH.one ((pL (i:=(b:Int)) (D:=3) (by omega)).append (pL (i:=(i:Int)-b) (by omega))).tup).mono (bD _) (bD _) (by omega)
  have n2:aH 100000000000000 4 502 [uh x st c i b]:=by
   unfold uh
   split
   ·exact(aH.one (wM (.inl rfl))).mono (bD _) (dG _) (bD _)
   ·have:=Ol (l:=BR x st c i)
    rw[sE] at this
    exact pL (by omega)
  exact(n1.append n2).mono (bD _) (bD _) (by omega)
 ·exact(aH.one (uF (by decide +kernel))).mono (bD _) (dG _) (by omega)
theorem Lj {e:C16} (h:iJ e):∀{i:Nat},i<=5->aH 100000000000000 4 70000 (iH e i):=by
 have hlo:=h.x.lo
 have hhi:=h.x.hi
 have hc:vy e.c:=by have:=h.c; exact⟨by omega,by omega⟩
 have hf:=h.f
 intro i hi
 rcases i with _ | _ | _ | _ | _ | i
 ·have w1:∀t hh,0<=j4 e.x.dF e.x.lo e.x.hi hh t/\j4 e.x.dF e.x.lo e.x.hi hh t<=12:=fun t hh=>by
   unfold j4
   simp only
   repeat' split <;> try omega
  have:=w1 ([e.c,1,2]::e.st.us) (e.st.r+e.st.cs.sum)
  have n2:aH 100000000000000 4 1520 [.tuple ((lH e.x).map .int)]:=(aH.one (iu (b:=100000000000000) (cs:=lH e.x) fun z hz=>by
   have hr:∀r∈e.x.dF.flatten,my r:=fun r hr=>by
    obtain⟨rs,h1,h2⟩:=List.mem_flatten.mp hr
    exact((h.x.r rs h1).g r h2).is
   unfold lH at hz
   simp only[dZ,jh,or_false] at hz
   rcases hz with rfl | rfl | rfl
   ·have:=vp (w:="come") hr; omega
   ·have:=vp (w:="done") hr; omega
   ·have:=vp (w:="wait") hr; omega).tup).mono (bD _) (by omega) (by show 502*3+3+2<=1520; omega)
  exact((pL (i:=j4 e.x.dF e.x.lo e.x.hi (e.st.r+e.st.cs.sum) ([e.c,1,2]::e.st.us)) (by omega)).append (n2.append (Bl (Gr h.x) (by omega)))).mono (bD _) (bD _) (by omega)
 ·exact((qK h.x h.st hc (fr:=12) (by decide)).append ((qK h.x h.st hc (fr:=12) (by decide)).append (qK h.x h.st hc hf.1))).mono (bD _) (bD _) (by omega)
 ·have hl:=h.l
  exact(qJ (FN h.x h.u h.st)).mono (bD _) (by omega) (by rw[mK]; omega)
 ·exact((Bl (GR h.x h.u h.st) (by omega)).append ((Bl (Sy h.x h.st) (by omega)).append wO)).mono (bD _) (bD _) (by omega)
 ·exact(wO.append (wO.append (wO.append wO))).mono (bD _) (dG _) (by omega)
 ·show aH 100000000000000 4 70000 (if e.sm=true then _ else _)
  split
  ·exact(Li _ _ _).mono (bD _) (bD _) (by omega)
  ·exact lG.mono (bD _) (dG _) (dG _)
theorem sO (e:C16) (i:Nat):bC (iH e i)=true:=by
 refine cC.mpr fun d hd=>?_
 have hI:∀l:List Int,nZ (.tuple (l.map .int))=true:=fun l=>by
  show bC (l.map .int)=true
  exact lM l
 rcases i with _ | _ | _ | _ | _ | i
 ·simp only[iH,dZ,jh,or_false] at hd
  rcases hd with rfl | rfl | rfl
  ·rfl
  ·exact hI _
  ·exact g_ _
 ·have hb:∀fr,nZ (nC e.x e.st e.c fr)=true:=fun fr=>by
   show bC [fJ _,.int _,.int _,.int _]=true
   simp only[bC,g_,nZ,Bool.and_true]
  simp only[iH,dZ,jh,or_false] at hd
  rcases hd with rfl | rfl | rfl
  ·exact hb _
  ·exact hb _
  ·exact hb _
 ·obtain⟨u,_,rfl⟩:=mX.mp hd
  exact hI u
 ·simp only[iH,dZ,jh,or_false] at hd
  rcases hd with rfl | rfl | rfl
  ·exact g_ _
  ·exact g_ _
  ·rfl
 ·simp only[iH,dZ,jh,or_false] at hd
  rcases hd with rfl | rfl | rfl | rfl <;> rfl
 ·have hd:d∈(if e.sm=true then j7 e.x e.st e.c else[]):=hd
  split at hd
  ·unfold j7 at hd
   split at hd
   ·simp only[dZ,jh,or_false] at hd
    rcases hd with rfl | rfl
    ·rfl
    ·unfold uh
     split <;> rfl
   ·rw[fP.mp hd]; rfl
  ·simp at hd
def nA (e:C16):PyData:=.tuple [eZ e.x,fJ e.st,.list (e.ld.map .int),.int e.c,.int e.fr,.bool e.sm]
theorem ir.at {H:Hp} {e:C16} {p l:Addr} (h:ir H e p l):At H (nA e) (.ref p):=by
 obtain⟨v,u,h1,h2,h3⟩:=h.ex
 exact At.tup h1 (ak.cons h2 (ak.cons h3 (ak.cons (At.lst h.l (bI _)) (ak.cons (At.int _) (ak.cons (At.int _) (ak.cons (by unfold At; rfl) ak.nil))))))
theorem ir.keep {G H:Hp} {e:C16} {p l:Addr} (h:ir G e p l) (ht:∀b xs,G b=some (.tup xs)->H b=some (.tup xs)) (hl:H l=some (.lst (e.ld.map V.int))):ir H e p l:=by
 obtain⟨v,u,h1,h2,h3⟩:=h.ex
 exact⟨⟨v,u,ht _ _ h1,At.tupS ht _ _ (uv _) h2,At.tupS ht _ _ (g_ _) h3⟩,hl⟩
theorem wN {e:C16} (h:iJ e):jY 100000000000000 5 100000 (nA e):=by
 have hc:=h.c
 have hf:=h.f
 have hl:=h.l
 have n1:=(aH.one (Ie h.x))
 have n3:aH 100000000000000 4 20000 [.list (e.ld.map .int)]:=(aH.one (iu (b:=100000000000000) (cs:=e.ld) fun z hz=>by have:=h.u z hz; unfold vy at this; omega).lst).mono (bD _) (by omega) (by omega)
 exact(n1.append ((Bl (D:=4) h.st (by omega)).append (n3.append ((pL (i:=e.c) (by omega)).append ((pL (i:=e.fr) (by omega)).append wO))))).tup.mono (bD _) (bD _) (by omega)
theorem qW {e0 e1:C16} (h0:iJ e0) (h1:iJ e1):xq (.list [nA e0,nA e1]):=
 ((aH.one (wN h0)).append (aH.one (wN h1))).lst.shows (by decide) (by decide) (by decide)
theorem mJ {e:C16} (h:iJ e) {i:Nat} (hi:i<=5):xq (.list (iH e i)):=(Lj h hi).lst.shows (by decide) (by decide) (by decide)
theorem GQ {e:C16} (h:iJ e) {i:Nat} (hi:i<=5):(iH e i).length<=40:=by
 have:=h.l
 rcases i with _ | _ | _ | _ | _ | i
 ·exact fK (show 3<=40 by decide) (bD _)
 ·exact fK (show 3<=40 by decide) (bD _)
 ·show((iY e.x e.st e.ld).map dh).length<=40
  rw[eY,mK]; omega
 ·exact fK (show 3<=40 by decide) (bD _)
 ·exact fK (show 4<=40 by decide) (bD _)
 ·show(if e.sm=true then j7 e.x e.st e.c else[]).length<=40
  split
  ·unfold j7
   split
   ·exact fK (show 2<=40 by decide) (bD _)
   ·exact fK (show 1<=40 by decide) (bD _)
  ·exact dG _
structure mq (G H:Hp) (e:C16) (r:Addr) (qs:List Addr):Prop where
 r:H r=some (.lst (qs.map V.ref))
 n:qs.length=6
 q:∀i q,qs[i]?=some q->G q=none/\∃ys,H q=some (.lst ys)/\ak H (iH e i) ys
theorem mq.same {G H H':Hp} {e:C16} {r:Addr} {qs:List Addr} (h:mq G H e r qs) (s:aA H H'):mq G H' e r qs:=
 ⟨s _ _ h.r,h.n,fun i q hq=>by obtain⟨h1,ys,h2,h3⟩:=h.q i q hq; exact⟨h1,ys,s _ _ h2,h3.mono s⟩⟩
theorem mq.UJ {G H:Hp} {e:C16} {r a:Addr} {qs:List Addr} {xs:List V} {o:HO} (h:mq G H e r qs) (ha:H a=some (.lst xs)) (hr:r≠a) (hq:a∉qs):mq G (upd H a o) e r qs:=by
 have ht:∀b ys,H b=some (.tup ys)->upd H a o b=some (.tup ys):=fun b ys e=>by rw[aJ (fun z=>by rw[z,ha] at e; cases e)]; exact e
 refine⟨by rw[aJ hr]; exact h.r,h.n,fun i q hi=>?_⟩
 obtain⟨h1,ys,h2,h3⟩:=h.q i q hi
 exact⟨h1,ys,by rw[aJ (show q≠a from fun z=>hq (by rw[<- z]; exact vK hi))]; exact h2,ak.tupS ht _ _ (sO e i) h3⟩
theorem mq.flat {G H:Hp} {e:C16} {r b:Addr} {qs:List Addr} {ls:List Addr} {ys:List V} (h:mq G H e r qs) (hb:H b=some (.lst (ls.map V.ref))) (hn:ls≠[]) (hl:∀q∈ls,∃zs,H q=some (.lst zs)):b∉qs:=fun hm=>by
 obtain⟨i,hi,e'⟩:=yp.mp hm
 obtain⟨_,ys,h2,h3⟩:=h.q i b (by rw[jg hi,e'])
 rw[hb] at h2
 cases h2
 cases ls with
 | nil=>exact hn rfl
 | cons q ls=>
  obtain⟨zs,hz⟩:=hl q fO
  have lA:=h3.length
  have hn:=sO e i
  cases hd:iH e i with
  | nil=>rw[hd] at lA; simp at lA
  | cons d ds=>
   rw[hd] at h3 hn
   obtain⟨x,r',ex,h4,_⟩:=ak.aN h3
   cases ex
   have hn:=cC.mp hn d fO
   cases d with
   | tuple=>obtain⟨a,xs,ea,hx,_⟩:=bA h4; cases ea; rw[hz] at hx; cases hx
   | list=>cases hn
   | dict=>cases hn
   | _=>unfold At at h4; cases h4
structure Fx (G H:Hp) (a:Addr) (ls:List Addr) (n M:Nat):Prop where
 f:∀b o,G b=some o->b≠a->b∉ls->H b=some o
 t:Tp H a n
 l:∀b∈ls,∃zs,H b=some (.lst zs)/\zs.length<=M
theorem Fx.upd {G H:Hp} {a b:Addr} {ls:List Addr} {n M M':Nat} {zs:List V} (h:Fx G H a ls n M) (hb:b∈ls) (ba:b≠a) (hz:zs.length<=M') (hM:M<=M'):Fx G (upd H b (.lst zs)) a ls n M':=
 ⟨fun c o e n1 n2=>by rw[aJ (show c≠b from fun z=>n2 (by rw[z]; exact hb))]; exact h.f c o e n1 n2,h.t.dw ba,fun c hc=>by
  by_cases z:c=b
  ·rw[z]; exact⟨zs,az,hz⟩
  ·obtain⟨ws,h1,h2⟩:=h.l c hc
   exact⟨ws,by rw[aJ z]; exact h1,fK h2 hM⟩⟩
theorem Vi {i:TI} {g:TG} {x b:TS}:Hh (xN i g x) b=eE (xN i g x) b:=rfl
def vC (e0 e1:C16) (j:Nat):C16:=if j=0 then e0 else e1
theorem Nq {K:PySem.W.Frag} {tv:TE} {σ:St} {G:Hp} {Q:VK} {ca q0 q1 l0 l1:Addr} {e0 e1:C16} (hl:∀R:VK,R (.ref ca) G->tv σ G R) (hca:G ca=some (.lst [.ref q0,.ref q1])) (i0:iJ e0) (i1:iJ e1) (C0:ir G e0 q0 l0) (C1:ir G e1 q1 l1)
  (q:∀tl r0 r1 qH qG H',aA G H'->H' tl=some (.lst [.ref r0,.ref r1])->mq G H' e0 r0 qH->mq G H' e1 r1 qG->Q (.ref tl) H') :
  d8 1 [] (j8 K tv) (cF 0) ql (dM [0] (wW (oY (tC (.int 6)) CJ)) (mY J1 [] E0 (oY (oW 0) (oY (oW 1) CJ)))) σ G Q:=by
 have hC:∀j x,[V.ref q0,V.ref q1][j]?=some x->∃p l,x=.ref p/\iJ (vC e0 e1 j)/\ir G (vC e0 e1 j) p l:=fun j x hx=>by
  rcases j with _ | _ | j
  ·cases hx; exact⟨q0,l0,rfl,i0,C0⟩
  ·cases hx; exact⟨q1,l1,rfl,i1,C1⟩
  ·cases hx
 refine uY (fun i=>[[V.ref q0,V.ref q1][i]?]) (fun _=>rfl) hl hca fun acc hacc=>?_
 refine⟨fun i zs H'=>∃rows:List (Addr×List Addr),rows.length=i/\zs=rows.map (fun r=>V.ref r.1)/\(∀j r,rows[j]?=some r->mq G H' (vC e0 e1 j) r.1 r.2/\r.1≠acc/\acc∉r.2)/\aA G H'/\H' acc=some (.lst zs),⟨[],rfl,rfl,fun j r h=>(by cases h),aM hacc _,az⟩,?_,?_,?_⟩
 ·rintro i zs H' ⟨rows,_,_,_,s',_⟩
  exact s' _ _ hca
 ·rintro i x zs H' hx ⟨rows,lr,rfl,hr,s',ha⟩
  obtain⟨p,l,rfl,ci,cs⟩:=hC i x hx
  have hle:i<2:=by
   rcases i with _ | _ | i
   ·decide
   ·decide
   ·cases hx
  rw[hx]
  refine⟨fun R hR=>?_,?_⟩
  ·exact hR
  show dM _ _ _ [some (.ref p)] H' _
  rw[qj]
  walk_at "rd"
  refine CK.of (n:=6) rfl (by decide) fun qb f2=>?_
  have n2:qb≠acc:=fun z=>by rw[z,ha] at f2; cases f2
  refine⟨fun j zs cV=>∃qs:List Addr,zs=qs.map V.ref/\qs.length=j/\(∀k q,qs[k]?=some q->H' q=none/\q≠qb/\∃ys,cV q=some (.lst ys)/\ak cV (iH (vC e0 e1 i) k) ys)/\aA H' cV/\cV qb=some (.lst zs),⟨[],rfl,rfl,fun k q h=>(by cases h),aM f2 _,az⟩,?_,?_⟩
  ·rintro j _ H2 hj ⟨qs,rfl,lq,hq,s2,h2⟩
   show mY _ _ _ _ [some _,some (.ref p)] H2 _
   walk_at "rd"
   rw[wH]
   refine⟨p,l,j,_,rfl,by omega,ci,cs.keep (fun b xs e=>s2 _ _ (s' _ _ e)) (s2 _ _ (s' _ _ cs.l)),fun q3 ys H3 s3 f3 h3 A3=>?_⟩
   have nq:q3≠qb:=fun z=>by rw[z,h2] at f3; cases f3
   have a3:=s3 _ _ h2
   have ht:∀b xs,H3 b=some (.tup xs)->upd H3 qb (.lst (qs.map V.ref++[.ref q3])) b=some (.tup xs):=fun b xs e=>by rw[aJ (fun z=>by rw[z,a3] at e; cases e)]; exact e
   refine⟨a3,by rw[eY,lq]; exact aZ (by omega),qs++[q3],by simp,by rw[dR,lq]; rfl,fun k q' hk=>?_,?_,az⟩
   ·rcases An k qs.length with z | z
    ·rw[Dp z] at hk
     obtain⟨g1,g2,ys',g3,g4⟩:=hq k q' hk
     exact⟨g1,g2,ys',by rw[aJ g2]; exact s3 _ _ g3,ak.tupS ht _ _ (sO _ _) (g4.mono s3)⟩
    ·rw[Al z] at hk
     have ek:k=j:=by
      have:=(iM.mp hk).1
      simp at this; omega
     rw[lq,ek,Ag] at hk
     cases hk
     rw[ek]
     exact⟨s2.no f3,nq,ys,by rw[aJ nq]; exact h3,ak.tupS ht _ _ (sO _ _) A3⟩
   ·exact(s2.trans s3).dw f2
  ·rintro _ H2 ⟨qs,rfl,lq,hq,s2,h2⟩
   have a2:=s2 _ _ ha
   have nq:acc∉qs:=fun z=>by
    obtain⟨k,hk,e⟩:=yp.mp z
    have:=(hq k acc (by rw[jg hk,e])).1
    rw[ha] at this; cases this
   refine⟨a2,by rw[eY,lr]; exact aZ (by omega),rows++[(qb,qs)],by rw[dR,lr]; rfl,by simp,fun k r hk=>?_,?_,az⟩
   ·rcases An k rows.length with z | z
    ·rw[Dp z] at hk
     obtain⟨g1,g2,g3⟩:=hr k r hk
     exact⟨(g1.same s2).UJ a2 g2 g3,g2,g3⟩
    ·rw[Al z] at hk
     have ek:k=i:=by
      have:=(iM.mp hk).1
      simp at this; omega
     rw[lr,ek,Ag] at hk
     cases hk
     rw[ek]
     have T:mq G H2 (vC e0 e1 i) qb qs:=⟨h2,lq,fun k q hk=>by obtain⟨g1,_,g3⟩:=hq k q hk; exact⟨s'.no g1,g3⟩⟩
     exact⟨T.UJ a2 n2 nq,n2,nq⟩
   ·exact(s'.trans s2).dw hacc
 ·rintro _ H' ⟨rows,lr,rfl,hr,s',ha⟩
  obtain⟨⟨r0,qH⟩,⟨r1,qG⟩,rfl⟩:=Ph lr
  exact q acc r0 r1 qH qG H' s' ha (hr 0 _ rfl).1 (hr 1 _ rfl).1
noncomputable def mZ (e:C16):List V:=(List.range 6).map fun i=>V.str (PyData.list (iH e i)).shown
theorem v_ {G:Hp}:∀{ss:List Str} {ys:List V},ak G (ss.map PyData.str) ys->ys=ss.map V.str
 | [],ys,h=>ak.j5 h
 | c::cs,ys,h=>by
  obtain⟨x,r,rfl,h1,h2⟩:=ak.aN h
  unfold At at h1
  rw[h1,v_ h2]; rfl
theorem Pr {K:PySem.W.Frag} {tv:TE} {σ:St} {G0 G:Hp} {Q:VK} {tl r0 r1:Addr} {qH qG:List Addr} {e0 e1:C16} (hl:∀R:VK,R (.ref tl) G->tv σ G R) (htl:G tl=some (.lst [.ref r0,.ref r1])) (i0:iJ e0) (i1:iJ e1) (T0:mq G0 G e0 r0 qH) (T1:mq G0 G e1 r1 qG)
  (q:∀kp k0 k1 H',aA G H'->G kp=none->G k0=none->G k1=none->H' kp=some (.lst [.ref k0,.ref k1])->H' k0=some (.lst (mZ e0))->H' k1=some (.lst (mZ e1))->Q (.ref kp) H') :
  d8 1 [] (j8 K tv) (cF 0) ql (dM [] (j8 K (oW 0)) (Rg (fun vs H Q=>∃v d,vs=[v]/\At H d v/\xq d/\Q (V.str d.shown) H) (oY (oW 0) CJ))) σ G Q:=by
 have hC:∀j x,[V.ref r0,V.ref r1][j]?=some x->∃r qs,x=.ref r/\iJ (vC e0 e1 j)/\mq G0 G (vC e0 e1 j) r qs:=fun j x hx=>by
  rcases j with _ | _ | j
  ·cases hx; exact⟨r0,qH,rfl,i0,T0⟩
  ·cases hx; exact⟨r1,qG,rfl,i1,T1⟩
  ·cases hx
 refine uY (fun i=>[[V.ref r0,V.ref r1][i]?]) (fun _=>rfl) hl htl fun acc hacc=>?_
 refine⟨fun i zs H'=>∃ks:List Addr,ks.length=i/\zs=ks.map V.ref/\(∀j k,ks[j]?=some k->H' k=some (.lst (mZ (vC e0 e1 j)))/\G k=none/\k≠acc)/\aA G H'/\H' acc=some (.lst zs),⟨[],rfl,rfl,fun j r h=>(by cases h),aM hacc _,az⟩,?_,?_,?_⟩
 ·rintro i zs H' ⟨rows,_,_,_,s',_⟩
  exact s' _ _ htl
 ·rintro i x zs H' hx ⟨ks,lr,rfl,hr,s',ha⟩
  obtain⟨r,qs,rfl,ci,T⟩:=hC i x hx
  have hle:i<2:=by
   rcases i with _ | _ | i
   ·decide
   ·decide
   ·cases hx
  rw[hx]
  refine⟨fun R hR=>?_,?_⟩
  ·exact hR
  show dM _ _ _ [some (.ref r)] H' _
  have T':=T.same s'
  refine GC (es:=((List.range 6).map fun j=>(PyData.list (iH (vC e0 e1 i) j)).shown).map .str) (fun R hR=>hR) T'.r (by simp[T'.n]) (by simp; decide) (cC.mpr fun d hd=>by obtain⟨z,_,rfl⟩:=mX.mp hd; rfl) (fun j x d H2 hx2 hd s2 R hR=>?_) fun qb ys H2 s2 f2 h2 A2=>?_
  ·rw[dz] at hx2 hd
   obtain⟨q',hq',rfl⟩:=nR.mp hx2
   obtain⟨_,zs,h3,A3⟩:=T'.q j q' hq'
   have hj:j<6:=by
    have:=(iM.mp hq').1
    have:=T'.n
    omega
   rw[dz,List.getElem?_range hj] at hd
   cases hd
   refine⟨.ref q',_,rfl,At.lst (s2 _ _ h3) (A3.mono s2),mJ ci (by omega),hR _ _ (aA.refl _) (At.str _)⟩
  ·have ey:=v_ A2
   subst ey
   have a2:=s2 _ _ ha
   have n2:qb≠acc:=fun z=>by rw[z,ha] at f2; cases f2
   refine⟨a2,by rw[eY,lr]; exact aZ (by omega),ks++[qb],by rw[dR,lr]; rfl,by simp,fun k r hk=>?_,?_,az⟩
   ·rcases An k ks.length with z | z
    ·rw[Dp z] at hk
     obtain⟨g1,g2,g3⟩:=hr k r hk
     exact⟨by rw[aJ g3]; exact s2 _ _ g1,g2,g3⟩
    ·rw[Al z] at hk
     have ek:k=i:=by
      have:=(iM.mp hk).1
      simp at this; omega
     rw[lr,ek,Ag] at hk
     cases hk
     rw[ek]
     refine⟨?_,s'.no f2,n2⟩
     rw[aJ n2,h2,Am]
     rfl
   ·exact(s'.trans s2).dw hacc
 ·rintro _ H' ⟨ks,lr,rfl,hr,s',ha⟩
  obtain⟨k0,k1,rfl⟩:=Ph lr
  exact q acc k0 k1 H' s' hacc (hr 0 _ rfl).2.1 (hr 1 _ rfl).2.1 ha (hr 0 _ rfl).1 (hr 1 _ rfl).1
theorem LR {K:PySem.W.Frag} {tv:TE} {σ:St} {G:Hp} {Q:VK} {ca q0 q1 l0 l1:Addr} {e0 e1:C16} (hl:∀R:VK,R (.ref ca) G->tv σ G R) (hca:G ca=some (.lst [.ref q0,.ref q1])) (C0:ir G e0 q0 l0) (C1:ir G e1 q1 l1)
  (q:∀lp m0 m1 H',aA G H'->G m0=none->G m1=none->H' lp=some (.lst [.ref m0,.ref m1])->G lp=none->H' m0=some (.lst (e0.ld.map V.int))->H' m1=some (.lst (e1.ld.map V.int))->Q (.ref lp) H') :
  d8 1 [] (j8 K tv) (cF 0) ql (Rg (fun vs H Q=>∃p ys,vs=[V.ref p]/\H p=some (HO.lst ys)/\∀(l:Addr),H l=none->Q (V.ref l) (upd H l (HO.lst ys))) (oY (Rb Hr (oW 0) (tC (V.int 2))) CJ)) σ G Q:=by
 have hC:∀j x,[V.ref q0,V.ref q1][j]?=some x->∃p l,x=.ref p/\ir G (vC e0 e1 j) p l:=fun j x hx=>by
  rcases j with _ | _ | j
  ·cases hx; exact⟨q0,l0,rfl,C0⟩
  ·cases hx; exact⟨q1,l1,rfl,C1⟩
  ·cases hx
 refine uY (fun i=>[[V.ref q0,V.ref q1][i]?]) (fun _=>rfl) hl hca fun acc hacc=>?_
 refine⟨fun i zs H'=>∃ks:List Addr,ks.length=i/\zs=ks.map V.ref/\(∀j k,ks[j]?=some k->H' k=some (.lst ((vC e0 e1 j).ld.map V.int))/\G k=none/\k≠acc)/\aA G H'/\H' acc=some (.lst zs),⟨[],rfl,rfl,fun j r h=>(by cases h),aM hacc _,az⟩,?_,?_,?_⟩
 ·rintro i zs H' ⟨rows,_,_,_,s',_⟩
  exact s' _ _ hca
 ·rintro i x zs H' hx ⟨ks,lr,rfl,hr,s',ha⟩
  obtain⟨p,l,rfl,C⟩:=hC i x hx
  obtain⟨v,u,hp,_,_⟩:=C.ex
  have hle:i<2:=by
   rcases i with _ | _ | i
   ·decide
   ·decide
   ·cases hx
  rw[hx]
  refine⟨fun R hR=>?_,?_⟩
  ·exact hR
  show Hr (.ref p) (.int 2) H' _
  refine Ix.tup (s' _ _ hp) (aP (j:=2) rfl) ⟨l,_,rfl,s' _ _ C.l,fun m hm=>?_⟩
  have s2:=aM hm (HO.lst ((vC e0 e1 i).ld.map V.int))
  have h2:upd H' m (HO.lst ((vC e0 e1 i).ld.map V.int)) m=_:=az
  generalize upd H' m (HO.lst ((vC e0 e1 i).ld.map V.int))=H2 at s2 h2 ⊢
  have a2:=s2 _ _ ha
  have n2:m≠acc:=fun z=>by rw[z,ha] at hm; cases hm
  refine⟨a2,by rw[eY,lr]; exact aZ (by omega),ks++[m],by rw[dR,lr]; rfl,by simp,fun k r hk=>?_,?_,az⟩
  ·rcases An k ks.length with z | z
   ·rw[Dp z] at hk
    obtain⟨g1,g2,g3⟩:=hr k r hk
    exact⟨by rw[aJ g3]; exact s2 _ _ g1,g2,g3⟩
   ·rw[Al z] at hk
    have ek:k=i:=by
     have:=(iM.mp hk).1
     simp at this; omega
    rw[lr,ek,Ag] at hk
    cases hk
    rw[ek]
    exact⟨by rw[aJ n2]; exact h2,s'.no hm,n2⟩
  ·exact(s'.trans s2).dw hacc
 ·rintro _ H' ⟨ks,lr,rfl,hr,s',ha⟩
  obtain⟨k0,k1,rfl⟩:=Ph lr
  exact q acc k0 k1 H' s' (hr 0 _ rfl).2.1 (hr 1 _ rfl).2.1 ha hacc (hr 0 _ rfl).1 (hr 1 _ rfl).1
def Fg (K:PySem.W.Frag):Sp:=fun vs H Q _=>∃(p:Addr) (ns:List Int),vs=[.ref p]/\zH K H p (ns.map V.int)/\ns.length<=63/\∀H',Q (.bl true) H'
theorem Jd (x:cU) (st:cJ) (c fr:Int):PyData.hasDict (nC x st c fr)=false/\PyData.canLay0 (nC x st c fr)=true/\PyData.depth (nC x st c fr)<=60:=by
 obtain⟨d1,d2,d3⟩:=jx (eV x (gq x st c) (oM x st c fr)).cs
 obtain⟨e1,e2,e3⟩:=oV (eV x (gq x st c) (oM x st c fr)).us
 unfold nC
 refine⟨by simpa[fJ,PyData.hasDict,PyData.hasDictAll] using⟨d1,e1⟩,by simpa[fJ,PyData.canLay0,PyData.canLayAll0] using⟨d2,e2⟩,?_⟩
 simp only[fJ,PyData.depth,PyData.depthAll,d3]
 omega
theorem J2:aQ ["_law_script","_law_k","_law_tape_here","_law_cases","_law_seen","_law_told","_law_kept","_law_row_here","_law_one","_law_loads","_law_turn","_law_which","_law_what","_law_case_here"] ["_law_script"] (aG tW):=(by walk_at "c")
theorem R3 (F:gW K "law" "law" tW f fd) (B:Bi mg) (My:Ct P w K mg base k "_law_tape" ["_law_script","_law_k"] (JV K)) (aL:Ct P w K mg base k "_law_draw" ["_law_tape_here","_law_many"] i_) (BX:Ct P w K mg base k "_law_case" ["_law_tape_here"] J0) (mQ:Ct P w K mg base k "_law_asked" ["_law_what","_law_case_here"] J1):bG P w K mg base gK (k+1) f fd ["_law_script"] (Fg K):=by
 refine F.ok J2 (by rintro vs H Q E ⟨p,ns,rfl,_⟩; rfl) (fun cdv A outer s H vs Q E hr h=>?_)
 obtain⟨p,ns,rfl,hS,hl,q⟩:=h
 have ND:=J2.nd
 refine⟨_,(aq (gR PassesOwn.never rfl (cM (by rfl) B.range (aa (pb (jA rfl) B.max qT (aa ao (aa (pb (eO rfl) B.min l_ (aa (pb (gA (K:=K) rfl) B.len oH (aa (pv 0) aj)) (aa ao aj))) aj))) aj)) (aD (i:=1) ND rfl (by walk_at "o")) (aq (aV (i:=2) ND rfl (by walk_at "o") (pf My hr (aa (pv 0) (aa (pv 1) aj)))) (aq (aV (i:=3) ND rfl (by walk_at "o") (cg (aa (pf BX hr (aa (pv 2) aj)) (aa (pf BX hr (aa (pv 2) aj)) aj)))) (aq (aV (i:=4) ND rfl (by walk_at "o") (pb (d_ hr) B.repr jW (aa (pv 3) aj))) (aq (Av (i:=5) ND rfl (by walk_at "o") (nt:=1) (N':=["_law_case_here"]) (js:=[]) rfl (dU (K:=K) rfl (pv 3)) Cm.of (fun fp s' H'=>(aD (i:=0) (by show List.Nodup (["_law_case_here"]:List Str); decide) rfl (.inr (gZ rfl)) (.inl rfl))) (fun fp s' H'=>jQ) (fun fp s' H'=>(fu (N':=["_law_what","_law_case_here"]) (js:=[0]) rfl (cM (by rfl) B.range (aa ao aj)) sU.mk1 rfl (by decide) rfl (fun fp s' H'=>(pf mQ hr (aa (pv 0) (aa (pv 1) aj))))))) (aq (ux (i:=6) ND rfl (by walk_at "o") (nt:=1) (N':=["_law_row_here"]) (js:=[]) rfl (dU (K:=K) rfl (pv 5)) mF.of (fun fp s' H'=>(aD (i:=0) (by show List.Nodup (["_law_row_here"]:List Str); decide) rfl (.inl (gO rfl)) (.inr (gO rfl)))) (fun fp s' H'=>jQ) (fun fp s' H'=>(fu (N':=["_law_one"]) (js:=[]) rfl (dU (K:=K) rfl (pv 0)) sU.Su rfl (by decide) rfl (fun fp s' H'=>(pb (d_ hr) B.repr jW (aa (pv 0) aj)))))) (aq (bQ (PW.pt (pJ (bf (RZ hr.units) (a_ aO (a_ aO (a_ aO (pv 5) ao (fun _ _=>rfl)) ao (fun _ _=>rfl)) ao (fun _ _=>rfl)) (a_ aO (a_ aO (a_ aO (pv 5) ao (fun _ _=>rfl)) ao (fun _ _=>rfl)) ao (fun _ _=>rfl)) (bu _)) (jK (bf uy (pb (d_ hr) B.repr jW (aa (pv 3) aj)) (pv 4) (bu _))))) (aC (aK fU)) bz) (aq (gR PassesOwn.never rfl (dU (K:=K) rfl (pv 5)) (aD (i:=7) ND rfl (by walk_at "o")) (aC (gR PassesOwn.never rfl (dU (K:=K) rfl (pv 7)) (aD (i:=8) ND rfl (by walk_at "o")) (aq (iW (nU (K:=K) rfl PySem.F.plainAttrs_list PySem.F.slot_list_append PySem.F.type_list_append gm (pv 8) (aa gb aj))) (aC (iW (FT (K:=K) rfl PySem.F.plainAttrs_list PySem.F.slot_list_reverse PySem.F.type_list_reverse DR (pv 8)))))))) (aq (ux (i:=9) ND rfl (by walk_at "o") (nt:=1) (N':=["_law_case_here"]) (js:=[]) rfl (dU (K:=K) rfl (pv 3)) mF.of (fun fp s' H'=>(aD (i:=0) (by show List.Nodup (["_law_case_here"]:List Str); decide) rfl (.inl (gO rfl)) (.inr (gO rfl)))) (fun fp s' H'=>jQ) (fun fp s' H'=>(pt (Ja) B.list GJ (aa (a_ aO (pv 0) ao (fun _ _=>rfl)) aj)))) (aq (gR PassesOwn.never rfl (cM (by rfl) B.range (aa ao aj)) (aD (i:=10) ND rfl (by walk_at "o")) (aq (uw (i:=11) (j:=12) rfl ND rfl rfl (by decide) rfl rfl (aa (pf aL hr (aa (pv 2) (aa ao aj))) (aa (pf aL hr (aa (pv 2) (aa ao aj))) aj)) (by rfl)) (aq (aV (i:=8) ND rfl (by walk_at "o") (pf mQ hr (aa (pv 12) (aa (a_ aO (pv 3) (pv 11) (fun _ _=>rfl)) aj)))) (aq (bQ (PW.pt (pJ (bf uy (pb (d_ hr) B.repr jW (aa (pv 8) aj)) (a_ aO (a_ aO (pv 6) (pv 11) (fun _ _=>rfl)) (pv 12) (fun _ _=>rfl)) (bu _)) (jK (bf uy (pb (d_ hr) B.repr jW (aa (pv 3) aj)) (pv 4) (bu _))))) (aC (aK fU)) bz) (aC (iW (FT (K:=K) rfl PySem.F.plainAttrs_list PySem.F.slot_list_clear PySem.F.type_list_clear Lr (pv 8)))))))) (aC (gR PassesOwn.never rfl (cM (by rfl) B.range (aa ao aj)) (aD (i:=11) ND rfl (by walk_at "o")) (aq (iW (nU (K:=K) rfl PySem.F.plainAttrs_list PySem.F.slot_list_append PySem.F.type_list_append gm (a_ aO (a_ aO (pv 3) (pv 11) (fun _ _=>rfl)) ao (fun _ _=>rfl)) (aa ao aj))) (aq (iW (nU (K:=K) rfl PySem.F.plainAttrs_list PySem.F.slot_list_pop PySem.F.type_list_pop Lq (a_ aO (a_ aO (pv 3) (pv 11) (fun _ _=>rfl)) ao (fun _ _=>rfl)) (aa ao aj))) (aq (aV (i:=13) ND rfl (by walk_at "o") (aU jO (aU jO (fj iT (a_ aO (pv 3) (pv 11) (fun _ _=>rfl)) ie (h_ ao)) (bj (aa (a_ aO (pv 9) (pv 11) (fun _ _=>rfl)) aj))) (fj iT (a_ aO (pv 3) (pv 11) (fun _ _=>rfl)) (h_ ao) ie))) (aC (bQ (PW.pt (pJ (bf uy (pb (d_ hr) B.repr jW (aa (pf mQ hr (aa ao (aa (pv 13) aj))) aj)) (a_ aO (a_ aO (pv 6) (pv 11) (fun _ _=>rfl)) ao (fun _ _=>rfl)) (bu _)) (jK (bf uy (pb (d_ hr) B.repr jW (aa (pf mQ hr (aa ao (aa (pv 13) aj))) aj)) (a_ aO (a_ aO (pv 6) (pv 11) (fun _ _=>rfl)) ao (fun _ _=>rfl)) (bu _))))) (aC (aK fU)) bz))))))))))))))))) (aC (aK fU))),?_⟩
 simp only[Vh,tG 5,tG 6,tG 9,Vi]
 walk_at "rd"
 obtain⟨n,hn,hn3⟩:∃n:Nat,(if(if(3:Int)<(ns.length:Int) then(3:Int) else(ns.length:Int))>2 then(if(3:Int)<(ns.length:Int) then(3:Int) else(ns.length:Int)) else 2)=(n:Int)/\n<=3:=by
  refine⟨(if(if(3:Int)<(ns.length:Int) then(3:Int) else(ns.length:Int))>2 then(if(3:Int)<(ns.length:Int) then(3:Int) else(ns.length:Int)) else 2).toNat,?_,?_⟩ <;> (split <;> split <;> omega)
 refine eE.of (fun σ H'=>True) (fun σ H' _=>by walk_at "rd"; exact q _) fun N hN=>?_
 refine Gp (n:=n) (fun R hR=>?_) (by omega) (fun i σ H'=>∃o1 o2 o3 o4 o5 o6 o7 o8 o9 Jt FZ Js Jr,σ=[some (.ref p),o1,o2,o3,o4,o5,o6,o7,o8,o9,Jt,FZ,Js,Jr]/\zH K H' p (ns.map V.int)) ⟨_,_,_,_,_,_,_,_,_,_,_,_,_,rfl,hS⟩ ?_ fun σ H' _=>hN _ _ trivial
 ·walk_at "rd"
  refine⟨p,_,rfl,.inl hS.sq,?_⟩
  rw[eY]
  try walk_at "rd"
  rw[hn]
  exact hR
 rintro i σ H1 hi ⟨o1,o2,o3,o4,o5,o6,o7,o8,o9,Jt,FZ,Js,Jr,rfl,hS1⟩
 try walk_at "rd"
 refine⟨p,ns,_,rfl,hS1.sq,by omega,by omega,fun a H2 f2 s2 t2=>?_⟩
 refine⟨a,_,rfl,t2,by omega,fun q0 v0 u0 l0 e0 H3 i0 e3 f3 d3 b3 b3' t3 s3=>⟨a,_,rfl,t3,by omega,fun q1 v1 u1 l1 e1 H4 i1 e4 f4 d4 b4 b4' t4 s4=>⟨by decide,fun ca G0 f5 s5 e5=>?_⟩⟩⟩
 have Sd:l0≠a:=t2.ne f3
 have na1:l1≠a:=t3.ne f4
 have n01:l0≠l1:=fun z=>by rw[z] at d3; rw[d3] at f4; cases f4
 have C0:ir G0 e0 q0 l0:=⟨⟨v0,u0,s5 _ _ (s4.get (t3.neT e3) e3),((b3.mono s4).mono fB).mono s5,((b3'.mono s4).mono fB).mono s5⟩,s5 _ _ (s4.get Sd d3)⟩
 have C1:ir G0 e1 q1 l1:=⟨⟨v1,u1,s5 _ _ e4,(b4.mono fB).mono s5,(b4'.mono fB).mono s5⟩,s5 _ _ d4⟩
 have T8:Tp G0 a 2000:=(t4.same s5).mono (by omega)
 have WD:ca≠a:=t4.ne f5
 have Z_:ca≠l0:=fun z=>by rw[z,s4.get Sd d3] at f5; cases f5
 have Z9:ca≠l1:=fun z=>by rw[z,d4] at f5; cases f5
 have hS0:zH K G0 p (ns.map V.int):=((((hS1.same s2).sx t2 s3).sx t3 s4).same s5)
 clear b3 b3' b4 b4' s3 s4 s5 e3 e4 d3 d4 f2 f3 f4 f5 t3 t4 hS1 s2 t2
 refine⟨_,.list [nA e0,nA e1],rfl,At.lst e5 (ak.cons C0.at (ak.cons C1.at ak.nil)),qW i0 i1,?_⟩
 obtain⟨S,hSn⟩:∃S,(PyData.list [nA e0,nA e1]).shown=S:=⟨_,rfl⟩
 rw[hSn]
 refine eE.of (fun σ H'=>∃tl r0 r1 qH qG,σ=[some (.ref p),some (.int (0+(i:Nat))),some (.ref a),some (.ref ca),some (.str S),some (.ref tl),o6,o7,o8,o9,Jt,FZ,Js,Jr]/\aA G0 H'/\H' tl=some (.lst [.ref r0,.ref r1])/\mq G0 H' e0 r0 qH/\mq G0 H' e1 r1 qG) ?_ fun N1 Ml=>?_
 rotate_left
 ·walk_at "rd"
  exact Nq (fun R hR=>by walk_at "rd"; exact hR) e5 i0 i1 C0 C1 fun tl r0 r1 qH qG H' s' h1 h2 h3=>Ml _ _ ⟨tl,r0,r1,qH,qG,rfl,s',h1,h2,h3⟩
 rintro _ G1 ⟨tl,r0,r1,qH,qG,rfl,s1,htl,T0,T1⟩
 refine eE.of (fun σ H'=>∃kp k0 k1,σ=[some (.ref p),some (.int (0+(i:Nat))),some (.ref a),some (.ref ca),some (.str S),some (.ref tl),some (.ref kp),o7,o8,o9,Jt,FZ,Js,Jr]/\aA G1 H'/\G1 kp=none/\G1 k0=none/\G1 k1=none/\H' kp=some (.lst [.ref k0,.ref k1])/\H' k0=some (.lst (mZ e0))/\H' k1=some (.lst (mZ e1))) ?_ fun N1 Ml=>?_
 rotate_left
 ·walk_at "rd"
  exact Pr (fun R hR=>by walk_at "rd"; exact hR) htl i0 i1 T0 T1 fun kp k0 k1 H' s' f1 f2 f3 h1 h2 h3=>Ml _ _ ⟨kp,k0,k1,rfl,s',f1,f2,f3,h1,h2,h3⟩
 rintro _ G2 ⟨kp,k0,k1,rfl,s2,QS,QV,QT,hkp,hk0,hk1⟩
 have M5:=s1.trans s2
 have C02:ir G2 e0 q0 l0:=C0.keep (fun b xs e=>M5 _ _ e) (M5 _ _ C0.l)
 have C12:ir G2 e1 q1 l1:=C1.keep (fun b xs e=>M5 _ _ e) (M5 _ _ C1.l)
 have V5:=M5 _ _ e5
 have Qy:∀{H':Hp},ir H' e0 q0 l0->ir H' e1 q1 l1->H' ca=some (.lst [.ref q0,.ref q1])->∃v d,[V.ref ca]=[v]/\At H' d v/\xq d/\d.shown=S:=fun D0 D1 hc=>⟨_,.list [nA e0,nA e1],rfl,At.lst hc (ak.cons D0.at (ak.cons D1.at ak.nil)),qW i0 i1,hSn⟩
 refine eE.on (fun G3 s3=>?_) fun N1 Ml=>?_
 rotate_left
 ·walk_at "rd"
  have W0:=T0.same s2
  obtain⟨q00,q01,q02,q03,q04,q05,rfl⟩:=Sx W0.n
  obtain⟨_,ys,hy,Ay⟩:=W0.q 1 q01 rfl
  obtain⟨y0,_,rfl,A0,Ay⟩:=ak.aN Ay
  obtain⟨y1,_,rfl,A1,Ay⟩:=ak.aN Ay
  obtain⟨b1,b2,b3⟩:=Jd e0.x e0.st e0.c 12
  refine Ix.lst (s2 _ _ htl) (aP (j:=0) rfl) (Ix.lst W0.r (aP (j:=1) rfl) (Ix.lst hy (aP (j:=0) rfl) ?_))
  refine Ix.lst (s2 _ _ htl) (aP (j:=0) rfl) (Ix.lst W0.r (aP (j:=1) rfl) (Ix.lst hy (aP (j:=1) rfl) ?_))
  refine⟨_,_,A0,A1,b1,b1,b2,b2,b3,?_⟩
  rw[PySem.SeqAt.eqv_refl _ b2,aX (by decide)]
  obtain⟨v,d,g1,g2,g3,g4⟩:=Qy C02 C12 V5
  refine⟨v,d,g1,g2,g3,?_⟩
  rw[g4,aX (by simp)]
  exact Ml _ (aA.refl _)
 have n1:=M5.trans s3
 have hF0:Fx G3 G3 a (qH++qG) 2000 40:=⟨fun b o e _ _=>e,T8.same n1,fun b hb=>by
  rcases lB.mp hb with z | z
  ·obtain⟨j,hj,e⟩:=yp.mp z
   obtain⟨_,ys,h1,h2⟩:=T0.q j b (by rw[jg hj,e])
   exact⟨ys,s3 _ _ (s2 _ _ h1),by rw[h2.length]; exact GQ i0 (by have:=T0.n; omega)⟩
  ·obtain⟨j,hj,e⟩:=yp.mp z
   obtain⟨_,ys,h1,h2⟩:=T1.q j b (by rw[jg hj,e])
   exact⟨ys,s3 _ _ (s2 _ _ h1),by rw[h2.length]; exact GQ i1 (by have:=T1.n; omega)⟩⟩
 have new:∀b∈qH++qG,G0 b=none/\∃zs,G1 b=some (.lst zs):=fun b hb=>by
  rcases lB.mp hb with z | z
  ·obtain⟨j,hj,e⟩:=yp.mp z
   obtain⟨g,ys,h1,h2⟩:=T0.q j b (by rw[jg hj,e])
   exact⟨g,ys,h1⟩
  ·obtain⟨j,hj,e⟩:=yp.mp z
   obtain⟨g,ys,h1,h2⟩:=T1.q j b (by rw[jg hj,e])
   exact⟨g,ys,h1⟩
 have old:∀{b o},G0 b=some o->b∉qH++qG:=fun h hb=>by have:=(new _ hb).1; rw[h] at this; cases this
 have out:∀{b},G1 b=none->b∉qH++qG:=fun h hb=>by obtain⟨zs,e⟩:=(new _ hb).2; rw[h] at e; cases e
 have J4:∀{qs:List Addr},(∀x∈qs,x∈qH++qG)->∀x∈qs,∃zs,G1 x=some (.lst zs):=fun h x hx=>(new x (h x hx)).2
 have ZV:r0∉qH++qG:=fun hm=>(lB.mp hm).elim (T0.flat (ys:=[]) T0.r (fun z=>by have:=T0.n; rw[z] at this; cases this) (J4 fun x hx=>Kp _ hx)) (T1.flat (ys:=[]) T0.r (fun z=>by have:=T0.n; rw[z] at this; cases this) (J4 fun x hx=>Kp _ hx))
 have ZS:r1∉qH++qG:=fun hm=>(lB.mp hm).elim (T0.flat (ys:=[]) T1.r (fun z=>by have:=T1.n; rw[z] at this; cases this) (J4 fun x hx=>fY _ hx)) (T1.flat (ys:=[]) T1.r (fun z=>by have:=T1.n; rw[z] at this; cases this) (J4 fun x hx=>fY _ hx))
 have Zu:tl∉qH++qG:=by
  have hl2:∀x∈[r0,r1],∃zs,G1 x=some (.lst zs):=fun x hx=>by
   simp only[dZ,jh,or_false] at hx
   rcases hx with rfl | rfl
   ·exact⟨_,T0.r⟩
   ·exact⟨_,T1.r⟩
  exact fun hm=>(lB.mp hm).elim (T0.flat (ys:=[]) (ls:=[r0,r1]) htl (fun z=>by cases z) hl2) (T1.flat (ys:=[]) (ls:=[r0,r1]) htl (fun z=>by cases z) hl2)
 have Xh:Tp G1 a 2000:=T8.same s1
 have X6:∀{b r:Addr} {xs:List V},G1 b=some (.lst (.ref r::xs))->b≠a:=fun {b r xs} h z=>by
  obtain⟨_,_,_,ht,_⟩:=Xh
  rw[z,ht] at h
  cases h
 have X5:∀b∈qH++qG,b≠a:=fun b hb z=>by
  have:=(new b hb).1
  rw[z] at this
  obtain⟨_,_,_,ht,_⟩:=T8
  rw[ht] at this; cases this
 have row:∀(j:Nat) (x:V),[V.ref r0,V.ref r1][j]?=some x->∃(r:Addr) (qs:List Addr),x=.ref r/\G1 r=some (.lst (qs.map V.ref))/\qs.length=6/\r≠a/\r∉qH++qG/\∀y∈qs,y∈qH++qG:=fun j x hx=>by
  have na6:∀{r:Addr} {qs:List Addr},G1 r=some (.lst (qs.map V.ref))->qs.length=6->r≠a:=fun {r qs} h1 h2=>by
   obtain⟨_,_,_,_,_,_,rfl⟩:=Sx h2
   exact X6 h1
  rcases j with _ | _ | j
  ·cases hx; exact⟨r0,qH,rfl,T0.r,T0.n,na6 T0.r T0.n,ZV,fun y hy=>Kp _ hy⟩
  ·cases hx; exact⟨r1,qG,rfl,T1.r,T1.n,na6 T1.r T1.n,ZS,fun y hy=>fY _ hy⟩
  ·cases hx
 have m9:=s2.trans s3
 refine eE.of (fun σ H'=>∃o7 o8,σ=[some (.ref p),some (.int (0+(i:Nat))),some (.ref a),some (.ref ca),some (.str S),some (.ref tl),some (.ref kp),o7,o8,o9,Jt,FZ,Js,Jr]/\Fx G3 H' a (qH++qG) 2000 (40+12)) ?_ fun N1 Ml=>?_
 rotate_left
 ·rw[oX]
  walk_at "rd"
  refine LK.of (m9 _ _ htl) (fun j σ H'=>∃o7 o8,σ=[some (.ref p),some (.int (0+(i:Nat))),some (.ref a),some (.ref ca),some (.str S),some (.ref tl),some (.ref kp),o7,o8,o9,Jt,FZ,Js,Jr]/\Fx G3 H' a (qH++qG) 2000 (40+6*j)) ⟨_,_,rfl,hF0⟩ (fun j σ H' _ hP=>?_) (fun j x σ H' hx hP=>?_) fun σ H' hP=>Ml _ _ hP
  ·obtain⟨_,_,_,hP⟩:=hP
   exact hP.f _ _ (m9 _ _ htl) (X6 htl) Zu
  obtain⟨o7',o8',rfl,hP⟩:=hP
  obtain⟨r,qs,rfl,hr,lr,Z2,Z1,hqs⟩:=row j x hx
  walk_at "rd"
  rw[oX]
  walk_at "rd"
  have hrG:=m9 _ _ hr
  refine LK.of (hP.f _ _ hrG Z2 Z1) (fun m σ H'=>∃o8,σ=[some (.ref p),some (.int (0+(i:Nat))),some (.ref a),some (.ref ca),some (.str S),some (.ref tl),some (.ref kp),some (.ref r),o8,o9,Jt,FZ,Js,Jr]/\Fx G3 H' a (qH++qG) 2000 (40+6*j+m)) ⟨_,rfl,hP⟩ (fun m σ H' _ hP=>?_) (fun m x σ H' hx hP=>?_) fun σ H' hP=>?_
  ·obtain⟨_,_,hP⟩:=hP
   exact hP.f _ _ hrG Z2 Z1
  ·obtain⟨XQ,rfl,hP⟩:=hP
   rw[dz] at hx
   obtain⟨qq,hqq,rfl⟩:=nR.mp hx
   have hm:=hqs qq (vK hqq)
   obtain⟨zs,hz,lz⟩:=hP.l qq hm
   have lj:j<2:=by
    rcases j with _ | _ | j
    ·decide
    ·decide
    ·cases hx
   have lm:m<6:=by
    have:=(iM.mp hqq).1
    omega
   walk_at "rd"
   refine⟨.inl ⟨rfl,_,fQ.of hz⟩,qq,zs,_,rfl,rfl,hz,aZ (by omega),.inl ⟨rfl,_,fQ.of az⟩,qq,_,rfl,rfl,az,?_⟩
   have F1:=hP.upd (zs:=zs++[.str "more"]) (M':=40+6*j+(m+1)) hm (X5 qq hm) (by rw[dR]; show zs.length+1<=_; omega) (by omega)
   exact⟨_,rfl,F1.upd hm (X5 qq hm) (by rw[List.length_reverse,dR]; show zs.length+1<=_; omega) (bD _)⟩
  ·obtain⟨XQ,rfl,hP⟩:=hP
   rw[eY,lr] at hP
   exact⟨_,_,rfl,hP⟩
 rintro _ G4 ⟨o7',o8',rfl,hF⟩
 have ob:∀{b o},G3 b=some o->b≠a->b∉qH++qG->G4 b=some o:=fun h n1 n2=>hF.f _ _ h n1 n2
 have Q_:∀b xs,G0 b=some (.tup xs)->G4 b=some (.tup xs):=fun b xs e=>ob (n1 _ _ e) (T8.neT e) (old e)
 have C04:ir G4 e0 q0 l0:=C0.keep Q_ (ob (n1 _ _ C0.l) Sd (old C0.l))
 have C14:ir G4 e1 q1 l1:=C1.keep Q_ (ob (n1 _ _ C1.l) na1 (old C1.l))
 have WW:G4 ca=some (.lst [.ref q0,.ref q1]):=ob (n1 _ _ e5) WD (old e5)
 have SM:∀{b:Addr},G1 b=none->b≠a:=fun h=>Xh.ne h
 have kp4:G4 kp=some (.lst [.ref k0,.ref k1]):=ob (s3 _ _ hkp) (SM QS) (out QS)
 have k04:G4 k0=some (.lst (mZ e0)):=ob (s3 _ _ hk0) (SM QV) (out QV)
 have k14:G4 k1=some (.lst (mZ e1)):=ob (s3 _ _ hk1) (SM QT) (out QT)
 have S4:zH K G4 p (ns.map V.int):=hS0.fix fun o e=>ob (n1 _ _ e) (fun z=>by obtain⟨_,_,_,ht,_⟩:=T8; rw[z,ht] at e; cases e) (old e)
 have t4:Tp G4 a 2000:=hF.t
 have kk0:kp≠l0:=fun z=>by rw[z,s1 _ _ C0.l] at QS; cases QS
 have kk1:kp≠l1:=fun z=>by rw[z,s1 _ _ C1.l] at QS; cases QS
 have k00:k0≠l0:=fun z=>by rw[z,s1 _ _ C0.l] at QV; cases QV
 have k01:k0≠l1:=fun z=>by rw[z,s1 _ _ C1.l] at QV; cases QV
 have k10:k1≠l0:=fun z=>by rw[z,s1 _ _ C0.l] at QT; cases QT
 have k11:k1≠l1:=fun z=>by rw[z,s1 _ _ C1.l] at QT; cases QT
 have kpa:=SM QS
 have k0a:=SM QV
 have k1a:=SM QT
 clear hF ob Q_ C0 C1 C02 C12 hF0 new old out J4 ZV ZS Zu Xh X6 X5 row T0 T1 s1 s2 s3 M5 n1 m9 hkp hk0 hk1 htl V5 e5 QS QV QT T8 hS0 SM
 refine eE.of (fun σ H'=>∃lp m0 m1,σ=[some (.ref p),some (.int (0+(i:Nat))),some (.ref a),some (.ref ca),some (.str S),some (.ref tl),some (.ref kp),o7',o8',some (.ref lp),Jt,FZ,Js,Jr]/\aA G4 H'/\G4 m0=none/\G4 m1=none/\H' lp=some (.lst [.ref m0,.ref m1])/\G4 lp=none/\H' m0=some (.lst (e0.ld.map V.int))/\H' m1=some (.lst (e1.ld.map V.int))) ?_ fun N1 Ml=>?_
 rotate_left
 ·walk_at "rd"
  exact LR (fun R hR=>by walk_at "rd"; exact hR) WW C04 C14 fun lp m0 m1 H' s' f1 f2 h1 f3 h2 h3=>Ml _ _ ⟨lp,m0,m1,rfl,s',f1,f2,h1,f3,h2,h3⟩
 rintro _ G5 ⟨lp,m0,m1,rfl,s5,Yr,Yq,hlp,Ys,hm0,hm1⟩
 have t5:=t4.same s5
 have Y9:∀(j:Nat),j<2->∃q l,Cq [V.ref q0,V.ref q1] j=some (.ref q)/\iJ (vC e0 e1 j)/\ir G5 (vC e0 e1 j) q l/\l≠a:=fun j hj=>by
  rcases j with _ | _ | j
  ·exact⟨q0,l0,rfl,i0,C04.keep (fun b xs e=>s5 _ _ e) (s5 _ _ C04.l),Sd⟩
  ·exact⟨q1,l1,rfl,i1,C14.keep (fun b xs e=>s5 _ _ e) (s5 _ _ C14.l),na1⟩
  ·omega
 have ks5:∀(j:Nat),j<2->∃k,Cq [V.ref k0,V.ref k1] j=some (.ref k)/\G5 k=some (.lst (mZ (vC e0 e1 j)))/\k≠a/\k≠l0/\k≠l1:=fun j hj=>by
  rcases j with _ | _ | j
  ·exact⟨k0,rfl,s5 _ _ k04,k0a,k00,k01⟩
  ·exact⟨k1,rfl,s5 _ _ k14,k1a,k10,k11⟩
  ·omega
 have Xl:∀(e:C16) (j:Nat),j<6->Cq (mZ e) j=some (.str (PyData.list (iH e j)).shown):=fun e j hj=>aP (by
  unfold mZ
  rw[dz,List.getElem?_range hj]; rfl)
 refine eE.of (fun σ H'=>∃o8 Jt FZ Js,σ=[some (.ref p),some (.int (0+(i:Nat))),some (.ref a),some (.ref ca),some (.str S),some (.ref tl),some (.ref kp),o7',o8,some (.ref lp),Jt,FZ,Js,Jr]/\(∀b o,G5 b=some o->b≠a->H' b=some o)) ?_ fun N1 Ml=>?_
 rotate_left
 ·refine Gp (n:=14) (fun R hR=>by walk_at "rd"; exact hR) (by decide) (fun j σ H'=>∃o8 Jt FZ Js,σ=[some (.ref p),some (.int (0+(i:Nat))),some (.ref a),some (.ref ca),some (.str S),some (.ref tl),some (.ref kp),o7',o8,some (.ref lp),Jt,FZ,Js,Jr]/\(∀b o,G5 b=some o->b≠a->H' b=some o)/\Tp H' a (2000+2*j)) ⟨_,_,_,_,rfl,fun b o e _=>e,t5⟩ ?_ ?_
  ·rintro j σ H6 hj ⟨o8,R5,VJ,R4,rfl,f6,t6⟩
   walk_at "rd"
   refine b_.of t6 (by omega) (by decide) (by decide) fun y7 H7 l7 u7 t7 s7=>b_.of t7 (by omega) (by decide) (by decide) fun y8 H8 l8 u8 t8 s8=>⟨_,_,rfl,?_⟩
   obtain⟨c,rfl⟩:=Ks l7
   obtain⟨w',rfl⟩:=Ks l8
   have f8:∀b o,G5 b=some o->b≠a->H8 b=some o:=fun b o e n=>(s7.trans s8).get n (f6 b o e n)
   obtain⟨qc,lc,g1,g2,g3,g4⟩:=Y9 c (by omega)
   obtain⟨kc,h1,h2,h3,_,_⟩:=ks5 c (by omega)
   have tu8:∀b xs,G5 b=some (.tup xs)->H8 b=some (.tup xs):=fun b xs e=>f8 b _ e (t5.neT e)
   refine Ix.lst (f8 _ _ (s5 _ _ WW) WD) g1 ?_
   refine⟨qc,lc,w',_,rfl,by omega,g2,g3.keep tu8 (f8 _ _ g3.l g4),fun q9 ys H9 s9 fr9 e9 A9=>?_⟩
   have f9:∀b o,G5 b=some o->b≠a->H9 b=some o:=fun b o e n=>s9 _ _ (f8 b o e n)
   have Zt:∀b xs,G5 b=some (.tup xs)->H9 b=some (.tup xs):=fun b xs e=>f9 b _ e (t5.neT e)
   have t9:=t8.same s9
   walk_at "rd"
   refine eE.on (fun Ck ud=>?_) fun N2 hN2=>?_
   ·walk_at "rd"
    have e10:=ud _ _ e9
    refine⟨.inl ⟨rfl,_,fQ.of e10⟩,q9,_,rfl,rfl,e10,?_⟩
    have nq:q9≠a:=t8.ne fr9
    refine⟨_,_,_,_,rfl,fun b o e n=>?_,((t9.same ud).dw nq).mono (by omega)⟩
    rw[aJ (fun z=>by have:=f8 b o e n; rw[z,fr9] at this; cases this)]
    exact ud _ _ (f9 b o e n)
   ·walk_at "rd"
    refine⟨.ref q9,_,rfl,At.lst e9 A9,mJ g2 (by omega),?_⟩
    refine Ix.lst (f9 _ _ (s5 _ _ kp4) kpa) h1 (Ix.lst (f9 _ _ h2 h3) (Xl _ w' (by omega)) ?_)
    rw[yc]
    refine⟨_,rfl,?_⟩
    rw[aX (by simp)]
    obtain⟨_,_,_,_,C95,_⟩:=Y9 0 (by decide)
    have D0:ir H9 e0 q0 l0:=C04.keep (fun b xs e=>Zt b xs (s5 _ _ e)) (f9 _ _ (s5 _ _ C04.l) Sd)
    have D1:ir H9 e1 q1 l1:=C14.keep (fun b xs e=>Zt b xs (s5 _ _ e)) (f9 _ _ (s5 _ _ C14.l) na1)
    obtain⟨v,d,r1,r2,r3,r4⟩:=Qy D0 D1 (f9 _ _ (s5 _ _ WW) WD)
    refine⟨v,d,r1,r2,r3,?_⟩
    rw[r4,aX (by simp)]
    exact hN2 _ (aA.refl _)
  ·rintro σ H6 ⟨o8,R5,VJ,R4,rfl,f6,t6⟩
   exact Ml _ _ ⟨_,_,_,_,rfl,f6⟩
 rintro _ G6 ⟨o8,R5,VJ,R4,rfl,f6⟩
 have pf:∀o,G5 p=some (.zb o (.lst (ns.map V.int)))->∀{b:Addr} {zs:List V},G5 b=some (.lst zs)->p≠b:=fun o e b zs eb z=>by rw[z,eb] at e; cases e
 have S6:zH K G6 p (ns.map V.int):=(S4.same s5).fix fun o e=>f6 _ _ e (fun z=>by obtain⟨_,_,_,ht,_⟩:=t5; rw[z,ht] at e; cases e)
 have WM:=s5 _ _ C04.l
 have WL:=s5 _ _ C14.l
 have nm:∀{m l:Addr} {zs:List V},G4 m=none->G4 l=some (.lst zs)->m≠l:=fun h1 h2 z=>by rw[z,h2] at h1; cases h1
 have m0a:m0≠a:=t4.ne Yr
 have m1a:m1≠a:=t4.ne Yq
 have lpa:lp≠a:=t4.ne Ys
 refine Gp (n:=2) (fun R hR=>by walk_at "rd"; exact hR) (by decide) (fun j σ H'=>∃FZ Jr,σ=[some (.ref p),some (.int (0+(i:Nat))),some (.ref a),some (.ref ca),some (.str S),some (.ref tl),some (.ref kp),o7',o8,some (.ref lp),R5,FZ,R4,Jr]/\(∀b o,G6 b=some o->b≠l0->b≠l1->H' b=some o)/\(∃zs,H' l0=some (.lst zs)/\zs.length<=24+j)/\∃zs,H' l1=some (.lst zs)/\zs.length<=24+j)
  ⟨_,_,rfl,fun b o e _ _=>e,⟨_,f6 _ _ WM Sd,by rw[eY]; exact i0.l⟩,_,f6 _ _ WL na1,by rw[eY]; exact i1.l⟩ ?_ ?_
 ·rintro j σ H7 hj ⟨VH,XR,rfl,f7,⟨z0,g0,gl0⟩,z1,g1,gl1⟩
  have big:∀b o,G5 b=some o->b≠a->b≠l0->b≠l1->H7 b=some o:=fun b o e n1 n2 n3=>f7 b o (f6 b o e n1) n2 n3
  have Y_:=big _ _ (s5 _ _ WW) WD Z_ Z9
  obtain⟨qc,lc,q5,ci,cc,lca⟩:=Y9 j hj
  obtain⟨v,u,M6,av,au⟩:=cc.ex
  obtain⟨kc,h1,h2,h3,h4,h5⟩:=ks5 j hj
  obtain⟨zc,gc,glc,SJ⟩:∃zc,H7 lc=some (.lst zc)/\zc.length<=24+j/\(lc=l0\/lc=l1):=by
   have e:=cc.ex
   rcases j with _ | _ | j
   ·cases q5
    obtain⟨v',u',w1,_,_⟩:=C04.ex
    rw[s5 _ _ w1] at M6
    cases M6
    exact⟨z0,g0,gl0,.inl rfl⟩
   ·cases q5
    obtain⟨v',u',w1,_,_⟩:=C14.ex
    rw[s5 _ _ w1] at M6
    cases M6
    exact⟨z1,g1,gl1,.inr rfl⟩
   ·omega
  have q7:H7 qc=some (.tup [v,u,.ref lc,.int (vC e0 e1 j).c,.int (vC e0 e1 j).fr,.bl (vC e0 e1 j).sm]):=big _ _ M6 (t5.neT M6) (fun z=>by rw[z,WM] at M6; cases M6) (fun z=>by rw[z,WL] at M6; cases M6)
  walk_at "rd"
  rw[wH]
  refine Ix.lst Y_ q5 (Ix.tup q7 (aP (j:=2) rfl) ⟨.inl ⟨rfl,_,fQ.of gc⟩,lc,zc,_,rfl,rfl,gc,aZ (by omega),?_⟩)
  have Z8:ca≠lc:=SJ.elim (fun z=>z▸Z_) fun z=>z▸Z9
  have ZW:qc≠lc:=fun z=>by rw[z,gc] at q7; cases q7
  dsimp only
  refine Ix.lst (by rw[aJ Z8]; exact Y_) q5 (Ix.tup (v:=.ref lc) (by rw[aJ ZW]; exact q7) (aP (j:=2) rfl) ⟨.inl ⟨rfl,_,fQ.of az⟩,lc,zc++[.int 7],0,0,(zc++[V.int 7])[0]'(by simp),rfl,rfl,az,by decide,by decide,?_,jg _,?_⟩)
  ·exact seqIndex_of (by decide) (by rw[dR]; simp)
  obtain⟨H9,Yl⟩:∃H9,upd (upd H7 lc (.lst (zc++[.int 7]))) lc (.lst ((zc++[V.int 7]).eraseIdx 0))=H9:=⟨_,rfl⟩
  rw[Yl]
  have f9:∀b o,H7 b=some o->b≠lc->H9 b=some o:=fun b o e n=>by rw[<- Yl,aJ n,aJ n]; exact e
  have l9:∃zs,H9 lc=some (.lst zs)/\zs.length<=24+(j+1):=⟨_,by rw[<- Yl,az],by rw[List.length_eraseIdx]; simp; omega⟩
  have ll9:(∃zs,H9 l0=some (.lst zs)/\zs.length<=24+(j+1))/\∃zs,H9 l1=some (.lst zs)/\zs.length<=24+(j+1):=by
   rcases SJ with z | z
   ·exact⟨z▸l9,z1,f9 _ _ g1 (by rw[z]; exact Ne.symm n01),by omega⟩
   ·exact⟨⟨z0,f9 _ _ g0 (by rw[z]; exact n01),by omega⟩,z▸l9⟩
  have Ep:∀b o,G6 b=some o->b≠l0->b≠l1->H9 b=some o:=fun b o e n1 n2=>f9 b o (f7 b o e n1 n2) (SJ.elim (fun z=>z▸n1) fun z=>z▸n2)
  have q9:=f9 _ _ q7 ZW
  have ca9:=f9 _ _ Y_ Z8
  obtain⟨mj,hmj,emj⟩:∃mj,Cq [V.ref m0,V.ref m1] j=some (.ref mj)/\H9 mj=some (.lst ((vC e0 e1 j).ld.map V.int)):=by
   rcases j with _ | _ | j
   ·exact⟨m0,rfl,Ep _ _ (f6 _ _ hm0 m0a) (nm Yr C04.l) (nm Yr C14.l)⟩
   ·exact⟨m1,rfl,Ep _ _ (f6 _ _ hm1 m1a) (nm Yq C04.l) (nm Yq C14.l)⟩
   ·omega
  have lp9:H9 lp=some (.lst [.ref m0,.ref m1]):=Ep _ _ (f6 _ _ hlp lpa) (nm Ys C04.l) (nm Ys C14.l)
  have kp9:H9 kp=some (.lst [.ref k0,.ref k1]):=Ep _ _ (f6 _ _ (s5 _ _ kp4) kpa) kk0 kk1
  have kc9:=Ep _ _ (f6 _ _ h2 h3) h4 h5
  have U0:∀b xs,G5 b=some (.tup xs)->H9 b=some (.tup xs):=fun b xs e=>Ep _ _ (f6 _ _ e (t5.neT e)) (fun z=>by rw[z,WM] at e; cases e) (fun z=>by rw[z,WL] at e; cases e)
  have av9:=At.tupS U0 _ _ (uv _) av
  have au9:=At.tupS U0 _ _ (g_ _) au
  refine Ix.lst ca9 q5 ⟨qc,_,rfl,q9,fun XN Ck ud e10=>?_⟩
  rw[uW (by decide)] at e10
  replace e10:Ck XN=some (.tup [v,u]):=e10
  refine Ix.lst (ud _ _ lp9) hmj ⟨by decide,fun p11 Jm f11 Ft Wc=>⟨XN,p11,_,_,rfl,rfl,Ft _ _ e10,Wc,jH (aZ (by decide:3<=1000)),fun p12 H12 s12 Tt=>?_⟩⟩
  have Rq:=ud.trans (Ft.trans s12)
  refine Ix.lst (Rq _ _ ca9) q5 ⟨qc,_,rfl,Rq _ _ q9,fun p13 Uj m9 QW=>?_⟩
  rw[pQ (by decide)] at QW
  refine⟨p12,p13,_,_,rfl,rfl,m9 _ _ Tt,QW,jH (aZ (by decide:6<=1000)),fun VD W9 Cp Tr=>?_⟩
  have Nz:=Rq.trans (m9.trans Cp)
  have D14:ir W9 (vC e0 e1 j) VD mj:=⟨⟨v,u,Tr,av9.mono Nz,au9.mono Nz⟩,Nz _ _ emj⟩
  refine⟨VD,mj,2,_,rfl,by decide,ci,D14,fun q15 ys M4 Ac ab_ Ms A15=>⟨.ref q15,_,rfl,At.lst Ms A15,mJ ci (by decide),?_⟩⟩
  have Rp:=Nz.trans Ac
  refine Ix.lst (Rp _ _ kp9) h1 (Ix.lst (Rp _ _ kc9) (Xl _ 2 (by decide)) ?_)
  rw[yc]
  refine⟨_,rfl,?_⟩
  rw[aX (by simp)]
  refine⟨VD,mj,3,_,rfl,by decide,ci,D14.keep (fun b xs e=>Ac _ _ e) (Ac _ _ D14.l),fun q16 ys H16 Rr ab9 Tq A16=>⟨.ref q16,_,rfl,At.lst Tq A16,mJ ci (by decide),?_⟩⟩
  have J3:=Rp.trans Rr
  refine Ix.lst (J3 _ _ kp9) h1 (Ix.lst (J3 _ _ kc9) (Xl _ 3 (by decide)) ?_)
  rw[yc]
  refine⟨_,rfl,?_⟩
  rw[aX (by simp)]
  obtain⟨⟨w0,y0,y0'⟩,w1,y1,y1'⟩:=ll9
  exact⟨_,_,by rw[wH],fun b o e n1 n2=>J3 _ _ (Ep b o e n1 n2),⟨w0,J3 _ _ y0,y0'⟩,w1,J3 _ _ y1,y1'⟩
 ·rintro σ H7 ⟨VH,XR,rfl,f7,⟨z0,g0,gl0⟩,z1,g1,gl1⟩
  exact⟨_,_,_,_,_,_,_,_,_,_,_,_,_,rfl,S6.fix fun o e=>f7 _ _ e (fun z=>by rw[z,f6 _ _ WM Sd] at e; cases e) (fun z=>by rw[z,f6 _ _ WL na1] at e; cases e)⟩
end
theorem Wr {us:List Value} {n:Nat} (h:us.length=n+1):∃a r,us=a::r/\r.length=n:=by
 cases us with
 | nil=>cases h
 | cons a r=>exact⟨a,r,rfl,Nat.succ.inj h⟩
theorem zP {us:List Value} (h:us.length=1):∃a,us=[a]:=by
 obtain⟨a,r,rfl,g⟩:=Wr h
 cases List.length_eq_zero_iff.mp g
 exact⟨a,rfl⟩
theorem Jp {us:List Value} (h:us.length=2):∃a a0,us=[a,a0]:=by
 obtain⟨a,r,rfl,g⟩:=Wr h
 obtain⟨a0,rfl⟩:=zP g
 exact⟨a,a0,rfl⟩
theorem Hc {us:List Value} (h:us.length=3):∃a a0 a1,us=[a,a0,a1]:=by
 obtain⟨a,r,rfl,g⟩:=Wr h
 obtain⟨a0,a1,rfl⟩:=Jp g
 exact⟨a,a0,a1,rfl⟩
theorem Wq {us:List Value} (h:us.length=4):∃a a0 a1 a2,us=[a,a0,a1,a2]:=by
 obtain⟨a,r,rfl,g⟩:=Wr h
 obtain⟨a0,a1,a2,rfl⟩:=Hc g
 exact⟨a,a0,a1,a2,rfl⟩
theorem all_mk {l:PySem.W.OpenLaw} {w:World} {K:PySem.W.Frag} {h:Heap} {mg:Str->Option Value} {fa:Addr} (X:K.In h) (G:h.Ns mainGlobals mg) (hfa:mg "law" = some (.ref fa))
  {f0:Addr} (e0:iw K "is_whole" nM f0)
  {f1:Addr} (e1:iw K "is_from" qz f1)
  {f2:Addr} (e2:iw K "is_between" jF f2)
  {f3:Addr} (e3:iw K "is_tuple_of" jd f3)
  {f4:Addr} (e4:iw K "needed" tV f4)
  {f5:Addr} (e5:iw K "most_ahead" jE f5)
  {f6:Addr} (e6:iw K "lean" Dg f6)
  {f7:Addr} (e7:iw K "lean_triple" jc f7)
  {f8:Addr} (e8:iw K "alike" xZ f8)
  {f9:Addr} (e9:iw K "wish" Df f9)
  {Tn:Addr} (e10:iw K "rule_wish" kO Tn)
  {f11:Addr} (Wc:iw K "row_says" nF f11)
  {f12:Addr} (Tt:iw K "is_post" qy f12)
  {f13:Addr} (QW:iw K "are_bounds_of_hands" cP f13)
  {f14:Addr} (Tr:iw K "are_rests" kZ f14)
  {Wa:Addr} (Ms:iw K "are_rules" kY Wa)
  {f16:Addr} (Tq:iw K "is_rule" qw f16)
  {f17:Addr} (Y7:iw K "is_row" uc f17)
  {f18:Addr} (Y6:iw K "is_stand" nO f18)
  {f19:Addr} (Y5:iw K "are_hands" k_ f19)
  {f20:Addr} (Y4:iw K "are_counts" jG f20)
  {f21:Addr} (Y0:iw K "first_stand" je f21)
  {f22:Addr} (YZ:iw K "hands_of" nP f22)
  {f23 T23:Addr} (YX:Ul K "beat" Dh f23 T23 12)
  {f24:Addr} (YW:iw K "since_and_look" fX f24)
  {f25:Addr} (YT:iw K "change_of" kW f25)
  {f26:Addr} (YS:iw K "with_change" jb f26)
  {f27:Addr} (YQ:iw K "sent_home" kJ f27)
  {f28:Addr} (YM:iw K "played" tU f28)
  {f29:Addr} (YL:iw K "after" x_ f29)
  {f30:Addr} (YK:iw K "round_of" nG f30)
  {f31:Addr} (YJ:iw K "rests_at" nH f31)
  {f32:Addr} (YH:iw K "_law_tape" tX f32)
  {f33:Addr} (YG:iw K "_law_draw" tZ f33)
  {f34:Addr} (YF:iw K "_law_units" qm f34)
  {f35:Addr} (YD:iw K "_law_row" xY f35)
  {f36:Addr} (Ud:iw K "_law_rules" qt f36)
  {f37:Addr} (YC:iw K "_law_post" tY f37)
  {f38:Addr} (YB:iw K "_law_small_post" iy f38)
  {f39:Addr} (Yz:iw K "_law_stand" qp f39)
  {f40:Addr} (Yy:iw K "_law_case" t_ f40)
  {f41:Addr} (Yx:iw K "_law_rounds" nJ f41)
  {f42:Addr} (Yw:iw K "_law_asked" qu f42)
  {f43:Addr} (Yv:iw K "law" tW f43)
  {bw:Addr} (Ha:PySem.W.nsIn K mainGlobals "TooLong" = some (some (.ref bw)))
  (xH:PySem.W.excIn K bw UG "ValueError.__new__" = true)
  (xJ:PySem.W.exmOne K (.ref bw) (.ref bw)=some true)
  (xF:Nb K "isinstance")
  (Us:Nb K "int")
  (Q7:Nb K "bool")
  (Ng:Nb K "tuple")
  (Ur:Nb K "len")
  (Uq:Nb K "max")
  (Up:Nb K "min")
  (zQ:Nb K "enumerate")
  (Um:Nb K "zip")
  (Uo:Nb K "sum")
  (Uu:Nb K "all")
  (Q6:Nb K "list")
  (Cr:Nb K "reversed")
  (Nh:Nb K "range")
  (Ut:Nb K "any")
  (Uv:Nb K "abs")
  (Q5:Nb K "repr")
  {JD JC JB:Tok} (O7:NT K "WHATS" [.str "come" JD,.str "done" JC,.str "wait" JB])
  (Sg:Cj K "OVER" "over")
  (O8:Cj K "UNDER" "under")
  (Sh:Cj K "EACH" "each")
  (yO:Ni K "MOST_UNITS" 1000000000000)
  (yR:Ni K "MOST_HANDS" 12)
  (Br:Ni K "MOST_PACE" 1000000)
  (Bs:Ni K "MOST_LATE" 4)
  (yS:Ni K "MOST_EVERY" 6)
  (Bq:Ni K "MOST_REST" 9)
  (yQ:Ni K "MOST_RULES" 3)
  (Bp:Ni K "MOST_ROWS" 4)
  (Bo:Ni K "MOST_SPAN" 4)
  (rW:Ni K "PLACES_CALLED" 5)
  (yP:Ni K "MOST_SINCE" 5)
  (uH:Ni K "TRIPLES_SEEN" 3) :
  ∃fd:FuncData,(∀(s:Shared) (v:Value),BindsTo s fd ⟨[v],[]⟩ [("_law_script",v)])/\∀base:Heap,K.In base->base.Ns mainGlobals mg->bG l.prog w K mg base gK 10 fa fd ["_law_script"] (Fg K):=by
 obtain⟨h0⟩:=e0.has X G (ps:=["thing"]) fun _ _ _ _ _ _ us hl=>by obtain⟨_,rfl⟩:=zP hl; rfl
 obtain⟨h1⟩:=e1.has X G (ps:=["thing","least"]) fun _ _ _ _ _ _ us hl=>by obtain⟨_,_,rfl⟩:=Jp hl; rfl
 obtain⟨h2⟩:=e2.has X G (ps:=["thing","least","most"]) fun _ _ _ _ _ _ us hl=>by obtain⟨_,_,_,rfl⟩:=Hc hl; rfl
 obtain⟨h3⟩:=e3.has X G (ps:=["thing","many"]) fun _ _ _ _ _ _ us hl=>by obtain⟨_,_,rfl⟩:=Jp hl; rfl
 obtain⟨h4⟩:=e4.has X G (ps:=["post"]) fun _ _ _ _ _ _ us hl=>by obtain⟨_,rfl⟩:=zP hl; rfl
 obtain⟨h5⟩:=e5.has X G (ps:=["rows","what"]) fun _ _ _ _ _ _ us hl=>by obtain⟨_,_,rfl⟩:=Jp hl; rfl
 obtain⟨h6⟩:=e6.has X G (ps:=["post","stand"]) fun _ _ _ _ _ _ us hl=>by obtain⟨_,_,rfl⟩:=Jp hl; rfl
 obtain⟨h7⟩:=e7.has X G (ps:=["triple","place","wants"]) fun _ _ _ _ _ _ us hl=>by obtain⟨_,_,_,rfl⟩:=Hc hl; rfl
 obtain⟨h8⟩:=e8.has X G (ps:=["post","one","other"]) fun _ _ _ _ _ _ us hl=>by obtain⟨_,_,_,rfl⟩:=Hc hl; rfl
 obtain⟨h9⟩:=e9.has X G (ps:=["post","hands","newest"]) fun _ _ _ _ _ _ us hl=>by obtain⟨_,_,_,rfl⟩:=Hc hl; rfl
 obtain⟨h10⟩:=e10.has X G (ps:=["rule","hands","newest"]) fun _ _ _ _ _ _ us hl=>by obtain⟨_,_,_,rfl⟩:=Hc hl; rfl
 obtain⟨h11⟩:=Wc.has X G (ps:=["row","hands","newest"]) fun _ _ _ _ _ _ us hl=>by obtain⟨_,_,_,rfl⟩:=Hc hl; rfl
 obtain⟨h12⟩:=Tt.has X G (ps:=["thing"]) fun _ _ _ _ _ _ us hl=>by obtain⟨_,rfl⟩:=zP hl; rfl
 obtain⟨h13⟩:=QW.has X G (ps:=["thing"]) fun _ _ _ _ _ _ us hl=>by obtain⟨_,rfl⟩:=zP hl; rfl
 obtain⟨h14⟩:=Tr.has X G (ps:=["thing"]) fun _ _ _ _ _ _ us hl=>by obtain⟨_,rfl⟩:=zP hl; rfl
 obtain⟨h15⟩:=Ms.has X G (ps:=["thing"]) fun _ _ _ _ _ _ us hl=>by obtain⟨_,rfl⟩:=zP hl; rfl
 obtain⟨h16⟩:=Tq.has X G (ps:=["thing"]) fun _ _ _ _ _ _ us hl=>by obtain⟨_,rfl⟩:=zP hl; rfl
 obtain⟨h17⟩:=Y7.has X G (ps:=["thing"]) fun _ _ _ _ _ _ us hl=>by obtain⟨_,rfl⟩:=zP hl; rfl
 obtain⟨h18⟩:=Y6.has X G (ps:=["thing"]) fun _ _ _ _ _ _ us hl=>by obtain⟨_,rfl⟩:=zP hl; rfl
 obtain⟨h19⟩:=Y5.has X G (ps:=["ready","called"]) fun _ _ _ _ _ _ us hl=>by obtain⟨_,_,rfl⟩:=Jp hl; rfl
 obtain⟨h20⟩:=Y4.has X G (ps:=["thing","many"]) fun _ _ _ _ _ _ us hl=>by obtain⟨_,_,rfl⟩:=Jp hl; rfl
 obtain⟨h21⟩:=Y0.has X G (ps:=["post"]) fun _ _ _ _ _ _ us hl=>by obtain⟨_,rfl⟩:=zP hl; rfl
 obtain⟨h22⟩:=YZ.has X G (ps:=["stand"]) fun _ _ _ _ _ _ us hl=>by obtain⟨_,rfl⟩:=zP hl; rfl
 obtain⟨h23⟩:=YX.has X G (ps:=["post","stand","come","free"]) (fun _ _ _ _ _ _ _ us hl=>by
  rw[qD] at hl
  obtain⟨_,_,_,_,rfl⟩:=Wq hl
  exact⟨_,rfl,rfl⟩) fun _ _ _ _ _ _ _ us hl=>by
  obtain⟨_,_,_,rfl⟩:=Hc (Nat.succ.inj ((dR).symm.trans hl))
  exact⟨_,rfl,rfl⟩
 obtain⟨h24⟩:=YW.has X G (ps:=["post","since","rest"]) fun _ _ _ _ _ _ us hl=>by obtain⟨_,_,_,rfl⟩:=Hc hl; rfl
 obtain⟨h25⟩:=YT.has X G (ps:=["post","hands","newest","free"]) fun _ _ _ _ _ _ us hl=>by obtain⟨_,_,_,_,rfl⟩:=Wq hl; rfl
 obtain⟨h26⟩:=YS.has X G (ps:=["post","stand","change"]) fun _ _ _ _ _ _ us hl=>by obtain⟨_,_,_,rfl⟩:=Hc hl; rfl
 obtain⟨h27⟩:=YQ.has X G (ps:=["ready","called","many"]) fun _ _ _ _ _ _ us hl=>by obtain⟨_,_,_,rfl⟩:=Hc hl; rfl
 obtain⟨h28⟩:=YM.has X G (ps:=["post","stand","load"]) fun _ _ _ _ _ _ us hl=>by obtain⟨_,_,_,rfl⟩:=Hc hl; rfl
 obtain⟨h29⟩:=YL.has X G (ps:=["post","stand","load"]) fun _ _ _ _ _ _ us hl=>by obtain⟨_,_,_,rfl⟩:=Hc hl; rfl
 obtain⟨h30⟩:=YK.has X G (ps:=["post","stand","come","most"]) fun _ _ _ _ _ _ us hl=>by obtain⟨_,_,_,_,rfl⟩:=Wq hl; rfl
 obtain⟨h31⟩:=YJ.has X G (ps:=["post","stand","come","most"]) fun _ _ _ _ _ _ us hl=>by obtain⟨_,_,_,_,rfl⟩:=Wq hl; rfl
 obtain⟨h32⟩:=YH.has X G (ps:=["_law_script","_law_k"]) fun _ _ _ _ _ _ us hl=>by obtain⟨_,_,rfl⟩:=Jp hl; rfl
 obtain⟨h33⟩:=YG.has X G (ps:=["_law_tape_here","_law_many"]) fun _ _ _ _ _ _ us hl=>by obtain⟨_,_,rfl⟩:=Jp hl; rfl
 obtain⟨h34⟩:=YF.has X G (ps:=["_law_tape_here"]) fun _ _ _ _ _ _ us hl=>by obtain⟨_,rfl⟩:=zP hl; rfl
 obtain⟨h35⟩:=YD.has X G (ps:=["_law_tape_here","_law_small"]) fun _ _ _ _ _ _ us hl=>by obtain⟨_,_,rfl⟩:=Jp hl; rfl
 obtain⟨h36⟩:=Ud.has X G (ps:=["_law_tape_here","_law_small"]) fun _ _ _ _ _ _ us hl=>by obtain⟨_,_,rfl⟩:=Jp hl; rfl
 obtain⟨h37⟩:=YC.has X G (ps:=["_law_tape_here"]) fun _ _ _ _ _ _ us hl=>by obtain⟨_,rfl⟩:=zP hl; rfl
 obtain⟨h38⟩:=YB.has X G (ps:=["_law_tape_here"]) fun _ _ _ _ _ _ us hl=>by obtain⟨_,rfl⟩:=zP hl; rfl
 obtain⟨h39⟩:=Yz.has X G (ps:=["_law_tape_here"]) fun _ _ _ _ _ _ us hl=>by obtain⟨_,rfl⟩:=zP hl; rfl
 obtain⟨h40⟩:=Yy.has X G (ps:=["_law_tape_here"]) fun _ _ _ _ _ _ us hl=>by obtain⟨_,rfl⟩:=zP hl; rfl
 obtain⟨h41⟩:=Yx.has X G (ps:=["_law_case_here"]) fun _ _ _ _ _ _ us hl=>by obtain⟨_,rfl⟩:=zP hl; rfl
 obtain⟨h42⟩:=Yw.has X G (ps:=["_law_what","_law_case_here"]) fun _ _ _ _ _ _ us hl=>by obtain⟨_,_,rfl⟩:=Jp hl; rfl
 have B:Bi mg:=⟨PySem.W.mg_none_of X G xF,PySem.W.mg_none_of X G Us,PySem.W.mg_none_of X G Q7,PySem.W.mg_none_of X G Ng,PySem.W.mg_none_of X G Ur,PySem.W.mg_none_of X G Uq,PySem.W.mg_none_of X G Up,PySem.W.mg_none_of X G zQ,PySem.W.mg_none_of X G Um,PySem.W.mg_none_of X G Uo,PySem.W.mg_none_of X G Uu,PySem.W.mg_none_of X G Q6,PySem.W.mg_none_of X G Cr,PySem.W.mg_none_of X G Nh,PySem.W.mg_none_of X G Ut,PySem.W.mg_none_of X G Uv,PySem.W.mg_none_of X G Q5⟩
 have O:Co K mg:=⟨(let ⟨a,n,_,z,m⟩:=O7; ⟨a,PySem.W.mg_of X G z,⟨_,m,rfl,rfl⟩,fun H=>.inr ⟨_,_,n,m,rfl,rfl,(by show 3<=sizeLine; decide),(.cons ⟨_,rfl⟩ (.cons ⟨_,rfl⟩ (.cons ⟨_,rfl⟩ .nil)))⟩⟩),Sg.gs X G,O8.gs X G,Sh.gs X G,yO.gi X G,yR.gi X G,Br.gi X G,Bs.gi X G,yS.gi X G,Bq.gi X G,yQ.gi X G,Bp.gi X G,Bo.gi X G,rW.gi X G,yP.gi X G,uH.gi X G⟩
 have Z:ZL K mg bw:=⟨PySem.W.mg_of X G Ha,xH,xJ⟩
 obtain⟨oc,od,an,sl,kV,dc,pm,cd,ct,ea,el,ec,ek0⟩:=Yv
 have e:=hfa.symm.trans (PySem.W.mg_of X G ea)
 cases e
 refine⟨PySem.W.fnOf "law" "law" (cZ tW) (cA tW) (aG tW) .none kV dc pm an cd ct,fun s v=>.of_eq rfl,fun base _ _=>?_⟩
 have F:=Mp (st:=tW) el ec ek0
 have BZ:=h32.ct l.prog w base (HS (k:=0) h32.F B)
 have cG:=h33.ct l.prog w base (HX (k:=0) h33.F B)
 have il:=h34.ct l.prog w base (Du (k:=1) h34.F B (cG.mono (by decide)))
 have Em:=h35.ct l.prog w base (La (k:=2) h35.F B (cG.mono (by decide)) (il.mono (by decide)))
 have pX:=h36.ct l.prog w base (Dw (k:=3) h36.F B (cG.mono (by decide)) (Em.mono (by decide)))
 have pW:=h38.ct l.prog w base (rR (k:=4) h38.F B (cG.mono (by decide)) (pX.mono (by decide)))
 have B_:=h37.ct l.prog w base (HW (k:=4) h37.F B (cG.mono (by decide)) (il.mono (by decide)) (pX.mono (by decide)))
 have cO:=h21.ct l.prog w base (uE (k:=0) h21.F B)
 have zy:=h39.ct l.prog w base (Dv (k:=2) h39.F B (cG.mono (by decide)) (il.mono (by decide)))
 have Ca:=h40.ct l.prog w base (HY (k:=5) h40.F B (cG.mono (by decide)) (il.mono (by decide)) (pW.mono (by decide)) (B_.mono (by decide)) (cO.mono (by decide)) (zy.mono (by decide)))
 have oE:=h11.ct l.prog w base (Bc (k:=0) h11.F B O)
 have lV:=h10.ct l.prog w base (yF (k:=1) h10.F (oE.mono (by decide)))
 have qP:=h9.ct l.prog w base (O1 (k:=2) h9.F B (lV.mono (by decide)))
 have gF:=h22.ct l.prog w base (Bj (k:=0) h22.F B)
 have jU:=h5.ct l.prog w base (vM (k:=0) h5.F B)
 have jD:=h4.ct l.prog w base (HR (k:=1) h4.F B O (jU.mono (by decide)))
 have gB:=h24.ct l.prog w base (pK (k:=0) h24.F)
 have lW:=h25.ct l.prog w base (yG (k:=3) h25.F B (qP.mono (by decide)))
 have lU:=h27.ct l.prog w base (yE (k:=0) h27.F B)
 have jm:=h26.ct l.prog w base (uz (k:=1) h26.F B (lU.mono (by decide)))
 have fG:=h23.ct l.prog w base (O3 (k:=4) h23.F B O (gB.mono (by decide)) (lW.mono (by decide)) (gF.mono (by decide)) (jm.mono (by decide)))
 have jC:=h28.ct l.prog w base (HQ (k:=5) h28.F B (fG.mono (by decide)))
 have sG:=h29.ct l.prog w base (Le (k:=5) h29.F B (fG.mono (by decide)))
 have jn:=h7.ct l.prog w base (uA (k:=0) h7.F B)
 have jo:=h6.ct l.prog w base (O2 (k:=2) h6.F B (jD.mono (by decide)) (jn.mono (by decide)))
 have zx:=h8.ct l.prog w base (Ld (k:=3) h8.F (jo.mono (by decide)))
 have aY:=h3.ct l.prog w base (uD (k:=0) h3.F B)
 have gD:=h0.ct l.prog w base (Bg (k:=0) h0.F B)
 have aR:=h2.ct l.prog w base (vN (k:=1) h2.F (gD.mono (by decide)))
 have cT:=h13.ct l.prog w base (jP (k:=2) h13.F O (aY.mono (by decide)) (aR.mono (by decide)))
 have lY:=h14.ct l.prog w base (yI (k:=2) h14.F B O (aY.mono (by decide)) (aR.mono (by decide)))
 have vm:=h17.ct l.prog w base (H_ (k:=2) h17.F O (aY.mono (by decide)) (aR.mono (by decide)))
 have qR:=h16.ct l.prog w base (Dz (k:=3) h16.F B O (vm.mono (by decide)))
 have lX:=h15.ct l.prog w base (yH (k:=4) h15.F B O (qR.mono (by decide)))
 have mR:=h12.ct l.prog w base (DG (k:=5) h12.F O (aY.mono (by decide)) (aR.mono (by decide)) (cT.mono (by decide)) (lY.mono (by decide)) (lX.mono (by decide)))
 have dB:=h1.ct l.prog w base (DK (k:=1) h1.F (gD.mono (by decide)))
 have dC:=h20.ct l.prog w base (vO (k:=2) h20.F B (aY.mono (by decide)) (dB.mono (by decide)))
 have lZ:=h19.ct l.prog w base (yJ (k:=3) h19.F B O (dB.mono (by decide)) (dC.mono (by decide)))
 have jV:=h18.ct l.prog w base (Bh (k:=4) h18.F B O (aY.mono (by decide)) (dB.mono (by decide)) (aR.mono (by decide)) (lZ.mono (by decide)) (dC.mono (by decide)))
 have gC:=h30.ctE l.prog w base (Bd (k:=5) h30.F B Z (jo.mono (by decide)) (fG.mono (by decide)))
 have oG:=h31.ctE l.prog w base (Be (k:=6) h31.F B (gC.mono (by decide)) (jC.mono (by decide)))
 have vU:=h41.ct l.prog w base (Bf (k:=7) h41.F Z (gC.mono (by decide)) (oG.mono (by decide)))
 have zE:=h42.ct l.prog w base (Dy (k:=8) h42.F (qP.mono (by decide)) (gF.mono (by decide)) (jD.mono (by decide)) (cO.mono (by decide)) (fG.mono (by decide)) (jC.mono (by decide)) (sG.mono (by decide)) (jo.mono (by decide)) (zx.mono (by decide)) (mR.mono (by decide)) (jV.mono (by decide)) (vU.mono (by decide)))
 exact R3 (k:=9) F B (BZ.mono (by decide)) (cG.mono (by decide)) (Ca.mono (by decide)) (zE.mono (by decide))
theorem walk {l:PySem.W.OpenLaw} {q:Program} {loose:List Str} {XP:(Str->Option Value)->Heap->Prop} {YP:World->Heap->Prop} {d:DefRec} {K:Params->PySem.W.Frag} (hn:l.most=some 63) (hdf:d.params.defaults=[])
  (hY:∀(w:World) (h:Heap),YP w h->(K w.params).In h)
  (F:∀(w:World) (mg:Str->Option Value) (fa:Addr) (h:Heap),(K w.params).In h->h.Ns mainGlobals mg->mg d.name=some (.ref fa) ->
   ∃fd:FuncData,(∀(s:Shared) (u:Value),BindsTo s fd ⟨[u],[]⟩ [("_law_script",u)])/\∀base:Heap,(K w.params).In base->base.Ns mainGlobals mg->bG l.prog w (K w.params) mg base gK 10 fa fd ["_law_script"] (Fg (K w.params))) :
  PySem.W.WalkO q loose XP YP l.row.toRowW d [] (fun f vs=>PySem.call f vs):=
 L2.Nk (n:=63) (k:=10) (x:="_law_script") (CX:=fun _=>gK) (sp:=fun w=>Fg (K w.params)) hn (by decide) hdf ⟨rfl,by decide,by decide,rfl⟩ hY F (fun _ _ a ns hl hO hS=>⟨a,ns,rfl,zH.of hS hO,hl,fun _=>rfl⟩) fun _ _ _ _ _ z=>z
end Zg
structure PySem.W.Fast:Prop where(tw1886377638381584881 tw12295619001783346492 tw1453529644042945477 tw12798064553132573068 tw14141391486376944079 tw10133173039066622499 tw6730057389679574472 tw10485610629472659509 tw1102794635101834491 tw10736602595674884129 tw6244847870989549570 tw7054525496606753212 tw14407883856631401660 tw12262997537040322973 tw10669366395268755580 tw4976997338986316325 tw2017417420305540853 tw14594496844725284084 tw12236705699099183001 tw15399471740293453292 tw16220788959259101357 tw6468324528438918714 tw12941620013672553891 tw8226776755640175834 tw17629666202317736916 tw661672195529140161 tw10577774451951945959 tw4125960253064414725 tw16368338114101773787 tw16747768193455737289 tw4203346069284619426 tw13417070804293955888 tw7521654958590562920 tw16983624784226358100 tw16179530535282041084 tw414253641968332098 tw12103134838749619744 tw16059128068555262975 tw12081003517843888285 tw5254217353616058307 tw14766054418552797728 tw11981993708041294057 tw3149983046830797272 tw16599778870917369267 tw15612030875152170311 tw8561087849931849579 tw16069279311357961013 tw5927445602012765533 tw9634651523628040226 tw10277026862775357954 tw3001652638590867071 tw5512624156260278010 tw1971898802862252768 tw1300034591897558873 tw15440952098857639223 tw13130493497032838582 tw803655734352941346 tw6343849182595726517 tw12620170558868212537 tw16042659166826999260 tw12164510655154807586 tw12213976886422401874 tw16205522599482620034 tw15585458879946373539 tw12438475041162486403 tw9604767749523313866 tw1431521942204269372 tw6332249474880751157 tw11814704207299514423 tw4392973465771176294 tw5811100943263796372 tw9206110659183731247 tw16295295916186293889 tw11788608211114188668 tw6415625641449202961 tw16818335250883330857 tw9263540205279299329 tw2232112301561373018 tw9403262880492118315 tw11143236869308385402 tw13021907275399918845 tw11445361838057041419 tw4802716651331206087 tw6398943956463847216 tw6097177567372841932 tw7128253811714913315 tw14356617635064471535 tw2115301338477074115 tw9451666925363456688 tw16380136388819403717 tw17142945637673345655 tw3104241952053355091 tw4923751832251744263 tw5766549049164015386 tw4512027530329375539 tw17376003992957600562 tw3639743651849378403 tw10442973125068252643 tw10351009790903956301 tw13383150790481952615 tw15999341645076670998 tw10042280931832746220 tw2634951970811605328 tw10223038501032426359 tw1835730135934786674 tw13291952935174748450 tw6218059095344488456 tw13054429717224491406 tw13084146175933248289 tw13864883506056692469 tw7227400281675959175 tw7987835011485939307 tw18011207292135290667 tw1015605039101321956 tw2184196279789466922 tw14438592389527319798 tw14893614626060061146 tw11880396201140821537 tw13050307243364208095 tw16015924347768720305 tw15946049000440977941 tw9385285025457303731 tw12526201546395273787 tw6541627251224131177 tw6905546002253728377 tw17785967545523472724 tw18214819210835049430 tw6124685504603787391 tw3326797487591539555 tw10202453627759822497 tw10645663252372362216 tw5461298607975445211 tw11441815695102342567 tw4120020554194490464 tw6184794308667836497 tw6203344694608529876 tw16403387882669231368 tw7450972094127812822 tw4354923707985345386 tw12470575851048002877 tw2514472899396590753 tw14290193001070181061 tw1991741312390578430 tw16689959054698354511 tw3385521908345850882 tw2372718325029196961 tw16941823864949274174 tw4142124843418068691 tw7768334021515515243 tw14915509342461400329 tw7991788282168098880 tw14045279746755579274 tw14964522780537839105 tw5007471731525572468 tw11491949312042854064 tw12845503405291183083 tw7769745071179673072 tw903050344744120768 tw17101901139245241624 tw6823771084721031423 tw4355919148138553980 tw3335370045975251895 tw14777366570922833000 tw7627894242746967996 tw11497405876139999417 tw4273389092805265920 tw10132103421013858937 tw17959354304037866265 tw663606975296980937 tw11518639847405871712 tw1924984341769720847 tw7615244662936716260 tw12283511929622575959 tw13342785943441119579 tw16662217179472813774 tw2064708071657336278 tw6671106076175458267 tw13383319629822749366 tw15477155667349641426 tw14330833403715952644 tw16949612988850680807 tw4915536153126125590 tw9269924974838388757 tw1325939440184956490 tw12608075303580612333 tw3124539575889731987 tw11527821948893040855 tw16583668701582650662 tw14028751743940436006 tw6808372329894788319 tw371568104764390995 tw453628956319984244 tw13573511610449697996 tw17797696412658824331 tw17716889345107462006 tw18068178626397391667 tw4120629115771625595 tw2082907669178836072 tw12103718176941104834 tw1604030875430221494 tw1715630387189698106 tw12780229608878114695 tw6865989549131287154 tw17199790621603337536 tw1989164390792413633 tw4985632186657699288 tw838091717683687060 tw7214064972436859195 tw3612867637600745025 tw7208413592565705039 tw16081880207683397368 tw4435414003372093371 tw12169367772682086811 tw13062503515258547445 tw9655380624232283842 tw10506294136328986848 tw2702482424738981184 tw13573205400088404970 tw16923077551139447120 tw15386095647474488656 tw5978441628129850724 tw5046623968846865997 tw7107312829403437008 tw348085282064044860 tw1747435472298041220 tw6779190694733454651 tw6921954107401200113 tw14183777291001164834 tw5184475885230522310 tw9679259270508971045 tw940581253145666857 tw18103577683097709666 tw14411578131364598976 tw10214304985276362979 tw2242933630967507004 tw3698359238695615798 tw5480552275105155254 tw8790239988895395123 tw166496445889613234 tw12366344638913985958 tw18252195233081778381 tw15449620241984981935 tw4078453909371632253 tw7980067852544814583 tw16113989698394562602 tw17041389067335972355 tw13573283792695668481 tw13967823039968797351 tw15218494539419394013 tw12600896344624605860 tw5981627169808338494 tw7747898042887037689 tw12416816210312042003 tw15878166849622212278 tw15846398938161093852 tw2489571489841671932 tw2834746619273145441 tw6377924118327166722 tw17347293784778133811 tw6079256472553620313 tw3402412716693785841 tw1652229378933969431 tw5002916938570869120 tw13832196567862203628 tw9921286267586715939 tw7888216369579727992 tw18443140125087551713 tw12031268538638633933 tw17130749593203801180 tw5632156133019657044 tw5177352375469306169 tw15776590215942023121 tw11751873203835396159 tw15661156359974653982 tw11441849332607119522 tw8970156169498831791 tw3534248415356388908 tw2791137856842387906 tw235219872856321020 tw9718236378180131282 tw16319683452915478204 tw12662028980781725622 tw3157664175989586393 tw9172478905889610475 tw11962732783053468460 tw2979861429321460151:True)
open PySem PySem.W PyProof.Rows
local macro_rules | `(tactic| walk_at "fd")=>`(tactic| (refine' L2.Ul.mk ?a ?b ?c ?d ?e; (case a=>k_is); (case b=>k_is); (case c=>k_is); (case d=>k_is); (case e=>k_is)))
local macro_rules | `(tactic| walk_at "fn")=>`(tactic| (refine' L2.iw.mk ?a ?b ?c ?d; (case a=>k_is); (case b=>k_is); (case c=>k_is); (case d=>k_is)))
local macro_rules | `(tactic| walk_at "nb")=>`(tactic| (unfold L2.Nb; k_is))
local macro_rules | `(tactic| walk_at "ni")=>`(tactic| (refine' L2.Ni.mk ?a; (case a=>k_is)))
local macro_rules | `(tactic| walk_at "ns")=>`(tactic| (refine' L2.Cj.mk ?a; (case a=>k_is)))
local macro_rules | `(tactic| walk_at "nt")=>`(tactic| (refine' L2.NT.mk ?a ?b; (case a=>k_is); (case b=>k_is)))
set_option maxRecDepth 100000 in
set_option maxHeartbeats 0 in
theorem PySem.Challenge.cw_waithands_k16_plays_again_and_shared_holds : PySem.Challenge.rw_waithands_k16_plays_again_and_shared.Holds := by
 w_on; o_law; k_head; (case hw=>w_witness2)
 k_fill
 refine Zg.walk (l:=PySem.Challenge.rw_waithands_k16_plays_again_and_shared) rfl rfl (fun w h Y=>PySem.W.kIn_of Y) ?F
 case F=>
  intro w mg fa h KX G hmg
  refine' Zg.all_mk KX G hmg ?e0 ?e1 ?e2 ?e3 ?e4 ?e5 ?e6 ?e7 ?e8 ?e9 ?e10 ?Wc ?Tt ?QW ?Tr ?Ms ?Tq ?Y7 ?Y6 ?Y5 ?Y4 ?Y0 ?YZ ?YX ?YW ?YT ?YS ?YQ ?YM ?YL ?YK ?YJ ?YH ?YG ?YF ?YD ?Ud ?YC ?YB ?Yz ?Yy ?Yx ?Yw ?Yv ?e44 ?e45 ?e46 ?e47 ?e48 ?e49 ?e50 ?e51 ?e52 ?e53 ?e54 ?e55 ?e56 ?e57 ?e58 ?e59 ?e60 ?e61 ?e62 ?e63 ?e64 ?e65 ?e66 ?e67 ?e68 ?e69 ?e70 ?e71 ?e72 ?e73 ?e74 ?e75 ?e76 ?e77 ?e78 ?e79
  case e0 | e1 | e2 | e3 | e4 | e5 | e6 | e7 | e8 | e9 | e10 | Wc | Tt | QW | Tr | Ms | Tq | Y7 | Y6 | Y5 | Y4 | Y0 | YZ=>walk_at "fn"
  case YX=>walk_at "fd"
  case YW | YT | YS | YQ | YM | YL | YK | YJ | YH | YG | YF | YD | Ud | YC | YB | Yz | Yy | Yx | Yw | Yv=>walk_at "fn"
  case e44=>k_is
  case e45=>k_exc
  case e46=>kts_exm
  case e47 | e48 | e49 | e50 | e51 | e52 | e53 | e54 | e55 | e56 | e57 | e58 | e59 | e60 | e61 | e62 | e63=>walk_at "nb"
  case e64=>walk_at "nt"
  case e65 | e66 | e67=>walk_at "ns"
  case e68 | e69 | e70 | e71 | e72 | e73 | e74 | e75 | e76 | e77 | e78 | e79=>walk_at "ni"

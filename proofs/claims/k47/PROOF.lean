import PyProof.Rows.All
import Wide.All
import OpenK.AllK
import Wide.FinOn
import Lean
import PyProof.EqAt
import PyProof.EqKinds
import PyProof.TupleCall
import PyProof.P3In
import PyProof.NeData
import KE.KMinKey
import PyProof.Rows.CallKwBuiltin
import PyProof.LayNew
import PyProof.EnumFor
import PyProof.EnumMake
import PyProof.EnumStmt
import KE.KRevIter
import KE.KRevSl
import PyProof.StationsW
import PyProof.RulesAs
import KE.KTryMore
import PyProof.Rows.TopTwo
import PyProof.NsDelKeeps
import PyProof.ExcArgsOwn
import KE.KIsAll
import PyProof.AutoListH
import PyProof.SetRoads
import PyProof.SetNew
import PyProof.ListRange
import PyProof.Rows.TupDisplay
import PyProof.Draws
import PyProof.ZipIter
import PyProof.TupleIter
import PyProof.AttrMissSeq
import KE.KDictOf
import PySem.Challenge.RW_waithands_k47_loads_that_break_rise
set_option Elab.async false
set_option linter.all false
set_option maxRecDepth 100000
section
open PySem PySem.Spec PyProof.Rows
abbrev aN:=@wpAny_bind
abbrev cg:=@List.length_map
abbrev gP:=@List.getElem?_eq_getElem
abbrev gf:=@Heap.get?_push_of_some
abbrev bH:=@wpAny_pure
abbrev iZ:=@List.getD_eq_getElem?_getD
abbrev fj:=@List.length_append
abbrev il:=@List.getElem?_map
abbrev nG:=@List.getElem?_eq_some_iff
abbrev cV:=@Nat.le_refl
abbrev aK:=@if_neg
abbrev dU:=@lookup_relabel_local
abbrev b_:=@List.mem_cons
abbrev aM:=@if_pos
abbrev dR:=@Heap.get?_push_size
abbrev bW:=@Heap.lt_size
abbrev d8:=@List.mem_singleton
abbrev gZ:=@List.mem_append_right
abbrev e_:=@List.size_toArray
abbrev iG:=@List.mem_cons_of_mem
abbrev nj:=@List.getElem?_append_right
abbrev fX:=@decide_eq_false
abbrev iU:=@Bool.false_eq_true
abbrev jl:=@List.mem_cons_self
abbrev gY:=@List.map_append
abbrev jD:=@Bool.false_ne_true
abbrev m_:=@Option.map_eq_some_iff
abbrev k_:=@Array.length_toList
abbrev jU:=@Nat.lt_of_lt_of_le
abbrev lU:=@List.mem_of_getElem?
abbrev fW:=@Nat.ne_of_lt
abbrev jC:=@List.length_take
abbrev iT:=@decide_eq_true
abbrev gr:=@Nat.zero_le
abbrev fM:=@wpAny_mono
abbrev kZ:=@List.append_nil
abbrev sO:=@Heap.get?_update_other
abbrev wK:=@Array.getElem?_eq_some_iff
abbrev iR:=@List.mem_map
abbrev m8:=@List.length_cons
abbrev iD:=@wpAny_field
abbrev m7:=@List.mem_append
abbrev lR:=@Heap.size_push
abbrev pH:=@List.not_mem_nil
abbrev sG:=@wpAny_Call_Name_kw
abbrev wJ:=@Heap.get?_update_self
abbrev qK:=@List.lookup_cons
abbrev sy:=@wpAny_newObj_type
abbrev BP:=@List.getElem?_append_left
abbrev BL:=@Array.getElem?_eq_getElem
abbrev lQ:=@Nat.le_of_lt
abbrev pG:=@wpAny_seqItems
abbrev su:=@List.take_length
abbrev uK:=@Int.toNat_natCast
abbrev gW:=@congrArg
abbrev uJ:=@wpAny_call_entry
abbrev uI:=@List.length_drop
abbrev BK:=@List.length_replicate
abbrev BJ:=@Array.getElem?_toList
abbrev qJ:=@wpAny_holding
abbrev Fg:=@Option.isSome_iff_exists
abbrev pF:=@Nat.le_trans
abbrev JZ:=@Array.getD_eq_getD_getElem?
abbrev sr:=@Nat.lt_irrefl
abbrev rZ:=@List.map_cons
abbrev qI:=@Nat.sub_self
abbrev zr:=@List.append_assoc
abbrev JX:=@List.drop_eq_getElem_cons
abbrev Ff:=@List.mem_iff_getElem?
abbrev zq:=@List.all_eq_true
abbrev Bx:=@Int.emod_lt_of_pos
abbrev qH:=@Int.le_refl
abbrev JW:=@wpAny_callSpecial?_slot
abbrev Nm:=@List.dropLast_concat_getLast
abbrev Fe:=@List.length_zipWith
abbrev JV:=@List.drop_of_length_le
abbrev rY:=@wpAny_of_eq
abbrev Bw:=@Bool.and_eq_true
abbrev zp:=@List.mem_range
abbrev Bv:=@Int.emod_nonneg
abbrev Fd:=@of_decide_eq_true
abbrev wI:=@Nat.zero_add
abbrev JT:=@Nat.pow_le_pow_right
abbrev zm:=@wpAny_standAt
abbrev zj:=@Bool.not_true
abbrev Bu:=@List.take_succ
abbrev Nk:=@List.getElem?_cons_succ
abbrev JS:=@wpAny_setField_rec
abbrev JR:=@wpAny_pyIter_tuple
abbrev JQ:=@of_decide_eq_false
abbrev Fb:=@wpAny_passesOwn
abbrev Bt:=@Nat.add_assoc
abbrev JP:=@wpAny_setState_of
abbrev JN:=@Nat.lt_succ_of_lt
abbrev JM:=@List.getElem_mem
abbrev JL:=@List.drop_length
abbrev Nj:=@List.replicate_succ
abbrev xT:=@wpAny_specialOf
abbrev xR:=@wpAny_execs_nil
abbrev xQ:=@List.nil_append
abbrev xP:=@List.forIn_cons
abbrev pI:=@wpAny_rule
abbrev Ci:=@List.getElem?_drop
abbrev Hs:=@List.length_eq_zero_iff
abbrev xO:=@wpAny_tryCatch
abbrev Cg:=@wpAny_truthy_bool
abbrev xN:=@wpAny_setField
abbrev Ce:=@List.flatten_cons
abbrev Hr:=@List.getElem?_zipWith
abbrev Hq:=@List.getElem?_eq_none
abbrev Cd:=@wpAny_forIn_list
abbrev Ca:=@Nat.lt_succ_self
abbrev uL:=@wpAny_letGo
abbrev Ho:=@List.mem_append_left
abbrev B_:=@Nat.min_le_left
abbrev BZ:=@List.nodup_cons
abbrev BX:=@Bool.or_eq_true
abbrev Hn:=@Heap.SameBut.update
abbrev Hm:=@List.getElem_range
abbrev Hl:=@Array.forIn_toList
abbrev Nt:=@List.pairwise_iff_getElem
abbrev Hk:=@wpAny_pyIter_enum
abbrev Hj:=@List.length_range
abbrev BW:=@List.sum_cons
abbrev Hi:=@Nat.mod_eq_of_lt
abbrev Hh:=@Nat.min_eq_right
abbrev Nr:=@List.getElem?_replicate
abbrev Hg:=@List.ext_getElem
abbrev Nq:=@wpAny_pyIter_rangeiter
abbrev BV:=@Nat.pow_succ
abbrev BR:=@Nat.ne_of_gt
abbrev Np:=@List.take_of_length_le
end
namespace L2
open PySem PySem.Spec PyProof.Rows
abbrev Key:=Sum Int Str
def Us:Key->Value->Bool
 | .inl k,v=>Value.isInt k v
 | .inr x,v=>Value.isStrOf x v
def aaG (w:World):Key->Int
 | .inl k=>hashInt k
 | .inr x=>hashStr w x
theorem cR:∀{k:Key} {v:Value},Us k v=true->(∃i t,k=Sum.inl i/\v=Value.int i t)\/(∃x t,k=Sum.inr x/\v=Value.str x t)
 | .inl i,v,h=>by
  obtain⟨t,e⟩:=Value.isInt_shape (k:=i) (v:=v) h
  exact .inl ⟨i,t,rfl,e⟩
 | .inr x,v,h=>by
  obtain⟨t,e⟩:=Value.isStrOf_shape (x:=x) (v:=v) h
  exact .inr ⟨x,t,rfl,e⟩
theorem V7 (a b:Int):decide ((Sum.inl a:Key)=Sum.inl b)=(a==b):=by
 by_cases e:a=b
 ·subst e; simp
 ·have h:¬(Sum.inl a:Key)=Sum.inl b:=fun q=>e (Sum.inl.inj q)
  rw[fX h]
  exact(beq_eq_false_iff_ne.mpr e).symm
theorem V4 (a b:Str):decide ((Sum.inr a:Key)=Sum.inr b)=decide (a=b):=by
 by_cases e:a=b
 ·subst e; simp
 ·have h:¬(Sum.inr a:Key)=Sum.inr b:=fun q=>e (Sum.inr.inj q)
  rw[fX h,fX e]
theorem V6 (a:Int) (b:Str):decide ((Sum.inl a:Key)=Sum.inr b)=false:=fX (fun q=>nomatch q)
theorem V5 (a:Str) (b:Int):decide ((Sum.inr a:Key)=Sum.inl b)=false:=fX (fun q=>nomatch q)
def HN (prog:Program) (w:World):PySem.KeyKind prog w Key where
 is:=Us
 hash:=aaG w
 inj:=fun v a b ha hb=>by
  rcases cR ha with⟨i,t,rfl,rfl⟩ | ⟨x,t,rfl,rfl⟩
  ·rcases cR hb with⟨j,u,rfl,e⟩ | ⟨y,u,rfl,e⟩
   ·injection e with e1 _; rw[e1]
   ·exact nomatch e
  ·rcases cR hb with⟨j,u,rfl,e⟩ | ⟨y,u,rfl,e⟩
   ·exact nomatch e
   ·injection e with e1 _; rw[e1]
 byValue:=fun k v h=>by
  rcases cR h with⟨i,t,rfl,rfl⟩ | ⟨x,t,rfl,rfl⟩ <;> rfl
 pyHash:=fun hv h=>by
  rcases cR hv with⟨i,t,rfl,rfl⟩ | ⟨x,t,rfl,rfl⟩
  ·exact wpAny_pyHash_int h
  ·exact wpAny_pyHash_str h
 eqBool:=fun hu hv h=>by
  rcases cR hu with⟨i,t,rfl,rfl⟩ | ⟨x,t,rfl,rfl⟩
  ·rcases cR hv with⟨j,u,rfl,rfl⟩ | ⟨y,u,rfl,rfl⟩
   ·rw[V7] at h; exact wpAny_eqBool_int h
   ·rw[V6] at h; exact SeqAt.EqAt.int_str i t y u _ _ _ _ h
  ·rcases cR hv with⟨j,u,rfl,rfl⟩ | ⟨y,u,rfl,rfl⟩
   ·rw[V5] at h; exact SeqAt.EqAt.str_int x t j u _ _ _ _ h
   ·rw[V4] at h; exact wpAny_eqBool_str h
 «strs»:=fun k x t v h=>by
  rcases cR h with⟨i,u,rfl,e⟩ | ⟨y,u,rfl,e⟩
  ·exact nomatch e
  ·injection e with e1 _
   subst e1
   cases v <;> rfl
inductive V where
 | non | bl (b:Bool) | int (i:Int) | str (x:Str) | Lp (b:Array UInt8) | flt (b:UInt64) | ref (a:Addr) | ty (n:String)
 deriving DecidableEq
def RelV:V->Value->Prop
 | .non,u=>u=Value.none
 | .bl b,u=>u=Value.bool b
 | .int i,u=>∃t,u=Value.int i t
 | .str x,u=>∃t,u=Value.str x t
 | .Lp b,u=>∃t,u=Value.bytes b t
 | .flt b,u=>∃t,u=Value.float b t
 | .ref a,u=>u=Value.ref a
 | .ty n,u=>u=Value.type n
abbrev Vals:List V->List Value->Prop:=Paired RelV
theorem Vals.length {xs:List V} {us:List Value} (r:Vals xs us):xs.length=us.length:=Paired.length r
theorem Vals.get:∀{xs:List V} {us:List Value} {i:Nat} {x:V},Vals xs us->xs[i]?=some x->∃u,us[i]?=some u/\RelV x u
 | _,_,_,_,.nil,e=>by simp at e
 | _,_,0,_,.cons r _,e=>by simp at e; subst e; exact⟨_,rfl,r⟩
 | _,_,i+1,x,.cons _ t,e=>by
  obtain⟨u,h1,h2⟩:=Vals.get (i:=i) (x:=x) t (by simpa using e)
  exact⟨u,by simpa using h1,h2⟩
theorem Vals.set {x:V} {u:Value} (r:RelV x u):∀{xs:List V} {us:List Value} (i:Nat),Vals xs us->Vals (xs.set i x) (us.set i u)
 | _,_,_,.nil=>.nil
 | _,_,0,.cons _ t=>.cons r t
 | _,_,i+1,.cons q t=>.cons q (Vals.set r i t)
theorem Vals.append:∀{xs ys:List V} {us ws:List Value},Vals xs us->Vals ys ws->Vals (xs++ys) (us++ws)
 | _,_,_,_,.nil,s=>s
 | _,_,_,_,.cons r t,s=>.cons r (Vals.append t s)
theorem Vals.take:∀{xs:List V} {us:List Value} (n:Nat),Vals xs us->Vals (xs.take n) (us.take n)
 | _,_,0,_=>.nil
 | _,_,_+1,.nil=>.nil
 | _,_,n+1,.cons r t=>.cons r (Vals.take n t)
theorem Vals.drop:∀{xs:List V} {us:List Value} (n:Nat),Vals xs us->Vals (xs.drop n) (us.drop n)
 | _,_,0,r=>r
 | _,_,_+1,.nil=>.nil
 | _,_,n+1,.cons _ t=>Vals.drop n t
def Wo:Option V->Option Value->Prop
 | some v,some u=>RelV v u
 | none,none=>True
 | _,_=>False
def KV {κ:Type}:List (κ×V)->List (κ×Value)->Prop:=Paired fun(p:κ×V) (q:κ×Value)=>p.1=q.1/\RelV p.2 q.2
def kV:Key->V
 | .inl i=>.int i
 | .inr x=>.str x
inductive HO where
 | lst (xs:List V)
 | tup (xs:List V)
 | dK (kvs:List (Key×V)) | dT (kvs:List (List Key×V))
 | set (S:Int->Bool) (n:Nat)
 | ins (C dx:Addr) (fs:List (Str×V))
 | own (x:Addr)
 | xd (fs:List (Str×V))
 | met (f x:Addr)
 | Q5 (lo hi:Int)
 | DY (o:Obj) (u:HO)
 | Tr (ps:Array Value)
 | ext (φ:Heap->Prop)
abbrev Hp:=Addr->Option HO
def upd (H:Hp) (a:Addr) (o:HO):Hp:=fun b=>if b=a then some o else H b
theorem aC {H:Hp} {a:Addr} {o:HO}:upd H a o a=some o:=by unfold upd; rw[aM rfl]
theorem aL {H:Hp} {a b:Addr} {o:HO} (h:b≠a):upd H a o b=H b:=by unfold upd; rw[aK h]
theorem bN {H:Hp} {a b:Addr} {o:HO} (h:H a=some o) (h':H b=none):a≠b:=by
 intro e; subst e; rw[h] at h'; cases h'
section
variable (P:Program) (w:World)
def cB (H:Hp) (h:Heap) (a:Addr):HO->Prop
 | .lst xs=>xs.length<=sizeLine/\∃(its:List Value) (n:Nat),Vals xs its/\h.get? a=some { cls:=.type "list",data:=.seq its.toArray n }
 | .tup xs=>xs.length<=sizeLine/\∃its:List Value,Vals xs its/\IsTup h a its.toArray
 | .dK kvs=>kvs.length<=sizeLine/\(a==sysModules)=false/\∃vs,KV kvs vs/\h.DictOf (HN P w) a vs
 | .dT kvs=>kvs.length<=sizeLine/\(a==sysModules)=false/\∃xs:List (List Key×Addr×Value),
   Paired (fun(p:List Key×V) (q:List Key×Addr×Value)=>p.1=q.1/\H q.2.1=some (.tup (p.1.map kV))/\RelV p.2 q.2.2) kvs xs /\
   ∃o es ep,h.get? a=some o/\o.ExactDict/\o.data=.dict es ep/\es.toList=xs.map (entryOfKey (tupleKind (HN P w)))/\(xs.map (·.1)).Nodup
 | .set S n=>h.SetOf (intKind P w) a S n
 | .ins C dx fs=>H dx=some (.own a)/\fs.length<=1000/\dx≠a/\h.get? a=some (PySem.W.instObj C dx) /\
   ∃mA,h.Ns1 dx mA/\(∀f,Wo (fs.lookup f) (mA f))/\PySem.Within mA (fs.map (·.1))
 | .own _=>∃o,h.get? a=some o
 | .xd fs=>∃mA,h.Ns1 a mA/\∀f,Wo (fs.lookup f) (mA f)
 | .Q5 lo hi=>∃t u v,h.get? a=some { cls:=.type "range",data:=.fields #[.int lo t,.int hi u,.int 1 v] }
 | .DY o u=>h.get? a=some o/\cB H h a u
 | .Tr ps=>h.get? a=some { cls:=.none,data:=.fields ps }
 | .met f x=>h.get? a=some (PySem.W.methodObj (.ref f) (.ref x))
 | .ext φ=>φ h/\(∃o,h.get? a=some o)/\∀h1 h2:Heap,φ h1->(∀o,h1.get? a=some o->h2.get? a=some o)->φ h2
def kI (H:Hp) (h:Heap):Prop:=∀a o,H a=some o->cB P w H h a o
end
section
variable {P:Program} {w:World} {H H':Hp} {h h':Heap} {a:Addr} {o:HO}
theorem cB.lt (x:cB P w H h a o):a<h.objs.size:=by
 cases o with
 | lst xs=>obtain⟨_,_,_,_,e⟩:=x; exact bW e
 | tup xs=>obtain⟨_,_,_,p⟩:=x; exact p.lt
 | dK kvs=>obtain⟨_,_,_,_,o,_,_,e,_⟩:=x; exact bW e
 | dT kvs=>obtain⟨_,_,_,_,o,_,_,e,_⟩:=x; exact bW e
 | set S n=>obtain⟨o,_,_,_,e,_⟩:=x; exact bW e
 | ins C dx fs=>obtain⟨_,_,_,e,_⟩:=x; exact bW e
 | own y=>obtain⟨_,e⟩:=x; exact bW e
 | xd fs=>obtain⟨_,⟨_,_,_,e,_⟩,_⟩:=x; exact bW e
 | Q5 lo hi=>obtain⟨_,_,_,e⟩:=x; exact bW e
 | DY ob u=>obtain⟨e,_⟩:=x; exact bW e
 | Tr ps=>exact bW (show h.get? a=some _ from x)
 | met f y=>exact bW (show h.get? a=some _ from x)
 | ext φ=>obtain⟨_,⟨_,e⟩,_⟩:=x; exact bW e
theorem Paired.Yr {α β:Type} {F G:α->β->Prop}:∀{l₁:List α} {l₂:List β},Paired F l₁ l₂->(∀a b,F a b->G a b)->Paired G l₁ l₂
 | _,_,.nil,_=>.nil
 | _,_,.cons r t,f=>.cons (f _ _ r) (Paired.Yr t f)
theorem cB.stay (x:cB P w H h a o) (k:∀b u,(b=a\/H b=some (.own a))->h.get? b=some u->h'.get? b=some u)
  (ho:∀b,H b=some (.own a)->H' b=some (.own a)) (ht:∀b xs,H b=some (.tup xs)->H' b=some (.tup xs)):cB P w H' h' a o:=by
 induction o with
 | lst xs=>obtain⟨z,its,n,r,e⟩:=x; exact⟨z,its,n,r,k _ _ (.inl rfl) e⟩
 | tup xs=>obtain⟨z,its,r,ob,e,c⟩:=x; exact⟨z,its,r,ob,k _ _ (.inl rfl) e,c⟩
 | dK kvs=>obtain⟨z,y,vs,r,ob,es,ep,e,c⟩:=x; exact⟨z,y,vs,r,ob,es,ep,k _ _ (.inl rfl) e,c⟩
 | dT kvs=>
  obtain⟨z,y,xs,r,ob,es,ep,e,c⟩:=x
  exact⟨z,y,xs,Paired.Yr r fun p q z=>⟨z.1,ht _ _ z.2.1,z.2.2⟩,ob,es,ep,k _ _ (.inl rfl) e,c⟩
 | set S n=>obtain⟨ob,es,ep,t,e,c⟩:=x; exact⟨ob,es,ep,t,k _ _ (.inl rfl) e,c⟩
 | ins C dx fs=>
  obtain⟨d,z,ne,e,mA,⟨od,es,ep,e2,c⟩,r⟩:=x
  exact⟨ho _ d,z,ne,k _ _ (.inl rfl) e,mA,⟨od,es,ep,k _ _ (.inr d) e2,c⟩,r⟩
 | own y=>obtain⟨ob,e⟩:=x; exact⟨ob,k _ _ (.inl rfl) e⟩
 | xd fs=>obtain⟨mA,⟨od,es,ep,e,c⟩,r⟩:=x; exact⟨mA,⟨od,es,ep,k _ _ (.inl rfl) e,c⟩,r⟩
 | Q5 lo hi=>obtain⟨t,u,v,e⟩:=x; exact⟨t,u,v,k _ _ (.inl rfl) e⟩
 | DY ob u ih=>obtain⟨e,q⟩:=x; exact⟨k _ _ (.inl rfl) e,ih q⟩
 | Tr ps=>
  have e:h.get? a=some { cls:=.none,data:=.fields ps }:=x
  show h'.get? a=some { cls:=.none,data:=.fields ps }
  exact k a _ (.inl rfl) e
 | met f y=>
  have e:h.get? a=some (PySem.W.methodObj (.ref f) (.ref y)):=x
  show h'.get? a=some (PySem.W.methodObj (.ref f) (.ref y))
  exact k a _ (.inl rfl) e
 | ext φ=>obtain⟨p,⟨o,e⟩,st⟩:=x; exact⟨st _ _ p fun o q=>k _ _ (.inl rfl) q,⟨o,k _ _ (.inl rfl) e⟩,st⟩
theorem kI.lt (x:kI P w H h) (e:H a=some o):a<h.objs.size:=(x a o e).lt
theorem kI.fresh (x:kI P w H h) (e:h.objs.size<=a):H a=none:=by
 cases q:H a with
 | none=>rfl
 | some u=>exact absurd (jU (x.lt q) e) (sr _)
theorem kI.kept (x:kI P w H h) (k:∀b u,h.get? b=some u->h'.get? b=some u):kI P w H h':=fun a o e=>
 (x a o e).stay (fun b u _ q=>k b u q) (fun _ q=>q) fun _ _ q=>q
theorem kI.laid (x:kI P w H h) (k:∀b u,h.get? b=some u->h'.get? b=some u) (hp:h.objs.size<=a) (new:cB P w (upd H a o) h' a o):kI P w (upd H a o) h':=fun b u e=>by
 have hn:=x.fresh hp
 by_cases hb:b=a
 ·subst hb; rw[aC] at e; cases e; exact new
 ·rw[aL hb] at e
  exact(x b u e).stay (fun c v _ q=>k c v q) (fun c q=>by rw[aL (bN q hn)]; exact q) fun c xs q=>by rw[aL (bN q hn)]; exact q
end
def Rd (H:Hp) (a:Addr) (u:HO):Prop:=H a=some u\/∃o,H a=some (.DY o u)
theorem Rd.ok {P:Program} {w:World} {H:Hp} {h:Heap} {a:Addr} {u:HO} (r:Rd H a u) (x:kI P w H h):cB P w H h a u:=by
 rcases r with r | ⟨o,r⟩
 ·exact x a u r
 ·obtain⟨_,q⟩:=x a _ r
  exact q
def ZP:Option HO->Prop
 | some (.lst _)=>True
 | some (.dK _)=>True
 | some (.dT _)=>True
 | some (.set _ _)=>True
 | some (.ins _ _ _)=>True
 | some (.ext _)=>True
 | _=>False
section
variable {P:Program} {w:World} {H:Hp} {h h':Heap} {x e:Addr} {o':HO}
theorem kI.write (ok:kI P w H h) (mu:ZP (H x)) (he:e=x\/H e=some (.own x)) (k:∀b u,b≠e->h.get? b=some u->h'.get? b=some u) (heo:∃u,h'.get? e=some u)
  (new:cB P w (upd H x o') h' x o'):kI P w (upd H x o') h':=fun b u q=>by
 have Ym:∀c y,H c=some (.own y)->c≠x:=fun c y r z=>by subst z; rw[r] at mu; exact mu
 have aav:∀c xs,H c=some (.tup xs)->c≠x:=fun c xs r z=>by subst z; rw[r] at mu; exact mu
 by_cases hb:b=x
 ·subst hb; rw[aC] at q; cases q; exact new
 ·rw[aL hb] at q
  by_cases hbe:b=e
  ·have q':H b=some (.own x):=by
    rcases he with z | z
    ·exact absurd (hbe.trans z) hb
    ·rw[hbe]; exact z
   rw[q] at q'; cases q'
   obtain⟨v,hv⟩:=heo
   exact⟨v,by rw[hbe]; exact hv⟩
  ·refine(ok b u q).stay (fun c v hc r=>k c v ?_ r) (fun c r=>by rw[aL (Ym c b r)]; exact r) fun c xs r=>by rw[aL (aav c xs r)]; exact r
   rcases hc with rfl | hc
   ·exact hbe
   ·rintro rfl
    rcases he with z | z
    ·exact Ym c b hc z
    ·rw[hc] at z; cases z; exact hb rfl
end
structure Un (fs ex:List Addr) (H H':Hp) (h h':Heap):Prop where
 keep:∀b o,h.get? b=some o->H b=none->b∉fs->b∉ex->h'.get? b=some o
 slot:∀b o,h.get? b=some o->H b=none->b∈fs->b∉ex->∃sl,h'.get? b=some { o with slots:=sl }
 free:∀b o,h.get? b=some o->H b=none->b∉ex->H' b=none
 there:∀b o,h.get? b=some o->b∉ex->∃o',h'.get? b=some o'
 tups:∀b xs,H b=some (.tup xs)->H' b=some (.tup xs)
 wQ:∀b o u,H b=some (.DY o u)->H' b=some (.DY o u)
 yS:∀b ps,H b=some (.Tr ps)->∃more,H' b=some (.Tr (ps++more))
section
variable {fs fs' ex ex':List Addr} {H H1 H2:Hp} {h h1 h2 h':Heap} {a x e:Addr} {o:HO}
theorem Un.any (u:Un fs ex H H1 h h1) {b:Addr} {ob:Obj} (q:h.get? b=some ob) (n:H b=none) (hx:b∉ex):∃sl,h1.get? b=some { ob with slots:=sl }:=by
 by_cases hb:b∈fs
 ·exact u.slot b ob q n hb hx
 ·exact⟨ob.slots,u.keep b ob q n hb hx⟩
theorem Un.kept (k:∀b u,h.get? b=some u->h'.get? b=some u):Un fs ex H H h h':=
 ⟨fun b ob q _ _ _=>k b ob q,fun b ob q _ _ _=>⟨ob.slots,k b ob q⟩,fun _ _ _ n _=>n,fun b ob q _=>⟨ob,k b ob q⟩,fun _ _ q=>q,fun _ _ _ q=>q,fun _ ps q=>⟨#[],by rw[q]; simp⟩⟩
theorem Un.refl:Un fs ex H H h h:=Un.kept fun _ _ q=>q
theorem Un.laid (k:∀b u,h.get? b=some u->h'.get? b=some u) (hp:h.objs.size<=a) (hn:H a=none):Un fs ex H (upd H a o) h h' where
 keep:=fun b u q _ _ _=>k b u q
 slot:=fun b u q _ _ _=>⟨u.slots,k b u q⟩
 free:=fun b u q n _=>by rw[aL (fW (jU (bW q) hp))]; exact n
 there:=fun b u q _=>⟨u,k b u q⟩
 tups:=fun b xs q=>by rw[aL (bN q hn)]; exact q
 wQ:=fun b u xs q=>by rw[aL (bN q hn)]; exact q
 yS:=fun b ps q=>⟨#[],by rw[aL (bN q hn),q]; simp⟩
theorem Un.write (mu:ZP (H x)) (he:e=x\/H e=some (.own x)) (k:∀b u,b≠e->h.get? b=some u->h'.get? b=some u) (heo:∃u,h'.get? e=some u):Un fs ex H (upd H x o) h h':=by
 have hx:∀b,H b=none->b≠x:=fun b n z=>by subst z; rw[n] at mu; exact mu
 have hb:∀b,H b=none->b≠e:=fun b n z=>by
  subst z
  rcases he with r | r
  ·exact hx b n r
  ·rw[n] at r; cases r
 have hm:∀b u,H b=some u->¬ZP (some u)->b≠x:=fun b u q nm z=>by subst z; rw[q] at mu; exact nm mu
 refine⟨fun b u q n _ _=>k b u (hb b n) q,fun b u q n _ _=>⟨u.slots,k b u (hb b n) q⟩,fun b u q n _=>by rw[aL (hx b n)]; exact n,fun b u q _=>?_,
  fun b xs q=>by rw[aL (hm b _ q fun z=>z)]; exact q,fun b u xs q=>by rw[aL (hm b _ q fun z=>z)]; exact q,fun b ps q=>⟨#[],by rw[aL (hm b _ q fun z=>z),q]; simp⟩⟩
 by_cases hbe:b=e
 ·subst hbe; exact heo
 ·exact⟨u,k b u hbe q⟩
end
def Ze (h:Heap) (H:Hp):List Addr:=(List.range h.objs.size).filter fun a=>(H a).isSome
def Aa (h:Heap) (H:Hp):Heap:=PySem.W.hideAll h (Ze h H)
theorem Kz (h:Heap) (H:Hp):(Aa h H).objs.size=h.objs.size:=PySem.W.hideAll_size _ _
theorem O_ {h:Heap} {H:Hp} {b:Addr} {o:Obj} (e:h.get? b=some o) (n:H b=none):(Aa h H).get? b=some o:=
 PySem.W.hideAll_get _ e fun hm=>by
  have q:(H b).isSome=true:=(List.mem_filter.mp hm).2
  rw[n] at q; simp at q
theorem RD {h:Heap} {H:Hp} {b:Addr} {o:Obj} (e:(Aa h H).get? b=some o):h.get? b=some o/\H b=none:=by
 have e':h.get? b=some o:=PySem.W.of_hideAll (Ze h H) e
 refine⟨e',?_⟩
 cases q:H b with
 | none=>rfl
 | some x=>
  have hm:b∈Ze h H:=List.mem_filter.mpr ⟨zp.mpr (bW e'),by simp[q]⟩
  have z:(Aa h H).get? b=none:=PySem.W.hideAll_none (Ze h H) hm
  rw[z] at e; cases e
def S7 (g h:Heap) (L:Addr):List (Addr×Obj):=(List.range h.objs.size).filterMap fun a=>if a=L\/(g.get? a).isSome=true then none else(h.get? a).map fun o=>(a,o)
def rest (g h:Heap) (L d:Addr):List (Addr×Obj):=(S7 g h L).filter fun p=>decide (p.1≠d)
structure Mod (K:PySem.W.Frag) (mg:Str->Option Value) (base:Heap):Prop where
 Ur:K.In base
 glob:base.Ns mainGlobals mg
 blt:∃mb,base.Ns builtinsNs mb/\∀x:Str,x ≠ "__name__" -> mb x=bootBuiltins x
 nolimit:base.NoLimit
structure Cx where
 prog:Program
 w:World
 K:PySem.W.Frag
 mg:Str->Option Value
 base:Heap
 A:Around
 N:List Str
 s₀:Shared
 H₀:Hp
 env:Env
 outer:List Env
 stack:List Env
 ex:List Addr
 fn:Str->Bool
 calm:Bool
 pn:List (Addr×Obj)
 xe:Value->Shared->Prop
def frs (l:List Env):List Addr:=l.filterMap (·.frame)
abbrev Cx.fs (X:Cx):List Addr:=frs X.outer
def ZG (sc:Scope) (x:Str):Prop:=sc.names.lookup x=some .local\/sc.names.lookup x=some .cell\/sc.names.lookup x=some .free
def Loc (sc:Scope) (x:Str):Prop:=sc.names.lookup x=some .local\/sc.names.lookup x=some .cell
def Look (env:Env) (h:Heap) (m:Str->Option Value) (x:Str) (u:Value):Prop:=
 (env.kindOf x=some .local/\m x=some u)\/((env.kindOf x=some .cell\/env.kindOf x=some .free)/\∃c,env.cells.lookup x=some c/\h.IsCell c (some u))
structure Cx.Ok (X:Cx):Prop where
 mod:Mod X.K X.mg X.base
 kind:X.env.scope.kind=.function
 glob:X.env.globals=mainGlobals
 blt:X.env.builtins=builtinsNs
 above:X.s₀.heap.objs.size<=X.env.locals
 inj:∀x y c,X.env.cells.lookup x=some c->X.env.cells.lookup y=some c->x=y
 has:∀x,(X.env.kindOf x=some .cell\/X.env.kindOf x=some .free)->∃c,X.env.cells.lookup x=some c
 cab:∀x c,X.fn x=true->X.env.cells.lookup x=some c->X.s₀.heap.objs.size<=c
 hd:X.calm=true->X.A.handled=none
 frames:X.A.frames=some X.stack
 Xx:X.stack=X.outer\/(X.stack=X.env::X.outer/\X.env.frame=some X.env.locals)
 YJ:∀b∈X.ex,b≠X.env.locals/\∀x c,X.env.cells.lookup x=some c->c≠b
 bs:∀b o,X.base.get? b=some o->X.s₀.heap.get? b=some o/\X.H₀ b=none
 Qh:X.base.objs.size<=X.s₀.heap.objs.size
 FT:∀b o,X.base.get? b=some o->b∉X.ex
 Gh:∀b∈X.ex,b∉X.fs
 sW:X.s₀.heap.FunFrames X.base X.outer
 Wb:∀b∈X.fs,X.H₀ b=none
structure Inv (X:Cx) (pins:List (Addr×Obj)) (σ:List (Option V)) (H:Hp) (s:Shared):Prop where
 ok:X.Ok
 os:s.os=X.s₀.os
 bare:AllBare s.gens
 base:Un X.fs X.ex X.H₀ H X.s₀.heap s.heap
 loc:∃m,s.heap.Ns X.env.locals m/\∀(i:Nat) (x:Str) (v:V),X.N[i]?=some x->σ[i]?=some (some v)->ZG X.env.scope x->∃u,RelV v u/\Look X.env s.heap m x u
 cell:∀x c,X.env.cells.lookup x=some c->∃v,s.heap.IsCell c v
 free:H X.env.locals=none
 jL:∀x c,X.env.cells.lookup x=some c->H c=none
 pin:∀p∈X.pn++pins,s.heap.get? p.1=some p.2/\H p.1=none/\p.1≠X.env.locals/\p.1∉X.fs/\∀v,p.2.data≠.cell v
 hok:kI X.prog X.w H s.heap
 len:σ.length=X.N.length
section
variable {X:Cx} {pins:List (Addr×Obj)} {σ:List (Option V)} {H H':Hp} {s:Shared} {h':Heap}
theorem Cx.Ok.aay (ok:X.Ok) {b:Addr} {o:Obj} (e:X.base.get? b=some o):b∉X.fs:=fun hb=>by
 have:=(ok.sW.mem hb).1
 rw[e] at this; cases this
theorem Inv.bs (I:Inv X pins σ H s):∀b o,X.base.get? b=some o->s.heap.get? b=some o/\H b=none:=fun b o e=>
 ⟨I.base.keep b o (I.ok.bs b o e).1 (I.ok.bs b o e).2 (I.ok.aay e) (I.ok.FT b o e),I.base.free b o (I.ok.bs b o e).1 (I.ok.bs b o e).2 (I.ok.FT b o e)⟩
theorem Inv.bk (I:Inv X pins σ H s):∀b o,X.base.get? b=some o->s.heap.get? b=some o:=fun b o e=>(I.bs b o e).1
theorem Inv.mod (I:Inv X pins σ H s):Mod X.K X.mg X.base:=I.ok.mod
theorem Inv.wC (I:Inv X pins σ H s):X.K.In s.heap:=I.ok.mod.Ur.keeps I.bk
theorem Inv.fr (I:Inv X pins σ H s):∃m,Fr X.base X.env.locals s.heap m:=
 let ⟨m,hn,_⟩:=I.loc
 ⟨m,hn,I.bk,pF I.ok.Qh I.ok.above⟩
theorem Inv.lt (I:Inv X pins σ H s):X.env.locals<s.heap.objs.size:=let ⟨_,hn,_⟩:=I.loc; hn.lt
theorem Inv.sz (I:Inv X pins σ H s):X.s₀.heap.objs.size<=s.heap.objs.size:=pF I.ok.above (lQ I.lt)
theorem Inv.aax (I:Inv X pins σ H s) {a:Addr} (h:s.heap.objs.size<=a):a∉X.fs:=fun hb=>by
 obtain⟨_,o,ho,_⟩:=I.ok.sW.mem hb
 exact absurd (jU (bW ho) (pF I.sz h)) (sr _)
theorem Inv.Wi (I:Inv X pins σ H s):∀x c,X.env.cells.lookup x=some c->c≠X.env.locals:=fun x c e z=>by
 obtain⟨v,o,ho,hd⟩:=I.cell x c e
 obtain⟨m,⟨o',es,ep,ho',hd',_⟩,_⟩:=I.loc
 rw[z,ho'] at ho; cases ho; rw[hd'] at hd; cases hd
theorem Inv.sW (I:Inv X pins σ H s):s.heap.FunFrames X.base X.outer:=by
 have all:∀(l:List Env),(∀b∈frs l,b∈X.fs)->X.s₀.heap.FunFrames X.base l->s.heap.FunFrames X.base l:=by
  intro l
  induction l with
  | nil=>intro _ _; trivial
  | cons env r ih=>
   intro hs hl
   obtain⟨hk,⟨L,o,hf,hn,ho,hd⟩,hr⟩:=hl
   have hL:L∈X.fs:=hs L (by unfold frs; rw[List.filterMap_cons,hf]; exact jl)
   obtain⟨sl,e⟩:=I.base.slot L o ho (I.ok.Wb L hL) hL fun z=>I.ok.Gh L z hL
   exact⟨hk,⟨L,_,hf,hn,e,hd⟩,ih (fun b hb=>hs b (by unfold frs; rw[List.filterMap_cons,hf]; exact iG _ hb)) hr⟩
 exact all X.outer (fun _ hb=>hb) I.ok.sW
theorem Inv.stack (I:Inv X pins σ H s):s.heap.FunFrames X.base X.stack:=by
 rcases I.ok.Xx with e | ⟨e,hf⟩
 ·rw[e]; exact I.sW
 ·rw[e]
  obtain⟨m,hn,_⟩:=I.loc
  refine .cons (by rw[I.ok.kind]; decide) hf hn ?_ I.sW
  exact Heap.get?_none_of_le (pF I.ok.Qh I.ok.above)
theorem Inv.Em (I:Inv X pins σ H s):∀b∈frs X.stack,b∈X.env.locals::X.fs:=fun b hb=>by
 rcases I.ok.Xx with e | ⟨e,hf⟩
 ·rw[e] at hb; exact iG _ hb
 ·rw[e] at hb
  unfold frs at hb
  rw[List.filterMap_cons,hf] at hb
  exact hb
theorem Inv.tu (I:Inv X pins σ H s):∀b∈frs X.stack,H b=none:=fun b hb=>by
 rcases b_.mp (I.Em b hb) with e | hb
 ·rw[e]; exact I.free
 ·obtain⟨_,o,ho,_⟩:=I.ok.sW.mem hb
  exact I.base.free b o ho (I.ok.Wb b hb) fun z=>I.ok.Gh b z hb
theorem Inv.step {g':Array GenState} {t':Nat} {d':Drawn} {ch:List Addr} (I:Inv X pins σ H s)
  (hch:∀b∈ch,(b∈X.ex\/X.s₀.heap.objs.size<=b)/\b≠X.env.locals/\(∀x c,X.env.cells.lookup x=some c->c≠b)/\∀p∈X.pn++pins,p.1≠b)
  (keep:∀b o,b≠X.env.locals->b∉X.fs->b∉ch->s.heap.get? b=some o->H b=none->h'.get? b=some o)
  (slot:∀b o,b≠X.env.locals->b∈X.fs->b∉ch->s.heap.get? b=some o->H b=none->∃sl,h'.get? b=some { o with slots:=sl }) (free:∀b o,b∉ch->s.heap.get? b=some o->H b=none->H' b=none)
  (there:∀b o,b∉ch->s.heap.get? b=some o->∃o',h'.get? b=some o')
  (tups:∀b xs,H b=some (.tup xs)->H' b=some (.tup xs)) (wQ:∀b o u,H b=some (.DY o u)->H' b=some (.DY o u)) (yS:∀b ps,H b=some (.Tr ps)->∃more,H' b=some (.Tr (ps++more)))
  (ns:∀m,s.heap.Ns X.env.locals m->h'.Ns X.env.locals m) (hok:kI X.prog X.w H' h') (hg:AllBare g') :
  Inv X pins σ H' { s with heap:=h',gens:=g',drawn:=d',toks:=t' }:=by
 have neL:∀b o,X.s₀.heap.get? b=some o->b≠X.env.locals:=fun b o e=>fW (jU (bW e) I.ok.above)
 have Zq:∀b o,X.s₀.heap.get? b=some o->b∉X.ex->b∉ch:=fun b o e hx hb=>by
  rcases(hch b hb).1 with z | z
  ·exact hx z
  ·exact absurd (jU (bW e) z) (sr _)
 have cellK:∀x c,X.env.cells.lookup x=some c->∀v,s.heap.IsCell c v->h'.IsCell c v:=fun x c e v ⟨o,ho,hd⟩=>by
  have Yp:c∉ch:=fun z=>(hch c z).2.2.1 x c e rfl
  by_cases hc:c∈X.fs
  ·obtain⟨sl,q⟩:=slot c o (I.Wi x c e) hc Yp ho (I.jL x c e)
   exact⟨_,q,hd⟩
  ·exact⟨o,keep c o (I.Wi x c e) hc Yp ho (I.jL x c e),hd⟩
 refine⟨I.ok,I.os,hg,⟨fun b o e n hb hx=>?_,fun b o e n hb hx=>?_,fun b o e n hx=>?_,fun b o e hx=>?_,fun b xs e=>tups b xs (I.base.tups b xs e),fun b o xs e=>wQ b o xs (I.base.wQ b o xs e),fun b ps e=>?_⟩,?_,fun x c e=>?_,?_,fun x c e=>?_,fun p hp=>?_,hok,I.len⟩
 ·exact keep b o (neL b o e) hb (Zq b o e hx) (I.base.keep b o e n hb hx) (I.base.free b o e n hx)
 ·obtain⟨sl,e1⟩:=I.base.slot b o e n hb hx
  obtain⟨sl',e2⟩:=slot b _ (neL b o e) hb (Zq b o e hx) e1 (I.base.free b o e n hx)
  exact⟨sl',e2⟩
 ·obtain⟨o',e1⟩:=I.base.there b o e hx
  exact free b o' (Zq b o e hx) e1 (I.base.free b o e n hx)
 ·obtain⟨o',e1⟩:=I.base.there b o e hx
  exact there b o' (Zq b o e hx) e1
 ·obtain⟨m1,e1⟩:=I.base.yS b ps e
  obtain⟨m2,e2⟩:=yS b _ e1
  exact⟨m1++m2,by rw[e2,Array.append_assoc]⟩
 ·obtain⟨m,hn,hl⟩:=I.loc
  refine⟨m,ns m hn,fun i x v e1 e2 e3=>?_⟩
  obtain⟨u,r,l⟩:=hl i x v e1 e2 e3
  refine⟨u,r,?_⟩
  rcases l with l | ⟨k,c,e,z⟩
  ·exact .inl l
  ·exact .inr ⟨k,c,e,cellK x c e _ z⟩
 ·obtain⟨v,z⟩:=I.cell x c e
  exact⟨v,cellK x c e v z⟩
 ·obtain⟨m,⟨o,_,_,ho,_⟩,_⟩:=I.loc
  exact free _ o (fun z=>(hch _ z).2.1 rfl) ho I.free
 ·obtain⟨v,o,ho,hd⟩:=I.cell x c e
  exact free c o (fun z=>(hch c z).2.2.1 x c e rfl) ho (I.jL x c e)
 ·obtain⟨e,n,ne,nf,d⟩:=I.pin p hp
  have Yp:p.1∉ch:=fun z=>(hch p.1 z).2.2.2 p hp rfl
  exact⟨keep p.1 p.2 ne nf Yp e n,free p.1 p.2 Yp e n,ne,nf,d⟩
theorem Inv.un {t':Nat} (I:Inv X pins σ H s) (u:Un X.fs [] H H' s.heap h') (hok:kI X.prog X.w H' h'):Inv X pins σ H' { s with heap:=h',toks:=t' }:=by
 obtain⟨m,⟨o,es,ep,ho,r⟩,_⟩:=id I.loc
 obtain⟨sl,hL⟩:=u.any ho I.free (by simp)
 exact I.step (g':=s.gens) (d':=s.drawn) (ch:=[]) (fun _ z=>nomatch z) (fun b o _ hb _ e n=>u.keep b o e n hb (by simp)) (fun b o _ hb _ e n=>u.slot b o e n hb (by simp)) (fun b o _ e n=>u.free b o e n (by simp)) (fun b o _ e=>u.there b o e (by simp)) u.tups u.wQ u.yS (fun m' hm=>by
  obtain⟨o',es',ep',ho',r'⟩:=hm
  rw[ho] at ho'; cases ho'
  exact⟨_,es',ep',hL,r'⟩) hok I.bare
theorem Inv.call {g':Array GenState} {t':Nat} {d':Drawn} {ch:List Addr} (I:Inv X pins σ H s) (u:Un (frs X.stack) ch H H' s.heap h') (hok:kI X.prog X.w H' h') (hg:AllBare g')
  (hch:∀b∈ch,(b∈X.ex\/X.s₀.heap.objs.size<=b)/\b≠X.env.locals/\(∀x c,X.env.cells.lookup x=some c->c≠b)/\∀p∈X.pn++pins,p.1≠b) :
  Inv X pins σ H' { s with heap:=h',gens:=g',drawn:=d',toks:=t' }:=by
 obtain⟨m,⟨o,es,ep,ho,r⟩,_⟩:=id I.loc
 obtain⟨sl,hL⟩:=u.any ho I.free fun z=>(hch _ z).2.1 rfl
 exact I.step (ch:=ch) hch (fun b o hL hb hc e n=>u.keep b o e n (fun z=>(b_.mp (I.Em b z)).elim hL hb) hc) (fun b o _ _ hc e n=>u.any e n hc) (fun b o hc e n=>u.free b o e n hc) (fun b o hc e=>u.there b o e hc) u.tups u.wQ u.yS (fun m' hm=>by
  obtain⟨o',es',ep',ho',r'⟩:=hm
  rw[ho] at ho'; cases ho'
  exact⟨_,es',ep',hL,r'⟩) hok hg
theorem Inv.turned {t':Nat} {it:Addr} (I:Inv X pins σ H s) (k:∀b o,b≠it->s.heap.get? b=some o->h'.get? b=some o) (hn:H it=none) (hL:it≠X.env.locals)
  (h1:it∈X.ex\/X.s₀.heap.objs.size<=it) (h2:∀x c,X.env.cells.lookup x=some c->c≠it) (h3:∀p∈X.pn++pins,p.1≠it):Inv X pins σ H { s with heap:=h',toks:=t' }:=by
 have nit:∀b u,H b=some u->b≠it:=fun b u e z=>by rw[z,hn] at e; cases e
 refine I.step (g':=s.gens) (d':=s.drawn) (ch:=[it]) (fun b hb=>?_) (fun b o _ _ hc e _=>k b o (fun z=>hc (by simp[z])) e) (fun b o _ _ hc e _=>⟨o.slots,k b o (fun z=>hc (by simp[z])) e⟩) (fun _ _ _ _ n=>n)
  (fun b o hc e=>⟨o,k b o (fun z=>hc (by simp[z])) e⟩) (fun _ _ e=>e) (fun _ _ _ e=>e) (fun b ps e=>⟨#[],by rw[e]; simp⟩) (fun m hm=>?_) (fun b u e=>?_) I.bare
 ·have e:b=it:=by simpa using hb
  subst e
  exact⟨h1,hL,h2,h3⟩
 ·obtain⟨o,es,ep,ho,r⟩:=hm
  exact⟨o,es,ep,k _ o (Ne.symm hL) ho,r⟩
 ·refine(I.hok b u e).stay (fun c v hc q=>k c v ?_ q) (fun _ q=>q) fun _ _ q=>q
  rcases hc with z | z
  ·rw[z]; exact nit b u e
  ·exact nit c _ z
theorem Inv.tok (I:Inv X pins σ H s) (t:Nat):Inv X pins σ H { s with toks:=t }:=I.un (h':=s.heap) (t':=t) Un.refl I.hok
theorem Inv.kept {t':Nat} (I:Inv X pins σ H s) (k:∀b u,s.heap.get? b=some u->h'.get? b=some u):Inv X pins σ H { s with heap:=h',toks:=t' }:=I.un (Un.kept k) (I.hok.kept k)
theorem Inv.laid {a:Addr} {o:HO} {t':Nat} (I:Inv X pins σ H s) (k:∀b u,s.heap.get? b=some u->h'.get? b=some u) (hp:s.heap.objs.size<=a) (new:cB X.prog X.w (upd H a o) h' a o) :
  Inv X pins σ (upd H a o) { s with heap:=h',toks:=t' }:=I.un (Un.laid k hp (I.hok.fresh hp)) (I.hok.laid k hp new)
theorem Inv.write {x e:Addr} {o:HO} {t':Nat} (I:Inv X pins σ H s) (mu:ZP (H x)) (he:e=x\/H e=some (.own x)) (k:∀b u,b≠e->s.heap.get? b=some u->h'.get? b=some u) (heo:∃u,h'.get? e=some u)
  (new:cB X.prog X.w (upd H x o) h' x o):Inv X pins σ (upd H x o) { s with heap:=h',toks:=t' }:=I.un (Un.write mu he k heo) (I.hok.write mu he k heo new)
theorem Inv.weak {σ':List (Option V)} (I:Inv X pins σ H s) (hl:σ'.length=σ.length) (w:∀(i:Nat) v,σ'[i]?=some (some v)->σ[i]?=some (some v)):Inv X pins σ' H s:=
 ⟨I.ok,I.os,I.bare,I.base,let ⟨m,hn,hl'⟩:=I.loc; ⟨m,hn,fun i x v e1 e2 e3=>hl' i x v e1 (w i v e2) e3⟩,I.cell,I.free,I.jL,I.pin,I.hok,hl.trans I.len⟩
theorem Inv.Hu {Uh:List (Addr×Obj)} (I:Inv X pins σ H s) (h:∀p∈Uh,s.heap.get? p.1=some p.2/\H p.1=none/\p.1≠X.env.locals/\p.1∉X.fs/\∀v,p.2.data≠.cell v):Inv X Uh σ H s:=
 ⟨I.ok,I.os,I.bare,I.base,I.loc,I.cell,I.free,I.jL,fun p hp=>(m7.mp hp).elim (fun z=>I.pin p (Ho _ z)) (h p),I.hok,I.len⟩
theorem CJ {N:List Str} (hN:N.Nodup) {i j:Nat} {x:Str} (a:N[i]?=some x) (b:N[j]?=some x):i=j:=by
 obtain⟨h1,e1⟩:=nG.mp a
 obtain⟨h2,e2⟩:=nG.mp b
 exact(List.getElem_inj hN).mp (e1.trans e2.symm)
theorem Jx {M:Model} {A:Around} {E:Value->Shared->Prop} {i:Nat} {x:Str} {v:V} {u:Value} {Q:Unit->Shared->Prop} (I:Inv X pins σ H s) (hN:X.N.Nodup) (hi:X.N[i]?=some x) (hx:Loc X.env.scope x) (r:RelV v u)
  (h:∀s',Inv X pins (σ.set i (some v)) H s'->(∃a,Heap.SameBut a s.heap s'.heap/\(a=X.env.locals\/X.env.cells.lookup x=some a))->Q () s') (hf:X.fn x=true\/X.env.scope.names.lookup x=some .local:=by first | exact .inl rfl | exact .inr rfl | assumption):wpAny M A (storeName X.env x u) Q E s:=by
 obtain⟨m,hn,hl⟩:=id I.loc
 have hcls:(X.env.scope.kind==.class || (X.env.scope.kind==.module&&X.env.locals != X.env.globals))=false:=by rw[I.ok.kind]; rfl
 have Yy:i<σ.length:=by rw[I.len]; exact(nG.mp hi).1
 have Wi:=I.Wi
 have tracked:∀{a:Addr} {h':Heap},(∃o,s.heap.get? a=some o/\H a=none)->Heap.SameBut a s.heap h'->kI X.prog X.w H h':=fun {a h'} ha hs b ob e=>by
  obtain⟨_,_,hfree⟩:=ha
  refine(I.hok b ob e).stay (fun c w' hc q=>(hs.2 c ?_).trans q) (fun _ q=>q) fun _ _ q=>q
  rintro rfl
  rcases hc with rfl | hc
  ·rw[hfree] at e; cases e
  ·rw[hfree] at hc; cases hc
 rcases hx with hk | hk
 ·refine wpAny_storeName_local hk hn (fun h' hn' hs=>?_) hcls
  obtain⟨oL,_,_,hoL,_⟩:=id hn
  refine h _ ⟨I.ok,I.os,I.bare,⟨fun b o e n hb hx=>?_,fun b o e n hb hx=>?_,I.base.free,fun b o e hx=>?_,I.base.tups,I.base.wQ,I.base.yS⟩,⟨_,hn',fun j y v' e1 e2 e3=>?_⟩,fun y c e=>?_,I.free,I.jL,fun p hp=>?_,tracked ⟨oL,hoL,I.free⟩ hs,by simpa using I.len⟩ ⟨_,hs,.inl rfl⟩
  ·exact(hs.2 b (fW (jU (bW e) I.ok.above))).trans (I.base.keep b o e n hb hx)
  ·obtain⟨sl,e1⟩:=I.base.slot b o e n hb hx
   exact⟨sl,(hs.2 b (fW (jU (bW e) I.ok.above))).trans e1⟩
  ·obtain⟨o',e1⟩:=I.base.there b o e hx
   exact⟨o',(hs.2 b (fW (jU (bW e) I.ok.above))).trans e1⟩
  ·by_cases hj:j=i
   ·subst hj
    rw[hi] at e1; cases e1
    rw[List.getElem?_set_self Yy] at e2
    cases e2
    exact⟨u,r,.inl ⟨hk,by simp⟩⟩
   ·rw[List.getElem?_set_ne (Ne.symm hj)] at e2
    obtain⟨u',r',q⟩:=hl j y v' e1 e2 e3
    refine⟨u',r',?_⟩
    rcases q with⟨k,e⟩ | ⟨k,c,e,z⟩
    ·refine .inl ⟨k,?_⟩
     have:y≠x:=fun e=>hj (CJ hN e1 (e▸hi))
     simp[this,e]
    ·exact .inr ⟨k,c,e,z.sameBut hs (Wi y c e)⟩
  ·obtain⟨w',z⟩:=I.cell y c e
   exact⟨w',z.sameBut hs (Wi y c e)⟩
  ·obtain⟨e,n,ne,nf,d⟩:=I.pin p hp
   exact⟨(hs.2 p.1 ne).trans e,n,ne,nf,d⟩
 ·have hfn:X.fn x=true:=by
   rcases hf with z | z
   ·exact z
   ·rw[z] at hk; cases hk
  obtain⟨c,hc⟩:=I.ok.has x (.inl hk)
  obtain⟨w',z⟩:=I.cell x c hc
  refine wpAny_storeName_cell I.ok.kind hk hc z (fun h' hc' hs=>?_)
  obtain⟨oc,hoc,aaL⟩:=id z
  refine h { s with heap:=h' } ⟨I.ok,I.os,I.bare,⟨fun b o e n hb hx=>?_,fun b o e n hb hx=>?_,I.base.free,fun b o e hx=>?_,I.base.tups,I.base.wQ,I.base.yS⟩,⟨m,hn.sameBut hs (Ne.symm (Wi x c hc)),fun j y v' e1 e2 e3=>?_⟩,fun y c' e=>?_,I.free,I.jL,fun p hp=>?_,tracked ⟨oc,hoc,I.jL x c hc⟩ hs,by simpa using I.len⟩ ⟨c,hs,.inr hc⟩
  ·exact(hs.2 b (fW (jU (bW e) (I.ok.cab x c hfn hc)))).trans (I.base.keep b o e n hb hx)
  ·obtain⟨sl,e1⟩:=I.base.slot b o e n hb hx
   exact⟨sl,(hs.2 b (fW (jU (bW e) (I.ok.cab x c hfn hc)))).trans e1⟩
  ·obtain⟨o',e1⟩:=I.base.there b o e hx
   exact⟨o',(hs.2 b (fW (jU (bW e) (I.ok.cab x c hfn hc)))).trans e1⟩
  ·by_cases hj:j=i
   ·subst hj
    rw[hi] at e1; cases e1
    rw[List.getElem?_set_self Yy] at e2
    cases e2
    exact⟨u,r,.inr ⟨.inl hk,c,hc,hc'⟩⟩
   ·rw[List.getElem?_set_ne (Ne.symm hj)] at e2
    obtain⟨u',r',q⟩:=hl j y v' e1 e2 e3
    refine⟨u',r',?_⟩
    rcases q with q | ⟨k,c',e,z'⟩
    ·exact .inl q
    ·refine .inr ⟨k,c',e,z'.sameBut hs ?_⟩
     rintro rfl
     exact hj (CJ hN e1 (I.ok.inj _ _ _ e hc▸hi))
  ·by_cases hcc:c'=c
   ·subst hcc; exact⟨_,hc'⟩
   ·obtain⟨w2,z2⟩:=I.cell y c' e
    exact⟨w2,z2.sameBut hs hcc⟩
  ·obtain⟨e,n,ne,nf,d⟩:=I.pin p hp
   refine⟨(hs.2 p.1 ?_).trans e,n,ne,nf,d⟩
   intro q
   rw[q,hoc] at e
   have q':oc=p.2:=Option.some.inj e
   exact d w' (by rw[<- q']; exact aaL)
theorem jz {M:Model} {A:Around} {E:Value->Shared->Prop} {i:Nat} {x:Str} {v:V} {u:Value} {Q:Unit->Shared->Prop} (I:Inv X pins σ H s) (hN:X.N.Nodup) (hi:X.N[i]?=some x) (hx:Loc X.env.scope x) (r:RelV v u)
  (h:∀s',Inv X pins (σ.set i (some v)) H s'->Q () s') (hf:X.fn x=true\/X.env.scope.names.lookup x=some .local:=by first | exact .inl rfl | exact .inr rfl | assumption):wpAny M A (storeName X.env x u) Q E s:=
 Jx I hN hi hx r (fun s' I' _=>h s' I') hf
theorem Inv.call' {s':Shared} {ch:List Addr} (I:Inv X pins σ H s) (ho:s'.os=s.os) (u:Un (frs X.stack) ch H H' s.heap s'.heap) (hok:kI X.prog X.w H' s'.heap) (hg:AllBare s'.gens)
  (hch:∀b∈ch,(b∈X.ex\/X.s₀.heap.objs.size<=b)/\b≠X.env.locals/\(∀x c,X.env.cells.lookup x=some c->c≠b)/\∀p∈X.pn++pins,p.1≠b):Inv X pins σ H' s':=by
 obtain⟨h',g',d',t',o'⟩:=s'
 have e:o'=s.os:=ho
 subst e
 exact I.call (g':=g') (t':=t') (d':=d') u hok hg hch
end
abbrev XK:=Value->Option Addr->Hp->Prop
abbrev St:=List (Option V)
abbrev VK:=V->Hp->Prop
abbrev TE:=St->Hp->VK->Prop
abbrev TT:=St->Hp->(Bool->Hp->Prop)->Prop
abbrev TA:=St->Hp->(List V->Hp->Prop)->Prop
structure Ends where
 nx:St->Hp->Prop
 rt:VK
 bk:St->Hp->Prop:=fun _ _=>False
 ct:St->Hp->Prop:=fun _ _=>False
abbrev TS:=Ends->St->Hp->Prop
def EP (X:Cx) (pins:List (Addr×Obj)) (σ:St) (Q:VK) (u:Value) (s':Shared):Prop:=∃v H',Inv X pins σ H' s'/\RelV v u/\Q v H'
def TP (X:Cx) (pins:List (Addr×Obj)) (σ:St) (Q:Bool->Hp->Prop) (b:Bool) (s':Shared):Prop:=∃H',Inv X pins σ H' s'/\Q b H'
def AP (X:Cx) (pins:List (Addr×Obj)) (σ:St) (Q:List V->Hp->Prop) (us:List Value) (s':Shared):Prop:=∃vs H',Inv X pins σ H' s'/\Vals vs us/\Q vs H'
def SP (X:Cx) (pins:List (Addr×Obj)) (D:Ends) (f:Flow) (s':Shared):Prop:=
 match f with
 | .next=>∃σ' H',Inv X pins σ' H' s'/\D.nx σ' H'
 | .brk=>∃σ' H',Inv X pins σ' H' s'/\D.bk σ' H'
 | .cont=>∃σ' H',Inv X pins σ' H' s'/\D.ct σ' H'
 | .ret u=>∃v σ' H',Inv X pins σ' H' s'/\RelV v u/\D.rt v H'
structure PE (X:Cx) (e:Expr) (t:TE):Prop where
 mk ::
 go :
 ∀(pins:List (Addr×Obj)) (s:Shared) (σ:St) (H:Hp) (Q:VK),Inv X pins σ H s->t σ H Q->wpAny (model X.prog X.w) X.A (eval e X.env) (EP X pins σ Q) X.xe s
instance {X:Cx} {e:Expr} {t:TE}:CoeFun (PE X e t) (fun _=>
 ∀(pins:List (Addr×Obj)) (s:Shared) (σ:St) (H:Hp) (Q:VK),Inv X pins σ H s->t σ H Q->wpAny (model X.prog X.w) X.A (eval e X.env) (EP X pins σ Q) X.xe s):=⟨PE.go⟩
structure PT (X:Cx) (e:Expr) (t:TT):Prop where
 mk ::
 go :
 ∀(pins:List (Addr×Obj)) (s:Shared) (σ:St) (H:Hp) (Q:Bool->Hp->Prop),Inv X pins σ H s->t σ H Q->wpAny (model X.prog X.w) X.A (isTrue e X.env (eval e X.env)) (TP X pins σ Q) X.xe s
instance {X:Cx} {e:Expr} {t:TT}:CoeFun (PT X e t) (fun _=>
 ∀(pins:List (Addr×Obj)) (s:Shared) (σ:St) (H:Hp) (Q:Bool->Hp->Prop),Inv X pins σ H s->t σ H Q->wpAny (model X.prog X.w) X.A (isTrue e X.env (eval e X.env)) (TP X pins σ Q) X.xe s):=⟨PT.go⟩
structure PW (X:Cx) (e:Expr) (t:TT):Prop where
 mk ::
 go :
 ∀(whole:Sem Value) (pins:List (Addr×Obj)) (s:Shared) (σ:St) (H:Hp) (Q:Bool->Hp->Prop),Inv X pins σ H s->t σ H Q->wpAny (model X.prog X.w) X.A (isTrue e X.env whole) (TP X pins σ Q) X.xe s
instance {X:Cx} {e:Expr} {t:TT}:CoeFun (PW X e t) (fun _=>
 ∀(whole:Sem Value) (pins:List (Addr×Obj)) (s:Shared) (σ:St) (H:Hp) (Q:Bool->Hp->Prop),Inv X pins σ H s->t σ H Q->wpAny (model X.prog X.w) X.A (isTrue e X.env whole) (TP X pins σ Q) X.xe s):=⟨PW.go⟩
theorem PW.pt {X:Cx} {e:Expr} {t:TT} (h:PW X e t):PT X e t:=.mk <| h _
structure PA (X:Cx) (es:List Expr) (t:TA):Prop where
 mk ::
 go :
 ∀(pos:Pos) (pins:List (Addr×Obj)) (s:Shared) (σ:St) (H:Hp) (Q:List V->Hp->Prop),Inv X pins σ H s->t σ H Q->wpAny (model X.prog X.w) X.A (spliced (backTo pos (starEach es X.env))) (AP X pins σ Q) X.xe s
instance {X:Cx} {es:List Expr} {t:TA}:CoeFun (PA X es t) (fun _=>
 ∀(pos:Pos) (pins:List (Addr×Obj)) (s:Shared) (σ:St) (H:Hp) (Q:List V->Hp->Prop),Inv X pins σ H s->t σ H Q->wpAny (model X.prog X.w) X.A (spliced (backTo pos (starEach es X.env))) (AP X pins σ Q) X.xe s):=⟨PA.go⟩
structure PS (X:Cx) (st:Stmt) (t:TS):Prop where
 mk ::
 go :
 ∀(pins:List (Addr×Obj)) (s:Shared) (σ:St) (H:Hp) (D:Ends),Inv X pins σ H s->t D σ H->wpAny (model X.prog X.w) X.A (exec st X.env) (SP X pins D) X.xe s
instance {X:Cx} {st:Stmt} {t:TS}:CoeFun (PS X st t) (fun _=>
 ∀(pins:List (Addr×Obj)) (s:Shared) (σ:St) (H:Hp) (D:Ends),Inv X pins σ H s->t D σ H->wpAny (model X.prog X.w) X.A (exec st X.env) (SP X pins D) X.xe s):=⟨PS.go⟩
structure wY (X:Cx) (st:List Stmt) (t:TS):Prop where
 mk ::
 go :
 ∀(pins:List (Addr×Obj)) (s:Shared) (σ:St) (H:Hp) (D:Ends),Inv X pins σ H s->t D σ H->wpAny (model X.prog X.w) X.A (execs st X.env) (SP X pins D) X.xe s
instance {X:Cx} {st:List Stmt} {t:TS}:CoeFun (wY X st t) (fun _=>
 ∀(pins:List (Addr×Obj)) (s:Shared) (σ:St) (H:Hp) (D:Ends),Inv X pins σ H s->t D σ H->wpAny (model X.prog X.w) X.A (execs st X.env) (SP X pins D) X.xe s):=⟨wY.go⟩
theorem cF {α:Type} {t:Sem α} {Q Q':α->Shared->Prop} {M:Model} {A:Around} {E:Value->Shared->Prop} {s:Shared} (h:wpAny M A t Q E s) (hQ:∀a s,Q a s->Q' a s):wpAny M A t Q' E s:=fM h hQ fun _ _ x=>x
section
variable {X:Cx}
def yU (i:Nat):TE:=fun σ H Q=>match σ[i]? with
 | some (some v)=>Q v H
 | _=>False
theorem yU.ex {i:Nat} {σ:St} {H:Hp} {Q:VK} (h:yU i σ H Q):∃v,σ[i]?=some (some v)/\Q v H:=by
 unfold yU at h
 split at h
 ·rename_i v e
  exact⟨v,e,h⟩
 ·exact h.elim
def tC (v:V):TE:=fun _ H Q=>Q v H
theorem Vz {i:Nat} {x:Str} {pos:Pos} (hN:X.N[i]?=some x) (hv:ZG X.env.scope x) (hd:(x==("__debug__" : Str))=false:=by decide) (hcd:(x==("__classdict__" : Str))=false:=by decide):PE X (.Name x pos) (yU i):=by
 refine .mk ?_
 intro pins s σ H Q I h
 obtain⟨v,e,h⟩:=yU.ex h
 obtain⟨m,hn,hl⟩:=I.loc
 obtain⟨u,r,l⟩:=hl i x v hN e hv
 have fin:EP X pins σ Q u s:=⟨v,H,I,r,h⟩
 rcases l with⟨hk,hm⟩ | ⟨hk,c,hc,hcell⟩
 ·exact wpAny_Name (wpAny_loadName_local I.ok.kind hk hn hm fin) hd
 ·rcases hk with hk | hk
  ·exact wpAny_Name (wpAny_loadName_cell I.ok.kind hk hc hcell fin) hd
  ·exact wpAny_Name (wpAny_loadName_free I.ok.kind hk hc hcell fin hcd) hd
theorem ao {i j pos}:PE X (.Constant (.int i) j pos) (tC (.int i)):=.mk <| fun _ _ _ H _ I h=>wpAny_Constant_int ⟨.int i,H,I.tok _,⟨_,rfl⟩,h⟩
theorem rP {b j pos}:PE X (.Constant (.bool b) j pos) (tC (.bl b)):=.mk <| fun _ _ _ H _ I h=>Constant_bool ⟨.bl b,H,I,rfl,h⟩
theorem cY {j pos}:PE X (.Constant .none j pos) (tC .non):=.mk <| fun _ _ _ H _ I h=>Constant_none ⟨.non,H,I,rfl,h⟩
theorem dD {x j pos}:PE X (.Constant (.str x) j pos) (tC (.str x)):=.mk <| fun _ _ _ H _ I h=>Calls.Constant_str ⟨.str x,H,I.tok _,⟨_,rfl⟩,h⟩
def Gl (X:Cx) (x:Str):Prop:=X.env.kindOf x=some .globalImplicit
theorem pN {E:Value->Shared->Prop} {pins:List (Addr×Obj)} {s:Shared} {σ:St} {H:Hp} {x:Str} {u:Value} {pos:Pos} {Q:Value->Shared->Prop} (I:Inv X pins σ H s) (hg:Gl X x) (hm:X.mg x=some u) (h:Q u s)
  (hd:(x==("__debug__" : Str))=false:=by decide):wpAny (model X.prog X.w) X.A (eval (.Name x pos) X.env) Q E s:=
 Calls.Name_function_global I.ok.kind hg (Calls.loadGlobal_global (by rw[I.ok.glob]; exact I.mod.glob.keeps I.bk) hm h) hd
theorem iJ {E:Value->Shared->Prop} {pins:List (Addr×Obj)} {s:Shared} {σ:St} {H:Hp} {x:Str} {u:Value} {pos:Pos} {Q:Value->Shared->Prop} (I:Inv X pins σ H s) (hg:Gl X x) (hm:X.mg x=none) (hv:bootBuiltins x=some u) (h:Q u s)
  (hn:x ≠ "__name__" := by decide) (hd:(x==("__debug__" : Str))=false:=by decide):wpAny (model X.prog X.w) X.A (eval (.Name x pos) X.env) Q E s:=by
 obtain⟨mb,h1,h2⟩:=I.mod.blt
 exact Calls.Name_function_global I.ok.kind hg (Calls.loadGlobal_builtin (by rw[I.ok.glob]; exact I.mod.glob.keeps I.bk) hm (by rw[I.ok.blt]; exact h1.keeps I.bk) ((h2 x hn).trans hv) h) hd
theorem zE {x:Str} {v:V} {u:Value} {pos:Pos} (hg:Gl X x) (hm:X.mg x=some u) (r:RelV v u) (hd:(x==("__debug__" : Str))=false:=by decide):PE X (.Name x pos) (tC v):=
 .mk <| fun _ _ _ H _ I h=>pN I hg hm ⟨v,H,I,r,h⟩ hd
theorem Rr {x:Str} {v:V} {u:Value} {pos:Pos} (hg:Gl X x) (hm:X.mg x=none) (hv:bootBuiltins x=some u) (r:RelV v u) (hn:x ≠ "__name__" := by decide) (hd:(x==("__debug__" : Str))=false:=by decide):PE X (.Name x pos) (tC v):=
 .mk <| fun _ _ _ H _ I h=>iJ I hg hm hv ⟨v,H,I,r,h⟩ hn hd
variable {a b:Expr} {ta tb:TE} {pos:Pos}
def tB (t:TE):TT:=fun σ H Q=>t σ H fun x H1=>∃c,x=.bl c/\Q c H1
theorem qN {e:Expr} {t:TE} (h:PE X e t) (he:∀whole,isTrue e X.env whole=(do let v <- whole; standAt e.pos; holding [v] (truthy v)):=by intro _; rfl):PT X e (tB t):=by
 refine .mk ?_
 intro pins s σ H Q I hw
 refine isTrue_plain (cF (h pins s σ H _ I hw) fun v s1 ⟨x,H1,I1,r1,q1⟩=>?_) (he _)
 obtain⟨d,rfl,q⟩:=q1
 cases r1
 exact Cg ⟨H1,I1,q⟩
variable {tA Zg:TT} {rest:List Expr}
def Xu (t u:TT):TT:=fun σ H Q=>t σ H fun c H1=>if c=true then u σ H1 Q else Q false H1
def tOr (t u:TT):TT:=fun σ H Q=>t σ H fun c H1=>if c=true then Q true H1 else u σ H1 Q
def Xo (t:TT):TT:=fun σ H Q=>t σ H fun c H1=>Q (!c) H1
theorem i_ (ha:PT X a tA):PW X (.BoolOp .And [a] pos) tA:=by
 refine .mk ?_
 intro wh pins s σ H Q I h
 refine isTrue_and (cF (ha pins s σ H Q I h) fun c s1 e=>?_)
 cases c with
 | true=>exact isTrue_and_nil e
 | false=>exact e
theorem qL (ha:PT X a tA):PW X (.BoolOp .Or [a] pos) tA:=by
 refine .mk ?_
 intro wh pins s σ H Q I h
 refine isTrue_or (cF (ha pins s σ H Q I h) fun c s1 e=>?_)
 cases c with
 | false=>exact isTrue_or_nil e
 | true=>exact e
theorem jV (ha:PT X a tA) (hb:PW X (.BoolOp .And (b::rest) pos) Zg):PW X (.BoolOp .And (a::b::rest) pos) (Xu tA Zg):=by
 refine .mk ?_
 intro wh pins s σ H Q I h
 refine isTrue_and (cF (ha pins s σ H _ I h) fun c s1 qx=>?_)
 obtain⟨H1,I1,q1⟩:=qx
 cases c with
 | true=>exact hb wh pins s1 σ H1 Q I1 q1
 | false=>exact⟨H1,I1,q1⟩
theorem rO (ha:PT X a tA) (hb:PW X (.BoolOp .Or (b::rest) pos) Zg):PW X (.BoolOp .Or (a::b::rest) pos) (tOr tA Zg):=by
 refine .mk ?_
 intro wh pins s σ H Q I h
 refine isTrue_or (cF (ha pins s σ H _ I h) fun c s1 qx=>?_)
 obtain⟨H1,I1,q1⟩:=qx
 cases c with
 | true=>exact⟨H1,I1,q1⟩
 | false=>exact hb wh pins s1 σ H1 Q I1 q1
theorem Fi (ha:PT X a tA):PT X (.UnaryOp .Not a pos) (Xo tA):=by
 refine .mk ?_
 intro pins s σ H Q I h
 exact isTrue_not (ha pins s σ H (fun c H1=>Q (!c) H1) I h)
def Xr (ta tb:TE):TE:=fun σ H Q=>ta σ H fun x H1=>∃c,x=.bl c/\if c=true then tb σ H1 Q else Q (.bl false) H1
def Xm (ta tb:TE):TE:=fun σ H Q=>ta σ H fun x H1=>∃c,x=.bl c/\if c=true then Q (.bl true) H1 else tb σ H1 Q
def Xn (ta:TE):TE:=fun σ H Q=>ta σ H fun x H1=>∃c,x=.bl c/\Q (.bl (!c)) H1
theorem NP {op} {t:TE} (h:PE X a t):PE X (.BoolOp op [a] pos) t:=.mk <| fun pins s σ H Q I hw=>BoolOp_one (h pins s σ H Q I hw)
theorem Ui (ha:PE X a ta) (hb:PE X (.BoolOp .Or (b::rest) pos) tb):PE X (.BoolOp .Or (a::b::rest) pos) (Xm ta tb):=by
 refine .mk ?_
 intro pins s σ H Q I h
 refine BoolOp_or (cF (ha pins s σ H _ I h) fun v s1 qx=>?_)
 obtain⟨x,H1,I1,r1,q1⟩:=qx
 obtain⟨c,rfl,q1⟩:=q1
 cases r1
 refine Cg ?_
 cases c with
 | false=>exact hb pins s1 σ H1 Q I1 q1
 | true=>exact⟨.bl true,H1,I1,rfl,q1⟩
def tIf (t:TT) (ta tb:TE):TE:=fun σ H Q=>t σ H fun c H1=>if c=true then ta σ H1 Q else tb σ H1 Q
theorem lW {c:Expr} (hc:PT X c tA) (ha:PE X a ta) (hb:PE X b tb):PE X (.IfExp c a b pos) (tIf tA ta tb):=by
 refine .mk ?_
 intro pins s σ H Q I h
 refine wpAny_IfExp (cF (hc pins s σ H _ I h) fun d s1 qx=>?_)
 obtain⟨H1,I1,q1⟩:=qx
 cases d with
 | true=>exact ha pins s1 σ H1 Q I1 q1
 | false=>exact hb pins s1 σ H1 Q I1 q1
end
def eV (K:PySem.W.Frag) (H:Hp) (a:Addr) (xs:List V):Prop:=
 Rd H a (.lst xs) \/
  ∃(o:Obj) (its:Array Value) (n:Nat),K.lookup a=some o/\o.cls=.type "list" /\ o.dict=none/\o.data=.seq its n/\its.size<=sizeLine/\Vals xs its.toList
def cD (K:PySem.W.Frag) (H:Hp) (a:Addr) (xs:List V):Prop:=
 Rd H a (.tup xs) \/
  ∃(o:Obj) (its:Array Value) (n:Nat),K.lookup a=some o/\o.cls=.type "tuple" /\ o.data=.seq its n/\its.size<=sizeLine/\Vals xs its.toList
def abr:Value->Option V
 | .none=>some .non
 | .bool b=>some (.bl b)
 | .int i _=>some (.int i)
 | .str x _=>some (.str x)
 | .bytes b _=>some (.Lp b)
 | .float b _=>some (.flt b)
 | .ref a=>some (.ref a)
 | .type n=>some (.ty n)
 | _=>none
theorem RelV.abs {x:V} {u:Value} (r:RelV x u):abr u=some x:=by
 cases x with
 | non=>cases r; rfl
 | bl _=>cases r; rfl
 | int _=>obtain⟨t,rfl⟩:=r; rfl
 | str _=>obtain⟨t,rfl⟩:=r; rfl
 | Lp _=>obtain⟨t,rfl⟩:=r; rfl
 | flt _=>obtain⟨t,rfl⟩:=r; rfl
 | ref _=>cases r; rfl
 | ty _=>cases r; rfl
theorem RelV.inj {x y:V} {u:Value} (r:RelV x u) (q:RelV y u):x=y:=Option.some.inj (r.abs.symm.trans q.abs)
theorem Vals.inj:∀{xs ys:List V} {us:List Value},Vals xs us->Vals ys us->xs=ys
 | _,_,_,.nil,.nil=>rfl
 | _,_,_,.cons r t,.cons r' t'=>by rw[r.inj r',Vals.inj t t']
section
variable {X:Cx} {pins:List (Addr×Obj)} {σ:St} {H:Hp} {s:Shared} {a:Addr} {xs ys:List V}
theorem eV.of {K:PySem.W.Frag} (h:H a=some (.lst xs)):eV K H a xs:=.inl (.inl h)
theorem cD.of {K:PySem.W.Frag} (h:H a=some (.tup xs)):cD K H a xs:=.inl (.inl h)
theorem Inv.list (I:Inv X pins σ H s) (h:eV X.K H a xs):∃its:List Value,Vals xs its/\PlainL s.heap a its.toArray/\xs.length<=sizeLine:=by
 rcases h with h | ⟨o,its,n,hk,hc,hd,hs,hz,r⟩
 ·obtain⟨z,its,n,r,e⟩:=h.ok I.hok
  exact⟨its,r,⟨_,n,e,rfl,rfl,rfl⟩,z⟩
 ·refine⟨its.toList,r,⟨o,n,I.wC a o hk,hc,hd,by simpa using hs⟩,?_⟩
  have e:=r.length
  simp only[k_] at e
  omega
theorem Inv.tuple (I:Inv X pins σ H s) (h:cD X.K H a xs):∃its:List Value,Vals xs its/\IsTup s.heap a its.toArray/\xs.length<=sizeLine:=by
 rcases h with h | ⟨o,its,n,hk,hc,hs,hz,r⟩
 ·obtain⟨z,its,r,p⟩:=h.ok I.hok
  exact⟨its,r,p,z⟩
 ·refine⟨its.toList,r,⟨o,I.wC a o hk,hc,n,by simpa using hs⟩,?_⟩
  have e:=r.length
  simp only[k_] at e
  omega
theorem Inv.Dc (I:Inv X pins σ H s) (h:eV X.K H a xs) (h':eV X.K H a ys):xs=ys:=by
 obtain⟨its,r,⟨o,n,e,_,_,d⟩,_⟩:=I.list h
 obtain⟨its',r',⟨o',n',e',_,_,d'⟩,_⟩:=I.list h'
 rw[e] at e'; cases e'
 rw[d] at d'
 injection d' with d1 _
 have:its=its':=by simpa using gW Array.toList d1
 subst this
 exact r.inj r'
theorem Inv.qp (I:Inv X pins σ H s) (h:cD X.K H a xs) (h':cD X.K H a ys):xs=ys:=by
 obtain⟨its,r,⟨o,e,_,n,d⟩,_⟩:=I.tuple h
 obtain⟨its',r',⟨o',e',_,n',d'⟩,_⟩:=I.tuple h'
 rw[e] at e'; cases e'
 rw[d] at d'
 injection d' with d1 _
 have:its=its':=by simpa using gW Array.toList d1
 subst this
 exact r.inj r'
end
abbrev Cx.wish (X:Cx) (E:Value->Shared->Prop):Cx:={ X with xe:=E }
abbrev Cx.WD (X:Cx):Cx:=X.wish fun _ _=>False
theorem Cx.Ok.wish {X:Cx} (ok:X.Ok) (E:Value->Shared->Prop):(X.wish E).Ok:=
 ⟨ok.mod,ok.kind,ok.glob,ok.blt,ok.above,ok.inj,ok.has,ok.cab,ok.hd,ok.frames,ok.Xx,ok.YJ,ok.bs,ok.Qh,ok.FT,ok.Gh,ok.sW,ok.Wb⟩
theorem Cx.Ok.lB {X:Cx} {E:Value->Shared->Prop} (ok:(X.wish E).Ok):X.Ok:=
 ⟨ok.mod,ok.kind,ok.glob,ok.blt,ok.above,ok.inj,ok.has,ok.cab,ok.hd,ok.frames,ok.Xx,ok.YJ,ok.bs,ok.Qh,ok.FT,ok.Gh,ok.sW,ok.Wb⟩
section
variable {X:Cx} {pins:List (Addr×Obj)} {σ:St} {H:Hp} {s:Shared} {E:Value->Shared->Prop}
theorem Inv.wish (I:Inv X pins σ H s) (E:Value->Shared->Prop):Inv (X.wish E) pins σ H s:=⟨I.ok.wish E,I.os,I.bare,I.base,I.loc,I.cell,I.free,I.jL,I.pin,I.hok,I.len⟩
theorem Inv.lB (I:Inv (X.wish E) pins σ H s):Inv X pins σ H s:=⟨I.ok.lB,I.os,I.bare,I.base,I.loc,I.cell,I.free,I.jL,I.pin,I.hok,I.len⟩
theorem SP.lB {D:Ends} {f:Flow} {s':Shared} (h:SP (X.wish E) pins D f s'):SP X pins D f s':=by
 cases f with
 | next=>obtain⟨σ',H',I,q⟩:=h; exact⟨σ',H',I.lB,q⟩
 | brk=>obtain⟨σ',H',I,q⟩:=h; exact⟨σ',H',I.lB,q⟩
 | cont=>obtain⟨σ',H',I,q⟩:=h; exact⟨σ',H',I.lB,q⟩
 | ret u=>obtain⟨v,σ',H',I,r,q⟩:=h; exact⟨v,σ',H',I.lB,r,q⟩
theorem wY.WD {st:List Stmt} {t:TS} (h:wY X.WD st t):wY X st t:=.mk <| fun pins s σ H D I hw=>
 fM (h pins s σ H D (I.wish _) hw) (fun _ _ q=>q.lB) fun _ _ z=>False.elim z
end
section
variable {X:Cx} {st:Stmt} {rest:List Stmt} {t u:TS} {e:Expr} {te:TE} {pos:Pos}
def TF:TS:=fun D σ H=>D.nx σ H
def Ml (t u:TS):TS:=fun D σ H=>t { D with nx:=u D } σ H
theorem bO:wY X [] TF:=.mk <| fun _ _ σ H _ I h=>xR ⟨σ,H,I,h⟩
theorem aq (h1:PS X st t) (h2:wY X rest u):wY X (st::rest) (Ml t u):=by
 refine .mk ?_
 intro pins s σ H D I h
 refine wpAny_execs_cons (cF (h1 pins s σ H { D with nx:=u D } I h) fun f s1 q=>?_)
 cases f with
 | next=>
  obtain⟨σ',H',I',q⟩:=q
  exact h2 pins s1 σ' H' D I' q
 | ret v=>exact q
 | brk=>exact q
 | cont=>exact q
theorem aJ (h1:PS X st t):wY X [st] t:=by
 refine .mk ?_
 intro pins s σ H D I h
 refine wpAny_execs_cons (cF (h1 pins s σ H D I h) fun f s1 q=>?_)
 cases f with
 | next=>exact xR q
 | ret v=>exact q
 | brk=>exact q
 | cont=>exact q
theorem Inv.quiet {pins:List (Addr×Obj)} {σ:St} {H:Hp} {s:Shared} (I:Inv X pins σ H s):interactive X.env=false:=by simp[interactive,I.ok.kind]
def TY (te:TE):TS:=fun D σ H=>te σ H fun _ H1=>D.nx σ H1
theorem jb (he:PE X e te) (hs:swapsWith e none pos.line X.env=pure false:=by rfl):PS X (.Expr e pos) (TY te):=by
 refine .mk ?_
 intro pins s σ H D I h
 exact wpAny_Expr_any (cF (he pins s σ H _ I h) fun v s1 ⟨x,H1,I1,r1,q1⟩=>⟨σ,H1,I1,q1⟩) I.quiet hs
def Xj (te:TE):TS:=fun D σ H=>te σ H D.rt
theorem aR (he:PE X e te):PS X (.Return (some e) pos) (Xj te):=by
 refine .mk ?_
 intro pins s σ H D I h
 exact wpAny_Return_some (cF (he pins s σ H _ I h) fun v s1 ⟨x,H1,I1,r1,q1⟩=>⟨x,σ,H1,I1,r1,q1⟩)
def Xi:TS:=fun D _ H=>D.rt .non H
def QV (c:TT) (t u:TS):TS:=fun D σ H=>c σ H fun b H1=>if b=true then t D σ H1 else u D σ H1
theorem dz {c:Expr} {a b:List Stmt} {tc:TT} (hc:PT X c tc) (ha:wY X a t) (hb:wY X b u):PS X (.If c a b pos) (QV tc t u):=by
 refine .mk ?_
 intro pins s σ H D I h
 refine wpAny_If (cF (hc pins s σ H _ I h) fun d s1 qx=>?_)
 obtain⟨H1,I1,q1⟩:=qx
 cases d with
 | true=>exact ha pins s1 σ H1 D I1 q1
 | false=>exact hb pins s1 σ H1 D I1 q1
end
abbrev TG:=V->St->Hp->(St->Hp->Prop)->Prop
abbrev Qo:=List V->St->Hp->(St->Hp->Prop)->Prop
structure PG (X:Cx) (target:Expr) (t:TG):Prop where
 mk ::
 go :
 ∀(pins:List (Addr×Obj)) (s:Shared) (σ:St) (H:Hp) (v:V) (u:Value) (Q:St->Hp->Prop),Inv X pins σ H s->RelV v u->t v σ H Q ->
  wpAny (model X.prog X.w) X.A (assign target X.env u) (fun _ s'=>∃σ' H',Inv X pins σ' H' s'/\Q σ' H') X.xe s
instance {X:Cx} {target:Expr} {t:TG}:CoeFun (PG X target t) (fun _=>
 ∀(pins:List (Addr×Obj)) (s:Shared) (σ:St) (H:Hp) (v:V) (u:Value) (Q:St->Hp->Prop),Inv X pins σ H s->RelV v u->t v σ H Q ->
  wpAny (model X.prog X.w) X.A (assign target X.env u) (fun _ s'=>∃σ' H',Inv X pins σ' H' s'/\Q σ' H') X.xe s):=⟨PG.go⟩
structure Wq (X:Cx) (ts:List Expr) (t:Qo):Prop where
 mk ::
 go :
 ∀(pins:List (Addr×Obj)) (s:Shared) (σ:St) (H:Hp) (vs:List V) (us:List Value) (Q:St->Hp->Prop),Inv X pins σ H s->Vals vs us->t vs σ H Q ->
  wpAny (model X.prog X.w) X.A (assignInOrder ((assignEach ts X.env).map (·.2)) us) (fun _ s'=>∃σ' H',Inv X pins σ' H' s'/\Q σ' H') X.xe s
instance {X:Cx} {ts:List Expr} {t:Qo}:CoeFun (Wq X ts t) (fun _=>
 ∀(pins:List (Addr×Obj)) (s:Shared) (σ:St) (H:Hp) (vs:List V) (us:List Value) (Q:St->Hp->Prop),Inv X pins σ H s->Vals vs us->t vs σ H Q ->
  wpAny (model X.prog X.w) X.A (assignInOrder ((assignEach ts X.env).map (·.2)) us) (fun _ s'=>∃σ' H',Inv X pins σ' H' s'/\Q σ' H') X.xe s):=⟨Wq.go⟩
abbrev Lg:=V->V->V->Hp->(Hp->Prop)->Prop
structure Qq (X:Cx) (t:Lg):Prop where
 mk ::
 go :
 ∀(pins:List (Addr×Obj)) (s:Shared) (σ:St) (H:Hp) (o i v:V) (ov iv u:Value) (Q:Hp->Prop),Inv X pins σ H s->RelV o ov->RelV i iv->RelV v u->t o i v H Q ->
  wpAny (model X.prog X.w) X.A (setItem ov iv u) (fun _ s'=>∃H',Inv X pins σ H' s'/\Q H') X.xe s
instance {X:Cx} {t:Lg}:CoeFun (Qq X t) (fun _=>
 ∀(pins:List (Addr×Obj)) (s:Shared) (σ:St) (H:Hp) (o i v:V) (ov iv u:Value) (Q:Hp->Prop),Inv X pins σ H s->RelV o ov->RelV i iv->RelV v u->t o i v H Q ->
  wpAny (model X.prog X.w) X.A (setItem ov iv u) (fun _ s'=>∃H',Inv X pins σ H' s'/\Q H') X.xe s):=⟨Qq.go⟩
abbrev WW:=V->V->Hp->VK->Prop
def ZK (X:Cx) (op:Operator) (t:WW):Prop:=
 ∀(pins:List (Addr×Obj)) (s:Shared) (σ:St) (H:Hp) (x y:V) (v u:Value) (Q:VK),Inv X pins σ H s->RelV x v->RelV y u->t x y H Q ->
  wpAny (model X.prog X.w) X.A (inplaceOp op v u) (EP X pins σ Q) X.xe s
section
variable {X:Cx} {pos:Pos}
def eQ (i:Nat):TG:=fun v σ H Q=>Q (σ.set i (some v)) H
theorem aG {i:Nat} {x:Str} (hN:X.N.Nodup) (hi:X.N[i]?=some x) (hx:Loc X.env.scope x) (hf:X.fn x=true\/X.env.scope.names.lookup x=some .local:=by first | exact .inl rfl | exact .inr rfl | assumption):PG X (.Name x pos) (eQ i):=by
 refine .mk ?_
 intro pins s σ H v u Q I r h
 exact wpAny_assign_Name (jz I hN hi hx r (fun s' I'=>⟨_,H,I',h⟩) hf)
def Dq:Qo:=fun vs σ H Q=>match vs with
 | []=>Q σ H
 | _=>False
theorem Dq.ex {vs:List V} {σ:St} {H:Hp} {Q:St->Hp->Prop} (h:Dq vs σ H Q):vs=[]/\Q σ H:=by
 cases vs with
 | nil=>exact⟨rfl,h⟩
 | cons a b=>exact h.elim
def mF (t:TG) (u:Qo):Qo:=fun vs σ H Q=>match vs with
 | v::r=>t v σ H fun σ' H'=>u r σ' H' Q
 | []=>False
theorem mF.ex {t:TG} {u:Qo} {vs:List V} {σ:St} {H:Hp} {Q:St->Hp->Prop} (h:mF t u vs σ H Q):∃v r,vs=v::r/\t v σ H fun σ' H'=>u r σ' H' Q:=by
 cases vs with
 | nil=>exact h.elim
 | cons a b=>exact⟨a,b,rfl,h⟩
theorem bK:Wq X [] Dq:=by
 refine .mk ?_
 intro pins s σ H vs us Q I r h
 obtain⟨e,h⟩:=Dq.ex h
 subst e
 cases r
 exact assignInOrder_nil ⟨σ,H,I,h⟩
theorem aF {e:Expr} {es:List Expr} {t:TG} {u:Qo} (h1:PG X e t) (h2:Wq X es u)
  (hs:(assignEach (e::es) X.env).map (·.2)=assign e X.env::(assignEach es X.env).map (·.2):=by rfl):Wq X (e::es) (mF t u):=by
 refine .mk ?_
 intro pins s σ H vs us Q I r h
 obtain⟨v,vr,e1,h⟩:=mF.ex h
 subst e1
 cases r with
 | cons r rr=>
  rw[hs]
  refine assignInOrder_cons (cF (h1 pins s σ H _ _ _ I r h) fun _ s1 qx=>?_)
  obtain⟨σ1,H1,I1,q1⟩:=qx
  exact h2 pins s1 σ1 H1 _ _ Q I1 rr q1
def Pg (K:PySem.W.Frag) (n:Nat) (t:Qo):TG:=fun v σ H Q=>∃a xs,v=.ref a/\cD K H a xs/\xs.length=n/\t xs σ H Q
theorem Vy {es:List Expr} {k:Nat} {t:Qo} {n:Nat} (hc:X.calm=true) (h:Wq X es t)
  (hn:(assignEach es X.env).length=n:=by rfl) (hst:(assignEach es X.env).findIdx? (·.1)=none:=by rfl):PG X (.Tuple es k pos) (Pg X.K n t):=by
 refine .mk ?_
 intro pins s σ H v u Q I r hw
 obtain⟨a,xs,e1,hq,hl,hw⟩:=hw
 subst e1
 cases r
 obtain⟨its,rv,ht,hz⟩:=I.tuple hq
 refine assign_Tuple_tuple (I.ok.hd hc) ht (by simp[hn,<- hl,rv.length]) hst fun h' hx=>?_
 have I1:Inv X pins σ H { s with heap:=h' }:=I.kept (t':=s.toks) fun b o e=>hx b o (fW (bW e)) e
 exact h pins _ σ H xs _ Q I1 (by simpa using rv) hw
def YB (to ti:TE) (t:Lg):TG:=fun v σ H Q=>to σ H fun o H1=>ti σ H1 fun i H2=>t o i v H2 fun H3=>Q σ H3
theorem Ft {o i:Expr} {to ti:TE} {t:Lg} (ho:PE X o to) (hi:PE X i ti) (hs:Qq X t)
  (ha:∀v,assign (.Subscript o i pos) X.env v=(do
   let ov <- holding [v] (eval o X.env)
   let iv <- holding [v,ov] (eval i X.env)
   standAt pos
   holding [v,ov,iv] (setItem ov iv v)
   release [v,ov,iv] []):=by intro _; rfl):PG X (.Subscript o i pos) (YB to ti t):=by
 refine .mk ?_
 intro pins s σ H v u Q I r h
 rw[ha]
 refine aN (qJ (cF (ho pins s σ H _ I h) fun ov s1 qx=>?_))
 obtain⟨x,H1,I1,r1,q1⟩:=qx
 refine aN (qJ (cF (hi pins s1 σ H1 _ I1 q1) fun iv s2 qx=>?_))
 obtain⟨y,H2,I2,r2,q2⟩:=qx
 refine aN (zm (aN (qJ (cF (hs pins s2 σ H2 x y v ov iv u _ I2 r1 r2 r q2) fun _ s3 qx=>?_))))
 obtain⟨H3,I3,q3⟩:=qx
 exact wpAny_release ⟨σ,H3,I3,q3⟩
def Bf (te:TE) (g:TG):TS:=fun D σ H=>te σ H fun x H1=>g x σ H1 D.nx
theorem cU {tg e:Expr} {te:TE} {g:TG} (he:PE X e te) (hg:PG X tg g) (hs:swapsWithSole [tg] e pos.line X.env=pure false:=by rfl) (hw:swappedStores [tg] e X.env=pure none:=by rfl)
  (h1:(assignEach [tg] X.env).map (·.2)=[assign tg X.env]:=by rfl):PS X (.Assign [tg] e pos) (Bf te g):=by
 refine .mk ?_
 intro pins s σ H D I h
 refine wpAny_Assign_stores (cF (he pins s σ H _ I h) fun v s1 ⟨x,H1,I1,r1,q1⟩=>?_) hs hw
 rw[h1]
 exact cF (hg pins s1 σ H1 x v _ I1 r1 q1) fun _ s2 q=>q
theorem bf {i:Nat} {x:Str} {e:Expr} {te:TE} {pos':Pos} (hN:X.N.Nodup) (hi:X.N[i]?=some x) (hx:Loc X.env.scope x) (he:PE X e te) (hs:swapsWith e (some (.Name x pos')) pos.line X.env=pure false:=by rfl) (hf:X.fn x=true\/X.env.scope.names.lookup x=some .local:=by first | exact .inl rfl | exact .inr rfl | assumption) :
  PS X (.Assign [.Name x pos'] e pos) (Bf te (eQ i)):=by
 refine .mk ?_
 intro pins s σ H D I h
 refine wpAny_Assign_Name (cF (he pins s σ H _ I h) fun v s1 ⟨y,H1,I1,r1,q1⟩=>?_) hs
 exact jz I1 hN hi hx r1 (fun s2 I2=>⟨_,H1,I2,q1⟩) hf
def Xl (i j:Nat) (ta:TA):TS:=fun D σ H=>ta σ H fun vs H1=>∃v w,vs=[v,w]/\D.nx ((σ.set i (some v)).set j (some w)) H1
theorem zu {i j:Nat} {x y:Str} {a b:Expr} {ta:TA} {px py pt:Pos} {kt k2 pt2} (hc:X.calm=true) (hN:X.N.Nodup) (hi:X.N[i]?=some x) (hj:X.N[j]?=some y) (hij:i≠j)
  (hx:X.env.scope.names.lookup x=some .local) (hy:X.env.scope.names.lookup y=some .local) (ha:PA X [a,b] ta)
  (hw:swappedStores [.Tuple [.Name x px,.Name y py] kt pt] (.Tuple [a,b] k2 pt2) X.env=pure (some [x,y]))
  (hs:swapsWithSole [.Tuple [.Name x px,.Name y py] kt pt] (.Tuple [a,b] k2 pt2) pos.line X.env=pure false:=by rfl) :
  PS X (.Assign [.Tuple [.Name x px,.Name y py] kt pt] (.Tuple [a,b] k2 pt2) pos) (Xl i j ta):=by
 refine .mk ?_
 intro pins s σ H D I h
 rw[exec_Assign_arm]
 refine aN (zm ?_)
 rw[hs]
 refine aN (bH ?_)
 rw[aK (by decide)]
 refine aN (Tuple_ (cF (ha _ pins s σ H _ I h) fun us s1 qx=>?_))
 obtain⟨vs,H1,I1,r1,q1⟩:=qx
 obtain⟨v,w,e1,q1⟩:=q1
 subst e1
 obtain⟨u1,u2,rfl,rv,Vm⟩:∃u1 u2,us=[u1,u2]/\RelV v u1/\RelV w u2:=by
  cases r1 with
  | cons p q=>
   cases q with
   | cons p' q'=>
    cases q'
    exact⟨_,_,rfl,p,p'⟩
 refine sy ?_ (by show 2<=sizeLine; decide)
 have I2:Inv X pins σ H1 { s1 with heap:=s1.heap.push { cls:=.type "tuple",data:=.seq [u1,u2].toArray } }:=I1.kept (t':=s1.toks) fun b o e=>gf _ e
 rw[hw]
 refine aN (bH ?_)
 show wpAny (model X.prog X.w) X.A (do rule "assign.swapped-stores"; let items <- unpackItems (.ref s1.heap.objs.size) 2 none; assignInOrder [fun v=>bindName X.env y v,fun v=>bindName X.env x v] items.reverse; pure Flow.next) _ _ _
 refine aN (pI (aN (unpackItems_tuple (items:=#[u1,u2]) (I.ok.hd hc) (IsTup.new s1.heap _) fun h' hx'=>?_)))
 have I3:=I2.kept (h':=h') (t':=s1.toks) fun b o e=>hx' b o (fW (bW e)) e
 show wpAny _ _ (assignInOrder [fun v=>bindName X.env y v,fun v=>bindName X.env x v] [u2,u1] >>= fun _=>pure Flow.next) _ _ _
 refine aN (assignInOrder_cons (wpAny_bindName (jz I3 hN hj (.inl hy) Vm (fun s2 I4=>?_) (.inr hy))))
 refine assignInOrder_cons (wpAny_bindName (jz I4 hN hi (.inl hx) rv (fun s3 I5=>assignInOrder_nil (bH ?_)) (.inr hx)))
 rw[List.set_comm _ _ (Ne.symm hij)] at I5
 exact⟨_,H1,I5,q1⟩
def Xq (i:Nat) (te:TE) (ti:WW):TS:=fun D σ H=>∃x,σ[i]?=some (some x)/\te σ H fun y H1=>ti x y H1 fun z H2=>D.nx (σ.set i (some z)) H2
theorem uN {i:Nat} {x:Str} {e:Expr} {te:TE} {op:Operator} {ti:WW} {pos':Pos} (hN:X.N.Nodup) (hi:X.N[i]?=some x) (hx:Loc X.env.scope x) (he:PE X e te) (ho:ZK X op ti) (hf:X.fn x=true\/X.env.scope.names.lookup x=some .local:=by first | exact .inl rfl | exact .inr rfl | assumption) :
  PS X (.AugAssign (.Name x pos') op e pos) (Xq i te ti):=by
 refine .mk ?_
 intro pins s σ H D I h
 obtain⟨v,e1,h⟩:=h
 obtain⟨m,hn,hl⟩:=I.loc
 have vis:ZG X.env.scope x:=by rcases hx with k | k; exact .inl k; exact .inr (.inl k)
 obtain⟨u,r,l⟩:=hl i x v hi e1 vis
 refine wpAny_AugAssign_Name ?_
 have go:wpAny (model X.prog X.w) X.A (eval e X.env) (fun w s₂=>wpAny (model X.prog X.w) X.A (inplaceOp op u w) (fun r s₃=>wpAny (model X.prog X.w) X.A (storeName X.env x r) (fun _=>SP X pins D .next) X.xe s₃) X.xe s₂) X.xe s:=by
  refine cF (he pins s σ H _ I h) fun w s1 qx=>?_
  obtain⟨y,H1,I1,r1,q1⟩:=qx
  refine cF (ho pins s1 σ H1 v y u w _ I1 r r1 q1) fun z s2 qx=>?_
  obtain⟨zv,H2,I2,r2,q2⟩:=qx
  exact jz I2 hN hi hx r2 (fun s3 I3=>⟨_,H2,I3,q2⟩) hf
 rcases l with⟨hk,hm⟩ | ⟨hk,c,hc,hcell⟩
 ·exact wpAny_loadName_local I.ok.kind hk hn hm go
 ·rcases hk with hk | hk
  ·exact wpAny_loadName_cell I.ok.kind hk hc hcell go
  ·rcases hx with k | k
   ·have:X.env.scope.names.lookup x=some .free:=hk
    rw[k] at this; cases this
   ·have:X.env.scope.names.lookup x=some .free:=hk
    rw[k] at this; cases this
def T3 (to ti te:TE) (QS:V->V->Hp->VK->Prop) (Zf:WW) (QR:Lg):TS:=fun D σ H=>to σ H fun o H1=>ti σ H1 fun i H2=>QS o i H2 fun x H3=>te σ H3 fun y H4=>Zf x y H4 fun z H5=>QR o i z H5 fun H6=>D.nx σ H6
def Y6 (X:Cx) (t:V->V->Hp->VK->Prop):Prop:=
 ∀(pins:List (Addr×Obj)) (s:Shared) (σ:St) (H:Hp) (o i:V) (ov iv:Value) (Q:VK),Inv X pins σ H s->RelV o ov->RelV i iv->t o i H Q ->
  wpAny (model X.prog X.w) X.A (getItem ov iv) (EP X pins σ Q) X.xe s
theorem Rk {o i e:Expr} {to ti te:TE} {QS:V->V->Hp->VK->Prop} {Zf:WW} {QR:Lg} {op:Operator} {tpos:Pos} (ho:PE X o to) (hi:PE X i ti) (hg:Y6 X QS) (he:PE X e te) (hp:ZK X op Zf) (hs:Qq X QR)
  (ha:∀ov iv new,augStore i ov iv new=(do holding [new,ov,iv] (setItem ov iv new); release [new,ov,iv] []; pure .next):=by intros; rfl):PS X (.AugAssign (.Subscript o i tpos) op e pos) (T3 to ti te QS Zf QR):=by
 refine .mk ?_
 intro pins s σ H D I h
 refine wpAny_AugAssign_SubscriptAny (cF (ho pins s σ H _ I h) fun ov s1 ⟨x1,H1,I1,r1,q1⟩=>?_) ha
 refine cF (hi pins s1 σ H1 _ I1 q1) fun iv s2 qx=>?_
 obtain⟨x2,H2,I2,r2,q2⟩:=qx
 refine cF (hg pins s2 σ H2 x1 x2 ov iv _ I2 r1 r2 q2) fun old s3 qx=>?_
 obtain⟨x3,H3,I3,r3,q3⟩:=qx
 refine cF (he pins s3 σ H3 _ I3 q3) fun v s4 qx=>?_
 obtain⟨x4,H4,I4,r4,q4⟩:=qx
 refine cF (hp pins s4 σ H4 x3 x4 old v _ I4 r3 r4 q4) fun new s5 qx=>?_
 obtain⟨x5,H5,I5,r5,q5⟩:=qx
 exact cF (hs pins s5 σ H5 x1 x2 x5 ov iv new _ I5 r1 r2 r5 q5) fun _ s6 ⟨H6,I6,q6⟩=>⟨σ,H6,I6,q6⟩
def ipI (f:Int->Int->Int):WW:=fun x y H Q=>∃i j,x=.int i/\y=.int j/\Q (.int (f i j)) H
theorem Gd:ZK X .Add (ipI fun i j=>i+j):=by
 intro pins s σ H x y v u Q I r1 r2 h
 obtain⟨i,j,e1,e2,q⟩:=h
 subst e1; subst e2
 obtain⟨t,rfl⟩:=r1
 obtain⟨t',rfl⟩:=r2
 exact iadd_int ⟨.int _,H,I.tok _,⟨_,rfl⟩,q⟩
theorem Gb:ZK X .Sub (ipI fun i j=>i-j):=by
 intro pins s σ H x y v u Q I r1 r2 h
 obtain⟨i,j,e1,e2,q⟩:=h
 subst e1; subst e2
 obtain⟨t,rfl⟩:=r1
 obtain⟨t',rfl⟩:=r2
 exact isub_int ⟨.int _,H,I.tok _,⟨_,rfl⟩,q⟩
end
section
variable {X:Cx} {pos:Pos}
def Vb (c:TT) (tb:TS):TS:=fun D σ H=>∃W:Nat->St->Hp->Prop,(∃m,W m σ H)/\∀m σ H,W m σ H ->
 c σ H fun b H1=>if b=true then ∃N:St->Hp->Prop,(∀σ' H',N σ' H'->∃m',m'<m/\W m' σ' H')/\tb { D with nx:=N,ct:=N,bk:=D.nx } σ H1 else D.nx σ H1
theorem Cj {c:Expr} {body:List Stmt} {tc:TT} {tb:TS} (hp:PassesOwn (model X.prog X.w) X.A X.env X.xe) (hc:PT X c tc) (hb:wY X body tb):PS X (.While c body [] pos) (Vb tc tb):=by
 refine .mk ?_
 intro pins s σ H D I h
 obtain⟨W,⟨m0,w0⟩,turn⟩:=h
 refine wpAny_While (codeAny_whileLoop (fun n s'=>∃σ' H',Inv X pins σ' H' s'/\W n σ' H') ?_ m0 ⟨σ,H,I,w0⟩)
 rintro n s1 ⟨σ1,H1,I1,w1⟩
 refine Fb hp (cF (hc pins s1 σ1 H1 _ I1 (turn n σ1 H1 w1)) fun b s2 qx=>?_)
 obtain⟨H2,I2,q2⟩:=qx
 cases b with
 | true=>
  obtain⟨N,hN,q2⟩:=q2
  rw[aM rfl]
  refine Fb hp (cF (hb pins s2 σ1 H2 _ I2 q2) fun f s3 q3=>?_)
  cases f with
  | next=>
   obtain⟨σ3,H3,I3,n3⟩:=q3
   obtain⟨m',hm,w3⟩:=hN σ3 H3 n3
   exact⟨m',hm,σ3,H3,I3,w3⟩
  | cont=>
   obtain⟨σ3,H3,I3,n3⟩:=q3
   obtain⟨m',hm,w3⟩:=hN σ3 H3 n3
   exact⟨m',hm,σ3,H3,I3,w3⟩
  | brk=>exact q3
  | ret v=>exact q3
 | false=>
  rw[aK jD]
  exact xR ⟨σ1,H2,I2,q2⟩
end
structure It where
 go:Nat->Hp->Prop
 wD:Nat->Hp->V->Hp->Prop
 stop:Nat->Hp->Prop
def gH (X:Cx) (pins:List (Addr×Obj)) (H:Hp) (b:Addr):Prop:=
 H b=none/\b≠X.env.locals/\b∉X.fs/\(b∈X.ex\/X.s₀.heap.objs.size<=b)/\(∀x c,X.env.cells.lookup x=some c->c≠b)/\∀p∈X.pn++pins,p.1≠b
theorem Inv.vD {X:Cx} {pins:List (Addr×Obj)} {σ:St} {H H':Hp} {s:Shared} {b:Addr} (I:Inv X pins σ H s) (hb:s.heap.objs.size<=b) (hn:H' b=none):gH X pins H' b:=by
 refine⟨hn,BR (jU I.lt hb),I.aax hb,.inr (pF I.sz hb),fun x c e z=>?_,fun p hp z=>?_⟩
 ·obtain⟨v,q⟩:=I.cell x c e
  exact absurd (jU q.lt (by rw[z]; exact hb)) (sr _)
 ·exact absurd (jU (bW (I.pin p hp).1) (by rw[z]; exact hb)) (sr _)
structure Turn (P:Program) (w:World) (K:PySem.W.Frag) (tg:Expr) (J:It) (fp:List Addr) (it:Addr) (tn:Nat->Heap->Prop):Prop where
 mem:it∈fp
 obj:∀i h,tn i h->∀b∈fp,∃o,h.get? b=some o/\∀v,o.data≠.cell v
 keep:∀i h h',tn i h->(∀b∈fp,∀o,h.get? b=some o->h'.get? b=some o)->tn i h'
 item:∀(X:Cx),X.prog=P->X.w=w->X.K=K->X.calm=true->∀(i:Nat) (pins:List (Addr×Obj)) (s:Shared) (σ:St) (H:Hp) (E:Value->Shared->Prop),Inv X pins σ H s->(∀b∈fp,gH X pins H b)->tn i s.heap->J.go i H ->
  wpAny (model P w) X.A (pyNext (.ref it)) (fun r s1=>∃u,r=some u /\
   wpAny (model P w) X.A (letOwnedTupleGo tg (.ref it) u) (fun _ s2=>∃x H',Inv X pins σ H' s2/\RelV x u/\J.wD i H x H'/\tn (i+1) s2.heap/\∀b∈fp,H' b=none) E s1) E s
 done:∀(X:Cx),X.prog=P->X.w=w->X.K=K->X.calm=true->∀(i:Nat) (pins:List (Addr×Obj)) (s:Shared) (σ:St) (H:Hp) (E:Value->Shared->Prop),Inv X pins σ H s->(∀b∈fp,gH X pins H b)->tn i s.heap->J.stop i H ->
  wpAny (model P w) X.A (pyNext (.ref it)) (fun r s1=>r=none/\Inv X pins σ H s1) E s
 self:∀(A:Around) (i:Nat) (s:Shared) (Q:Value->Shared->Prop) (E:Value->Shared->Prop),tn i s.heap->Q (.ref it) s->wpAny (model P w) A (pyIter (.ref it)) Q E s
abbrev TI:=St->Hp->(It->Hp->Prop)->Prop
def PIE (X:Cx) (pins:List (Addr×Obj)) (σ:St) (tg:Expr) (R:It->Hp->Prop) (itv:Value) (s2:Shared):Prop:=
 ∃(it:Addr) (fp:List Addr) (tn:Nat->Heap->Prop) (J:It) (H':Hp),itv=.ref it/\Inv X pins σ H' s2/\Turn X.prog X.w X.K tg J fp it tn/\tn 0 s2.heap/\(∀b∈fp,gH X pins H' b)/\R J H'
structure PI (X:Cx) (tg iter:Expr) (wi:TI):Prop where
 mk ::
 go :
 ∀(pins:List (Addr×Obj)) (s:Shared) (σ:St) (H:Hp) (R:It->Hp->Prop),Inv X pins σ H s->wi σ H R ->
  wpAny (model X.prog X.w) X.A (eval iter X.env) (fun v s1=>wpAny (model X.prog X.w) X.A (pyIter v) (PIE X pins σ tg R) X.xe s1) X.xe s
instance {X:Cx} {tg iter:Expr} {wi:TI}:CoeFun (PI X tg iter wi) (fun _=>
 ∀(pins:List (Addr×Obj)) (s:Shared) (σ:St) (H:Hp) (R:It->Hp->Prop),Inv X pins σ H s->wi σ H R ->
  wpAny (model X.prog X.w) X.A (eval iter X.env) (fun v s1=>wpAny (model X.prog X.w) X.A (pyIter v) (PIE X pins σ tg R) X.xe s1) X.xe s):=⟨PI.go⟩
theorem Iu {M:Model} {A:Around} {E:Value->Shared->Prop} {s:Shared} {tg:Expr} {it:Addr} {u:Value} {o:Obj} {n:String} {vs:Array Value} {Q:Unit->Shared->Prop} (ho:s.heap.get? it=some o) (hc:o.cls=.type n) (hd:o.data=.fields vs)
  (hn:["enumerate","zip","dict_itemiterator","dict_reverseitemiterator","odict_iterator","itertools.zip_longest","itertools.pairwise"].contains n=false) (hQ:Q () s):wpAny M A (letOwnedTupleGo tg (.ref it) u) Q E s:=by
 unfold letOwnedTupleGo
 cases tg <;> first
  | exact bH hQ
  | (cases u <;> first
    | exact bH hQ
    | (refine aN (wpAny_load ho ?_)
       rw[hc,hd]
       show wpAny M A (if(["enumerate","zip","dict_itemiterator","dict_reverseitemiterator","odict_iterator","itertools.zip_longest","itertools.pairwise"].contains n&&vs[0]?==some (rawInt _))=true then _ else _) Q E s
       rw[aK (by intro h; rw[hn,Bool.false_and] at h; cases h)]
       exact bH hQ))
def U0 (K:PySem.W.Frag) (a:Addr):It:=
 ⟨fun i H=>∃xs x,eV K H a xs/\xs[i]?=some x,fun i H x H'=>H'=H/\∀xs,eV K H a xs->xs[i]?=some x,fun i H=>∃xs,eV K H a xs/\xs.length<=i⟩
def UW (K:PySem.W.Frag) (a:Addr):It:=
 ⟨fun i H=>∃xs x,cD K H a xs/\xs[i]?=some x,fun i H x H'=>H'=H/\∀xs,cD K H a xs->xs[i]?=some x,fun i H=>∃xs,cD K H a xs/\xs.length<=i⟩
def Ls (lo:Int) (n:Nat):It:=⟨fun i _=>i<n,fun i H x H'=>H'=H/\x=.int (lo+i),fun i _=>n<=i⟩
theorem Js {P:Program} {w:World} {K:PySem.W.Frag} {tg:Expr} (a it:Addr):Turn P w K tg (U0 K a) [it] it (fun i h=>h.IsListIter it a i) where
 mem:=by simp
 obj:=fun i h st b hb=>by
  have e:b=it:=by simpa using hb
  subst e
  obtain⟨o,e,c,d⟩:=st
  exact⟨o,e,fun v z=>by rw[d] at z; cases z⟩
 keep:=fun i h h' st k=>st.at fun o e=>k it (by simp) o e
 item:=by
  intro X hP hw hK hc i pins s σ H E I hf st hg
  subst hP hw hK
  obtain⟨xs,x,hq,hx⟩:=hg
  obtain⟨its,rv,p,hz⟩:=I.list hq
  obtain⟨u,hu,ru⟩:=rv.get hx
  obtain⟨f0,f1,f2,f3,f4,f5⟩:=hf it (by simp)
  refine wpAny_pyNext_list_item st p.isList (x:=u) (by simpa using hu) fun h' st' sb=>?_
  have I1:Inv X pins σ H { s with heap:=h' }:=I.turned (t':=s.toks) (fun b o hb e=>(sb.2 b hb).trans e) f0 f1 f3 f4 f5
  obtain⟨o,e,c,d⟩:=id st'
  exact⟨u,rfl,Iu (s:={ s with heap:=h' }) e c d (by decide) ⟨x,H,I1,ru,⟨rfl,fun ys hy=>by rw[I.Dc hy hq]; exact hx⟩,st',fun b hb=>(hf b hb).1⟩⟩
 done:=by
  intro X hP hw hK hc i pins s σ H E I hf st hg
  subst hP hw hK
  obtain⟨xs,hq,hx⟩:=hg
  obtain⟨its,rv,p,hz⟩:=I.list hq
  obtain⟨f0,f1,f2,f3,f4,f5⟩:=hf it (by simp)
  have hl:=rv.length
  exact wpAny_pyNext_list_end (I.ok.hd hc) st p.isList (by simp; omega) fun h' eb=>⟨rfl,I.turned (t':=s.toks) (fun b o hb e=>eb b o hb e) f0 f1 f3 f4 f5⟩
 self:=fun _ _ _ _ _ st h=>wpAny_pyIter_listiter st h
theorem Ef {P:Program} {w:World} {K:PySem.W.Frag} {tg:Expr} (a it:Addr):Turn P w K tg (UW K a) [it] it (fun i h=>h.IsTupleIter it a i) where
 mem:=by simp
 obj:=fun i h st b hb=>by
  have e:b=it:=by simpa using hb
  subst e
  obtain⟨o,e,c,d⟩:=st
  exact⟨o,e,fun v z=>by rw[d] at z; cases z⟩
 keep:=fun i h h' st k=>st.at fun o e=>k it (by simp) o e
 item:=by
  intro X hP hw hK hc i pins s σ H E I hf st hg
  subst hP hw hK
  obtain⟨xs,x,hq,hx⟩:=hg
  obtain⟨its,rv,p,hz⟩:=I.tuple hq
  obtain⟨u,hu,ru⟩:=rv.get hx
  obtain⟨f0,f1,f2,f3,f4,f5⟩:=hf it (by simp)
  refine wpAny_pyNext_tuple_item st (show s.heap.IsTuple a its.toArray from p) (x:=u) (by simpa using hu) fun h' st' sb=>?_
  have I1:Inv X pins σ H { s with heap:=h' }:=I.turned (t':=s.toks) (fun b o hb e=>(sb.2 b hb).trans e) f0 f1 f3 f4 f5
  obtain⟨o,e,c,d⟩:=id st'
  exact⟨u,rfl,Iu (s:={ s with heap:=h' }) e c d (by decide) ⟨x,H,I1,ru,⟨rfl,fun ys hy=>by rw[I.qp hy hq]; exact hx⟩,st',fun b hb=>(hf b hb).1⟩⟩
 done:=by
  intro X hP hw hK hc i pins s σ H E I hf st hg
  subst hP hw hK
  obtain⟨xs,hq,hx⟩:=hg
  obtain⟨its,rv,p,hz⟩:=I.tuple hq
  obtain⟨f0,f1,f2,f3,f4,f5⟩:=hf it (by simp)
  have hl:=rv.length
  exact wpAny_pyNext_tuple_end (I.ok.hd hc) st (show s.heap.IsTuple a its.toArray from p) (by simp; omega) fun h' eb=>⟨rfl,I.turned (t':=s.toks) (fun b o hb e=>eb b o hb e) f0 f1 f3 f4 f5⟩
 self:=fun _ _ _ _ _ st h=>wpAny_pyIter_tupleiter st h
theorem Eg {P:Program} {w:World} {K:PySem.W.Frag} {tg:Expr} (it:Addr) (lo:Int) (n:Nat):Turn P w K tg (Ls lo n) [it] it (fun i h=>IsRangeIter h it (lo+(i:Nat)*1) ((n:Int)-(i:Nat)) 1) where
 mem:=by simp
 obj:=fun i h st b hb=>by
  have e:b=it:=by simpa using hb
  subst e
  exact⟨_,st,fun v z=>by
   have z':Data.fields _=Data.cell v:=z
   cases z'⟩
 keep:=fun i h h' st k=>k it (by simp) _ st
 item:=by
  intro X hP hw hK hc i pins s σ H E I hf st hg
  subst hP hw hK
  obtain⟨f0,f1,f2,f3,f4,f5⟩:=hf it (by simp)
  have W:=Walks.range (prog:=X.prog) (w:=X.w) (I.ok.hd hc) it lo 1 n
  refine W.item i s _ _ hg st fun v h' tk hv st' kk=>?_
  obtain⟨t,rfl⟩:=hv
  have I1:Inv X pins σ H { s with heap:=h',toks:=tk }:=I.turned (fun b o hb e=>kk b o (by simpa using hb) e) f0 f1 f3 f4 f5
  refine⟨_,rfl,Iu (s:={ s with heap:=h',toks:=tk }) (n:="range_iterator") st' rfl rfl (by decide) ⟨.int (lo+i),H,I1,⟨t,?_⟩,⟨rfl,rfl⟩,st',fun b hb=>(hf b hb).1⟩⟩
  rw[Int.mul_one]
 done:=by
  intro X hP hw hK hc i pins s σ H E I hf st hg
  subst hP hw hK
  obtain⟨f0,f1,f2,f3,f4,f5⟩:=hf it (by simp)
  exact wpAny_pyNext_range_end (I.ok.hd hc) st (by have:n<=i:=hg; omega) fun h' eb=>⟨rfl,I.turned (t':=s.toks) (fun b o hb e=>eb b o hb e) f0 f1 f3 f4 f5⟩
 self:=fun _ _ _ _ _ st h=>Nq st h
section
variable {X:Cx} {tg:Expr}
def Dl (K:PySem.W.Frag) (tl:TE):TI:=fun σ H R=>tl σ H fun x H1=>∃a,x=.ref a/\(∃xs,eV K H1 a xs)/\R (U0 K a) H1
def wO (K:PySem.W.Frag) (tl:TE):TI:=fun σ H R=>tl σ H fun x H1=>∃a,x=.ref a/\(∃xs,cD K H1 a xs)/\R (UW K a) H1
theorem Rn {l:Expr} {tl:TE} (hl:PE X l tl):PI X tg l (Dl X.K tl):=by
 refine .mk ?_
 intro pins s σ H R I h
 refine cF (hl pins s σ H _ I h) fun v s1 qx=>?_
 obtain⟨x,H1,I1,r1,q1⟩:=qx
 obtain⟨a,e,⟨xs,hq⟩,q⟩:=q1
 subst e
 cases r1
 obtain⟨its,rv,p,hz⟩:=I1.list hq
 refine wpAny_pyIter_list p.isList ?_
 refine⟨s1.heap.objs.size,[s1.heap.objs.size],_,_,H1,rfl,I1.kept (t':=s1.toks) fun b o e=>gf _ e,Js a _,⟨_,dR _ rfl,rfl,rfl⟩,fun b hb=>?_,q⟩
 have e:b=s1.heap.objs.size:=by simpa using hb
 subst e
 exact I1.vD (cV _) (I1.hok.fresh (cV _))
theorem Vw {l:Expr} {tl:TE} (hl:PE X l tl):PI X tg l (wO X.K tl):=by
 refine .mk ?_
 intro pins s σ H R I h
 refine cF (hl pins s σ H _ I h) fun v s1 qx=>?_
 obtain⟨x,H1,I1,r1,q1⟩:=qx
 obtain⟨a,e,⟨xs,hq⟩,q⟩:=q1
 subst e
 cases r1
 obtain⟨its,rv,p,hz⟩:=I1.tuple hq
 refine JR (show s1.heap.IsTuple a its.toArray from p) ?_
 refine⟨s1.heap.objs.size,[s1.heap.objs.size],_,_,H1,rfl,I1.kept (t':=s1.toks) fun b o e=>gf _ e,Ef a _,⟨_,dR _ rfl,rfl,rfl⟩,fun b hb=>?_,q⟩
 have e:b=s1.heap.objs.size:=by simpa using hb
 subst e
 exact I1.vD (cV _) (I1.hok.fresh (cV _))
theorem Nh {pins:List (Addr×Obj)} {σ:St} {H:Hp} {s:Shared} {R:It->Hp->Prop} {E:Value->Shared->Prop} {lo hi:Int} {t u v:Tok} {tk:Nat} (I:Inv X pins σ H s) (h1:-(2 ^ 62)<=lo) (h2:lo<2 ^ 62) (h3:-(2 ^ 62)<=hi) (h4:hi<2 ^ 62)
  (q:R (Ls lo (hi-lo).toNat) H):wpAny (model X.prog X.w) X.A (pyIter (.ref s.heap.objs.size)) (PIE X pins σ tg R) E { s with heap:=s.heap.push { cls:=.type "range",data:=.fields #[.int lo t,.int hi u,.int 1 v] },toks:=tk }:=by
 refine wpAny_pyIter_range (IsRange.new ..) (small_one h1 h2 h3 h4) ?_
 have I1:Inv X pins σ H { s with heap:=s.heap.push { cls:=.type "range",data:=.fields #[.int lo t,.int hi u,.int 1 v] },toks:=tk }:=I.kept fun b o e=>gf _ e
 refine⟨(s.heap.push { cls:=.type "range",data:=.fields #[.int lo t,.int hi u,.int 1 v] }).objs.size,[(s.heap.push { cls:=.type "range",data:=.fields #[.int lo t,.int hi u,.int 1 v] }).objs.size],_,_,H,rfl,
  I1.kept (t':=tk) fun b o e=>gf _ e,Eg _ lo (hi-lo).toNat,?_,fun b hb=>?_,q⟩
 ·have e1:lo+((0:Nat):Int)*1=lo:=by simp
  have e2:(((hi-lo).toNat:Nat):Int)-((0:Nat):Int)=Builtin.Range.rangeSize lo hi 1:=by rw[rangeSize_one]; split <;> omega
  show IsRangeIter _ _ (lo+((0:Nat):Int)*1) ((((hi-lo).toNat:Nat):Int)-((0:Nat):Int)) 1
  rw[e1,e2]
  exact dR _ rfl
 ·have e:b=(s.heap.push { cls:=.type "range",data:=.fields #[.int lo t,.int hi u,.int 1 v] }).objs.size:=by simpa using hb
  subst e
  exact I1.vD (cV _) (I1.hok.fresh (cV _))
def Dk (ta:TA):TI:=fun σ H R=>ta σ H fun vs H1=>∃j:Int,vs=[.int j]/\-(2 ^ 62)<=j/\j<2 ^ 62/\R (Ls 0 j.toNat) H1
theorem fu {a:Expr} {ta:TA} {p pos:Pos} (hg:Gl X "range") (hm:X.mg "range" = none) (ha:PA X [a] ta) (hs:starEach [a] X.env=[(false,eval a X.env)]:=by rfl):PI X tg (.Call (.Name "range" p) [a] [] pos) (Dk ta):=by
 refine .mk ?_
 intro pins s σ H R I h
 refine Call_ (iJ I hg hm boot_range (PyProof.Rows.callWith_type1 (cF (ha pos pins s σ H _ I h) fun us s1 ⟨vs,H1,I1,r1,q1⟩=>?_) hs rfl))
 obtain⟨j,e,q1,q2,q⟩:=q1
 subst e
 cases r1 with
 | cons r rr=>
  cases rr
  obtain⟨t,rfl⟩:=r
  exact call_range_1 (Nh I1 (by omega) (by omega) q1 q2 (by simpa using q))
def Be (wi:TI) (g:TG) (tb:TS):TS:=fun D σ H=>wi σ H fun J H1=>∃W:Nat->Nat->St->Hp->Prop,(∃m,W 0 m σ H1)/\∀i m σ H,W i m σ H ->
 (J.stop i H/\D.nx σ H)\/(J.go i H/\∃N:St->Hp->Prop,(∀σ' H',N σ' H'->∃m',m'<m/\W (i+1) m' σ' H')/\∀x H',J.wD i H x H'->g x σ H' fun σ2 H2=>tb { D with nx:=N,ct:=N,bk:=D.nx } σ2 H2)
def zx (fp:List Addr) (h:Heap):List (Addr×Obj):=fp.filterMap fun b=>(h.get? b).map fun o=>(b,o)
theorem cL {fp:List Addr} {h:Heap} {b:Addr} {o:Obj} (hb:b∈fp) (e:h.get? b=some o):(b,o)∈zx fp h:=List.mem_filterMap.mpr ⟨b,hb,by rw[e]; rfl⟩
theorem Ke {fp:List Addr} {h:Heap} {p:Addr×Obj} (hp:p∈zx fp h):p.1∈fp/\h.get? p.1=some p.2:=by
 obtain⟨b,hb,e⟩:=List.mem_filterMap.mp hp
 cases q:h.get? b with
 | none=>rw[q] at e; cases e
 | some o=>
  rw[q] at e
  have e':(b,o)=p:=Option.some.inj e
  subst e'
  exact⟨hb,q⟩
theorem Inv.pinned {pins:List (Addr×Obj)} {σ:St} {H:Hp} {s:Shared} {fp:List Addr} (I:Inv X pins σ H s) (hf:∀b∈fp,gH X pins H b) (ho:∀b∈fp,∃o,s.heap.get? b=some o/\∀v,o.data≠.cell v):Inv X (pins++zx fp s.heap) σ H s:=
 I.Hu fun p hp=>(m7.mp hp).elim (fun z=>I.pin p (gZ _ z)) fun z=>by
  obtain⟨hb,e⟩:=Ke z
  obtain⟨f0,f1,f2,_⟩:=hf p.1 hb
  obtain⟨o,e',d⟩:=ho p.1 hb
  rw[e] at e'; cases e'
  exact⟨e,f0,f1,f2,d⟩
theorem Inv.gM {pins pl:List (Addr×Obj)} {σ:St} {H:Hp} {s:Shared} (I:Inv X (pins++pl) σ H s):Inv X pins σ H s:=I.Hu fun p hp=>I.pin p (gZ _ (Ho _ hp))
theorem jW {iter:Expr} {body:List Stmt} {wi:TI} {g:TG} {tb:TS} {pos:Pos} (hp:PassesOwn (model X.prog X.w) X.A X.env X.xe) (hc:X.calm=true) (hi:PI X tg iter wi) (hg:PG X tg g) (hb:wY X body tb)
  (hs:∀x,foldedSetIterable iter X.env x=pure x:=by intro _; rfl):PS X (.For tg iter body [] pos) (Be wi g tb):=by
 refine .mk ?_
 intro pins s σ H D I h
 refine wpAny_For (cF (hi pins s σ H _ I h) fun v s1 h1=>cF h1 fun itv s2 h2=>?_) hs
 obtain⟨it,fp,tn,J,H2,e,I2,T,st2,f2,W,⟨m0,w0⟩,turn⟩:=h2
 subst e
 have stat:∀{H':Hp},(∀b∈fp,H' b=none)->∀b∈fp,gH X pins H' b:=fun hn b hb=>⟨hn b hb,(f2 b hb).2⟩
 refine codeAny_forLoop_any (fun n s'=>∃i σ' H',Inv X pins σ' H' s'/\tn i s'.heap/\(∀b∈fp,H' b=none)/\W i n σ' H') ?_ m0 ⟨0,σ,H2,I2,st2,fun b hb=>(f2 b hb).1,w0⟩
 rintro n s3 ⟨i,σ3,H3,I3,st3,fr3,w3⟩
 rcases turn i n σ3 H3 w3 with⟨stop,qn⟩ | ⟨go,N,hN,step⟩
 ·refine Fb hp (cF (T.done X rfl rfl rfl hc i pins s3 σ3 H3 X.xe I3 (stat fr3) st3 stop) fun r s4 qx=>?_)
  obtain⟨hr,I4⟩:=qx
  subst hr
  exact xR ⟨σ3,H3,I4,qn⟩
 ·refine Fb hp (cF (T.item X rfl rfl rfl hc i pins s3 σ3 H3 X.xe I3 (stat fr3) st3 go) fun r s4 qx=>?_)
  obtain⟨u,hr,h4⟩:=qx
  subst hr
  refine Fb hp (cF h4 fun _ s5 qx=>?_)
  obtain⟨x,H5,I5,r5,y5,QX,Wc⟩:=qx
  have I5':=I5.pinned (stat Wc) (T.obj _ _ QX)
  refine Fb hp (cF (hg _ s5 σ3 H5 x u _ I5' r5 (step x H5 y5)) fun _ s6 qx=>?_)
  obtain⟨σ6,H6,I6,q6⟩:=qx
  refine Fb hp (cF (hb _ s6 σ6 H6 _ I6 q6) fun f s7 q7=>?_)
  have again:∀{σ7:St} {H7:Hp},Inv X (pins++zx fp s5.heap) σ7 H7 s7->N σ7 H7->∃m,m<n/\∃i σ' H',Inv X pins σ' H' s7/\tn i s7.heap/\(∀b∈fp,H' b=none)/\W i m σ' H':=fun {σ7 H7} I7 n7=>by
   obtain⟨m',hm,w7⟩:=hN σ7 H7 n7
   refine⟨m',hm,i+1,σ7,H7,I7.gM,T.keep _ _ _ QX fun b hb o e=>(I7.pin (b,o) (gZ _ (gZ _ (cL hb e)))).1,fun b hb=>?_,w7⟩
   obtain⟨o,e,d⟩:=T.obj _ _ QX b hb
   exact(I7.pin (b,o) (gZ _ (gZ _ (cL hb e)))).2.1
  cases f with
  | next=>obtain⟨σ7,H7,I7,n7⟩:=q7; exact again I7 n7
  | cont=>obtain⟨σ7,H7,I7,n7⟩:=q7; exact again I7 n7
  | brk=>obtain⟨σ7,H7,I7,q7⟩:=q7; exact⟨σ7,H7,I7.gM,q7⟩
  | ret v=>obtain⟨x7,σ7,H7,I7,r7,q7⟩:=q7; exact⟨x7,σ7,H7,I7.gM,r7,q7⟩
end
theorem Pn {K:PySem.W.Frag} {a:Addr} {xs:List V} {g:TG} {tb:TS} {D:Ends} {σ:St} {H:Hp} (Pv:Nat->St->Hp->Prop) (h0:Pv 0 σ H) (hl:∀i σ H,i<=xs.length->Pv i σ H->eV K H a xs)
  (hs:∀i x σ H,xs[i]?=some x->Pv i σ H->g x σ H fun σ2 H2=>tb { D with nx:=Pv (i+1),ct:=Pv (i+1),bk:=D.nx } σ2 H2) (hd:∀σ H,Pv xs.length σ H->D.nx σ H) :
  ∃W:Nat->Nat->St->Hp->Prop,(∃m,W 0 m σ H)/\∀i m σ H,W i m σ H ->
   ((U0 K a).stop i H/\D.nx σ H)\/((U0 K a).go i H/\∃N:St->Hp->Prop,(∀σ' H',N σ' H'->∃m',m'<m/\W (i+1) m' σ' H')/\∀x H',(U0 K a).wD i H x H'->g x σ H' fun σ2 H2=>tb { D with nx:=N,ct:=N,bk:=D.nx } σ2 H2):=by
 refine⟨fun i m σ H=>m=xs.length-i/\i<=xs.length/\Pv i σ H,⟨xs.length,by simp,gr _,h0⟩,?_⟩
 rintro i m σ H ⟨rfl,hi,p⟩
 have q:=hl i σ H hi p
 by_cases hlt:i<xs.length
 ·refine .inr ⟨⟨xs,xs[i],q,by simp[hlt]⟩,Pv (i+1),fun σ' H' p'=>⟨xs.length-(i+1),by omega,rfl,hlt,p'⟩,fun x H' y=>?_⟩
  obtain⟨e,y⟩:=y
  subst e
  exact hs i x σ _ (y xs q) p
 ·have e:i=xs.length:=by omega
  subst e
  exact .inl ⟨⟨xs,q,cV _⟩,hd σ H p⟩
theorem Ss {K:PySem.W.Frag} {a:Addr} {xs:List V} {g:TG} {tb:TS} {D:Ends} {σ:St} {H:Hp} (Pv:Nat->St->Hp->Prop) (h0:Pv 0 σ H) (hl:∀i σ H,i<=xs.length->Pv i σ H->cD K H a xs)
  (hs:∀i x σ H,xs[i]?=some x->Pv i σ H->g x σ H fun σ2 H2=>tb { D with nx:=Pv (i+1),ct:=Pv (i+1),bk:=D.nx } σ2 H2) (hd:∀σ H,Pv xs.length σ H->D.nx σ H) :
  ∃W:Nat->Nat->St->Hp->Prop,(∃m,W 0 m σ H)/\∀i m σ H,W i m σ H ->
   ((UW K a).stop i H/\D.nx σ H)\/((UW K a).go i H/\∃N:St->Hp->Prop,(∀σ' H',N σ' H'->∃m',m'<m/\W (i+1) m' σ' H')/\∀x H',(UW K a).wD i H x H'->g x σ H' fun σ2 H2=>tb { D with nx:=N,ct:=N,bk:=D.nx } σ2 H2):=by
 refine⟨fun i m σ H=>m=xs.length-i/\i<=xs.length/\Pv i σ H,⟨xs.length,by simp,gr _,h0⟩,?_⟩
 rintro i m σ H ⟨rfl,hi,p⟩
 have q:=hl i σ H hi p
 by_cases hlt:i<xs.length
 ·refine .inr ⟨⟨xs,xs[i],q,by simp[hlt]⟩,Pv (i+1),fun σ' H' p'=>⟨xs.length-(i+1),by omega,rfl,hlt,p'⟩,fun x H' y=>?_⟩
  obtain⟨e,y⟩:=y
  subst e
  exact hs i x σ _ (y xs q) p
 ·have e:i=xs.length:=by omega
  subst e
  exact .inl ⟨⟨xs,q,cV _⟩,hd σ H p⟩
theorem yh {lo:Int} {n:Nat} {g:TG} {tb:TS} {D:Ends} {σ:St} {H:Hp} (Pv:Nat->St->Hp->Prop) (h0:Pv 0 σ H)
  (hs:∀i σ H,i<n->Pv i σ H->g (.int (lo+i)) σ H fun σ2 H2=>tb { D with nx:=Pv (i+1),ct:=Pv (i+1),bk:=D.nx } σ2 H2) (hd:∀σ H,Pv n σ H->D.nx σ H) :
  ∃W:Nat->Nat->St->Hp->Prop,(∃m,W 0 m σ H)/\∀i m σ H,W i m σ H ->
   ((Ls lo n).stop i H/\D.nx σ H)\/((Ls lo n).go i H/\∃N:St->Hp->Prop,(∀σ' H',N σ' H'->∃m',m'<m/\W (i+1) m' σ' H')/\∀x H',(Ls lo n).wD i H x H'->g x σ H' fun σ2 H2=>tb { D with nx:=N,ct:=N,bk:=D.nx } σ2 H2):=by
 refine⟨fun i m σ H=>m=n-i/\i<=n/\Pv i σ H,⟨n,by simp,gr _,h0⟩,?_⟩
 rintro i m σ H ⟨rfl,hi,p⟩
 by_cases hlt:i<n
 ·refine .inr ⟨hlt,Pv (i+1),fun σ' H' p'=>⟨n-(i+1),by omega,rfl,hlt,p'⟩,fun x H' y=>?_⟩
  obtain⟨e,y⟩:=y
  subst e y
  exact hs i σ _ hlt p
 ·have e:i=n:=by omega
  subst e
  exact .inl ⟨cV _,hd σ H p⟩
abbrev R2:=V->V->Hp->VK->Prop
structure oU (X:Cx) (f:Value->Value->Sem Value) (r:R2):Prop where
 mk ::
 go :
 ∀(pins:List (Addr×Obj)) (s:Shared) (σ:St) (H:Hp) (x y:V) (v u:Value) (Q:VK),Inv X pins σ H s->RelV x v->RelV y u->r x y H Q ->
  wpAny (model X.prog X.w) X.A (f v u) (EP X pins σ Q) X.xe s
instance {X:Cx} {f:Value->Value->Sem Value} {r:R2}:CoeFun (oU X f r) (fun _=>
 ∀(pins:List (Addr×Obj)) (s:Shared) (σ:St) (H:Hp) (x y:V) (v u:Value) (Q:VK),Inv X pins σ H s->RelV x v->RelV y u->r x y H Q ->
  wpAny (model X.prog X.w) X.A (f v u) (EP X pins σ Q) X.xe s):=⟨oU.go⟩
structure YX (X:Cx) (f:Value->Sem Value) (r:V->Hp->VK->Prop):Prop where
 mk ::
 go :
 ∀(pins:List (Addr×Obj)) (s:Shared) (σ:St) (H:Hp) (x:V) (v:Value) (Q:VK),Inv X pins σ H s->RelV x v->r x H Q ->
  wpAny (model X.prog X.w) X.A (f v) (EP X pins σ Q) X.xe s
instance {X:Cx} {f:Value->Sem Value} {r:V->Hp->VK->Prop}:CoeFun (YX X f r) (fun _=>
 ∀(pins:List (Addr×Obj)) (s:Shared) (σ:St) (H:Hp) (x:V) (v:Value) (Q:VK),Inv X pins σ H s->RelV x v->r x H Q ->
  wpAny (model X.prog X.w) X.A (f v) (EP X pins σ Q) X.xe s):=⟨YX.go⟩
structure cX (X:Cx) (f:Value) (r:List V->Hp->VK->Prop):Prop where
 mk ::
 go :
 ∀(pins:List (Addr×Obj)) (s:Shared) (σ:St) (H:Hp) (xs:List V) (us:List Value) (Q:VK),Inv X pins σ H s->Vals xs us->r xs H Q ->
  wpAny (model X.prog X.w) X.A (call f us) (EP X pins σ Q) X.xe s
instance {X:Cx} {f:Value} {r:List V->Hp->VK->Prop}:CoeFun (cX X f r) (fun _=>
 ∀(pins:List (Addr×Obj)) (s:Shared) (σ:St) (H:Hp) (xs:List V) (us:List Value) (Q:VK),Inv X pins σ H s->Vals xs us->r xs H Q ->
  wpAny (model X.prog X.w) X.A (call f us) (EP X pins σ Q) X.xe s):=⟨cX.go⟩
def Vc (r:R2) (ta tb:TE):TE:=fun σ H Q=>ta σ H fun x H1=>tb σ H1 fun y H2=>r x y H2 Q
def tUn (r:V->Hp->VK->Prop) (ta:TE):TE:=fun σ H Q=>ta σ H fun x H1=>r x H1 Q
def rI (C:Int->Int->Prop) (g:Int->Int->V):R2:=fun x y H Q=>∃i j,x=.int i/\y=.int j/\C i j/\Q (g i j) H
def Ue (g:Int->Int->V):R2:=fun x y H Q=>∃i j,x=.int i/\y=.int j/\Q (g i j) H
def rU (g:Int->V):V->Hp->VK->Prop:=fun x H Q=>∃i,x=.int i/\Q (g i) H
section
variable {X:Cx} {a b c:Expr} {ta tb tc:TE} {pos:Pos}
theorem Wl (ha:PE X a ta) (hb:PE X b tb) {pins:List (Addr×Obj)} {s:Shared} {σ:St} {H:Hp} {R:V->V->Hp->Prop} (I:Inv X pins σ H s)
  (h:ta σ H fun x H1=>tb σ H1 fun y H2=>R x y H2) {Q:Value->Shared->Prop} {f:Value->Value->Sem Value}
  (hf:∀v u s2 x y H2,Inv X pins σ H2 s2->RelV x v->RelV y u->R x y H2->wpAny (model X.prog X.w) X.A (f v u) Q X.xe s2) :
  wpAny (model X.prog X.w) X.A (eval a X.env) (fun v s₁=>wpAny (model X.prog X.w) X.A (eval b X.env) (fun u s₂=>wpAny (model X.prog X.w) X.A (f v u) Q X.xe s₂) X.xe s₁) X.xe s:=by
 refine cF (ha pins s σ H _ I h) fun v s1 qx=>?_
 obtain⟨x,H1,I1,r1,q1⟩:=qx
 refine cF (hb pins s1 σ H1 _ I1 q1) fun u s2 qx=>?_
 obtain⟨y,H2,I2,r2,q2⟩:=qx
 exact hf v u s2 x y H2 I2 r1 r2 q2
theorem aY {op:Operator} {r:R2} (ho:oU X (binaryOp op) r) (ha:PE X a ta) (hb:PE X b tb):PE X (.BinOp a op b pos) (Vc r ta tb):=by
 refine .mk ?_
 intro pins s σ H Q I h
 exact wpAny_BinOp (Wl ha hb I h fun v u s2 x y H2 I2 rx ry q=>ho pins s2 σ H2 x y v u Q I2 rx ry q)
theorem nH {op:UnaryOp} {r:V->Hp->VK->Prop} (ho:YX X (unaryOp op) r) (ha:PE X a ta):PE X (.UnaryOp op a pos) (tUn r ta):=by
 refine .mk ?_
 intro pins s σ H Q I h
 exact UnaryOp_ (cF (ha pins s σ H _ I h) fun v s1 ⟨x,H1,I1,r1,q1⟩=>ho pins s1 σ H1 x v Q I1 r1 q1)
theorem Yk {f:Value->Value->Sem Value} {C:Int->Int->Prop} {g:Int->Int->Int}
  (rule:∀(i j:Int) (t u:Tok) (s:Shared) (Q:Value->Shared->Prop) (E:Value->Shared->Prop),C i j->Q (.int (g i j) s.toks) { s with toks:=s.toks+1 }->wpAny (model X.prog X.w) X.A (f (.int i t) (.int j u)) Q E s) :
  oU X f (rI C fun i j=>.int (g i j)):=by
 refine .mk ?_
 intro pins s σ H x y v u Q I rx ry h
 obtain⟨i,j,rfl,rfl,hc,q⟩:=h
 obtain⟨t,rfl⟩:=rx
 obtain⟨t',rfl⟩:=ry
 exact rule i j t t' s _ _ hc ⟨.int (g i j),H,I.tok _,⟨_,rfl⟩,q⟩
theorem Yj {f:Value->Value->Sem Value} {g:Int->Int->Int}
  (rule:∀(i j:Int) (t u:Tok) (s:Shared) (Q:Value->Shared->Prop) (E:Value->Shared->Prop),Q (.int (g i j) s.toks) { s with toks:=s.toks+1 }->wpAny (model X.prog X.w) X.A (f (.int i t) (.int j u)) Q E s) :
  oU X f (Ue fun i j=>.int (g i j)):=by
 refine .mk ?_
 intro pins s σ H x y v u Q I rx ry h
 obtain⟨i,j,rfl,rfl,q⟩:=h
 obtain⟨t,rfl⟩:=rx
 obtain⟨t',rfl⟩:=ry
 exact rule i j t t' s _ _ ⟨.int (g i j),H,I.tok _,⟨_,rfl⟩,q⟩
theorem VF {f:Value->Value->Sem Value} {g:Int->Int->Bool}
  (rule:∀(i j:Int) (t u:Tok) (s:Shared) (Q:Value->Shared->Prop) (E:Value->Shared->Prop),Q (.bool (g i j)) s->wpAny (model X.prog X.w) X.A (f (.int i t) (.int j u)) Q E s) :
  oU X f (Ue fun i j=>.bl (g i j)):=by
 refine .mk ?_
 intro pins s σ H x y v u Q I rx ry h
 obtain⟨i,j,rfl,rfl,q⟩:=h
 obtain⟨t,rfl⟩:=rx
 obtain⟨t',rfl⟩:=ry
 exact rule i j t t' s _ _ ⟨.bl (g i j),H,I,rfl,q⟩
def abI (i j:Int):Prop:=0<j/\j<1073741824
def abH (i j:Int):Prop:=0<=j/\j<=1000000/\i.natAbs<2 ^ 64
def Th (i j:Int):Prop:=(-(2 ^ 64)<i/\i<2 ^ 64)\/(-(2 ^ 64)<j/\j<2 ^ 64)
theorem Th.ok {i j:Int} (h:Th i j):IntMulOk i j:=by
 rcases h with⟨h1,h2⟩ | ⟨h1,h2⟩
 ·exact .of_left (intBits_le_64 h1 h2)
 ·exact .of_right (intBits_le_64 h1 h2)
theorem bI:oU X (binaryOp .Add) (Ue fun i j=>.int (i+j)):=Yj fun _ _ _ _ _ _ _ q=>add_int q
theorem jm:oU X (binaryOp .Sub) (Ue fun i j=>.int (i-j)):=Yj fun _ _ _ _ _ _ _ q=>sub_int q
theorem j0:oU X (binaryOp .Mult) (rI Th fun i j=>.int (i*j)):=Yk fun _ _ _ _ _ _ _ hc q=>mul_int q hc.ok
theorem Rx:oU X (binaryOp .FloorDiv) (rI abI fun i j=>.int (i / j)):=Yk fun i j _ _ _ _ _ hc q=>by
 have h1:(0:Int)<j:=hc.1
 have h2:j<1073741824:=hc.2
 exact floordiv_int (by omega) (by rw[Int.fdiv_eq_ediv_of_nonneg i (by omega)]; exact q) (.inl (PyProof.noPylong_small (by omega)))
theorem j4:oU X (binaryOp .Mod) (rI (fun _ j=>0<j) fun i j=>.int (i % j)):=Yk fun i j _ _ _ _ _ hc q=>by
 have h1:(0:Int)<j:=hc
 exact mod_int' (by omega) (by rw[Int.fmod_eq_emod_of_nonneg i (by omega)]; exact q)
theorem zL:oU X (binaryOp .Pow) (rI abH fun i j=>.int (i ^ j.toNat)):=Yk fun _ _ _ _ _ _ _ hc q=>pow_int_small hc.1 hc.2.1 hc.2.2 q
theorem unI {f:Value->Sem Value} {g:Int->Int}
  (rule:∀(i:Int) (t:Tok) (s:Shared) (Q:Value->Shared->Prop) (E:Value->Shared->Prop),Q (.int (g i) s.toks) { s with toks:=s.toks+1 }->wpAny (model X.prog X.w) X.A (f (.int i t)) Q E s) :
  YX X f (rU fun i=>.int (g i)):=by
 refine .mk ?_
 intro pins s σ H x v Q I rx h
 obtain⟨i,rfl,q⟩:=h
 obtain⟨t,rfl⟩:=rx
 exact rule i t s _ _ ⟨.int (g i),H,I.tok _,⟨_,rfl⟩,q⟩
theorem je:YX X (unaryOp .USub) (rU fun i=>.int (-i)):=unI fun _ _ _ _ _ q=>neg_int q
end
def JC:V->V->Bool
 | .non,.non=>true | .non,.int _=>true | .int _,.non=>true | .non,.bl _=>true | .bl _,.non=>true | .non,.str _=>true | .str _,.non=>true
 | .int _,.int _=>true | .bl _,.bl _=>true | .str _,.str _=>true | .Lp _,.Lp _=>true
 | .int _,.str _=>true | .str _,.int _=>true | .bl _,.str _=>true | .str _,.bl _=>true
 | _,_=>false
def Yb:R2:=fun x y H Q=>JC x y=true/\Q (.bl (decide (x=y))) H
def X7:R2:=fun x y H Q=>JC x y=true/\Q (.bl (!decide (x=y))) H
theorem IW {i j:Int}:decide (V.int i=V.int j)=(i==j):=by
 rw[Bool.eq_iff_iff]
 simp
theorem PL {i j:Bool}:decide (V.bl i=V.bl j)=(i==j):=by
 rw[Bool.eq_iff_iff]
 simp
theorem IV {i j:Str}:decide (V.str i=V.str j)=(i==j):=by
 rw[Bool.eq_iff_iff]
 simp
theorem I_ {i j:Array UInt8}:decide (V.Lp i=V.Lp j)=(i.toList==j.toList):=by
 rw[Bool.eq_iff_iff]
 cases i
 cases j
 simp
section
variable {X:Cx} {a b c:Expr} {ta tb tc:TE} {pos:Pos}
theorem bG {pins:List (Addr×Obj)} {σ:St} {H:Hp} {s:Shared} {Q:VK} {k k':Bool} (I:Inv X pins σ H s) (q:Q (.bl k) H) (e:k=k'):EP X pins σ Q (.bool k') s:=by
 subst e
 exact⟨.bl k,H,I,rfl,q⟩
theorem kY:oU X (compareOp .Eq) Yb:=by
 refine .mk ?_
 intro pins s σ H x y v u Q I rx ry h
 obtain⟨hs,q⟩:=h
 cases x with
 | non=>
  cases rx
  cases y with
  | non=>cases ry; exact PySem.EqNone.eq_none_none (bG I q (by simp))
  | bl j=>cases ry; exact PySem.EqNone.eq_none_bool (bG I q (by simp))
  | int j=>obtain⟨t',rfl⟩:=ry; exact PySem.EqNone.eq_none_int (bG I q (by simp))
  | str j=>obtain⟨t',rfl⟩:=ry; exact PySem.EqNone.eq_none_str (bG I q (by simp))
  | _=>exact absurd (show false=true from hs) jD
 | bl i=>
  cases rx
  cases y with
  | non=>cases ry; exact PySem.EqNone.eq_bool_none (bG I q (by simp))
  | bl j=>cases ry; exact eq_bool (bG I q PL)
  | str j=>obtain⟨t',rfl⟩:=ry; exact PySem.EqMixed.eq_bool_str (bG I q (by simp))
  | _=>exact absurd (show false=true from hs) jD
 | int i=>
  obtain⟨t,rfl⟩:=rx
  cases y with
  | non=>cases ry; exact PySem.EqNone.eq_int_none (bG I q (by simp))
  | int j=>obtain⟨t',rfl⟩:=ry; exact eq_int (bG I q IW)
  | str j=>obtain⟨t',rfl⟩:=ry; exact PySem.EqMixed.eq_int_str (bG I q (by simp))
  | _=>exact absurd (show false=true from hs) jD
 | str i=>
  obtain⟨t,rfl⟩:=rx
  cases y with
  | non=>cases ry; exact PySem.EqNone.eq_str_none (bG I q (by simp))
  | bl j=>cases ry; exact PySem.EqMixed.eq_str_bool (bG I q (by simp))
  | int j=>obtain⟨t',rfl⟩:=ry; exact PySem.EqMixed.eq_str_int (bG I q (by simp))
  | str j=>obtain⟨t',rfl⟩:=ry; exact eq_str (bG I q IV)
  | _=>exact absurd (show false=true from hs) jD
 | Lp i=>
  obtain⟨t,rfl⟩:=rx
  cases y with
  | Lp j=>obtain⟨t',rfl⟩:=ry; exact PySem.W.eq_bytes (bG I q I_)
  | _=>exact absurd (show false=true from hs) jD
 | _=>cases y <;> exact absurd (show false=true from hs) jD
theorem HF:oU X (compareOp .NotEq) X7:=by
 refine .mk ?_
 intro pins s σ H x y v u Q I rx ry h
 obtain⟨hs,q⟩:=h
 cases x with
 | non=>
  cases rx
  cases y with
  | non=>cases ry; exact PySem.EqNone.ne_none_none (bG I q (by simp))
  | bl j=>cases ry; exact PySem.EqNone.ne_none_bool (bG I q (by simp))
  | int j=>obtain⟨t',rfl⟩:=ry; exact PySem.EqNone.ne_none_int (bG I q (by simp))
  | str j=>obtain⟨t',rfl⟩:=ry; exact PySem.EqNone.ne_none_str (bG I q (by simp))
  | _=>exact absurd (show false=true from hs) jD
 | bl i=>
  cases rx
  cases y with
  | non=>cases ry; exact PySem.EqNone.ne_bool_none (bG I q (by simp))
  | bl j=>cases ry; exact ne_bool (bG I q (gW not PL))
  | str j=>obtain⟨t',rfl⟩:=ry; exact PySem.EqMixed.ne_bool_str (bG I q (by simp))
  | _=>exact absurd (show false=true from hs) jD
 | int i=>
  obtain⟨t,rfl⟩:=rx
  cases y with
  | non=>cases ry; exact PySem.EqNone.ne_int_none (bG I q (by simp))
  | int j=>obtain⟨t',rfl⟩:=ry; exact ne_int (bG I q (gW not IW))
  | str j=>obtain⟨t',rfl⟩:=ry; exact PySem.EqMixed.ne_int_str (bG I q (by simp))
  | _=>exact absurd (show false=true from hs) jD
 | str i=>
  obtain⟨t,rfl⟩:=rx
  cases y with
  | non=>cases ry; exact PySem.EqNone.ne_str_none (bG I q (by simp))
  | bl j=>cases ry; exact PySem.EqMixed.ne_str_bool (bG I q (by simp))
  | int j=>obtain⟨t',rfl⟩:=ry; exact PySem.EqMixed.ne_str_int (bG I q (by simp))
  | str j=>obtain⟨t',rfl⟩:=ry; exact ne_str (bG I q (gW not IV))
  | _=>exact absurd (show false=true from hs) jD
 | Lp i=>
  obtain⟨t,rfl⟩:=rx
  cases y with
  | Lp j=>obtain⟨t',rfl⟩:=ry; exact PySem.W.ne_bytes (bG I q (gW not I_))
  | _=>exact absurd (show false=true from hs) jD
 | _=>cases y <;> exact absurd (show false=true from hs) jD
theorem Cu:oU X (compareOp .Lt) (Ue fun i j=>.bl (decide (i<j))):=VF fun _ _ _ _ _ _ _ q=>lt_int q
theorem lX:oU X (compareOp .Gt) (Ue fun i j=>.bl (decide (j<i))):=VF fun _ _ _ _ _ _ _ q=>gt_int q
theorem Um:oU X (compareOp .GtE) (Ue fun i j=>.bl (decide (j<=i))):=VF fun _ _ _ _ _ _ _ q=>ge_int q
theorem zM:oU X (compareOp .Is) (fun x y H Q=>y=.non/\Q (.bl (decide (x=.non))) H):=by
 refine .mk ?_
 intro pins s σ H x y v u Q I rx ry h
 obtain⟨rfl,q⟩:=h
 cases ry
 refine is_none_gen (bG I q ?_)
 cases x <;> first
  | (cases rx; rfl)
  | (obtain⟨t,rfl⟩:=rx; rfl)
theorem tG:oU X (compareOp .IsNot) (fun x y H Q=>y=.non/\Q (.bl (!decide (x=.non))) H):=by
 refine .mk ?_
 intro pins s σ H x y v u Q I rx ry h
 obtain⟨rfl,q⟩:=h
 cases ry
 refine isnot_none_gen (bG I q ?_)
 cases x <;> first
  | (cases rx; rfl)
  | (obtain⟨t,rfl⟩:=rx; rfl)
theorem a_ (b:Expr) {op:CmpOp} (h:op≠.In:=by decide) (h2:op≠.NotIn:=by decide):behindInMarks op b=false:=by
 have e1:(op==CmpOp.In)=false:=by cases op <;> first | rfl | exact absurd rfl h
 have e2:(op==CmpOp.NotIn)=false:=by cases op <;> first | rfl | exact absurd rfl h2
 cases b <;> simp[behindInMarks,e1,e2]
theorem fO {op:CmpOp} {r:R2} (ho:oU X (compareOp op) r) (ha:PE X a ta) (hb:PE X b tb) (hm:behindInMarks op b=false):PE X (.Compare a [op] [b] pos) (Vc r ta tb):=by
 refine .mk ?_
 intro pins s σ H Q I h
 exact wpAny_Compare1 (Wl ha hb I h fun v u s2 x y H2 I2 rx ry q=>ho pins s2 σ H2 x y v u Q I2 rx ry q) hm
def Tv (t:TE):TT:=fun σ H Q=>t σ H fun x H'=>∃k,x=.bl k/\Q k H'
theorem aW {op:CmpOp} {r:R2} (ho:oU X (compareOp op) r) (ha:PE X a ta) (hb:PE X b tb) (hm:behindInMarks op b=false):PT X (.Compare a [op] [b] pos) (Tv (Vc r ta tb)):=by
 refine .mk ?_
 intro pins s σ H Q I h
 refine wpAny_isTrue_Compare1 (cF (ha pins s σ H _ I h) fun v s1 ⟨x,H1,I1,r1,q1⟩=>cF (hb pins s1 σ H1 _ I1 q1) fun u s2 ⟨y,H2,I2,r2,q2⟩=>
  cF (ho pins s2 σ H2 x y v u _ I2 r1 r2 q2) fun c s3 ⟨z,H3,I3,r3,k,e,q3⟩=>?_) hm
 subst e
 cases r3
 exact Cg ⟨H3,I3,q3⟩
def Ve (r r':R2) (ta tb tc:TE):TE:=fun σ H Q=>ta σ H fun x H1=>tb σ H1 fun y H2=>r x y H2 fun z H3=>∃k,z=.bl k /\
 (if k=true then tc σ H3 fun w' H4=>r' y w' H4 Q else Q (.bl false) H3)
def abu (K:PySem.W.Frag) (x:V) (H:Hp) (k:Bool):Prop:=
 match x with
 | .non=>k=false
 | .bl b=>k=b
 | .int i=>k=(i != 0)
 | .str y=>y.length<=sizeLine/\k=((y.length:Int) != 0)
 | .Lp y=>y.size<=sizeLine/\k=((y.size:Int) != 0)
 | .ref p=>(∃xs,eV K H p xs/\k = !xs.isEmpty)\/(∃xs,cD K H p xs/\k = !xs.isEmpty)\/∃kvs,H p=some (.dK kvs)/\k = !kvs.isEmpty
 | _=>False
theorem vh:(sizeLine:Nat)<2 ^ 63:=by rw[sizeLine_eq]; decide
theorem vals1 {x:V} {us:List Value} (r:Vals [x] us):∃u,us=[u]/\RelV x u:=by
 cases r with
 | cons r1 r2=>cases r2; exact⟨_,rfl,r1⟩
theorem vals2 {x y:V} {us:List Value} (r:Vals [x,y] us):∃u w',us=[u,w']/\RelV x u/\RelV y w':=by
 cases r with
 | cons r1 r2=>
  cases r2 with
  | cons r3 r4=>cases r4; exact⟨_,_,rfl,r1,r3⟩
theorem Dy:cX X (.builtin "abs") (fun xs H Q=>∃i,xs=[.int i]/\Q (.int (if i<0 then -i else i)) H):=by
 refine .mk ?_
 intro pins s σ H xs us Q I r h
 obtain⟨i,rfl,q⟩:=h
 obtain⟨u,rfl,t,rfl⟩:=vals1 r
 exact call_abs_int fun u tk=>⟨.int (if i<0 then -i else i),H,I.tok _,⟨_,rfl⟩,q⟩
theorem mX (hc:X.calm=true):cX X (.builtin "max") (fun xs H Q=>∃i j,xs=[.int i,.int j]/\Q (.int (if j>i then j else i)) H):=by
 refine .mk ?_
 intro pins s σ H xs us Q I r h
 obtain⟨i,j,rfl,q⟩:=h
 obtain⟨u,w',rfl,⟨t,rfl⟩,⟨t',rfl⟩⟩:=vals2 r
 refine max_two_ints (I.ok.hd hc) fun h' tk k=>⟨_,H,I.kept k,?_,q⟩
 by_cases hj:j>i
 ·rw[aM hj,aM hj]; exact⟨_,rfl⟩
 ·rw[aK hj,aK hj]; exact⟨_,rfl⟩
theorem gD (hc:X.calm=true):cX X (.builtin "min") (fun xs H Q=>∃i j,xs=[.int i,.int j]/\Q (.int (if j<i then j else i)) H):=by
 refine .mk ?_
 intro pins s σ H xs us Q I r h
 obtain⟨i,j,rfl,q⟩:=h
 obtain⟨u,w',rfl,⟨t,rfl⟩,⟨t',rfl⟩⟩:=vals2 r
 refine min_two_ints (I.ok.hd hc) fun h' tk k=>⟨_,H,I.kept k,?_,q⟩
 by_cases hj:j<i
 ·rw[aM hj,aM hj]; exact⟨_,rfl⟩
 ·rw[aK hj,aK hj]; exact⟨_,rfl⟩
end
structure Wr (h:Heap) (x dx C:Addr) (mA:Str->Option Value):Prop where
 obj:h.get? x=some (PySem.W.instObj C dx)
 ns:h.Ns1 dx mA
 ne:dx≠x
theorem Km {h:Heap} {dx:Addr} {mA:Str->Option Value} (n:h.Ns1 dx mA):∃od,h.get? dx=some od/\∀name,PySem.W.lookIn name od=some (mA name):=by
 obtain⟨o,es,ep,ho,hd,hk,_,hm⟩:=n
 refine⟨o,ho,fun name=>?_⟩
 have e:=hm name
 unfold nsFind findBy at e
 rw[<- Array.find?_toList] at e
 unfold PySem.W.lookIn
 rw[hd]
 dsimp only
 split
 ·rename_i y q
  rw[q] at e
  exact gW some e
 ·rename_i q
  rw[q] at e
  have a:es.toList.any (·.refKey)=false:=by
   rw[List.any_eq_false]
   intro y hy
   obtain⟨z,t,hkey⟩:=hk y (Array.mem_toList_iff.mp hy)
   simp[DictEntry.refKey,hkey]
  have a':¬es.toList.any (·.refKey)=true:=by rw[a]; exact jD
  rw[aK a']
  exact gW some e
theorem Wr.look {h:Heap} {x dx C:Addr} {mA:Str->Option Value} (I:Wr h x dx C mA):∃od,PySem.W.InstAt h x (PySem.W.instObj C dx) C (some od)/\∀name,PySem.W.lookIn name od=some (mA name):=
 let ⟨od,ho,hl⟩:=Km I.ns
 ⟨od,⟨I.obj,rfl,rfl,ho⟩,hl⟩
section
variable {prog:Program} {w:World} {A:Around} {E:Value->Shared->Prop} {s:Shared} {K:PySem.W.Frag} {x dx C f:Addr} {mA:Str->Option Value} {name:Str} {v:Value}
end
section
variable {P:Program} {w:World} {H H':Hp} {h h':Heap} {a C dx:Addr} {fs fs':List (Str×V)}
theorem R_ (hok:kI P w H h) (e:H a=some (.ins C dx fs)):∃mA,Wr h a dx C mA/\(∀f,Wo (fs.lookup f) (mA f))/\PySem.Within mA (fs.map (·.1))/\fs.length<=1000/\H dx=some (.own a):=by
 obtain⟨d,z,ne,ob,mA,n,r,q⟩:=(show cB P w H h a (.ins C dx fs) from hok a _ e)
 exact⟨mA,⟨ob,n,ne⟩,r,q,z,d⟩
end
structure Cls (K:PySem.W.Frag) (C:Addr):Prop where
 pg:PySem.W.plainGet K C Str.empty=true
 hd:PySem.W.hasDictIn K C=true
 po:PySem.W.plainOver K C=true
 sa:PySem.W.findIn K (.ref C) "__setattr__" = some (some (.builtin "object.__setattr__"))
theorem Cls.get {K:PySem.W.Frag} {C:Addr} (c:Cls K C) (f:Str):PySem.W.plainGet K C f=true:=c.pg
structure Con (K:PySem.W.Frag) (C:Addr) (f:Str) (v:V) (u:Value):Prop where
 at_:PySem.W.findIn K (.ref C) f=some (some u)
 rel:RelV v u
 get:PySem.W.specialIn K u "__get__" = some none
 cp:PySem.W.copiedNames.contains f=false
structure Meth (K:PySem.W.Frag) (C:Addr) (m:Str) (f:Addr):Prop where
 at_:PySem.W.findIn K (.ref C) m=some (some (.ref f))
 fn:PySem.W.isFn K (.ref f)=true
 kp:PySem.W.keepIn K (.ref f)=true
section
variable {X:Cx} {pins:List (Addr×Obj)} {σ:St} {H:Hp} {s:Shared} {a C dx:Addr} {fs:List (Str×V)} {f:Str} {v:V} {A:Around} {E:Value->Shared->Prop}
end
section
variable {X:Cx} {o e value:Expr} {f:Str} {pos pos' tpos:Pos} {ta tv:TE}
end
section
variable {X:Cx} {pins:List (Addr×Obj)} {σ:St} {H:Hp} {s:Shared} {A:Around} {E:Value->Shared->Prop} {Q:Value->Shared->Prop} {c:Value} {b:Bool}
inductive rC (K:PySem.W.Frag) (H:Hp):V->Value->Prop where
 | non:rC K H .non (.type "NoneType")
 | bl (x:Bool):rC K H (.bl x) (.type "bool")
 | int (i:Int):rC K H (.int i) (.type "int")
 | str (x:Str):rC K H (.str x) (.type "str")
 | flt (x:UInt64):rC K H (.flt x) (.type "float")
 | lst {a:Addr} {xs:List V} (e:H a=some (.lst xs)):rC K H (.ref a) (.type "list")
 | DY {a:Addr} {o:Obj} {xs:List V} (e:H a=some (.DY o (.lst xs))):rC K H (.ref a) (.type "list")
 | tup {a:Addr} {xs:List V} (e:H a=some (.tup xs)):rC K H (.ref a) (.type "tuple")
 | dK {a:Addr} {kvs:List (Key×V)} (e:H a=some (.dK kvs)):rC K H (.ref a) (.type "dict")
 | dT {a:Addr} {kvs:List (List Key×V)} (e:H a=some (.dT kvs)):rC K H (.ref a) (.type "dict")
 | ins {a C dx:Addr} {fs:List (Str×V)} (e:H a=some (.ins C dx fs)) (cl:Cls K C) (ha:PySem.W.findIn K (.ref C) "__class__" = some (some (.builtin "object.__class__")))
   (hn:PySem.W.specialIn K (.builtin "object.__class__") "__get__" = some (some (.builtin "getset_descriptor.__get__"))) (htk:PySem.W.takesIn K (.builtin "object.__class__")=some true)
   (hm:PySem.W.mroIn K C (.type "object")=some true):rC K H (.ref a) (.ref C)
theorem Kv {x:V} {u t:Value} (I:Inv X pins σ H s) (rx:RelV x u) (ty:rC X.K H x t) (e:PySem.W.kitOne X.K t c=some b) (h:∀tk,Q (.bool b) { s with toks:=tk }) :
  wpAny (model X.prog X.w) A (call (.builtin "isinstance") [u,c]) Q E s:=by
 cases ty with
 | non=>cases(show u=Value.none from rx); exact PySem.W.kia_one PySem.W.kitx_none I.wC True.intro e (fun z=>nomatch z) h
 | bl y=>cases(show u=Value.bool y from rx); exact PySem.W.kia_one PySem.W.kitx_bool I.wC True.intro e (fun z=>nomatch z) h
 | int i=>obtain⟨t,q⟩:=(show ∃t,u=Value.int i t from rx); cases q; exact PySem.W.kia_one PySem.W.kitx_int I.wC True.intro e (fun z=>nomatch z) h
 | str y=>obtain⟨t,q⟩:=(show ∃t,u=Value.str y t from rx); cases q; exact PySem.W.kia_one PySem.W.kitx_str I.wC True.intro e (fun z=>nomatch z) h
 | flt y=>obtain⟨t,q⟩:=(show ∃t,u=Value.float y t from rx); cases q; exact PySem.W.kia_one PySem.W.kitx_float I.wC True.intro e (fun z=>nomatch z) h
 | @lst a xs ea=>
  cases(show u=Value.ref a from rx)
  obtain⟨_,_,n,_,h1⟩:=(show cB X.prog X.w H s.heap a (.lst xs) from I.hok a _ ea)
  exact PySem.W.kia_one PySem.W.kitx_list I.wC ⟨_,h1,rfl⟩ e (fun z=>nomatch z) h
 | @DY a ob xs ea=>
  cases(show u=Value.ref a from rx)
  obtain⟨_,_,_,n,_,h1⟩:=(show cB X.prog X.w H s.heap a (.DY ob (.lst xs)) from I.hok a _ ea)
  exact PySem.W.kia_one PySem.W.kitx_list I.wC ⟨_,h1,rfl⟩ e (fun z=>nomatch z) h
 | @tup a xs ea=>
  cases(show u=Value.ref a from rx)
  obtain⟨_,_,_,p⟩:=(show cB X.prog X.w H s.heap a (.tup xs) from I.hok a _ ea)
  obtain⟨o,h1,h2,_⟩:=p
  exact PySem.W.kia_one PySem.W.kitx_tuple I.wC ⟨o,h1,h2⟩ e (fun z=>nomatch z) h
 | @dK a kvs ea=>
  cases(show u=Value.ref a from rx)
  obtain⟨_,_,vs,_,p⟩:=(show cB X.prog X.w H s.heap a (.dK kvs) from I.hok a _ ea)
  obtain⟨o,es,ep,h1,h2,_⟩:=p
  exact PySem.W.kia_one PySem.W.kitx_dict I.wC ⟨o,h1,h2.1⟩ e (fun z=>nomatch z) h
 | @dT a kvs ea=>
  cases(show u=Value.ref a from rx)
  obtain⟨_,_,xs,_,o,es,ep,h1,h2,_⟩:=(show cB X.prog X.w H s.heap a (.dT kvs) from I.hok a _ ea)
  exact PySem.W.kia_one PySem.W.kitx_dict I.wC ⟨o,h1,h2.1⟩ e (fun z=>nomatch z) h
 | @ins a C dx fs ea cl ha hn htk hm=>
  cases(show u=Value.ref a from rx)
  obtain⟨mA,O,_⟩:=R_ I.hok ea
  obtain⟨od,J,_⟩:=O.look
  exact PySem.W.kia_one (PySem.W.kitx_own (cl.get _) cl.hd ha hn htk hm) I.wC J e (fun z=>nomatch z) h
end
structure gG (k:Nat) (A:Around):Prop where
 hd:A.handled=none
 dp:A.depth+3*k+5<recursionLimit
 un:A.units+16*k+200<cLine
 gd:A.guards=some []
theorem gG.mono {j k:Nat} {A:Around} (r:gG k A) (h:j<=k):gG j A:=⟨r.hd,by have:=r.dp; omega,by have:=r.un; omega,r.gd⟩
theorem gG.deeper {k:Nat} {A:Around} (r:gG (k+1) A) (env:Env):gG k (A.deeper env):=
 ⟨r.hd,by have:=r.dp; show A.depth+1+3*k+5<_; omega,by have:=r.un; show A.units+3+16*k+200<_; omega,by first | exact r.gd | (simpa[Around.deeper,Around.under,Code.guards,Code.isGuard,guardIds,pushGuards] using r.gd)⟩
theorem gG.depth {k:Nat} {A:Around} (r:gG k A):A.depth<recursionLimit:=by have:=r.dp; omega
theorem gG.units {k:Nat} {A:Around} (r:gG k A):A.units+64<cLine:=by have:=r.un; omega
def QT:TA:=fun _ H Q=>Q [] H
def GK (ta:TE) (tr:TA):TA:=fun σ H Q=>ta σ H fun x H1=>tr σ H1 fun xs H2=>Q (x::xs) H2
section
variable {X:Cx} {e:Expr} {es:List Expr} {te:TE} {t:TA} {pos:Pos}
theorem ak:PA X [] QT:=.mk <| fun _ _ _ _ H Q I h=>Calls.spliced_nil ⟨[],H,I,.nil,h⟩
theorem Rt (ha:PE X e te) (hr:PA X es t) (hs:starEach (e::es) X.env=(false,eval e X.env)::starEach es X.env:=by rfl):PA X (e::es) (GK te t):=by
 refine .mk ?_
 intro pos pins s σ H Q I h
 rw[hs]
 show wpAny _ _ (spliced ((false,eval e X.env)::backTo pos (starEach es X.env))) _ _ s
 refine Calls.spliced_cons (cF (ha pins s σ H _ I h) fun u s1 qx=>?_)
 obtain⟨x,H1,I1,r1,q1⟩:=qx
 exact cF (hr pos pins s1 σ H1 _ I1 q1) fun us s2 ⟨xs,H2,I2,r2,q2⟩=>⟨x::xs,H2,I2,.cons r1 r2,q2⟩
def Z7 (t:TA):TE:=fun σ H Q=>t σ H fun xs H1=>xs.length<=sizeLine/\∀p,H1 p=none->Q (.ref p) (upd H1 p (.tup xs))
def Xp (t:TA):TE:=fun σ H Q=>t σ H fun xs H1=>xs.length<=sizeLine/\∀p,H1 p=none->Q (.ref p) (upd H1 p (.lst xs))
theorem VB (h:PA X es t):PE X (.List es pos) (Xp t):=by
 refine .mk ?_
 intro pins s σ H Q I hq
 refine wpAny_List_spliced (cF (h pos pins s σ H _ I hq) fun us s1 ⟨xs,H1,I1,r,z,q⟩=>⟨by rw[<- r.length]; exact z,?_⟩)
 have hf:H1 s1.heap.objs.size=none:=I1.hok.fresh (cV _)
 refine⟨.ref s1.heap.objs.size,upd H1 s1.heap.objs.size (.lst xs),I1.laid (t':=s1.toks) (fun b u e=>gf _ e) (cV _) ?_,rfl,q _ hf⟩
 exact⟨z,us,0,r,dR _ rfl⟩
end
abbrev Sp:=List V->Hp->VK->XK->Prop
abbrev Jl:=List Env->Hp->Shared->XK->Value->Shared->Prop
structure Tg (P:Program) (w:World) (K:PySem.W.Frag) (mg:Str->Option Value) (base:Heap) (A:Around) (outer:List Env) (s:Shared) (H:Hp):Prop where
 frames:A.frames=some outer
 mod:Mod K mg base
 bs:∀b o,base.get? b=some o->s.heap.get? b=some o/\H b=none
 Qh:base.objs.size<=s.heap.objs.size
 sW:s.heap.FunFrames base outer
 Wb:∀b∈frs outer,H b=none
 hok:kI P w H s.heap
 bare:AllBare s.gens
def CE (outer:List Env) (P:Program) (w:World) (H:Hp) (s:Shared) (Q:VK) (u:Value) (s':Shared):Prop:=
 ∃v H',s'.os=s.os/\AllBare s'.gens/\Un (frs outer) [] H H' s.heap s'.heap/\kI P w H' s'.heap/\RelV v u/\Q v H'
def CR (CX:Jl) (outer:List Env) (P:Program) (w:World) (H:Hp) (s:Shared) (Q:VK) (E:XK) (r:Result) (s':Shared):Prop:=
 match r with
 | .ok (.ret u)=>CE outer P w H s Q u s'
 | .ok _=>False
 | .error e=>CX outer H s E e s'
structure bM (P:Program) (w:World) (K:PySem.W.Frag) (mg:Str->Option Value) (base:Heap) (CX:Jl) (k:Nat) (f:Addr) (fd:FuncData) (ps:List Str) (sp:Sp):Prop where
 len:∀vs H Q E,sp vs H Q E->vs.length=ps.length
 run:∀(A:Around) (outer:List Env) (s:Shared) (H:Hp) (args:Args) (us:List Value) (vs:List V) (Q:VK) (E:XK),gG k A->Tg P w K mg base A outer s H->BindsTo s fd args (ps.zip us)->Vals vs us->sp vs H Q E ->
  codeAny (model P w) A (.call (.ref f) args) (CR CX outer P w H s Q E) s
theorem bM.mono {P:Program} {w:World} {K:PySem.W.Frag} {mg:Str->Option Value} {base:Heap} {CX:Jl} {j k:Nat} {f:Addr} {fd:FuncData} {ps:List Str} {sp:Sp} (F:bM P w K mg base CX j f fd ps sp) (h:j<=k) :
  bM P w K mg base CX k f fd ps sp:=⟨F.len,fun A outer s H args us vs Q E hr=>F.run A outer s H args us vs Q E (hr.mono h)⟩
section
variable {X:Cx} {pins:List (Addr×Obj)} {σ:St} {H:Hp} {s s':Shared}
theorem Inv.env0 (I:Inv X pins σ H s):Tg X.prog X.w X.K X.mg X.base X.A X.stack s H:=
 ⟨I.ok.frames,I.ok.mod,I.bs,pF I.ok.Qh I.sz,I.stack,I.tu,I.hok,I.bare⟩
theorem Inv.after {Q:VK} {u:Value} (I:Inv X pins σ H s) (h:CE X.stack X.prog X.w H s Q u s'):EP X pins σ Q u s':=by
 obtain⟨v,H',os,bare,un,hok,r,q⟩:=h
 obtain⟨hh,g,d,t,os'⟩:=s'
 obtain rfl:os'=s.os:=os
 exact⟨v,H',I.call (h':=hh) (g':=g) (d':=d) (t':=t) (ch:=[]) un hok bare (fun b z=>absurd z (by simp)),r,q⟩
end
def rD (sp:Sp) (Ln:List V) (E:XK) (t:TA):TE:=fun σ H Q=>t σ H fun vs H1=>sp (vs++Ln) H1 Q E
def Binds (K:PySem.W.Frag) (fd:FuncData) (ps:List Str) (ds:List Value):Prop:=
 ∀(s:Shared) (us:List Value),K.In s.heap->(us++ds).length=ps.length->BindsTo s fd ⟨us,[]⟩ (ps.zip (us++ds))
theorem Binds.all {K:PySem.W.Frag} {fd:FuncData} {ps:List Str} (h:∀us:List Value,us.length=ps.length->bindArgs fd ⟨us,[]⟩=pure (ps.zip us)):Binds K fd ps []:=fun s us _ hl=>by
 rw[kZ] at hl ⊢
 exact .of_eq (h us hl)
def Passes (CX:Jl) (X:Cx) (E:XK):Prop:=∀(pins:List (Addr×Obj)) (σ:St) (H:Hp) (s:Shared) (e:Value) (s':Shared),Inv X pins σ H s->CX X.stack H s E e s'->X.xe e s'
section
variable {X:Cx} {CX:Jl} {k:Nat} {f C:Addr} {fd:FuncData} {ps:List Str} {sp:Sp} {Ln:List V} {ds:List Value} {E:XK} {x m:Str} {p pos apos:Pos} {e o:Expr} {es:List Expr} {ta:TE} {t:TA}
theorem Vn {pins:List (Addr×Obj)} {σ:St} {H:Hp} {s:Shared} {Q:VK} {us:List Value} {vs:List V} (F:bM X.prog X.w X.K X.mg X.base CX k f fd ps sp) (hr:gG k X.A) (hb:Binds X.K fd ps ds) (hd:Vals Ln ds) (hx:Passes CX X E)
  (I:Inv X pins σ H s) (r:Vals vs us) (h:sp (vs++Ln) H Q E):wpAny (model X.prog X.w) X.A (call (.ref f) us) (EP X pins σ Q) X.xe s:=by
 have r2:Vals (vs++Ln) (us++ds):=r.append hd
 have hl:(us++ds).length=ps.length:=by rw[<- r2.length]; exact F.len _ _ _ _ h
 refine wpAny_call (codeAny_mono (F.run X.A X.stack s H ⟨us,[]⟩ (us++ds) (vs++Ln) Q E hr I.env0 (hb s us I.wC hl) r2 h) fun r s' hq=>?_)
 cases r with
 | error e=>exact hx pins σ H s e s' I hq
 | ok fl=>
  cases fl with
  | ret u=>exact I.after hq
  | next=>exact False.elim hq
  | brk=>exact False.elim hq
  | cont=>exact False.elim hq
theorem Hy (F:bM X.prog X.w X.K X.mg X.base CX k f fd ps sp) (hr:gG k X.A) (hg:Gl X x) (hm:X.mg x=some (.ref f)) (hk:PySem.W.keepIn X.K (.ref f)=true) (hb:Binds X.K fd ps ds) (hd:Vals Ln ds) (hx:Passes CX X E)
  (ha:PA X (e::es) t) (hdb:(x==("__debug__" : Str))=false:=by decide) (he:starEach (e::es) X.env=(false,eval e X.env)::starEach es X.env:=by rfl) (hpl:(backTo pos (starEach es X.env)).any (·.1)=false:=by rfl) :
  PE X (.Call (.Name x p) (e::es) [] pos) (rD sp Ln E t):=by
 refine .mk ?_
 intro pins s σ H Q I h
 refine sG (pN I hg hm ?_ hdb)
 refine PySem.W.callWith_K (h₀:=X.base) I.ok.mod.Ur hk (cF (ha pos pins s σ H _ I h) fun us s1 ⟨vs,H1,I1,r,q⟩=>⟨I1.wC,?_⟩) he hpl
 exact Vn F hr hb hd hx I1 r q
structure Mk (K:PySem.W.Frag) (C f:Addr):Prop where
 makes:PySem.W.makesIn K C=true
 init:PySem.W.findIn K (.ref C) "__init__" = some (some (.ref f))
 fn:PySem.W.isFn K (.ref f)=true
 kp:PySem.W.keepIn K (.ref C)=true
end
def PK (X:Cx) (kws:List Keyword) (t:TA):Prop:=
 ∀(pos:Pos) (pins:List (Addr×Obj)) (s:Shared) (σ:St) (H:Hp) (Q:List V->Hp->Prop),Inv X pins σ H s->t σ H Q->wpAny (model X.prog X.w) X.A (evalAll ((backToKw pos (keywordEach kws X.env)).map (·.2))) (AP X pins σ Q) X.xe s
section
variable {X:Cx} {CX:Jl} {k:Nat} {f C:Addr} {fd:FuncData} {ps ks:List Str} {sp:Sp} {E:XK} {x m:Str} {p pos apos R6:Pos} {e o:Expr} {es:List Expr} {kws:List Keyword} {te ta:TE} {t tk:TA} {nm:Option Str}
theorem Vv:PK X [] QT:=fun _ _ _ _ H Q I h=>wpAny_evalAll_nil ⟨[],H,I,.nil,h⟩
theorem Rm (ha:PE X e te) (hr:PK X kws t):PK X (⟨nm,e,R6⟩::kws) (GK te t):=by
 intro pos pins s σ H Q I h
 show wpAny _ _ (evalAll ((do let v <- eval e X.env; standAt pos; pure v)::(backToKw pos (keywordEach kws X.env)).map (·.2))) _ _ s
 refine wpAny_evalAll_cons (aN (cF (ha pins s σ H _ I h) fun u s1 ⟨x,H1,I1,r1,q1⟩=>aN (zm (bH ?_))))
 exact cF (hr pos pins s1 σ H1 _ I1 q1) fun us s2 ⟨xs,H2,I2,r2,q2⟩=>⟨x::xs,H2,I2,.cons r1 r2,q2⟩
structure abx (K:PySem.W.Frag) (fd:FuncData) (ps ks:List Str) (g:List Value->List Value->List Value) (gV:List V->List V->List V):Prop where
 to:∀(s:Shared) (us ws:List Value),K.In s.heap->(g us ws).length=ps.length->BindsTo s fd ⟨us,ks.zip ws⟩ (ps.zip (g us ws))
 rel:∀{vs:List V} {us:List Value} {zs:List V} {ws:List Value},Vals vs us->Vals zs ws->Vals (gV vs zs) (g us ws)
variable {g:List Value->List Value->List Value} {gV:List V->List V->List V}
end
structure aU (N P:List Str) (sc:Scope):Prop where
 kind:sc.kind=.function
 co:sc.isCoroutine=false
 gen:sc.isGenerator=false
 nd:N.Nodup
 pre:N.take P.length=P
 par:∀x∈P,sc.names.lookup x=some .local\/sc.names.lookup x=some .cell
 VL:∀y∈sc.names,y.2≠.free
theorem yz {kindOf:Str->Option NameKind} {x:Str}:∀{binds:List (Str×Value)} {m:Str->Option Value},(∀v,(x,v)∉binds)->bindL kindOf binds m x=m x
 | [],_,_=>rfl
 | (n,v)::r,m,h=>by
  unfold bindL
  rw[yz fun w hw=>h w (iG _ hw)]
  split
  ·have:x≠n:=by rintro rfl; exact h v jl
   simp[this]
  ·rfl
theorem yD {kindOf:Str->Option NameKind} {x:Str}:∀{binds:List (Str×Value)} {m:Str->Option Value},(∀v,(x,v)∉binds)->bindC kindOf binds m x=m x
 | [],_,_=>rfl
 | (n,v)::r,m,h=>by
  unfold bindC
  rw[yD fun w hw=>h w (iG _ hw)]
  split
  ·rfl
  ·have:x≠n:=by rintro rfl; exact h v jl
   simp[this]
theorem yC {kindOf:Str->Option NameKind} {x:Str} {v:Value}:∀{P:List Str} {vs:List Value} {i:Nat} {m:Str->Option Value},P.Nodup->P[i]?=some x->vs[i]?=some v->kindOf x=some .local ->
  bindL kindOf (P.zip vs) m x=some v
 | [],_,_,_,_,h,_,_=>by simp at h
 | _::_,[],_,_,_,_,h,_=>by simp at h
 | p::P,w::vs,0,m,nd,h1,h2,hk=>by
  simp at h1 h2; subst h1; subst h2
  show bindL kindOf ((p,w)::P.zip vs) m p=_
  unfold bindL
  rw[yz fun v hv=>(BZ.mp nd).1 (List.of_mem_zip hv).1,aM hk]
  simp
 | p::P,w::vs,i+1,m,nd,h1,h2,hk=>by
  show bindL kindOf ((p,w)::P.zip vs) m x=_
  unfold bindL
  exact yC (i:=i) (BZ.mp nd).2 (by simpa using h1) (by simpa using h2) hk
theorem yE {kindOf:Str->Option NameKind} {x:Str} {v:Value}:∀{P:List Str} {vs:List Value} {i:Nat} {m:Str->Option Value},P.Nodup->P[i]?=some x->vs[i]?=some v->kindOf x≠some .local ->
  bindC kindOf (P.zip vs) m x=some v
 | [],_,_,_,_,h,_,_=>by simp at h
 | _::_,[],_,_,_,_,h,_=>by simp at h
 | p::P,w::vs,0,m,nd,h1,h2,hk=>by
  simp at h1 h2; subst h1; subst h2
  show bindC kindOf ((p,w)::P.zip vs) m p=_
  unfold bindC
  rw[yD fun v hv=>(BZ.mp nd).1 (List.of_mem_zip hv).1,aK hk]
  simp
 | p::P,w::vs,i+1,m,nd,h1,h2,hk=>by
  show bindC kindOf ((p,w)::P.zip vs) m x=_
  unfold bindC
  exact yE (i:=i) (BZ.mp nd).2 (by simpa using h1) (by simpa using h2) hk
def start (N:List Str) (vs:List V):St:=vs.map some++List.replicate (N.length-vs.length) none
def fH (CX:Jl) (P:Program) (w:World) (K:PySem.W.Frag) (mg:Str->Option Value) (base:Heap) (N:List Str) (qual:Str) (scope:Scope) (f:Addr) (cd:Value) (A:Around) (outer:List Env) (s:Shared) (H:Hp) (E:XK):Cx where
 prog:=P
 w:=w
 K:=K
 mg:=mg
 base:=base
 A:=A.deeper (envOfC qual scope s.heap.objs.size f cd)
 N:=N
 s₀:=s
 H₀:=H
 env:=envOfC qual scope s.heap.objs.size f cd
 outer:=outer
 stack:=envOfC qual scope s.heap.objs.size f cd::outer
 ex:=[]
 calm:=true
 fn:=fun _=>true
 pn:=[]
 xe:=fun e s'=>wpAny (model P w) (A.deeper (envOfC qual scope s.heap.objs.size f cd)) (leaving (envOfC qual scope s.heap.objs.size f cd) e) (fun _ s''=>CX outer H s E e s'') (fun e' s''=>CX outer H s E e' s'') s'
theorem Dw {sc:Scope} {n:Nat} {x:Str} (h:sc.names.lookup x=some .cell):∃c,(cellsFrom n sc.names []).lookup x=some c:=by
 have q:=PySem.W.cellsFrom_some sc.names n [] (.inl h)
 exact Fg.mp q
theorem yc {CX:Jl} {P:Program} {w:World} {K:PySem.W.Frag} {mg:Str->Option Value} {base:Heap} {N ps:List Str} {qual:Str} {scope:Scope} {f:Addr} {cd:Value} {A:Around} {outer:List Env} {s s1:Shared} {H:Hp} {E:XK} {us:List Value} {vs:List V}
  (S:aU N ps scope) (hd:A.handled=none) (e0:Tg P w K mg base A outer s H) (hl:vs.length=ps.length) (r:Vals vs us)
  (x:InCallC s s.heap.objs.size (bindL (envOfC qual scope s.heap.objs.size f cd).kindOf (ps.zip us) fun _=>none) (cellsFrom (s.heap.objs.size+1) scope.names []) (bindC (envOfC qual scope s.heap.objs.size f cd).kindOf (ps.zip us) fun _=>none) s1) :
  Inv (fH CX P w K mg base N qual scope f cd A outer s H E) [] (start N vs) H s1:=by
 have hpl:ps.length<=N.length:=by have:=gW List.length S.pre; rw[jC] at this; omega
 obtain⟨h1,tk,rfl,hk⟩:=x.done
 have Yn:∀b:Addr,b∉(fH CX P w K mg base N qual scope f cd A outer s H E).ex:=fun b z=>absurd (show b∈([]:List Addr) from z) (by simp)
 refine⟨⟨e0.mod,S.kind,rfl,rfl,cV _,fun y z c h1 h2=>?_,fun y hy=>?_,fun y c _ h=>?_,fun _=>hd,Around.frames_deeper e0.frames,.inr ⟨rfl,rfl⟩,fun b z=>absurd z (Yn b),e0.bs,e0.Qh,fun b _ _=>Yn b,fun b z=>absurd z (Yn b),e0.sW,e0.Wb⟩,
  rfl,e0.bare,Un.kept hk,⟨_,x.toInCall.ns,fun i y v h1 h2 h3=>?_⟩,fun y c h=>⟨_,x.cell y c h⟩,e0.hok.fresh (cV _),fun y c h=>?_,fun p hp=>absurd (show p∈([]:List (Addr×Obj)) from hp) (by simp),e0.hok.kept hk,?_⟩
 ·exact name_of_addr x.apart (PySem.mem_of_lookup h1) (PySem.mem_of_lookup h2)
 ·have hy:scope.names.lookup y=some .cell\/scope.names.lookup y=some .free:=hy
  rcases hy with hy | hy
  ·exact Dw hy
  ·exact absurd rfl (S.VL _ (PySem.mem_of_lookup hy))
 ·exact lQ (x.above y c (PySem.mem_of_lookup h))
 ·have hi:i<vs.length:=by
   unfold start at h2
   by_cases hi:i<vs.length
   ·exact hi
   ·rw[nj (by simpa using hi)] at h2
    rw[Nr] at h2
    split at h2 <;> cases h2
  have ha:vs[i]?=some v:=by
   unfold start at h2
   rw[BP (by simpa using hi),il] at h2
   cases e:vs[i]? with
   | none=>rw[e] at h2; cases h2
   | some a=>rw[e] at h2; cases h2; rfl
  obtain⟨u,hu,rv⟩:=r.get ha
  have hp:ps[i]?=some y:=by
   rw[<- S.pre,List.getElem?_take_of_lt (by omega)]; exact h1
  have ndP:ps.Nodup:=by rw[<- S.pre]; exact S.nd.sublist (List.take_sublist _ _)
  refine⟨u,rv,?_⟩
  rcases S.par y (lU hp) with k | k
  ·exact .inl ⟨k,yC ndP hp hu k⟩
  ·obtain⟨c,e⟩:=Dw (n:=s.heap.objs.size+1) k
   refine .inr ⟨.inl k,c,e,?_⟩
   have q:=x.cell y c e
   rw[yE ndP hp hu (by show scope.names.lookup y≠_; rw[k]; decide)] at q
   exact q
 ·exact e0.hok.fresh (lQ (x.above y c (PySem.mem_of_lookup h)))
 ·unfold start
  show _=N.length
  rw[fj,cg,BK]
  omega
theorem Uy {CX:Jl} {P:Program} {w:World} {K:PySem.W.Frag} {mg:Str->Option Value} {base:Heap} {k:Nat} {f:Addr} {name qual:Str} {params:Arguments} {body:List Stmt} {scope:Scope} {dV kV doc pm cdv ct oc:Value} {an od:Option Addr}
  {osl:Array (Option Value)} {N ps:List Str} {sp:Sp} (lk:K.lookup f=some ⟨oc,od,.func (PySem.W.fnOf name qual params body scope dV kV doc pm an cdv ct),osl⟩) (hcd:PySem.W.codeIn K cdv qual=true) (S:aU N ps scope)
  (len:∀vs H Q E,sp vs H Q E->vs.length=ps.length)
  (hbody:∀(A:Around) (outer:List Env) (s:Shared) (H:Hp) (vs:List V) (Q:VK) (E:XK),gG k (A.deeper (envOfC qual scope s.heap.objs.size f cdv))->sp vs H Q E ->
   ∃t,wY (fH CX P w K mg base N qual scope f cdv A outer s H E) body t/\t { nx:=fun _ H'=>Q .non H',rt:=Q } (start N vs) H) :
  bM P w K mg base CX (k+1) f (PySem.W.fnOf name qual params body scope dV kV doc pm an cdv ct) ps sp:=by
 refine⟨len,fun A outer s H args us vs Q E hr e0 hb r hsp=>?_⟩
 have hl:=len _ _ _ _ hsp
 have KX:K.In s.heap:=e0.mod.Ur.keeps fun b o e=>(e0.bs b o e).1
 have lim:s.heap.NoLimit:=e0.mod.nolimit.keeps fun b o e=>(e0.bs b o e).1
 have hkind:∀y∈ps.zip us,scope.names.lookup y.1=some .local\/(scope.names.lookup y.1=some .cell/\((cellsFrom (s.heap.objs.size+1) scope.names []).lookup y.1).isSome=true):=fun⟨n,v⟩ hy=>by
  rcases S.par n (List.of_mem_zip hy).1 with q | q
  ·exact .inl q
  ·exact .inr ⟨q,PySem.W.cellsFrom_some _ _ _ (.inl q)⟩
 refine codeAny_call_function hr.depth (KX _ _ lk) rfl S.co S.gen rfl (PySem.W.codeRec_of KX hcd) (hb _ _ _ _ ?_)
 refine wpAny_newFunctionEnv_cells S.kind hkind fun env he s1 x=>?_
 subst he
 refine⟨lim.keeps x.toInCall.keep,codeAny_func ?_⟩
 obtain⟨t,ht,hq⟩:=hbody A outer s H vs Q E (hr.deeper _) hsp
 have I:Inv (fH CX P w K mg base N qual scope f cdv A outer s H E) [] (start N vs) H s1:=yc S hr.hd e0 hl r x
 refine fM (ht [] s1 (start N vs) H _ I hq) (fun fl s' hs=>?_) fun e s' hs=>hs
 have fin:∀{σ':St} {H':Hp} {v:V} {u:Value},Inv (fH CX P w K mg base N qual scope f cdv A outer s H E) [] σ' H' s'->RelV v u->Q v H'->CE outer P w H s Q u s':=
  fun {σ' H' v u} J rv q=>⟨v,H',J.os,J.bare,J.base,J.hok,rv,q⟩
 cases fl with
 | ret u=>
  obtain⟨v,σ',H',J,rv,q⟩:=hs
  exact fin J rv q
 | next=>
  obtain⟨σ',H',J,q⟩:=hs
  exact fin (v:=V.non) (u:=Value.none) J rfl q
 | brk=>
  obtain⟨_,_,_,q⟩:=hs
  exact False.elim q
 | cont=>
  obtain⟨_,_,_,q⟩:=hs
  exact False.elim q
section
variable {X:Cx} {x:Str} {p pos:Pos} {e:Expr} {es:List Expr} {t:TA} {id T:String} {r:List V->Hp->VK->Prop}
def Vf (r:List V->Hp->VK->Prop) (t:TA):TE:=fun σ H Q=>t σ H fun vs H1=>r vs H1 Q
theorem N5 (hc:cX X (.builtin id) r) (hg:Gl X x) (hm:X.mg x=none) (hv:bootBuiltins x=some (.builtin id)) (ha:PA X (e::es) t) (hn:x ≠ "__name__" := by decide) (hdb:(x==("__debug__" : Str))=false:=by decide)
  (he:starEach (e::es) X.env=(false,eval e X.env)::starEach es X.env:=by rfl) (hpl:(backTo pos (starEach es X.env)).any (·.1)=false:=by rfl):PE X (.Call (.Name x p) (e::es) [] pos) (Vf r t):=by
 refine .mk ?_
 intro pins s σ H Q I h
 refine sG (iJ I hg hm hv ?_ hn hdb)
 exact PyProof.Rows.callWith_builtin1 (cF (ha pos pins s σ H _ I h) fun us s1 ⟨vs,H1,I1,r1,q1⟩=>hc pins s1 σ H1 vs us Q I1 r1 q1) he hpl
theorem J2 (hc:cX X (.type T) r) (hg:Gl X x) (hm:X.mg x=none) (hv:bootBuiltins x=some (.type T)) (ha:PA X (e::es) t) (hn:x ≠ "__name__" := by decide) (hdb:(x==("__debug__" : Str))=false:=by decide)
  (he:starEach (e::es) X.env=(false,eval e X.env)::starEach es X.env:=by rfl) (hpl:(backTo pos (starEach es X.env)).any (·.1)=false:=by rfl):PE X (.Call (.Name x p) (e::es) [] pos) (Vf r t):=by
 refine .mk ?_
 intro pins s σ H Q I h
 refine sG (iJ I hg hm hv ?_ hn hdb)
 exact PyProof.Rows.callWith_type1 (cF (ha pos pins s σ H _ I h) fun us s1 ⟨vs,H1,I1,r1,q1⟩=>hc pins s1 σ H1 vs us Q I1 r1 q1) he hpl
theorem Fv (hc:cX X (.type T) r) (hg:Gl X x) (hm:X.mg x=none) (hv:bootBuiltins x=some (.type T)) (hn:x ≠ "__name__" := by decide) (hdb:(x==("__debug__" : Str))=false:=by decide) :
  PE X (.Call (.Name x p) [] [] pos) (Vf r QT):=by
 refine .mk ?_
 intro pins s σ H Q I h
 refine sG (iJ I hg hm hv ?_ hn hdb)
 exact PyProof.Rows.callWith_type0 (hc pins s σ H [] [] Q I .nil h)
end
end L2
namespace HT
open PySem PyProof.Rows
section
open PySem.SeqAt
open PySem.AutoSeq1 (wpAny_loadPart')
open PySem.MeetsSeq PySem.MeetsSeq2 PySem.MeetsSeq3
end
section
variable {prog:Program} {w:World} {A:Around} {E:Value->Shared->Prop} {s:Shared}
theorem SN {t b:Addr} {vs ws:List Value} {Q:Value->Shared->Prop} (ht:IsTup s.heap t vs.toArray) (hb:IsTup s.heap b ws.toArray) (hv:vs≠[])
  (h1:ws=[]->Q (.ref t) s) (h2:ws≠[]->Q (.ref s.heap.objs.size) { s with heap:=s.heap.push { cls:=.type "tuple",data:=.seq (vs++ws).toArray } })
  (hsz:vs.length+ws.length<=sizeLine):wpAny (model prog w) A (binaryOp .Add (.ref t) (.ref b)) Q E s:=by
 obtain⟨⟨cls,dd,data,sl⟩,ho,hc,n,hd⟩:=id ht
 obtain⟨⟨cls2,dd2,data2,sl2⟩,ho2,hc2,n2,hd2⟩:=id hb
 simp only at hc hd hc2 hd2
 subst hc hd hc2 hd2
 have e:vs.toArray++ws.toArray=(vs++ws).toArray:=by simp
 by_cases hw:ws=[]
 ·exact concat_meets ⟨_,ho,rfl⟩ ⟨_,ho2,rfl⟩ noFill_tuple_add seq_tuple_add PySem.F.slot_tuple_add PySem.F.entry_tuple_add (PySem.F.args_tuple_add_2 _ _)
   (tuple_addW1 t b vs.toArray ws.toArray n n2 dd dd2 sl sl2 (by simpa using hv) (by simp[hw])) ⟨ho,ho2,h1 hw⟩
 ·refine concat_meets ⟨_,ho,rfl⟩ ⟨_,ho2,rfl⟩ noFill_tuple_add seq_tuple_add PySem.F.slot_tuple_add PySem.F.entry_tuple_add (PySem.F.args_tuple_add_2 _ _)
   (tuple_addW2 t b vs.toArray ws.toArray n n2 dd dd2 sl sl2 (by simpa using hv) (by simpa using hw) (by rw[e_,e_]; exact hsz)) ⟨ho,ho2,?_⟩
  rw[e]
  exact h2 hw
def eZ (n d:Nat):Option Int->Nat
 | none=>d
 | some v=>if v<0 then(v+(n:Int)).toNat else min v.toNat n
theorem Br (n d:Nat):eZ n d none=d:=rfl
theorem tE (n d k:Nat):eZ n d (some (k:Int))=min k n:=by
 show(if(k:Int)<0 then((k:Int)+(n:Int)).toNat else min (k:Int).toNat n)=min k n
 rw[aK (by omega),uK]
theorem Vl (n d:Nat) (hd:d<=n) (o:Option Int):eZ n d o<=n:=by
 cases o with
 | none=>exact hd
 | some v=>
  show(if v<0 then(v+(n:Int)).toNat else min v.toNat n)<=n
  by_cases hv:v<0
  ·rw[aM hv]; omega
  ·rw[aK hv]; exact Nat.min_le_right _ _
theorem Jb (v:Int) (n d:Nat):(if v<0 then max (v+(n:Int)) 0 else min v (n:Int))=((eZ n d (some v):Nat):Int):=by
 show(if v<0 then max (v+(n:Int)) 0 else min v (n:Int))=(((if v<0 then(v+(n:Int)).toNat else min v.toNat n):Nat):Int)
 by_cases hv:v<0
 ·simp only[aM hv]; omega
 ·simp only[aK hv]; omega
theorem GD (lo hi:Option Int) (n:Nat):Builtin.Slice.sliceAdjust lo hi 1 (n:Int)=(((eZ n 0 lo:Nat):Int),((eZ n n hi:Nat):Int)):=by
 have h1:¬((1:Int)<0):=by omega
 unfold Builtin.Slice.sliceAdjust
 simp only[h1,if_false]
 refine Prod.ext ?_ ?_
 ·cases lo with
  | none=>rfl
  | some v=>exact Jb v n 0
 ·cases hi with
  | none=>rfl
  | some v=>exact Jb v n n
theorem Fp (i j:Nat):Builtin.Slice.slicePlaces (i:Int) (j:Int) 1=j-i:=by
 unfold Builtin.Slice.slicePlaces
 have h1:(1:Int)>0:=by omega
 simp only[h1,if_true,Int.ediv_one]
 split <;> omega
theorem ug {v:Value} {o:Option Int} {Q:Option Int->Shared->Prop} (p:IsPart v o) (h:Q o s):wpAny (model prog w) A (Builtin.Slice.slicePartIndex v) Q E s:=by
 cases p with
 | none=>exact slicePart_none h
 | int i t=>exact slicePart_int h
theorem jA {sl:Addr} {vl vu:Value} {lo hi:Option Int} {n:Nat} {Q:Int×Int×Nat->Shared->Prop} (hs:s.heap.IsSliceOf sl vl vu .none) (pl:IsPart vl lo) (pu:IsPart vu hi)
  (h:Q (((eZ n 0 lo:Nat):Int),1,eZ n n hi-eZ n 0 lo) s):wpAny (model prog w) A (Builtin.Slice.sliceApplied (.ref sl) (pure (n:Int))) Q E s:=by
 obtain⟨os,hos,hcs,hds⟩:=id hs
 unfold Builtin.Slice.sliceApplied Builtin.Slice.sliceFields
 refine aN (aN (iD hos hds (x:=vl) rfl (aN (iD hos hds (x:=vu) rfl (aN (iD hos hds (x:=.none) rfl (bH ?_)))))))
 refine aN (slicePart_none ?_)
 show wpAny _ _ (if((1:Int)==0)=true then _ else _) _ _ s
 rw[aK (by decide)]
 refine aN (ug pl (aN (ug pu (aN (bH ?_)))))
 show wpAny _ _ (match Builtin.Slice.sliceAdjust lo hi 1 (n:Int) with | (lo,hi)=>pure (lo,(1:Int),Builtin.Slice.slicePlaces lo hi 1)) _ _ s
 rw[GD lo hi n]
 show wpAny _ _ (pure (((eZ n 0 lo:Nat):Int),(1:Int),Builtin.Slice.slicePlaces ((eZ n 0 lo:Nat):Int) ((eZ n n hi:Nat):Int) 1)) _ _ s
 rw[Fp]
 exact bH h
theorem NB (xs:Array Value) (i k:Nat):((List.range k).filterMap fun(m:Nat)=>xs[((i:Int)+(m:Int)*1).toNat]?).toArray=((xs.toList.drop i).take k).toArray:=by
 have e:(fun(m:Nat)=>xs[((i:Int)+(m:Int)*1).toNat]?)=fun m=>xs[i+m]?:=by
  funext m
  have:((i:Int)+(m:Int)*1).toNat=i+m:=by omega
  rw[this]
 rw[e]
 have:=pick_run xs i k
 rw[List.filterMap_map] at this
 have e2:((fun x=>xs[x]?)∘fun x=>i+x)=fun m=>xs[i+m]?:=rfl
 rw[e2] at this
 rw[this]
theorem pR {t sl:Addr} {items:Array Value} {vl vu:Value} {lo hi:Option Int} {Q:Value->Shared->Prop} (ht:IsTup s.heap t items) (hs:s.heap.IsSliceOf sl vl vu .none) (pl:IsPart vl lo) (pu:IsPart vu hi)
  (hw:¬(eZ items.size 0 lo=0/\eZ items.size items.size hi=items.size))
  (h:Q (.ref s.heap.objs.size) { s with heap:=s.heap.push { cls:=.type "tuple",data:=.seq ((items.toList.drop (eZ items.size 0 lo)).take (eZ items.size items.size hi-eZ items.size 0 lo)).toArray } })
  (hsz:items.size<=sizeLine):wpAny (model prog w) A (getItem (.ref t) (.ref sl)) Q E s:=by
 have Ip:sizeOk (.seq ((items.toList.drop (eZ items.size 0 lo)).take (eZ items.size items.size hi-eZ items.size 0 lo)).toArray):=by
  show((items.toList.drop (eZ items.size 0 lo)).take (eZ items.size items.size hi-eZ items.size 0 lo)).toArray.size<=sizeLine
  rw[e_,jC,uI,k_]
  omega
 have hj:eZ items.size items.size hi<=items.size:=Vl _ _ (cV _) hi
 obtain⟨os,hos,hcs,hds⟩:=id hs
 have hTs:s.TypeIs (.ref sl) "slice" := ⟨os,hos,hcs⟩
 unfold getItem
 try with_reducible refine qJ ?_
 first | refine aN (bH ?_) | skip
 refine aN (wpAny_sequenceKey ht.typeIs (by decide) ?_)
 refine aN (JW (name:=Str.ofString "__getitem__") ht.typeIs PyProof.Rows.slot_tuple_getitem
  (uJ PyProof.Rows.slot_tuple_getitem ht.typeIs entry_tuple_getitem ?_ (args_tuple_getitem _ _)))
 show wpAny _ _ (Builtin.Tuple.tupleItemsOf (.ref t) >>= _) _ _ s
 refine aN (tupleItemsOf_ ht ?_)
 refine aN (wpAny_typeOf hTs ?_)
 rw[aM (by decide)]
 refine aN (jA hs pl pu ?_)
 have hno:¬((((eZ items.size 0 lo:Nat):Int)==0&&(1:Int)==1&&(eZ items.size items.size hi-eZ items.size 0 lo)==items.size)=true):=by
  intro q
  rw[Bw,Bw] at q
  have q1:((eZ items.size 0 lo:Nat):Int)=0:=eq_of_beq q.1.1
  have q2:eZ items.size items.size hi-eZ items.size 0 lo=items.size:=eq_of_beq q.2
  exact hw ⟨by omega,by omega⟩
 show wpAny _ _ (if(((eZ items.size 0 lo:Nat):Int)==0&&(1:Int)==1&&(eZ items.size items.size hi-eZ items.size 0 lo)==items.size)=true then _ else _) _ _ s
 rw[aK hno,NB]
 first
  | exact aN (m:=Builtin.Tuple.tupleExact _) (sy (bH ⟨_,rfl,bH h⟩) Ip)
  | exact aN (m:=Builtin.Tuple.tupleExact _) (sy (aN (bH (bH ⟨_,rfl,bH h⟩))) Ip)
  | exact aN (aN (m:=Builtin.Tuple.tupleExact _) (sy (bH (bH ⟨_,rfl,bH h⟩)) Ip))
  | exact aN (aN (m:=Builtin.Tuple.tupleExact _) (sy (bH ⟨_,rfl,bH h⟩) Ip))
end
end HT
namespace L2
open PySem PySem.Spec PyProof.Rows
abbrev TO:=St->Hp->(Option Int->Hp->Prop)->Prop
structure PO (X:Cx) (e:Option Expr) (t:TO):Prop where
 mk ::
 go :
 ∀(pins:List (Addr×Obj)) (s:Shared) (σ:St) (H:Hp) (Q:Option Int->Hp->Prop),Inv X pins σ H s->t σ H Q ->
  wpAny (model X.prog X.w) X.A (evalPart e X.env) (fun u s'=>∃o H',Inv X pins σ H' s'/\IsPart u o/\Q o H') X.xe s
instance {X:Cx} {e:Option Expr} {t:TO}:CoeFun (PO X e t) (fun _=>
 ∀(pins:List (Addr×Obj)) (s:Shared) (σ:St) (H:Hp) (Q:Option Int->Hp->Prop),Inv X pins σ H s->t σ H Q ->
  wpAny (model X.prog X.w) X.A (evalPart e X.env) (fun u s'=>∃o H',Inv X pins σ H' s'/\IsPart u o/\Q o H') X.xe s):=⟨PO.go⟩
def GJ:TO:=fun _ H Q=>Q none H
def Tz (t:TE):TO:=fun σ H Q=>t σ H fun x H1=>∃i,x=.int i/\Q (some i) H1
section
variable {X:Cx} {e:Expr} {te:TE} {lo hi:Option Expr} {tl th:TO} {pos p2:Pos}
theorem gJ:PO X none GJ:=by
 refine .mk ?_
 intro pins s σ H Q I h
 rw[evalPart_none]
 exact bH ⟨none,H,I,.none,h⟩
theorem dW (h:PE X e te):PO X (some e) (Tz te):=by
 refine .mk ?_
 intro pins s σ H Q I hw
 rw[evalPart_some]
 refine cF (h pins s σ H _ I hw) fun u s1 qx=>?_
 obtain⟨x,H1,I1,r1,q1⟩:=qx
 obtain⟨i,rfl,q⟩:=q1
 obtain⟨t,rfl⟩:=r1
 exact⟨some i,H1,I1,.int i t,q⟩
structure WX (X:Cx) (r:V->Option Int->Option Int->Hp->VK->Prop):Prop where
 mk ::
 go :
 ∀(pins:List (Addr×Obj)) (s:Shared) (σ:St) (H:Hp) (x:V) (v vl vu:Value) (lo hi:Option Int) (sl:Addr) (Q:VK),Inv X pins σ H s->RelV x v->s.heap.IsSliceOf sl vl vu .none->IsPart vl lo->IsPart vu hi->r x lo hi H Q ->
  ∃T id,typeLookup (.type T) "__getitem__" = pure (some (.builtin id))/\s.TypeIs v T/\wpAny (model X.prog X.w) X.A (getItem v (.ref sl)) (EP X pins σ Q) X.xe s
instance {X:Cx} {r:V->Option Int->Option Int->Hp->VK->Prop}:CoeFun (WX X r) (fun _=>
 ∀(pins:List (Addr×Obj)) (s:Shared) (σ:St) (H:Hp) (x:V) (v vl vu:Value) (lo hi:Option Int) (sl:Addr) (Q:VK),Inv X pins σ H s->RelV x v->s.heap.IsSliceOf sl vl vu .none->IsPart vl lo->IsPart vu hi->r x lo hi H Q ->
  ∃T id,typeLookup (.type T) "__getitem__" = pure (some (.builtin id))/\s.TypeIs v T/\wpAny (model X.prog X.w) X.A (getItem v (.ref sl)) (EP X pins σ Q) X.xe s):=⟨WX.go⟩
def tSl (r:V->Option Int->Option Int->Hp->VK->Prop) (te:TE) (tl th:TO):TE:=fun σ H Q=>te σ H fun x H1=>tl σ H1 fun l H2=>th σ H2 fun u H3=>r x l u H3 Q
theorem dI {r:V->Option Int->Option Int->Hp->VK->Prop} (hr:WX X r) (he:PE X e te) (hl:PO X lo tl) (hu:PO X hi th):PE X (.Subscript e (.Slice lo hi none p2) pos) (tSl r te tl th):=by
 refine .mk ?_
 intro pins s σ H Q I h
 refine Subscript_ (cF (he pins s σ H _ I h) fun v s1 qx=>?_)
 obtain⟨x,H1,I1,r1,q1⟩:=qx
 refine wpAny_Slice (cF (hl pins s1 σ H1 _ I1 q1) fun vl s2 ⟨l,H2,I2,pl,q2⟩=>cF (hu pins s2 σ H2 _ I2 q2) fun vu s3 qx=>?_)
 obtain⟨u,H3,I3,pu,q3⟩:=qx
 rw[evalPart_none]
 refine bH ?_
 have I4:Inv X pins σ H3 { s3 with heap:=s3.heap.push { cls:=.type "slice",data:=.fields #[vl,vu,.none] } }:=I3.kept (t':=s3.toks) fun b ob q=>gf _ q
 obtain⟨T,id,hT,ht,hg⟩:=hr pins { s3 with heap:=s3.heap.push { cls:=.type "slice",data:=.fields #[vl,vu,.none] } } σ H3 x v vl vu l u s3.heap.objs.size Q I4 r1 (Heap.IsSliceOf.new ..) pl pu q3
 show wpAny (model X.prog X.w) X.A (subscriptTail e (.Slice lo hi none p2) v (.ref s3.heap.objs.size)) (EP X pins σ Q) X.xe { s3 with heap:=s3.heap.push { cls:=.type "slice",data:=.fields #[vl,vu,.none] } }
 exact tail_any (ops:=[.ref s3.heap.objs.size,v]) ht hT hg (by with_unfolding_all rfl)
def oG (xs:List V) (lo hi:Option Int):List V:=(xs.drop (HT.eZ xs.length 0 lo)).take (HT.eZ xs.length xs.length hi-HT.eZ xs.length 0 lo)
theorem rT (xs:List V) (lo hi:Option Int):(oG xs lo hi).length<=xs.length:=by
 unfold oG
 rw[jC,uI]
 omega
def aah (K:PySem.W.Frag):V->Option Int->Option Int->Hp->VK->Prop:=fun x lo hi H Q=>∃a xs,x=.ref a/\cD K H a xs /\
 ¬(HT.eZ xs.length 0 lo=0/\HT.eZ xs.length xs.length hi=xs.length)/\∀p,H p=none->Q (.ref p) (upd H p (.tup (oG xs lo hi)))
theorem Vj:WX X (aah X.K):=by
 refine .mk ?_
 intro pins s σ H x v vl vu lo hi sl Q I rx hs pl pu h
 obtain⟨a,xs,rfl,hx,hw,q⟩:=h
 cases rx
 obtain⟨its,r,ht,hz⟩:=I.tuple hx
 have hlen:its.toArray.size=xs.length:=by rw[e_]; exact r.length.symm
 refine⟨"tuple",_,PyProof.Rows.slot_tuple_getitem.lookup,ht.typeIs,?_⟩
 refine HT.pR ht hs pl pu (by rw[hlen]; exact hw) ?_ (by rw[hlen]; exact hz)
 rw[hlen]
 refine⟨.ref s.heap.objs.size,_,I.laid (t':=s.toks) (o:=.tup (oG xs lo hi)) (fun b ob q=>gf _ q) (cV _) ?_,rfl,q _ (I.hok.fresh (cV _))⟩
 exact⟨pF (rT xs lo hi) hz,_,(r.drop (HT.eZ xs.length 0 lo)).take (HT.eZ xs.length xs.length hi-HT.eZ xs.length 0 lo),IsTup.new _ _⟩
def Yd (K:PySem.W.Frag):R2:=fun x y H Q=>∃a b xs ys,x=.ref a/\y=.ref b/\cD K H a xs/\cD K H b ys/\xs≠[]/\xs.length+ys.length<=sizeLine /\
 (ys=[]->Q (.ref a) H)/\(ys≠[]->∀p,H p=none->Q (.ref p) (upd H p (.tup (xs++ys))))
theorem Vals.zU {xs:List V} {us:List Value} (r:Vals xs us):us=[]↔xs=[]:=by
 cases r with
 | nil=>simp
 | cons _ _=>simp
theorem Ry:oU X (binaryOp .Add) (Yd X.K):=by
 refine .mk ?_
 intro pins s σ H x y v u Q I rx ry h
 obtain⟨a,b,xs,ys,rfl,rfl,ha,hb,hx,hz,q1,q2⟩:=h
 cases rx
 cases ry
 obtain⟨its,r1,p1,_⟩:=I.tuple ha
 obtain⟨its2,r2,p2,_⟩:=I.tuple hb
 refine HT.SN p1 p2 (fun z=>hx (r1.zU.mp z)) (fun z=>⟨.ref a,H,I,rfl,q1 (r2.zU.mp z)⟩) (fun z=>?_) (by rw[<- r1.length,<- r2.length]; exact hz)
 refine⟨.ref s.heap.objs.size,_,I.laid (t':=s.toks) (o:=.tup (xs++ys)) (fun b ob q=>gf _ q) (cV _) ?_,rfl,q2 (fun w=>z (r2.zU.mpr w)) _ (I.hok.fresh (cV _))⟩
 exact⟨by rw[fj]; exact hz,_,r1.append r2,IsTup.new _ _⟩
end
def O3 (n:Nat) (i:Int):Option Nat:=if 0<=i then(if i<n then some i.toNat else none) else if -(n:Int)<=i then some (i+n).toNat else none
def yG {α:Type} (xs:List α) (i:Int):Option α:=(O3 xs.length i).bind fun j=>xs[j]?
theorem Ii {n:Nat} {i:Int} {j:Nat} (h:O3 n i=some j):seqIndex? i n=some j/\j<n/\-(n:Int)<=i/\i<n:=by
 unfold O3 at h
 by_cases h0:0<=i
 ·rw[aM h0] at h
  by_cases h1:i<n
  ·rw[aM h1] at h
   have e:i.toNat=j:=Option.some.inj h
   exact⟨by rw[seqIndex_of h0 h1,e],by omega,by omega,h1⟩
  ·rw[aK h1] at h; cases h
 ·rw[aK h0] at h
  by_cases h1:-(n:Int)<=i
  ·rw[aM h1] at h
   have e:(i+n).toNat=j:=Option.some.inj h
   exact⟨by rw[seqIndex_neg (by omega) h1,e],by omega,h1,by omega⟩
  ·rw[aK h1] at h; cases h
theorem tX {α:Type} {xs:List α} {i:Int} {v:α} (h:yG xs i=some v):∃j,seqIndex? i xs.length=some j/\xs[j]?=some v/\j<xs.length/\-(xs.length:Int)<=i/\i<xs.length:=by
 unfold yG at h
 cases e:O3 xs.length i with
 | none=>rw[e] at h; cases h
 | some j=>
  rw[e] at h
  obtain⟨h1,h2,h3,h4⟩:=Ii e
  exact⟨j,h1,h,h2,h3,h4⟩
theorem bx {α:Type} {xs:List α} {j:Nat} {v:α} (h:xs[j]?=some v):yG xs (j:Int)=some v:=by
 have hj:j<xs.length:=(nG.mp h).1
 have e:O3 xs.length (j:Int)=some j:=by
  unfold O3
  rw[aM (by omega),aM (by omega)]; simp
 unfold yG; rw[e]; exact h
theorem wg {α:Type} (xs:List α) (v:α):yG (xs++[v]) (-1)=some v:=by
 have hl:(xs++[v]).length=xs.length+1:=by simp
 have e:O3 (xs++[v]).length (-1)=some xs.length:=by
  unfold O3
  rw[hl,aK (by decide),aM (by omega)]
  congr 1
  omega
 unfold yG
 rw[e]
 show(xs++[v])[xs.length]?=some v
 simp
def Td (b:Expr):Prop:=∀o i,subscripted b false o i=operate [o,i] (getItem o i)
structure QB (X:Cx) (r:R2):Prop where
 mk ::
 go :
 ∀(value slice:Expr) (pins:List (Addr×Obj)) (s:Shared) (σ:St) (H:Hp) (x y:V) (v u:Value) (Q:VK),Inv X pins σ H s->RelV x v->RelV y u->r x y H Q ->
  subscripted slice false v u=operate [v,u] (getItem v u)->wpAny (model X.prog X.w) X.A (subscriptTail value slice v u) (EP X pins σ Q) X.xe s
instance {X:Cx} {r:R2}:CoeFun (QB X r) (fun _=>
 ∀(value slice:Expr) (pins:List (Addr×Obj)) (s:Shared) (σ:St) (H:Hp) (x y:V) (v u:Value) (Q:VK),Inv X pins σ H s->RelV x v->RelV y u->r x y H Q ->
  subscripted slice false v u=operate [v,u] (getItem v u)->wpAny (model X.prog X.w) X.A (subscriptTail value slice v u) (EP X pins σ Q) X.xe s):=⟨QB.go⟩
def ZQ (X:Cx) (id:String) (r:V->List V->Hp->VK->Prop):Prop:=
 ∀(pins:List (Addr×Obj)) (s:Shared) (σ:St) (H:Hp) (x:V) (xs:List V) (v:Value) (us:List Value) (Q:VK),Inv X pins σ H s->RelV x v->Vals xs us->r x xs H Q ->
  wpAny (model X.prog X.w) X.A (call (.builtin id) (v::us)) (EP X pins σ Q) X.xe s
section
variable {X:Cx} {a b:Expr} {ta tb:TE} {pos:Pos}
theorem QB.or {r r':R2} (h:QB X r) (h':QB X r'):QB X (fun x y H Q=>r x y H Q\/r' x y H Q):=by
 refine .mk ?_
 intro value slice pins s σ H x y v u Q I rx ry q hs
 rcases q with q | q
 ·exact h value slice pins s σ H x y v u Q I rx ry q hs
 ·exact h' value slice pins s σ H x y v u Q I rx ry q hs
theorem bh {r:R2} (hr:QB X r) (ha:PE X a ta) (hb:PE X b tb) (hs:Td b):PE X (.Subscript a b pos) (Vc r ta tb):=by
 refine .mk ?_
 intro pins s σ H Q I h
 exact Subscript_ (Wl ha hb I h fun v u s2 x y H2 I2 rx ry q=>hr a b pins s2 σ H2 x y v u Q I2 rx ry q (hs _ _))
def aan (K:PySem.W.Frag):R2:=fun x y H Q=>∃p xs i v,x=.ref p/\y=.int i/\eV K H p xs/\yG xs i=some v/\Q v H
def aam (K:PySem.W.Frag):R2:=fun x y H Q=>∃p xs i v,x=.ref p/\y=.int i/\cD K H p xs/\yG xs i=some v/\Q v H
theorem Ih:QB X (aan X.K):=by
 refine .mk ?_
 intro value slice pins s σ H x y v u Q I rx ry h hs
 obtain⟨p,xs,i,z,rfl,rfl,hq,he,q⟩:=h
 cases rx
 obtain⟨t,rfl⟩:=ry
 obtain⟨its,r,pl,hz⟩:=I.list hq
 obtain⟨j,h1,h2,h3,h4,h5⟩:=tX he
 obtain⟨w,ew,Vm⟩:=r.get h2
 have hl:=r.length
 have hn:=vh
 have fin:EP X pins σ Q w s:=⟨z,H,I,Vm,q⟩
 by_cases h0:0<=i
 ·have hj:i.toNat=j:=by
   rw[seqIndex_of h0 h5] at h1
   exact Option.some.inj h1
  exact item_listR pl.isList h0 (by omega) (by rw[hj]; simpa using ew) fin hs
 ·have hj:(i+(its.toArray.size:Int)).toNat=j:=by
   rw[seqIndex_neg (by omega) h4] at h1
   rw[e_,<- hl]
   exact Option.some.inj h1
  exact subscriptTail_builtinR (x:=w) pl.isList.typeIs slot_list_getitem.lookup
   (wpAny_getItem_list_neg (Q:=fun r s'=>r=w/\EP X pins σ Q r s') pl.isList (by omega) (by rw[e_] <;> omega) (by omega) (by rw[hj]; simpa using ew) ⟨rfl,fin⟩) hs
theorem V8:QB X (aam X.K):=by
 refine .mk ?_
 intro value slice pins s σ H x y v u Q I rx ry h hs
 obtain⟨p,xs,i,z,rfl,rfl,hq,he,q⟩:=h
 cases rx
 obtain⟨t,rfl⟩:=ry
 obtain⟨its,r,pl,hz⟩:=I.tuple hq
 obtain⟨j,h1,h2,h3,h4,h5⟩:=tX he
 obtain⟨w,ew,Vm⟩:=r.get h2
 have hl:=r.length
 have hn:=vh
 have fin:EP X pins σ Q w s:=⟨z,H,I,Vm,q⟩
 exact subscriptTail_builtinR (x:=w) pl.typeIs slot_tuple_getitem.lookup
  (getItem_tuple (j:=j) (Q:=fun r s'=>r=w/\EP X pins σ Q r s') pl (by omega) (by omega) (by rw[e_,<- hl]; exact h1) (by simpa using ew) ⟨rfl,fin⟩) hs
theorem FZ (its:List Value) (n j:Nat) (u:Value):Obj.mapSeq (·.setIfInBounds j u) { cls:=.type "list",data:=.seq its.toArray n }={ cls:=.type "list",data:=.seq (its.set j u).toArray n }:=by
 simp[Obj.mapSeq]
theorem Inv.lst {pins:List (Addr×Obj)} {σ:St} {H:Hp} {s:Shared} {p:Addr} {xs:List V} (I:Inv X pins σ H s) (h:H p=some (.lst xs)) :
  ∃(its:List Value) (n:Nat),Vals xs its/\s.heap.get? p=some { cls:=.type "list",data:=.seq its.toArray n }/\xs.length<=sizeLine:=by
 obtain⟨z,its,n,r,e⟩:=I.hok p _ h
 exact⟨its,n,r,e,z⟩
theorem Inv.V1 {pins:List (Addr×Obj)} {σ:St} {H:Hp} {s:Shared} {p:Addr} {xs ys:List V} {its its':List Value} {n n':Nat} {f:Obj->Obj} (I:Inv X pins σ H s) (h:H p=some (.lst xs))
  (ho:s.heap.get? p=some { cls:=.type "list",data:=.seq its.toArray n }) (hf:f { cls:=.type "list",data:=.seq its.toArray n }={ cls:=.type "list",data:=.seq its'.toArray n' }) (r:Vals ys its') (hz:ys.length<=sizeLine) (t:Nat) :
  Inv X pins σ (upd H p (.lst ys)) { s with heap:=s.heap.update p f,toks:=t }:=by
 have e:(s.heap.update p f).get? p=some { cls:=.type "list",data:=.seq its'.toArray n' }:=by
  rw[wJ f ho (by rw[hf] <;> rfl),hf]
 refine I.write (x:=p) (e:=p) (by rw[h]; trivial) (.inl rfl) (fun b u hb q=>(sO _ _ (Ne.symm hb)).trans q) ⟨_,e⟩ ?_
 exact⟨hz,its',n',r,e⟩
def X6:V->V->V->Hp->(Hp->Prop)->Prop:=fun o i v H Q=>∃p xs k j,o=.ref p/\i=.int k/\H p=some (.lst xs)/\O3 xs.length k=some j/\Q (upd H p (.lst (xs.set j v)))
theorem set_list:Qq X X6:=by
 refine .mk ?_
 intro pins s σ H o i v ov iv u Q I ro ri rv h
 obtain⟨p,xs,k,j,rfl,rfl,hp,hj,q⟩:=h
 cases ro
 obtain⟨t,rfl⟩:=ri
 obtain⟨its,n,r,ho,hz⟩:=I.lst hp
 obtain⟨h1,h2,h3,h4⟩:=Ii hj
 have hl:=r.length
 have hn:=vh
 have I':Inv X pins σ (upd H p (.lst (xs.set j v))) { s with heap:=s.heap.update p (Obj.mapSeq (·.setIfInBounds j u)) }:=
  I.V1 hp ho (FZ its n j u) (r.set rv j) (by rw[List.length_set]; exact hz) s.toks
 by_cases h0:0<=k
 ·have hk:k.toNat=j:=by
   rw[seqIndex_of h0 h4] at h1
   exact Option.some.inj h1
  exact PySem.W.ki_setAt ho h0 (by omega) (by rw[e_,<- hl]; exact h4) (by rw[hk]; exact⟨_,I',q⟩)
 ·have hk:(k+(its.toArray.size:Int)).toNat=j:=by
   rw[seqIndex_neg (by omega) h3] at h1
   rw[e_,<- hl]
   exact Option.some.inj h1
  exact PySem.W.ki_setBack ho (by omega) (by rw[e_,<- hl]; exact h3) (by omega) (by rw[hk]; exact⟨_,I',q⟩)
theorem zb (lo hi:Option Int) (n:Nat):(sliceBounds lo hi none n).1=((HT.eZ n 0 lo:Nat):Int)/\(sliceBounds lo hi none n).2.1=((HT.eZ n n hi:Nat):Int)/\(sliceBounds lo hi none n).2.2=1:=by
 refine⟨?_,?_,rfl⟩
 ·cases lo with
  | none=>simp[sliceBounds,HT.eZ]
  | some i=>
   simp only[sliceBounds,HT.eZ,Option.getD_none,show(1:Int)>0 by decide,if_true]
   by_cases h:i<0
   ·simp only[h,if_true] <;> omega
   ·simp only[h,if_false] <;> omega
 ·cases hi with
  | none=>simp[sliceBounds,HT.eZ]
  | some i=>
   simp only[sliceBounds,HT.eZ,Option.getD_none,show(1:Int)>0 by decide,if_true]
   by_cases h:i<0
   ·simp only[h,if_true] <;> omega
   ·simp only[h,if_false] <;> omega
theorem wH (its:List Value) (lo hi:Option Int):slicePick its.toArray lo hi none=((its.drop (HT.eZ its.length 0 lo)).take (HT.eZ its.length its.length hi-HT.eZ its.length 0 lo)).toArray:=by
 obtain⟨h1,h2,h3⟩:=zb lo hi its.toArray.size
 unfold slicePick
 rw[h1,h2,h3]
 simp only[sliceRange_one,pick_run,e_] <;> rfl
def aai (K:PySem.W.Frag):V->Option Int->Option Int->Hp->VK->Prop:=fun x lo hi H Q=>∃a xs,x=.ref a/\eV K H a xs/\∀p,H p=none->Q (.ref p) (upd H p (.lst (oG xs lo hi)))
theorem Hb:WX X (aai X.K):=by
 refine .mk ?_
 intro pins s σ H x v vl vu lo hi sl Q I rx hs pl pu h
 obtain⟨a,xs,rfl,hx,q⟩:=h
 cases rx
 obtain⟨its,r,ht,hz⟩:=I.list hx
 have hlen:=r.length
 refine⟨"list",_,slot_list_getitem.lookup,ht.isList.typeIs,?_⟩
 refine wpAny_getItem_list_slice ht.isList hs pl pu .none (by simp) ?_ (by rw[e_] <;> omega)
 rw[wH,<- hlen]
 refine⟨.ref s.heap.objs.size,_,I.laid (t':=s.toks) (o:=.lst (oG xs lo hi)) (fun b ob q=>gf _ q) (cV _) ?_,rfl,q _ (I.hok.fresh (cV _))⟩
 exact⟨pF (rT xs lo hi) hz,_,0,(r.drop (HT.eZ xs.length 0 lo)).take (HT.eZ xs.length xs.length hi-HT.eZ xs.length 0 lo),dR _ rfl⟩
theorem Aj:cX X (.builtin "len") (fun xs H Q=>∃p ys,xs=[.ref p]/\(eV X.K H p ys\/cD X.K H p ys)/\Q (.int ys.length) H):=by
 refine .mk ?_
 intro pins s σ H xs us Q I r h
 obtain⟨p,ys,rfl,hq,q⟩:=h
 obtain⟨u,rfl,rx⟩:=vals1 r
 cases rx
 have hn:=vh
 rcases hq with hq | hq
 ·obtain⟨its,r',pl,hz⟩:=I.list hq
  have hlen:=r'.length
  exact Calls.call_len_list pl.isList (by simp only[e_] <;> omega) ⟨.int ys.length,H,I.tok _,⟨s.toks+1,by rw[e_,hlen]⟩,q⟩
 ·obtain⟨its,r',pl,hz⟩:=I.tuple hq
  have hlen:=r'.length
  exact len_tuple pl (by simp only[e_] <;> omega) ⟨.int ys.length,H,I.tok _,⟨s.toks+1,by rw[e_,hlen]⟩,q⟩
theorem pY:cX X (.type "list") (fun xs H Q=>∃p ys,xs=[.ref p]/\(eV X.K H p ys\/cD X.K H p ys)/\∀l,H l=none->Q (.ref l) (upd H l (.lst ys))):=by
 refine .mk ?_
 intro pins s σ H xs us Q I r h
 obtain⟨p,ys,rfl,hq,q⟩:=h
 obtain⟨u,rfl,rx⟩:=vals1 r
 cases rx
 have fin:∀(its:List Value),Vals ys its->ys.length<=sizeLine->∀(h':Heap) (c':Nat),(∀b o',s.heap.get? b=some o'->h'.get? b=some o') ->
   h'.get? s.heap.objs.size=some { cls:=.type "list",dict:=none,data:=.seq its.toArray c',slots:=#[] }->EP X pins σ Q (.ref s.heap.objs.size) { s with heap:=h' }:=fun its r' hz h' c' kp e=>
  ⟨.ref s.heap.objs.size,_,I.laid (t':=s.toks) kp (cV _) (show cB X.prog X.w _ h' _ (.lst ys) from⟨hz,its,c',r',e⟩),rfl,q _ (I.hok.fresh (cV _))⟩
 rcases hq with hq | hq
 ·obtain⟨its,r',pl,hz⟩:=I.list hq
  have hlen:=r'.length
  obtain⟨o,ho,hc,n,hd⟩:=pl.isList
  exact call_list_seq p (.inl rfl) ho hc hd (fun h' c' kp e=>fin its r' hz h' c' kp e) (by simp only[e_] <;> omega)
 ·obtain⟨its,r',pl,hz⟩:=I.tuple hq
  have hlen:=r'.length
  obtain⟨o,ho,hc,n,hd⟩:=pl
  exact call_list_seq p (.inr rfl) ho hc hd (fun h' c' kp e=>fin its r' hz h' c' kp e) (by simp only[e_] <;> omega)
theorem wR:cX X (.type "tuple") (fun xs H Q=>∃p ys,xs=[.ref p]/\((eV X.K H p ys/\∀l,H l=none->Q (.ref l) (upd H l (.tup ys)))\/(cD X.K H p ys/\Q (.ref p) H))):=by
 refine .mk ?_
 intro pins s σ H xs us Q I r h
 obtain⟨p,ys,rfl,h⟩:=h
 obtain⟨u,rfl,rx⟩:=vals1 r
 cases rx
 rcases h with⟨hq,q⟩ | ⟨hq,q⟩
 ·obtain⟨its,r',pl,hz⟩:=I.list hq
  have hlen:=r'.length
  refine call_tuple_list pl.isList (fun h' kp=>?_) (by simp only[e_] <;> omega)
  have I1:Inv X pins σ H { s with heap:=h' }:=I.kept (t':=s.toks) kp
  have I2:Inv X pins σ (upd H h'.objs.size (.tup ys)) { s with heap:=h'.push { cls:=.type "tuple",data:=.seq its.toArray } }:=
   I1.laid (t':=s.toks) (fun b o e=>gf _ e) (cV _) (show cB X.prog X.w _ _ _ (.tup ys) from⟨hz,its,r',IsTup.new _ _⟩)
  exact⟨.ref h'.objs.size,_,I2,rfl,q _ (I1.hok.fresh (cV _))⟩
 ·obtain⟨its,r',pl,hz⟩:=I.tuple hq
  exact call_tuple_same pl ⟨.ref p,H,I,rfl,q⟩
def tyV (K:PySem.W.Frag) (T:String) (x:V) (H:Hp):Prop:=match x with
 | .str _=>T = "str"
 | .int _=>T = "int"
 | .ref p=>(T = "list" /\ ∃xs,eV K H p xs)\/(T = "tuple" /\ ∃o,K.lookup p=some o/\o.cls=.type "tuple" /\ o.dict=none) \/
   (T = "dict" /\ ((∃kvs,H p=some (.dK kvs))\/∃kvs,H p=some (.dT kvs)))\/(T = "set" /\ ∃S n,H p=some (.set S n))
 | _=>False
theorem Va {pins:List (Addr×Obj)} {σ:St} {H:Hp} {s:Shared} {T:String} {x:V} {v:Value} (I:Inv X pins σ H s) (r:RelV x v) (ty:tyV X.K T x H) :
  s.TypeIs v T/\∀a,v=.ref a->∃ob,s.heap.get? a=some ob/\ob.dict=none:=by
 cases x with
 | str z=>
  obtain⟨t,rfl⟩:=r
  cases(show T = "str" from ty)
  exact⟨typeIs_str s z t,fun _ e=>nomatch e⟩
 | int i=>
  obtain⟨t,rfl⟩:=r
  cases(show T = "int" from ty)
  exact⟨typeIs_int s i t,fun _ e=>nomatch e⟩
 | ref p=>
  cases r
  rcases ty with⟨rfl,xs,hq⟩ | ⟨rfl,o,hk,hc,hd⟩ | ⟨rfl,hk⟩ | ⟨rfl,S,n,hk⟩
  ·obtain⟨its,_,pl,_⟩:=I.list hq
   refine⟨pl.isList.typeIs,fun a e=>?_⟩
   cases e
   obtain⟨o,n,e,c,hd,_⟩:=pl
   exact⟨o,e,hd⟩
  ·refine⟨⟨o,I.wC p o hk,hc⟩,fun a e=>?_⟩
   cases e
   exact⟨o,I.wC _ o hk,hd⟩
  ·have z:∃o,s.heap.get? p=some o/\o.ExactDict:=by
    rcases hk with⟨kvs,hk⟩ | ⟨kvs,hk⟩
    ·obtain⟨_,_,_,_,o,_,_,e,ex,_⟩:=I.hok p _ hk
     exact⟨o,e,ex⟩
    ·obtain⟨_,_,_,_,o,_,_,e,ex,_⟩:=I.hok p _ hk
     exact⟨o,e,ex⟩
   obtain⟨o,e,ex⟩:=z
   refine⟨⟨o,e,ex.1⟩,fun a e2=>?_⟩
   cases e2
   exact⟨o,e,ex.2.1⟩
  ·obtain⟨o,_,_,_,e,ex,_⟩:=I.hok p _ hk
   refine⟨⟨o,e,ex.1⟩,fun a e2=>?_⟩
   cases e2
   exact⟨o,e,ex.2.1⟩
 | _=>exact False.elim ty
def Z9 (K:PySem.W.Frag) (T:String) (r:V->List V->Hp->VK->Prop) (to:TE) (t:TA):TE:=fun σ H Q=>to σ H fun x H1=>tyV K T x H1/\t σ H1 fun xs H2=>r x xs H2 Q
variable {o e:Expr} {es:List Expr} {to:TE} {t:TA} {name:Str} {apos cpos:Pos} {T id:String} {r:V->List V->Hp->VK->Prop}
theorem Yh (pa:PlainAttrs T) (slot:Slot T name id) (hty:typeOf (.builtin id)=pure (.type "method_descriptor")) (hm:ZQ X id r) (ho:PE X o to) (ha:PA X (e::es) t)
  (hbase:attributeBase o name X.env (eval o X.env)=eval o X.env:=by rfl)
  (hfew:((backTo cpos (starEach (e::es) X.env)).all (fun x=>!x.1)&&(backToKw cpos (keywordEach [] X.env)).all (fun x=>x.1.isSome)
   && decide ((e::es).length+([]:List Keyword).length+(if([]:List Keyword).isEmpty then 0 else 1)<30))=true:=by rfl)
  (hline:(apos.endLine==cpos.line)=true:=by rfl) (hs:starEach (e::es) X.env=(false,eval e X.env)::starEach es X.env:=by rfl) (hplain:(backTo cpos (starEach es X.env)).any (·.1)=false:=by rfl) :
  PE X (.Call (.Attribute o name apos) (e::es) [] cpos) (Z9 X.K T r to t):=by
 refine .mk ?_
 intro pins s σ H Q I h
 refine wpAny_Call_method_late hbase hfew hline rfl (cF (ho pins s σ H _ I h) fun v s1 qx=>?_)
 obtain⟨x,H1,I1,r1,ty,q1⟩:=qx
 obtain⟨h1,h2⟩:=Va I1 r1 ty
 refine⟨T,id,pa,slot,hty,h1,h2,?_⟩
 have hA:=ha cpos pins s1 σ H1 _ I1 q1
 rw[hs] at hA ⊢
 refine Calls.callWith_builtin (by show(false || (backTo cpos (starEach es X.env)).any (·.1))=false; rw[hplain] <;> rfl) (Calls.evalArgs_plain ?_)
 exact cF hA fun us s2 ⟨vs,H2,I2,r2,q2⟩=>hm pins s2 σ H2 x vs v us Q I2 r1 r2 q2
end
def MtM (X:Cx) (id:String) (r:V->List V->Hp->VK->Prop):Prop:=
 ∀(pins:List (Addr×Obj)) (s:Shared) (σ:St) (H:Hp) (x:V) (xs:List V) (v:Value) (us:List Value) (Q:VK),Inv X pins σ H s->RelV x v->Vals xs us->r x xs H Q ->
  wpAny (model X.prog X.w) X.A (call (.builtin id) (v::us)) (EP X pins σ Q) X.xe s
theorem Vals.un {x:V} {xs:List V} {us:List Value} (h:Vals (x::xs) us):∃u r,us=u::r/\RelV x u/\Vals xs r:=by
 cases h with
 | cons r t=>exact⟨_,_,rfl,r,t⟩
theorem Vals.no {us:List Value} (h:Vals [] us):us=[]:=by
 cases h
 rfl
theorem Vals.one {x:V} {us:List Value} (h:Vals [x] us):∃u,us=[u]/\RelV x u:=by
 obtain⟨u,r,rfl,h1,h⟩:=h.un
 cases h.no
 exact⟨u,rfl,h1⟩
theorem Vals.two {x y:V} {us:List Value} (h:Vals [x,y] us):∃u v,us=[u,v]/\RelV x u/\RelV y v:=by
 obtain⟨u,r,rfl,h1,h⟩:=h.un
 obtain⟨v,rfl,h2⟩:=h.one
 exact⟨u,v,rfl,h1,h2⟩
theorem Vals.reverse {xs:List V} {us:List Value} (h:Vals xs us):Vals xs.reverse us.reverse:=by
 induction h with
 | nil=>exact .nil
 | cons r t ih=>rw[List.reverse_cons,List.reverse_cons]; exact Vals.append ih (.cons r .nil)
theorem Vals.rep {xs:List V} {us:List Value} (h:Vals xs us):∀k:Nat,Vals (List.replicate k xs).flatten (List.replicate k us).flatten
 | 0=>.nil
 | k+1=>by
  rw[Nj,Nj,Ce,Ce]
  exact Vals.append h (Vals.rep h k)
theorem foldl_rep (its:List Value):∀(k:Nat) (acc:List Value),
  List.foldl (fun x1 x2=>x1++x2) acc.toArray (List.replicate k its.toArray)=(acc++(List.replicate k its).flatten).toArray
 | 0,acc=>by simp
 | k+1,acc=>by
  have e:acc.toArray++its.toArray=(acc++its).toArray:=by simp
  have e2:(acc++its)++(List.replicate k its).flatten=acc++(List.replicate (k+1) its).flatten:=by
   rw[Nj,Ce,zr]
  rw[<- e2,<- foldl_rep its k (acc++its),<- e,Nj,List.foldl_cons]
section
variable {X:Cx} {pins:List (Addr×Obj)} {σ:St} {H:Hp} {s:Shared} {l b:Addr} {xs ys zs:List V}
theorem Inv.aaC {its its':List Value} {n:Nat} {f:Array Value->Array Value} {t':Nat} (I:Inv X pins σ H s) (hH:H l=some (.lst xs))
  (e:s.heap.get? l=some { cls:=.type "list",data:=.seq its.toArray n }) (hf:f its.toArray=its'.toArray) (hv:Vals ys its') (hz:ys.length<=sizeLine) :
  Inv X pins σ (upd H l (.lst ys)) { s with heap:=s.heap.update l (Obj.mapSeq f),toks:=t' }:=by
 have q:=PySem.IsL.update e f
 rw[hf] at q
 refine I.write (x:=l) (e:=l) (by rw[hH]; exact trivial) (.inl rfl) (fun b' u hb hu=>(sO s.heap (Obj.mapSeq f) (Ne.symm hb)).trans hu) ⟨_,q⟩ ?_
 exact⟨hz,its',_,hv,q⟩
theorem Inv.RX {its:List Value} {t':Nat} (I:Inv X pins σ H s) (hv:Vals ys its) (hz:ys.length<=sizeLine) :
  Inv X pins σ (upd H s.heap.objs.size (.lst ys)) { s with heap:=s.heap.push { cls:=.type "list",data:=.seq its.toArray },toks:=t' }:=
 I.laid (fun _ _ q=>gf _ q) (cV _) ⟨hz,its,0,hv,dR _ rfl⟩
theorem Inv.fresh (I:Inv X pins σ H s):H s.heap.objs.size=none:=I.hok.fresh (cV _)
theorem Inv.RV (I:Inv X pins σ H s) (hH:H l=some (.lst xs)):xs.length<=sizeLine/\∃(its:List Value) (n:Nat),Vals xs its/\xs.length=its.length/\s.heap.get? l=some { cls:=.type "list",data:=.seq its.toArray n }:=by
 obtain⟨z,its,n,r,e⟩:=I.hok l _ hH
 exact⟨z,its,n,r,r.length,e⟩
theorem Og {n:Nat} (h:n<=sizeLine):Builtin.List.listTooLong n=false:=by
 unfold Builtin.List.listTooLong
 exact fX (by omega)
end
section
variable {X:Cx}
def Rg:V->List V->Hp->VK->Prop:=fun x vs H Q=>∃l xs y,x=.ref l/\vs=[y]/\H l=some (.lst xs)/\xs.length<sizeLine/\Q .non (upd H l (.lst (xs++[y])))
theorem gA:MtM X "list.append" Rg:=by
 intro pins s σ H x vs v us Q I rx rv h
 obtain⟨l,xs,y,rfl,rfl,hH,hz,q⟩:=h
 cases rx
 obtain⟨u,rfl,ru⟩:=rv.one
 obtain⟨z,its,n,r,hl,e⟩:=I.RV hH
 refine call_meets F.slot_list_append ⟨_,e,rfl⟩ F.entry_list_append (F.args_list_append_2 _ _) (PySem.list_append l its.toArray n u (by rw[e_]; omega)) ⟨e,?_⟩
 refine⟨.non,_,I.aaC (its':=its++[u]) hH e (by simp) (r.append (.cons ru .nil)) ?_,rfl,q⟩
 rw[fj,List.length_singleton]
 omega
def JK:R2:=fun x y H Q=>∃l b xs zs,x=.ref l/\y=.ref b/\H l=some (.lst xs)/\H b=some (.lst zs)/\xs.length+zs.length<=sizeLine/\∀p,H p=none->Q (.ref p) (upd H p (.lst (xs++zs)))
theorem Ob:oU X (binaryOp .Add) JK:=by
 refine .mk ?_
 intro pins s σ H x y v u Q I rx ry h
 obtain⟨l,b,xs,zs,rfl,rfl,hH,hB,hz,q⟩:=h
 cases rx
 cases ry
 obtain⟨z,its,n,r,hl,e⟩:=I.RV hH
 obtain⟨z2,its2,n2,r2,hl2,e2⟩:=I.RV hB
 refine PySem.P.add_list e e2 ?_ (by rw[e_,e_]; omega)
 have ea:its.toArray++its2.toArray=(its++its2).toArray:=by simp
 rw[ea]
 exact⟨.ref _,_,I.RX (t':=s.toks) (r.append r2) (by rw[fj]; omega),rfl,q _ I.fresh⟩
def aaj:R2:=fun x y H Q=>∃l k xs,x=.ref l/\y=.int k/\H l=some (.lst xs)/\-(2 ^ 63)<=k/\k<2 ^ 63/\xs.length*k.toNat<=sizeLine /\
 ∀p,H p=none->Q (.ref p) (upd H p (.lst (List.replicate k.toNat xs).flatten))
theorem len_rep {α:Type} (xs:List α) (k:Nat):(List.replicate k xs).flatten.length=k*xs.length:=by
 induction k with
 | zero=>simp
 | succ k ih=>rw[Nj,Ce,fj,ih,Nat.succ_mul,Nat.add_comm]
theorem VD:oU X (binaryOp .Mult) aaj:=by
 refine .mk ?_
 intro pins s σ H x y v u Q I rx ry h
 obtain⟨l,k,xs,rfl,rfl,hH,h1,h2,hz,q⟩:=h
 cases rx
 obtain⟨t,rfl⟩:=ry
 obtain⟨z,its,n,r,hl,e⟩:=I.RV hH
 have hlen:its.toArray.size*k.toNat<=sizeLine:=by rw[e_,<- hl]; exact hz
 have aaP:¬its.toArray.size*k.toNat>(2 ^ 63-1) / 8:=by
  have:(sizeLine:Nat)<=(2 ^ 63-1) / 8:=by decide
  omega
 have hfit:¬(!Builtin.List.listFitsIndex k)=true:=by
  rw[fitsIndex_both h1 h2]
  exact jD
 have Yx:¬Builtin.List.listTooLong (its.toArray.size*k.toNat)=true:=by
  rw[Og hlen]
  exact jD
 have hnew:List.foldl (fun x1 x2=>x1++x2) #[] (List.replicate (if its.toArray.isEmpty=true then 0 else k.toNat) its.toArray)=(List.replicate k.toNat its).flatten.toArray:=by
  have f0:∀m:Nat,List.foldl (fun x1 x2=>x1++x2) #[] (List.replicate m its.toArray)=(List.replicate m its).flatten.toArray:=fun m=>by
   have:=foldl_rep its m []
   rw[xQ] at this
   exact this
  rw[f0]
  cases its with
  | nil=>simp
  | cons a r'=>rw[aK (by simp)]
 refine wpAny_binaryOp_repeat_ref (T:="list") (U:="int") (by decide) ⟨_,e,rfl⟩ (fun s'=>typeIs_int s' k t) noFill_list_mul F.fills_int_mul F.slot_int_rmul repeat_list F.slot_int_index.lookup
  (call_meets F.slot_int_rmul (typeIs_int s k t) F.entry_int_rmul (F.args_int_rmul_2 _ _) (int___rmul___int_list k t l its.toArray n)
   ⟨e,rfl,⟨_,e,rfl⟩,call_meets F.slot_list_mul ⟨_,e,rfl⟩ F.entry_list_mul (F.args_list_mul_2 _ _) (AutoListH.list___mul___list_int_3 l its.toArray n k t hfit aaP Yx) ⟨e,?_⟩⟩)
 rw[hnew]
 exact⟨.ref _,_,I.RX (t':=s.toks) (r.rep k.toNat) (by rw[len_rep,Nat.mul_comm]; exact hz),rfl,q _ I.fresh⟩
end
section
variable {prog:Program} {w:World} {A:Around} {E:Value->Shared->Prop} {s:Shared}
end
section
variable {X:Cx}
end
end L2
namespace Att
open PySem PySem.W PySem.Calls PyProof.Rows
theorem sV {P:Params} {h:Heap}:∀(ns:List Int) (vs:List Value),WellAll P h vs (ns.map WData.int)->IntsAre vs ns:=by
 intro ns
 induction ns with
 | nil=>
  intro vs w
  rw[List.map_nil] at w
  cases w
  exact .nil
 | cons n ns ih=>
  intro vs w
  rw[rZ] at w
  cases w with
  | cons a b=>
   cases a
   exact .cons _ _ (ih _ b)
theorem JB {l:OpenLaw} {n:Nat} (hn:l.most=some n) {P:Params} {h:Heap} {args:List WData} {vals:List Value}
  (hpre:l.row.toRowW.claim.pre args=true) (hwl:WellAll P h vals args) :
  ∃a vs ns,vals=[Value.ref a]/\args=[WData.list (ns.map WData.int)]/\h.get? a=some { cls:=.type "list",data:=.seq vs.toArray }/\IntsAre vs ns/\ns.length<=n:=by
 have hsh:WShape.hasAll [] args [.list .int]=true:=(pre_splitW hpre).1
 have hc:l.pre.holds [] { args:=args }=true:=(pre_splitW hpre).2
 obtain⟨d,r,rfl,h1,h2⟩:=hasAllW_cons hsh
 obtain rfl:=hasAllW_nil h2
 obtain⟨xs,rfl,h3⟩:=hasW_list h1
 obtain⟨ns,rfl⟩:=items_int h3
 have hlen:ns.length<=n:=by
  unfold OpenLaw.pre at hc
  have h4:(WTm.not (.lt (.lit (.int (n:Int))) (.len (.arg 0)))).holds [] { args:=[.list (ns.map .int)] }=true:=by
   have h4:=(holds_andW hc).1
   rw[hn] at h4
   exact h4
  have h5:=condW_of h4 (w_not (w_lt w_lit (w_len_list (w_arg rfl))))
  rw[cg] at h5
  refine Nat.le_of_not_lt fun q=>?_
  have q':(n:Int)<((ns.length:Nat):Int):=by omega
  first
   | (rw[iT q'] at h5; exact absurd h5 (by decide))
   | (simp at h5; omega)
 cases hwl with
 | cons w1 w2=>
  cases w2
  cases w1 with
  | list ho hall=>exact⟨_,_,ns,rfl,rfl,ho,sV ns _ hall,hlen⟩
theorem J1 (l:OpenLaw) (args:List WData):l.row.toRowW.claim.post args (.bool true) args=true:=
 postW_of (r:=l.row.toRowW) (X:=(true==true))
  (show WShape.has [] (.bool true) .bool=true by first | rfl | decide | simp[WShape.has,WShape.arms,WShape.armsAll])
  (show(WTm.eq .res (.lit (.bool true))).value [] { args:=args,res:=some (.bool true),after:=args }=some (.bool (true==true)) from w_eq_bool (w_res rfl) w_lit) rfl
theorem DR {l:OpenLaw} {n:Nat} {q:Program} {loose:List Str} {XP:(Str->Option Value)->Heap->Prop} {YP:World->Heap->Prop} {d:DefRec}
  (hn:l.most=some n) (hdf:d.params.defaults=[])
  (call:∀(w:World) (s₀ s₁:Shared) (mg mb:Str->Option Value) (fa:Addr) (o:Obj) (pm cd doc:Value) (a:Addr) (vs:List Value) (ns:List Int),
   Ground q loose [] XP w s₀ mg mb s₁.heap->YP w s₁.heap ->
   s₁.heap.get? fa=some o->o.data=.func (docDef d.name d.params d.body d.scope pm cd doc)->s₁.heap.CodeRec cd d.name->mg d.name=some (.ref fa) ->
   s₁.heap.get? a=some { cls:=.type "list",data:=.seq vs.toArray }->IntsAre vs ns->ns.length<=n->s₁.gens = #[] ->
   codeAny (model l.prog w) callerA (.call (.ref fa) ⟨[.ref a],[]⟩) (fun r s'=>r=.ok (.ret (.bool true))/\OldK s₁.heap s'.heap/\s'.os=s₁.os/\AllBare s'.gens) s₁) :
  WalkO q loose XP YP l.row.toRowW d [] (fun f vs=>PySem.call f vs):=by
 intro w s₀ s₁ mg mb G Y fa o pm cd doc dV kV ho hd hcd hD hmg hg args vals as hpre hlay hrd hwl hlo
 obtain rfl:dV=.none:=Dflts.none hD hdf
 obtain rfl:kV=.none:=Dflts.noKw hD
 obtain⟨a,vs,ns,rfl,rfl,hobj,hints,hlen⟩:=JB hn hpre hwl
 refine enter_call (codeAny_mono (call w s₀ s₁ mg mb fa o pm cd doc a vs ns G Y ho (fd_plain hd) hcd hmg hobj hints hlen hg) fun r s' hq=>?_)
 obtain⟨rfl,h2,h3,h4⟩:=hq
 exact⟨.inl ⟨.bool true,.bool true,[],rfl,fun _=>rfl,.bool true,J1 l _,fun _=>⟨List.Pairwise.nil,fun _ hm=>(nomatch hm)⟩⟩,h2,h3,h4⟩
section
variable {prog:Program} {w:World} {A:Around} {E:Value->Shared->Prop} {s:Shared} {K:Frag}
def ledger (h:Heap) (L d:Addr):List (Addr×Obj):=(List.range h.objs.size).filterMap fun a=>if a=L\/a=d then none else(h.get? a).map fun o=>(a,o)
end
end Att
namespace L2
open PySem PySem.Spec PyProof.Rows
theorem xj:∀{vs:List Value} {ns:List Int},IntsAre vs ns->Vals (ns.map V.int) vs
 | _,_,.nil=>.nil
 | _,_,.cons n t h=>.cons ⟨t,rfl⟩ (xj h)
def Only (H:Hp):Prop:=∀b,H b=none\/∃o xs,H b=some (.DY o (.lst xs))
theorem O1 {P:Program} {w:World} {K:PySem.W.Frag} {mg mb:Str->Option Value} {CX:Jl} {k:Nat} {fa a:Addr} {fd:FuncData} {x:Str} {sp:Sp} {s₁:Shared} {vs:List Value} {ns:List Int}
  (KX:K.In s₁.heap) (hns:s₁.heap.Ns mainGlobals mg) (hb:s₁.heap.Ns builtinsNs mb) (hbb:∀x:Str,x ≠ "__name__" -> mb x=bootBuiltins x) (hlim:s₁.heap.NoLimit) (hg:s₁.gens = #[])
  (ha:s₁.heap.get? a=some { cls:=.type "list",data:=.seq vs.toArray }) (hi:IntsAre vs ns) (hl:ns.length<=sizeLine) (hr:gG k callerA)
  (F:∀base:Heap,K.In base->base.Ns mainGlobals mg->bM P w K mg base CX k fa fd [x] sp) (hbind:∀(s:Shared) (u:Value),BindsTo s fd ⟨[u],[]⟩ [(x,u)])
  (hsp:∀H:Hp,Only H->eV K H a (ns.map V.int)->sp [.ref a] H (fun v _=>v=.bl true) fun _ _ _=>False)
  (hCX:∀H e s',CX [] H s₁ (fun _ _ _=>False) e s'->False) :
  codeAny (model P w) callerA (.call (.ref fa) ⟨[.ref a],[]⟩) (fun r s'=>r=.ok (.ret (.bool true))/\OldK s₁.heap s'.heap/\s'.os=s₁.os/\AllBare s'.gens) s₁:=by
 have rv:=xj hi
 have lenV:=hi.length
 have core:∀H:Hp,Only H->eV K H a (ns.map V.int)->kI P w H s₁.heap->(∀b,H b≠none->b=a)->(H a≠none->K.lookup a=none) ->
   codeAny (model P w) callerA (.call (.ref fa) ⟨[.ref a],[]⟩) (fun r s'=>r=.ok (.ret (.bool true))/\OldK s₁.heap s'.heap/\s'.os=s₁.os/\AllBare s'.gens) s₁:=by
  intro H hO hS hok hA hK
  have Jd:∀{b:Addr} {o:Obj},s₁.heap.get? b=some o->H b=none->(Aa s₁.heap H).get? b=some o:=fun e n=>O_ e n
  have Yn:∀{b:Addr} {o:Obj} {es:Array DictEntry} {ep:Nat},s₁.heap.get? b=some o->o.data=.dict es ep->H b=none:=fun {b o es ep} e d=>by
   cases q:H b with
   | none=>rfl
   | some u=>
    have e':b=a:=hA b (by rw[q]; simp)
    subst e'
    rw[ha] at e; cases e
    have d':Data.seq vs.toArray _=Data.dict es ep:=d
    cases d'
  have Zo:∀{b:Addr} {m:Str->Option Value},s₁.heap.Ns b m->(Aa s₁.heap H).Ns b m:=fun {b m} ⟨o,es,ep,e,d,r⟩=>⟨o,es,ep,Jd e (Yn e d),d,r⟩
  have hKb:K.In (Aa s₁.heap H):=fun b o e=>Jd (KX b o e) (by
   cases q:H b with
   | none=>rfl
   | some u=>
    have e':b=a:=hA b (by rw[q]; simp)
    subst e'
    rw[hK (by rw[q]; simp)] at e; cases e)
  have hM:Mod K mg (Aa s₁.heap H):=⟨hKb,Zo hns,⟨mb,Zo hb,hbb⟩,let ⟨mc,h1,h2⟩:=hlim; ⟨mc,Zo h1,h2⟩⟩
  have e0:Tg P w K mg (Aa s₁.heap H) callerA [] s₁ H:=⟨rfl,hM,fun b o e=>RD e,Nat.le_of_eq (Kz _ _),trivial,fun b hb=>absurd (show b∈([]:List Addr) from hb) (by simp),hok,.of_eq hg⟩
  refine codeAny_mono ((F _ hKb (Zo hns)).run callerA [] s₁ H ⟨[.ref a],[]⟩ [.ref a] [.ref a] _ _ hr e0 (hbind s₁ (.ref a)) (.cons rfl .nil) (hsp H hO hS)) fun r s' h=>?_
  cases r with
  | error e=>exact(hCX H e s' h).elim
  | ok fl=>
   cases fl with
   | next=>exact False.elim h
   | brk=>exact False.elim h
   | cont=>exact False.elim h
   | ret u=>
    obtain⟨v,H',os,bare,un,hok',r',q⟩:=h
    have q':v=.bl true:=q
    subst q'
    obtain rfl:u=Value.bool true:=r'
    refine⟨rfl,OldK.of_keep fun b o e=>?_,os,bare⟩
    cases q:H b with
    | none=>exact un.keep b o e q (by intro z; exact absurd (show b∈([]:List Addr) from z) (by simp)) (by simp)
    | some u=>
     rcases hO b with z | ⟨ob,xs,z⟩
     ·rw[q] at z; cases z
     ·have z2:=un.wQ b ob _ z
      obtain⟨e1,_⟩:=hok b _ z
      obtain⟨e2,_⟩:=hok' b _ z2
      rw[e] at e1; cases e1
      exact e2
 cases hk:K.lookup a with
 | some o=>
  have e:=KX a o hk
  rw[ha] at e
  cases e
  refine core (fun _=>none) (fun _=>.inl rfl) (.inr ⟨_,vs.toArray,_,hk,rfl,rfl,rfl,by rw[e_,lenV]; exact hl,by simpa using rv⟩) (fun b u z=>by have z':(none:Option HO)=some u:=z; cases z') (fun b z=>absurd rfl z) fun z=>absurd rfl z
 | none=>
  refine core (fun b=>if b=a then some (.DY { cls:=.type "list",data:=.seq vs.toArray } (.lst (ns.map V.int))) else none) (fun b=>?_) (.inl (.inr ⟨{ cls:=.type "list",data:=.seq vs.toArray },aM rfl⟩)) (fun b u z=>?_) (fun b z=>?_) fun _=>hk
  ·by_cases hb:b=a
   ·exact .inr ⟨_,_,aM hb⟩
   ·exact .inl (aK hb)
  ·by_cases hb:b=a
   ·have z':=(aM hb).symm.trans z
    cases z'
    subst hb
    exact⟨ha,by rw[cg]; exact hl,vs,_,rv,ha⟩
   ·have z':=(aK hb).symm.trans z
    cases z'
  ·by_cases hb:b=a
   ·exact hb
   ·exact absurd (aK hb) z
abbrev KOf {K:PySem.W.Frag} {h:Heap} (_:K.In h):PySem.W.Frag:=K
theorem QM {l:PySem.W.OpenLaw} {n k:Nat} {q:Program} {loose:List Str} {XP:(Str->Option Value)->Heap->Prop} {YP:World->Heap->Prop} {d:DefRec} {K:Params->PySem.W.Frag} {CX:World->Jl} {sp:World->Sp} {x:Str}
  (hn:l.most=some n) (hn2:n<=sizeLine) (hdf:d.params.defaults=[]) (hr:gG k callerA)
  (hY:∀(w:World) (h:Heap),YP w h->(K w.params).In h)
  (F:∀(w:World) (mg:Str->Option Value) (fa:Addr) (h:Heap),(K w.params).In h->h.Ns mainGlobals mg->mg d.name=some (.ref fa) ->
   ∃fd:FuncData,(∀(s:Shared) (u:Value),BindsTo s fd ⟨[u],[]⟩ [(x,u)]) /\
    ∀base:Heap,(K w.params).In base->base.Ns mainGlobals mg->bM l.prog w (K w.params) mg base (CX w) k fa fd [x] (sp w))
  (hsp:∀(w:World) (H:Hp) (a:Addr) (ns:List Int),ns.length<=n->Only H->eV (K w.params) H a (ns.map V.int)->sp w [.ref a] H (fun v _=>v=.bl true) fun _ _ _=>False)
  (hCX:∀(w:World) (H:Hp) (s:Shared) (e:Value) (s':Shared),CX w [] H s (fun _ _ _=>False) e s'->False) :
  PySem.W.WalkO q loose XP YP l.row.toRowW d [] (fun f vs=>PySem.call f vs):=by
 refine Att.DR hn hdf fun w s₀ s₁ mg mb fa o pm cd doc a vs ns G Y ho hd hcd hmg hobj hints hlen hg=>?_
 have KX:=hY w _ Y
 obtain⟨fd,hb,hF⟩:=F w mg fa _ KX G.T.g hmg
 exact O1 KX G.T.g G.T.b G.T.builtins G.T.nolimit hg hobj hints (pF hlen hn2) hr hF hb (fun H hO hS=>hsp w H a ns hlen hO hS) fun H e s'=>hCX w H s₁ e s'
end L2
namespace L2
open PySem PySem.Spec PyProof.Rows
def dF (s:Stmt):Arguments:=match s with
 | .FunctionDef _ a _ _ _ _ _ _ _ _=>a
 | _=>{ posonlyargs:=[],args:=[],vararg:=none,kwonlyargs:=[],kw_defaults:=[],kwarg:=none,defaults:=[] }
def cN (s:Stmt):List Stmt:=match s with
 | .FunctionDef _ _ b _ _ _ _ _ _ _=>b
 | _=>[]
def aH (s:Stmt):Scope:=match s with
 | .FunctionDef _ _ _ _ _ _ sc _ _ _=>sc
 | _=>{ kind:=.function,names:=[],isGenerator:=false,isCoroutine:=false }
abbrev iz:Jl:=fun _ _ _ _ _ _=>False
abbrev E0:XK:=fun _ _ _=>False
theorem Ul {X:Cx}:Passes iz X E0:=fun _ _ _ _ _ _ _ h=>h.elim
structure iV (K:PySem.W.Frag) (x qual:Str) (st:Stmt) (f:Addr) (fd:FuncData):Prop where
 ex:∃(oc:Value) (od:Option Addr) (kV doc pm:Value) (an:Option Addr) (cdv ct:Value) (osl:Array (Option Value)),
  fd=PySem.W.fnOf x qual (dF st) (cN st) (aH st) .none kV doc pm an cdv ct/\K.lookup f=some ⟨oc,od,.func fd,osl⟩/\PySem.W.codeIn K cdv qual=true
 kp:PySem.W.keepIn K (.ref f)=true
section
variable {P:Program} {w:World} {K:PySem.W.Frag} {mg:Str->Option Value} {base:Heap}
theorem iV.ok {x qual:Str} {st:Stmt} {f:Addr} {fd:FuncData} {N ps:List Str} {k:Nat} {sp:Sp} (F:iV K x qual st f fd) (S:aU N ps (aH st)) (len:∀vs H Q E,sp vs H Q E->vs.length=ps.length)
  (hbody:∀(cdv:Value) (A:Around) (outer:List Env) (s:Shared) (H:Hp) (vs:List V) (Q:VK) (E:XK),gG k (A.deeper (envOfC qual (aH st) s.heap.objs.size f cdv))->sp vs H Q E ->
   ∃t,wY (fH iz P w K mg base N qual (aH st) f cdv A outer s H E).WD (cN st) t/\t { nx:=fun _ H'=>Q .non H',rt:=Q } (start N vs) H):bM P w K mg base iz (k+1) f fd ps sp:=by
 obtain⟨oc,od,kV,doc,pm,an,cdv,ct,osl,rfl,lk,hcd⟩:=F.ex
 refine Uy lk hcd S len fun A outer s H vs Q E hr hsp=>?_
 obtain⟨t,h,q⟩:=hbody cdv A outer s H vs Q E hr hsp
 exact⟨t,h.WD,q⟩
theorem iV.binds {x qual:Str} {st:Stmt} {f:Addr} {fd:FuncData} {ps:List Str} (F:iV K x qual st f fd)
  (h:∀(kV doc pm:Value) (an:Option Addr) (cdv ct:Value) (us:List Value),us.length=ps.length->bindArgs (PySem.W.fnOf x qual (dF st) (cN st) (aH st) .none kV doc pm an cdv ct) ⟨us,[]⟩=pure (ps.zip us)):Binds K fd ps []:=by
 obtain⟨oc,od,kV,doc,pm,an,cdv,ct,osl,rfl,lk,hcd⟩:=F.ex
 exact .all (h kV doc pm an cdv ct)
theorem Pk {x qual:Str} {st:Stmt} {f:Addr} {oc:Value} {od an:Option Addr} {osl:Array (Option Value)} {kV doc pm cdv ct:Value} (l:K.lookup f=some ⟨oc,od,.func (PySem.W.fnOf x qual (dF st) (cN st) (aH st) .none kV doc pm an cdv ct),osl⟩)
  (c:PySem.W.codeIn K cdv qual=true) (k:PySem.W.keepIn K (.ref f)=true):iV K x qual st f (PySem.W.fnOf x qual (dF st) (cN st) (aH st) .none kV doc pm an cdv ct):=⟨⟨oc,od,kV,doc,pm,an,cdv,ct,osl,rfl,l,c⟩,k⟩
end
theorem bB {n:Nat} (h:n<=1000):n<sizeLine:=Nat.lt_of_le_of_lt h (by decide)
section
variable {X:Cx}
theorem pv (i:Nat) {x:Str} {pos:Pos} (hN:X.N[i]?=some x:=by rfl) (hv:ZG X.env.scope x:=by first | exact Or.inl rfl | exact Or.inr (Or.inl rfl) | exact Or.inr (Or.inr rfl)) (hd:(x==("__debug__" : Str))=false:=by decide)
  (hcd:(x==("__classdict__" : Str))=false:=by decide):PE X (.Name x pos) (yU i):=Vz hN hv hd hcd
end
def aD (H H':Hp):Prop:=∀b o,H b=some o->H' b=some o
theorem aD.refl (H:Hp):aD H H:=fun _ _ h=>h
theorem aD.trans {H H1 H2:Hp} (a:aD H H1) (b:aD H1 H2):aD H H2:=fun c o h=>b c o (a c o h)
theorem aD.free {H H':Hp} (e:aD H H') {l:Addr} (h:H' l=Option.none):H l=Option.none:=by
 cases q:H l with
 | none=>rfl
 | some o=>
  rw[e l o q] at h
  cases h
section
variable {κ:Type} [DecidableEq κ]
end
section
variable {P:Program} {w:World} {H:Hp} {h:Heap} {a:Addr}
end
section
variable {X:Cx} {pins:List (Addr×Obj)} {σ:St} {H:Hp} {s:Shared} {a:Addr} {y v:V} {u r:Value} {o:Option V} {A:Around} {E:Value->Shared->Prop}
end
section
variable {X:Cx} {pins:List (Addr×Obj)} {σ:St} {H:Hp} {s:Shared} {a:Addr} {kvs:List (Key×V)} {k:Key} {u:Value} {A:Around} {E:Value->Shared->Prop}
end
section
variable {X:Cx} {o i e value:Expr} {pos pos' tpos:Pos} {td ty tv:TE}
end
section
variable {X:Cx} {pos:Pos}
end
structure M1 (X:Cx) (o:Expr) (m:Str) (apos:Pos) (e:Expr) (cpos:Pos):Prop where
 base:attributeBase o m X.env (eval o X.env)=eval o X.env
 few:((backTo cpos (starEach [e] X.env)).all (fun x=>!x.1)&&(backToKw cpos (keywordEach [] X.env)).all (fun x=>x.1.isSome)
  && decide (([e]:List Expr).length+([]:List Keyword).length+(if([]:List Keyword).isEmpty then 0 else 1)<30))=true
 line:(apos.endLine==cpos.line)=true
 trees:backTo cpos (starEach [e] X.env)=[(false,eval e X.env)]
structure M2 (X:Cx) (o:Expr) (m:Str) (apos:Pos) (e f:Expr) (cpos:Pos):Prop where
 base:attributeBase o m X.env (eval o X.env)=eval o X.env
 few:((backTo cpos (starEach [e,f] X.env)).all (fun x=>!x.1)&&(backToKw cpos (keywordEach [] X.env)).all (fun x=>x.1.isSome)
  && decide (([e,f]:List Expr).length+([]:List Keyword).length+(if([]:List Keyword).isEmpty then 0 else 1)<30))=true
 line:(apos.endLine==cpos.line)=true
 trees:backTo cpos (starEach [e,f] X.env)=[(false,eval e X.env),(false,eval f X.env)]
section
variable {X:Cx} {pins:List (Addr×Obj)} {σ:St} {H:Hp} {s:Shared} {a:Addr} {y d:V} {u r:Value} {o:Option V} {A:Around} {E:Value->Shared->Prop}
end
section
variable {X:Cx} {o e f:Expr} {apos cpos:Pos} {td ty tx:TE}
end
section
variable {X:Cx} {pins:List (Addr×Obj)} {σ:St} {H:Hp} {s:Shared} {a:Addr} {kvs:List (Key×V)} {A:Around} {E:Value->Shared->Prop}
end
section
variable {X:Cx} {pins:List (Addr×Obj)} {σ:St} {H:Hp} {s:Shared} {a:Addr} {y:V} {u:Value} {A:Around} {E:Value->Shared->Prop}
end
end L2
set_option maxHeartbeats 4000000
namespace L2
open PySem PySem.Spec PyProof.Rows
def iK (env:Env) (cs:List (Str×Addr)) (y:Str×NameKind):List (Str×Addr):=
 if y.2==.free then(match env.cells.lookup y.1 with | some c=>(y.1,c)::cs | none=>cs) else cs
def oJ (sc:Scope) (env:Env):List (Str×Addr):=sc.names.foldl (iK env) []
theorem Dv {env:Env}:∀(ns:List (Str×NameKind)) (acc:List (Str×Addr)),(∀y c,acc.lookup y=some c->env.cells.lookup y=some c)->∀y c,(ns.foldl (iK env) acc).lookup y=some c->env.cells.lookup y=some c
 | [],acc,h,y,c,e=>h y c e
 | n::ns,acc,h,y,c,e=>by
  refine Dv ns (iK env acc n) (fun z d q=>?_) y c e
  unfold iK at q
  split at q
  ·split at q
   ·rename_i c' hc'
    rw[qK] at q
    split at q
    ·rename_i hz
     have hz':z=n.1:=by simpa using hz
     cases q
     rw[hz']; exact hc'
    ·exact h z d q
   ·exact h z d q
  ·exact h z d q
theorem gC {sc:Scope} {env:Env} {y:Str} {c:Addr} (e:(oJ sc env).lookup y=some c):env.cells.lookup y=some c:=
 Dv sc.names [] (fun _ _ q=>by simp at q) y c e
theorem Jc {env:Env} {y:Str} {c:Addr} (hc:env.cells.lookup y=some c):∀(ns:List (Str×NameKind)) (acc:List (Str×Addr)),acc.lookup y=some c->(ns.foldl (iK env) acc).lookup y=some c
 | [],acc,h=>h
 | n::ns,acc,h=>by
  refine Jc hc ns (iK env acc n) ?_
  unfold iK
  split
  ·split
   ·rename_i c' hc'
    rw[qK]
    split
    ·rename_i hz
     have hz':y=n.1:=by simpa using hz
     rw[<- hz',hc] at hc'
     exact hc'.symm
    ·exact h
   ·exact h
  ·exact h
theorem Gr {env:Env} {y:Str} {c:Addr} (hc:env.cells.lookup y=some c):∀(ns:List (Str×NameKind)) (acc:List (Str×Addr)),(y,NameKind.free)∈ns->(ns.foldl (iK env) acc).lookup y=some c
 | [],_,h=>by simp at h
 | n::ns,acc,h=>by
  rcases b_.mp h with e | h
  ·subst e
   refine Jc hc ns _ ?_
   unfold iK
   simp[hc]
  ·exact Gr hc ns _ h
theorem rK {sc:Scope} {env:Env} {x:Str} {k':NameKind} (h:(relabel sc env).names.lookup x=some k'):∃k,(x,k)∈sc.names/\(k'=k\/(k=.free/\k'=.cell)):=by
 have m:=PySem.mem_of_lookup h
 unfold relabel at m
 obtain⟨⟨n,k⟩,hm,e⟩:=iR.mp m
 dsimp only at e
 split at e
 ·rename_i hc
  injection e with e1 e2
  subst e1
  refine⟨k,hm,.inr ⟨?_,e2.symm⟩⟩
  have:(k==NameKind.free)=true:=by
   cases hk:(k==NameKind.free) with
   | true=>rfl
   | false=>rw[hk] at hc; simp at hc
  exact beq_iff_eq.mp this
 ·injection e with e1 e2
  subst e1 e2
  exact⟨k,hm,.inl rfl⟩
theorem pC {env:Env} {x:Str} (hf:env.scope.kind=.function) (hk:env.kindOf x=some .cell):∀(ns:List (Str×NameKind)),ns.lookup x=some .free ->
  (ns.map fun(y:Str×NameKind)=>if(y.2==.free&&env.scope.kind==.function&&env.kindOf y.1==some .cell) then(y.1,NameKind.cell) else(y.1,y.2)).lookup x=some .cell
 | [],h=>by simp at h
 | (n,k)::r,h=>by
  have ih:=pC hf hk r
  rw[rZ]
  cases hx:x==n with
  | true=>
   have e:x=n:=by simpa using hx
   subst e
   simp only[qK,beq_self_eq_true] at h
   cases h
   dsimp only
   rw[aM (by simp[hf,hk])]
   simp[qK]
  | false=>
   simp only[qK,hx] at h
   dsimp only
   split
   ·simp only[qK,hx]; exact ih h
   ·simp only[qK,hx]; exact ih h
def oE (X:Cx) (N':List Str) (sc:Scope) (fp:List Addr) (s:Shared) (H:Hp):Cx where
 prog:=X.prog
 w:=X.w
 K:=X.K
 mg:=X.mg
 base:=X.base
 A:=X.A
 N:=N'
 s₀:=s
 H₀:=H
 env:=compEnvC sc (oJ sc X.env) s.heap.objs.size X.env
 outer:=X.stack
 stack:=X.stack
 ex:=fp
 fn:=fun _=>false
 calm:=X.calm
 pn:=[]
 xe:=fun _ _=>False
structure Ax (X:Cx) (N':List Str) (js:List Nat) (sc:Scope):Prop where
 kind:sc.kind=.function
 gw:∀y∈sc.names,y.2≠.cell
 names:∀y∈sc.names,y.2=.local->sc.names.lookup y.1=some .local
 clos:closureFor sc X.env=pure (oJ sc X.env)
 all:(sc.names.all fun y=>y.2 != .free || (X.env.cells.lookup y.1).isSome)=true
 len:N'.length=js.length+1
 cap:∀(i j:Nat),js[i]?=some j->N'[i+1]?=X.N[j]?
 Qa:∀y∈N'.tail,X.env.kindOf y=some .cell/\sc.names.lookup y=some .free
def bU (js:List Nat) (σ:St):St:=js.map fun j=>(σ[j]?).join
def iW (js:List Nat) (wi:TI) (te:TE):TE:=fun σ H Q=>wi σ H fun J H1=>∀acc,H1 acc=none->∃W:Nat->Nat->List V->Hp->Prop,(∃m,W 0 m [] (upd H1 acc (.lst [])))/\∀i m ys H2,W i m ys H2 ->
 (J.stop i H2/\Q (.ref acc) H2)\/(J.go i H2/\∀x H3,J.wD i H2 x H3->te (some x::bU js σ) H3 fun y H4=>H4 acc=some (.lst ys)/\ys.length<sizeLine/\∃m',m'<m/\W (i+1) m' (ys++[y]) (upd H4 acc (.lst (ys++[y]))))
def Dh:Key->PyData
 | .inl i=>.int i
 | .inr x=>.str x
mutual
def At (H:Hp):PyData->V->Prop
 | .none,v=>v=.non
 | .bool b,v=>v=.bl b
 | .int i,v=>v=.int i
 | .str x,v=>v=.str x
 | .tuple ds,v=>∃a xs,v=.ref a/\H a=some (.tup xs)/\aa H ds xs
 | .list ds,v=>∃a xs,v=.ref a/\H a=some (.lst xs)/\aa H ds xs
 | .dict kvs,v=>∃a es,v=.ref a/\H a=some (.dK es)/\Ay H kvs es
def aa (H:Hp):List PyData->List V->Prop
 | [],xs=>xs=[]
 | d::ds,xs=>∃x r,xs=x::r/\At H d x/\aa H ds r
def Ay (H:Hp):List (PyData×PyData)->List (Key×V)->Prop
 | [],es=>es=[]
 | (k,d)::r,es=>∃q v t,es=(q,v)::t/\k=Dh q/\At H d v/\Ay H r t
end
mutual
theorem At.mono {H H':Hp} (m:aD H H'):∀(d:PyData) (v:V),At H d v->At H' d v
 | .none,_,h=>by unfold At at h ⊢; exact h
 | .bool _,_,h=>by unfold At at h ⊢; exact h
 | .int _,_,h=>by unfold At at h ⊢; exact h
 | .str _,_,h=>by unfold At at h ⊢; exact h
 | .tuple ds,v,h=>by
  unfold At at h ⊢
  obtain⟨a,xs,e,h1,h2⟩:=h
  exact⟨a,xs,e,m _ _ h1,aa.mono m ds xs h2⟩
 | .list ds,v,h=>by
  unfold At at h ⊢
  obtain⟨a,xs,e,h1,h2⟩:=h
  exact⟨a,xs,e,m _ _ h1,aa.mono m ds xs h2⟩
 | .dict kvs,v,h=>by
  unfold At at h ⊢
  obtain⟨a,es,e,h1,h2⟩:=h
  exact⟨a,es,e,m _ _ h1,Ay.mono m kvs es h2⟩
theorem aa.mono {H H':Hp} (m:aD H H'):∀(ds:List PyData) (xs:List V),aa H ds xs->aa H' ds xs
 | [],_,h=>by unfold aa at h ⊢; exact h
 | d::ds,xs,h=>by
  unfold aa at h ⊢
  obtain⟨x,r,e,h1,h2⟩:=h
  exact⟨x,r,e,At.mono m d x h1,aa.mono m ds r h2⟩
theorem Ay.mono {H H':Hp} (m:aD H H'):∀(kvs:List (PyData×PyData)) (es:List (Key×V)),Ay H kvs es->Ay H' kvs es
 | [],_,h=>by unfold Ay at h ⊢; exact h
 | (k,d)::r,es,h=>by
  unfold Ay at h ⊢
  obtain⟨q,v,t,e,e',h1,h2⟩:=h
  exact⟨q,v,t,e,e',At.mono m d v h1,Ay.mono m r t h2⟩
end
theorem aa.length {H:Hp}:∀{ds:List PyData} {xs:List V},aa H ds xs->xs.length=ds.length
 | [],xs,h=>by unfold aa at h; rw[h]; rfl
 | d::ds,xs,h=>by
  unfold aa at h
  obtain⟨x,r,e,_,h2⟩:=h
  rw[e,m8,m8,aa.length h2]
theorem aa.get {H:Hp}:∀{ds:List PyData} {xs:List V} {i:Nat} {x:V},aa H ds xs->xs[i]?=some x->∃d,ds[i]?=some d/\At H d x
 | [],xs,i,x,h,e=>by unfold aa at h; rw[h] at e; simp at e
 | d::ds,xs,i,x,h,e=>by
  unfold aa at h
  obtain⟨y,r,e1,h1,h2⟩:=h
  subst e1
  cases i with
  | zero=>simp at e; subst e; exact⟨d,rfl,h1⟩
  | succ i=>
   obtain⟨d',q1,q2⟩:=aa.get (i:=i) (x:=x) h2 (by simpa using e)
   exact⟨d',by simpa using q1,q2⟩
theorem aa.getD {H:Hp}:∀{ds:List PyData} {xs:List V} {i:Nat} {d:PyData},aa H ds xs->ds[i]?=some d->∃x,xs[i]?=some x/\At H d x
 | [],xs,i,d,h,e=>by simp at e
 | d'::ds,xs,i,d,h,e=>by
  unfold aa at h
  obtain⟨y,r,e1,h1,h2⟩:=h
  subst e1
  cases i with
  | zero=>simp at e; subst e; exact⟨y,rfl,h1⟩
  | succ i=>
   obtain⟨x,q1,q2⟩:=aa.getD (i:=i) (d:=d) h2 (by simpa using e)
   exact⟨x,by simpa using q1,q2⟩
theorem aa.append {H:Hp}:∀{ds es:List PyData} {xs ys:List V},aa H ds xs->aa H es ys->aa H (ds++es) (xs++ys)
 | [],es,xs,ys,h,q=>by unfold aa at h; subst h; exact q
 | d::ds,es,xs,ys,h,q=>by
  unfold aa at h
  obtain⟨x,r,e,h1,h2⟩:=h
  subst e
  show aa H (d::(ds++es)) (x::(r++ys))
  unfold aa
  exact⟨x,r++ys,rfl,h1,aa.append h2 q⟩
theorem aa.take {H:Hp}:∀{ds:List PyData} {xs:List V} (n:Nat),aa H ds xs->aa H (ds.take n) (xs.take n)
 | ds,xs,0,h=>by simp[aa]
 | [],xs,n+1,h=>by unfold aa at h; subst h; simp[aa]
 | d::ds,xs,n+1,h=>by
  unfold aa at h
  obtain⟨x,r,e,h1,h2⟩:=h
  subst e
  show aa H (d::ds.take n) (x::r.take n)
  unfold aa
  exact⟨x,_,rfl,h1,aa.take n h2⟩
theorem aa.nil {H:Hp}:aa H [] []:=by unfold aa; rfl
theorem aa.cons {H:Hp} {d:PyData} {ds:List PyData} {x:V} {xs:List V} (h1:At H d x) (h2:aa H ds xs):aa H (d::ds) (x::xs):=by
 unfold aa; exact⟨x,xs,rfl,h1,h2⟩
theorem At.tup {H:Hp} {a:Addr} {xs:List V} {ds:List PyData} (h:H a=some (.tup xs)) (q:aa H ds xs):At H (.tuple ds) (.ref a):=by
 unfold At; exact⟨a,xs,rfl,h,q⟩
theorem At.lst {H:Hp} {a:Addr} {xs:List V} {ds:List PyData} (h:H a=some (.lst xs)) (q:aa H ds xs):At H (.list ds) (.ref a):=by
 unfold At; exact⟨a,xs,rfl,h,q⟩
theorem At.int {H:Hp} (i:Int):At H (.int i) (.int i):=by unfold At; rfl
theorem At.str {H:Hp} (x:Str):At H (.str x) (.str x):=by unfold At; rfl
theorem At.non {H:Hp}:At H .none .non:=by unfold At; rfl
theorem aO {H:Hp} {p:Addr} (h:H p=none) (o:HO):aD H (upd H p o):=fun b u q=>by rw[aL (bN q h)]; exact q
def Z6:PyData->String
 | .none=>"NoneType"
 | .bool _=>"bool"
 | .int _=>"int"
 | .str _=>"str"
 | .tuple _=>"tuple"
 | .list _=>"list"
 | .dict _=>"dict"
theorem At.ty {K:PySem.W.Frag} {H:Hp} {d:PyData} {v:V} (h:At H d v):rC K H v (.type (Z6 d)):=by
 cases d with
 | none=>unfold At at h; subst h; exact .non
 | bool b=>unfold At at h; subst h; exact .bl b
 | int i=>unfold At at h; subst h; exact .int i
 | str x=>unfold At at h; subst h; exact .str x
 | tuple ds=>unfold At at h; obtain⟨a,xs,e,h1,_⟩:=h; subst e; exact .tup h1
 | list ds=>unfold At at h; obtain⟨a,xs,e,h1,_⟩:=h; subst e; exact .lst h1
 | dict ds=>unfold At at h; obtain⟨a,xs,e,h1,_⟩:=h; subst e; exact .dK h1
def isInt:PyData->Bool
 | .int _=>true
 | .bool _=>true
 | _=>false
section
variable {X:Cx}
def X8 (T:String) (f:PyData->Bool):List V->Hp->VK->Prop:=fun vs H Q=>∃v d,vs=[v,.ty T]/\At H d v/\Q (.bl (f d)) H
theorem V9 {T:String} {f:PyData->Bool} (hf:∀K d,PySem.W.kitOne K (.type (Z6 d)) (.type T)=some (f d)):cX X (.builtin "isinstance") (X8 T f):=by
 refine .mk ?_
 intro pins s σ H vs us Q I r h
 obtain⟨v,d,rfl,hv,q⟩:=h
 obtain⟨u,t,rfl,ru,rt⟩:=r.two
 cases(show t=Value.type T from rt)
 exact Kv I ru (hv.ty (K:=X.K)) (hf X.K d) fun tk=>⟨.bl (f d),H,I.tok tk,rfl,q⟩
theorem Cp:∀(ns:List Int),preSum (fun i=>ns.getD i 0) ns.length=ns.sum:=by
 have key:∀(ns:List Int) (k:Nat),k<=ns.length->preSum (fun i=>ns.getD i 0) k=(ns.take k).sum:=by
  intro ns k
  induction k with
  | zero=>intro _; rfl
  | succ k ih=>
   intro hk
   have e:ns.take (k+1)=ns.take k++[ns.getD k 0]:=by
    rw[Bu,gP (by omega)]
    simp[iZ,gP (show k<ns.length by omega)]
   show preSum _ k+ns.getD k 0=_
   rw[ih (by omega),e,List.sum_append]
   simp
 intro ns
 rw[key ns ns.length (cV _),su]
theorem Il {ns:List Int} {its:List Value} (r:Vals (ns.map V.int) its) {i:Nat} {v:Value} (h:its.toArray[i]?=some v):∃t,v=.int (ns.getD i 0) t:=by
 have h':its[i]?=some v:=by simpa using h
 have hi:i<its.length:=(nG.mp h').1
 have hl:=r.length
 rw[cg] at hl
 obtain⟨u,hu,ru⟩:=r.get (i:=i) (x:=V.int (ns[i]'(by omega))) (by rw[il,gP (by omega)]; rfl)
 rw[h'] at hu
 cases hu
 obtain⟨t,e⟩:=ru
 exact⟨t,by rw[e,iZ,gP (by omega)]; rfl⟩
theorem yr (hc:X.calm=true):cX X (.builtin "sum") (fun vs H Q=>∃(p:Addr) (ns:List Int),vs=[.ref p]/\(H p=some (.lst (ns.map V.int))\/H p=some (.tup (ns.map V.int)))/\Q (.int ns.sum) H):=by
 refine .mk ?_
 intro pins s σ H vs us Q I r h
 obtain⟨p,ns,rfl,hp,q⟩:=h
 obtain⟨u,rfl,ru⟩:=r.one
 cases ru
 have fin:∀{h':Heap} {tk:Nat} {t':Tok} {o:Obj},(∀b o',b∉[s.heap.objs.size]->(s.heap.push o).get? b=some o'->h'.get? b=some o')->EP X pins σ Q (.int (preSum (fun i=>ns.getD i 0) ns.length) t') { s with heap:=h',toks:=tk }:=fun {h' tk t' o} hk=>
  ⟨.int ns.sum,H,I.kept (t':=tk) (fun b o' eb=>hk b o' (by simpa using fW (bW eb)) (gf _ eb)),⟨t',by rw[Cp]⟩,q⟩
 rcases hp with hp | hp
 ·obtain⟨z,its,n,rv,e⟩:=I.hok p _ hp
  have hl:s.heap.IsList p its.toArray:=⟨_,e,rfl,n,rfl⟩
  have lt:p<s.heap.objs.size:=bW e
  have hlen:=rv.length
  rw[cg] at hlen
  refine call_sum_walkG (wpAny_pyIter_list hl ?_)
  refine⟨_,_,_,_,_,_,fun i=>ns.getD i 0,rfl,Walks.list (A:=X.A.in1) (I.ok.hd hc) _ p (fW lt) _,⟨⟨_,dR _ rfl,rfl,rfl⟩,hl.push _⟩,fun b hb=>?_,fun i v hv=>Il rv hv,fun h' tk t' hk=>?_⟩
  ·show b<(s.heap.push _).objs.size
   rw[lR]
   rcases b_.mp hb with rfl | hb
   ·exact Ca _
   ·rw[d8.mp hb]; exact JN lt
  ·rw[e_,<- hlen]; exact fin hk
 ·obtain⟨z,its,rv,ht⟩:=I.hok p _ hp
  have ht':s.heap.IsTuple p its.toArray:=ht
  have lt:p<s.heap.objs.size:=by obtain⟨o,e,_⟩:=ht; exact bW e
  have hlen:=rv.length
  rw[cg] at hlen
  refine call_sum_walkG (JR ht' ?_)
  refine⟨_,_,_,_,_,_,fun i=>ns.getD i 0,rfl,Walks.tuple (A:=X.A.in1) (I.ok.hd hc) _ p (fW lt) _,⟨⟨_,dR _ rfl,rfl,rfl⟩,?_⟩,fun b hb=>?_,fun i v hv=>Il rv hv,fun h' tk t' hk=>?_⟩
  ·obtain⟨o,e,c⟩:=ht'
   exact⟨o,gf _ e,c⟩
  ·show b<(s.heap.push _).objs.size
   rw[lR]
   rcases b_.mp hb with rfl | hb
   ·exact Ca _
   ·rw[d8.mp hb]; exact JN lt
  ·rw[e_,<- hlen]; exact fin hk
theorem q_:cX X (.type "int") (fun vs H Q=>∃(b:Bool),vs=[.bl b]/\Q (.int (if b then 1 else 0)) H):=by
 refine .mk ?_
 intro pins s σ H vs us Q I r h
 obtain⟨b,rfl,q⟩:=h
 obtain⟨u,rfl,ru⟩:=r.one
 cases(show u=Value.bool b from ru)
 exact call_int_bool ⟨.int (if b then 1 else 0),H,I.tok _,⟨_,rfl⟩,q⟩
end
mutual
theorem gO {P:Program} {w:World} {H:Hp} {h:Heap} (ok:kI P w H h):∀(d:PyData) (v:V) (u:Value),At H d v->RelV v u->d.hasDict=false->∃as,Reads h u d as
 | .none,v,u,a,r,_=>by unfold At at a; subst a; cases r; exact⟨_,.none⟩
 | .bool b,v,u,a,r,_=>by unfold At at a; subst a; cases r; exact⟨_,.bool b⟩
 | .int i,v,u,a,r,_=>by unfold At at a; subst a; obtain⟨t,rfl⟩:=r; exact⟨_,.int i t⟩
 | .str x,v,u,a,r,_=>by unfold At at a; subst a; obtain⟨t,rfl⟩:=r; exact⟨_,.str x t⟩
 | .tuple ds,v,u,a,r,nd=>by
  unfold At at a
  obtain⟨p,xs,e,hp,ha⟩:=a
  subst e
  cases r
  obtain⟨_,its,rv,o,e1,e2,n,e3⟩:=ok p _ hp
  obtain⟨as,ra⟩:=qG ok ds xs its ha rv (by simpa[PyData.hasDict] using nd)
  exact⟨_,.tuple e1 e2 e3 (by simpa using ra)⟩
 | .list ds,v,u,a,r,nd=>by
  unfold At at a
  obtain⟨p,xs,e,hp,ha⟩:=a
  subst e
  cases r
  obtain⟨_,its,n,rv,e1⟩:=ok p _ hp
  obtain⟨as,ra⟩:=qG ok ds xs its ha rv (by simpa[PyData.hasDict] using nd)
  exact⟨_,.list e1 rfl rfl (by simpa using ra)⟩
 | .dict kvs,v,u,a,r,nd=>by simp[PyData.hasDict] at nd
theorem qG {P:Program} {w:World} {H:Hp} {h:Heap} (ok:kI P w H h):∀(ds:List PyData) (xs:List V) (us:List Value),aa H ds xs->Vals xs us->PyData.hasDictAll ds=false->∃as,ReadsAll h us ds as
 | [],xs,us,a,r,_=>by unfold aa at a; subst a; cases r; exact⟨_,.nil⟩
 | d::ds,xs,us,a,r,nd=>by
  unfold aa at a
  obtain⟨x,t,e,h1,h2⟩:=a
  subst e
  have Yo:d.hasDict=false/\PyData.hasDictAll ds=false:=by simpa[PyData.hasDictAll] using nd
  cases r with
  | cons r1 r2=>
   obtain⟨as,q1⟩:=gO ok d x _ h1 r1 Yo.1
   obtain⟨bs,q2⟩:=qG ok ds t _ h2 r2 Yo.2
   exact⟨_,.cons q1 q2⟩
end
structure acL (d:PyData):Prop where
 can:d.showable=true
 nod:d.hasDict=false
 len:d.shown.length<=sizeLine
 dep:d.depth<=60
section
variable {X:Cx}
def Gi (mg:Str->Option Value) (x:Str) (i:Int):Prop:=∃t,mg x=some (.int i t)
theorem Fq {x:Str} {i:Int} {pos:Pos} (h:Gi X.mg x i) (hg:Gl X x:=by rfl) (hd:(x==("__debug__" : Str))=false:=by decide):PE X (.Name x pos) (tC (.int i)):=by
 obtain⟨t,ht⟩:=h
 exact zE hg ht ⟨t,rfl⟩ hd
structure Ct (P:Program) (w:World) (K:PySem.W.Frag) (mg:Str->Option Value) (base:Heap) (k:Nat) (x:Str) (ps:List Str) (sp:Sp) where
 f:Addr
 fd:FuncData
 G:bM P w K mg base iz k f fd ps sp
 kp:PySem.W.keepIn K (.ref f)=true
 b:Binds K fd ps []
 m:mg x=some (.ref f)
def Ct.mono {P:Program} {w:World} {K:PySem.W.Frag} {mg:Str->Option Value} {base:Heap} {j k:Nat} {x:Str} {ps:List Str} {sp:Sp} (c:Ct P w K mg base j x ps sp) (h:j<=k):Ct P w K mg base k x ps sp:={ c with G:=c.G.mono h }
theorem Yi {k:Nat} {x:Str} {ps:List Str} {sp:Sp} {e:Expr} {es:List Expr} {t:TA} {p pos:Pos} (c:Ct X.prog X.w X.K X.mg X.base k x ps sp) (hr:gG k X.A) (ha:PA X (e::es) t) (hg:Gl X x:=by rfl)
  (hdb:(x==("__debug__" : Str))=false:=by decide) (he:starEach (e::es) X.env=(false,eval e X.env)::starEach es X.env:=by rfl) (hpl:(backTo pos (starEach es X.env)).any (·.1)=false:=by rfl) :
  PE X (.Call (.Name x p) (e::es) [] pos) (rD sp [] E0 t):=Hy c.G hr hg c.m c.kp c.b .nil Ul ha hdb he hpl
end
theorem Q7 {v:V} {σ:St} {H:Hp} {Q:VK}:yU 0 (some v::σ) H Q=Q v H:=rfl
theorem Q6 {i:Nat} {o:Option V} {σ:St} {H:Hp} {Q:VK}:yU (i+1) (o::σ) H Q=yU i σ H Q:=rfl
theorem Q_ {v:V} {o:Option V} {σ:St}:(o::σ).set 0 (some v)=some v::σ:=rfl
theorem Q9 {i:Nat} {v:V} {o:Option V} {σ:St}:(o::σ).set (i+1) (some v)=o::σ.set i (some v):=rfl
theorem M_ {t:TG} {u:Qo} {v:V} {r:List V} {σ:St} {H:Hp} {Q:St->Hp->Prop}:mF t u (v::r) σ H Q=t v σ H fun σ' H'=>u r σ' H' Q:=rfl
theorem Ra {σ:St} {H:Hp} {Q:St->Hp->Prop}:Dq [] σ H Q=Q σ H:=rfl
theorem iM {b:Bool} {A B:Prop} (h1:b=true->A) (h2:b=false->B):if b=true then A else B:=by
 cases b
 ·rw[aK (by decide)]; exact h2 rfl
 ·rw[aM rfl]; exact h1 rfl
theorem Vp {i j:Int} {H:Hp} {Q:VK}:Yb (.int i) (.int j) H Q=Q (.bl (decide (i=j))) H:=by
 unfold Yb JC; simp
theorem EY {i j:Int} {H:Hp} {Q:VK}:X7 (.int i) (.int j) H Q=Q (.bl (!decide (i=j))) H:=by
 unfold X7 JC; simp
theorem Nf {i j:Str} {H:Hp} {Q:VK}:Yb (.str i) (.str j) H Q=Q (.bl (decide (i=j))) H:=by
 unfold Yb JC; simp
theorem M9 {i j:Str} {H:Hp} {Q:VK}:X7 (.str i) (.str j) H Q=Q (.bl (!decide (i=j))) H:=by
 unfold X7 JC; simp
theorem Rb {i:Int} {P:Int->Prop}:(∃k,[V.int i]=[V.int k]/\P k)=P i:=by
 simp
theorem Rc {i:Bool} {P:Bool->Prop}:(∃k,[V.bl i]=[V.bl k]/\P k)=P i:=by
 simp
theorem Ng {i j:Int} {P:Int->Int->Prop}:(∃a b,[V.int i,V.int j]=[V.int a,V.int b]/\P a b)=P i j:=by
 refine propext ⟨?_,fun h=>⟨i,j,rfl,h⟩⟩
 rintro⟨a,b,e,h⟩
 cases e
 exact h
theorem Q8 {b:Bool} {P:Bool->Prop}:(∃k,V.bl b=V.bl k/\P k)=P b:=by
 simp
theorem Vo {i:Int} {P:Int->Prop}:(∃k,V.int i=V.int k/\P k)=P i:=by
 simp
theorem XX {i j:Int} {P:Int->Int->Prop}:(∃a b,V.int i=V.int a/\V.int j=V.int b/\P a b)=P i j:=by
 simp
theorem rR {α β:Type} {g:β->α->β} {f:α->β->Sem (ForInStep β)}:∀(l:List α) (c:β),(∀x∈l,∀c,f x c=pure (.yield (g c x)))->forIn l c f=(pure (l.foldl g c):Sem β)
 | [],c,_=>rfl
 | x::l,c,h=>by
  rw[xP,h x jl c,pure_bind]
  exact rR l (g c x) fun y hy=>h y (iG _ hy)
theorem j_ {sc:Scope} {env:Env} (h:(sc.names.all fun y=>y.2 != .free || (env.cells.lookup y.1).isSome)=true):closureFor sc env=pure (oJ sc env):=by
 unfold closureFor oJ
 dsimp only
 rw[rR (g:=iK env) sc.names [] (fun y hy c=>?_)]
 ·rfl
 obtain⟨n,k⟩:=y
 have a:=zq.mp h _ hy
 dsimp only
 unfold iK
 dsimp only
 cases hk:(k==NameKind.free) with
 | false=>simp
 | true=>
  have hk':k=.free:=beq_iff_eq.mp hk
  subst hk'
  have a':(env.cells.lookup n).isSome=true:=by simpa using a
  obtain⟨c',hc'⟩:=Fg.mp a'
  simp[cellOf,hc']
theorem pK {sc:Scope} (h:(sc.names.all fun y=>y.2 != .local || sc.names.lookup y.1==some .local)=true):∀y∈sc.names,y.2=.local->sc.names.lookup y.1=some .local:=fun y hy e=>by
 have a:=zq.mp h y hy
 rw[e] at a
 simpa using a
theorem Ax.mk0 {X:Cx} {x:Str} {sc:Scope} (k:sc.kind=.function:=by rfl) (n:(sc.names.all fun y=>y.2 != .cell&&y.2 != .free)=true:=by decide +kernel) (l:(sc.names.all fun y=>y.2 != .local || sc.names.lookup y.1==some .local)=true:=by decide +kernel):Ax X [x] [] sc:=by
 have n':∀y∈sc.names,y.2≠.cell/\y.2≠.free:=fun y hy=>by have:=zq.mp n y hy; simpa using this
 have al:(sc.names.all fun y=>y.2 != .free || (X.env.cells.lookup y.1).isSome)=true:=zq.mpr fun y hy=>by simp[(n' y hy).2]
 exact⟨k,fun y hy=>(n' y hy).1,pK l,j_ al,al,rfl,fun i j h=>by simp at h,fun y h=>by simp at h⟩
theorem Ax.mk1 {X:Cx} {x y:Str} {sc:Scope} {j:Nat} (hj:X.N[j]?=some y:=by rfl) (k:sc.kind=.function:=by rfl) (n:(sc.names.all fun y=>y.2 != .cell)=true:=by decide +kernel)
  (l:(sc.names.all fun y=>y.2 != .local || sc.names.lookup y.1==some .local)=true:=by decide +kernel) (al:(sc.names.all fun y=>y.2 != .free || (X.env.cells.lookup y.1).isSome)=true:=by rfl)
  (k1:X.env.kindOf y=some .cell:=by rfl) (k2:sc.names.lookup y=some .free:=by rfl):Ax X [x,y] [j] sc:=by
 have n':∀y∈sc.names,y.2≠.cell:=fun y hy=>by have:=zq.mp n y hy; simpa using this
 refine⟨k,n',pK l,j_ al,al,rfl,fun i j' h=>?_,fun z h=>?_⟩
 ·cases i with
  | zero=>simp at h; subst h; exact hj.symm
  | succ i=>simp at h
 ·have e:z=y:=by simpa using h
  subst e; exact⟨k1,k2⟩
theorem Ax.mk2 {X:Cx} {x y z:Str} {sc:Scope} {j j2:Nat} (hj:X.N[j]?=some y:=by rfl) (hj2:X.N[j2]?=some z:=by rfl) (k:sc.kind=.function:=by rfl) (n:(sc.names.all fun y=>y.2 != .cell)=true:=by decide +kernel)
  (l:(sc.names.all fun y=>y.2 != .local || sc.names.lookup y.1==some .local)=true:=by decide +kernel) (al:(sc.names.all fun y=>y.2 != .free || (X.env.cells.lookup y.1).isSome)=true:=by rfl)
  (k1:X.env.kindOf y=some .cell:=by rfl) (k2:sc.names.lookup y=some .free:=by rfl) (k3:X.env.kindOf z=some .cell:=by rfl) (k4:sc.names.lookup z=some .free:=by rfl):Ax X [x,y,z] [j,j2] sc:=by
 have n':∀y∈sc.names,y.2≠.cell:=fun y hy=>by have:=zq.mp n y hy; simpa using this
 refine⟨k,n',pK l,j_ al,al,rfl,fun i j' h=>?_,fun v h=>?_⟩
 ·match i,h with
  | 0,h=>simp at h; subst h; exact hj.symm
  | 1,h=>simp at h; subst h; exact hj2.symm
  | i+2,h=>simp at h
 ·have e:v=y\/v=z:=by simpa using h
  rcases e with e | e
  ·subst e; exact⟨k1,k2⟩
  ·subst e; exact⟨k3,k4⟩
def cG:Expr->Bool
 | .Starred _ _=>false
 | _=>true
theorem cJ {env:Env} {e:Expr} {es:List Expr} (h:cG e=true):starEach (e::es) env=(false,eval e env)::starEach es env:=by
 cases e <;> first | rfl | exact absurd h (by simp[cG])
theorem cI {env:Env} {pos:Pos}:∀{es:List Expr},es.all cG=true->(backTo pos (starEach es env)).any (·.1)=false
 | [],_=>rfl
 | e::es,h=>by
  have h':cG e=true/\es.all cG=true:=by simpa using h
  rw[cJ h'.1]
  show(false || (backTo pos (starEach es env)).any (·.1))=false
  rw[cI h'.2]; rfl
section
variable {X:Cx} {x:Str} {p pos:Pos} {e:Expr} {es:List Expr} {te:TE} {t:TA} {id T:String} {r:List V->Hp->VK->Prop}
theorem aj (ha:PE X e te) (hr:PA X es t) (h:cG e=true:=by rfl):PA X (e::es) (GK te t):=Rt ha hr (cJ h)
theorem pf {k:Nat} {ps:List Str} {sp:Sp} (c:Ct X.prog X.w X.K X.mg X.base k x ps sp) (hr:gG k X.A) (ha:PA X (e::es) t) (hg:Gl X x:=by rfl) (hdb:(x==("__debug__" : Str))=false:=by decide) (h1:cG e=true:=by rfl) (h2:es.all cG=true:=by rfl) :
  PE X (.Call (.Name x p) (e::es) [] pos) (rD sp [] E0 t):=Yi c hr ha hg hdb (cJ h1) (cI h2)
theorem pb (hc:cX X (.builtin id) r) (hm:X.mg x=none) (hv:bootBuiltins x=some (.builtin id)) (ha:PA X (e::es) t) (hg:Gl X x:=by rfl) (hn:x ≠ "__name__" := by decide) (hdb:(x==("__debug__" : Str))=false:=by decide)
  (h1:cG e=true:=by rfl) (h2:es.all cG=true:=by rfl):PE X (.Call (.Name x p) (e::es) [] pos) (Vf r t):=N5 hc hg hm hv ha hn hdb (cJ h1) (cI h2)
theorem pt (hc:cX X (.type T) r) (hm:X.mg x=none) (hv:bootBuiltins x=some (.type T)) (ha:PA X (e::es) t) (hg:Gl X x:=by rfl) (hn:x ≠ "__name__" := by decide) (hdb:(x==("__debug__" : Str))=false:=by decide)
  (h1:cG e=true:=by rfl) (h2:es.all cG=true:=by rfl):PE X (.Call (.Name x p) (e::es) [] pos) (Vf r t):=J2 hc hg hm hv ha hn hdb (cJ h1) (cI h2)
end
end L2
namespace HT
open PySem PyProof.Rows
section
variable {prog:Program} {w:World} {A:Around} {E:Value->Shared->Prop} {s:Shared}
theorem pU {t sl:Addr} {items:Array Value} {vl vu:Value} {lo hi:Option Int} {Q:Value->Shared->Prop} (ht:IsTup s.heap t items) (hs:s.heap.IsSliceOf sl vl vu .none) (pl:IsPart vl lo) (pu:IsPart vu hi)
  (hw1:eZ items.size 0 lo=0) (hw2:eZ items.size items.size hi=items.size) (h:Q (.ref t) s):wpAny (model prog w) A (getItem (.ref t) (.ref sl)) Q E s:=by
 obtain⟨os,hos,hcs,hds⟩:=id hs
 have tyS:s.TypeIs (.ref sl) "slice" := ⟨os,hos,hcs⟩
 unfold getItem
 try with_reducible refine qJ ?_
 first | refine aN (bH ?_) | skip
 refine aN (wpAny_sequenceKey ht.typeIs (by decide) ?_)
 refine aN (JW (name:=Str.ofString "__getitem__") ht.typeIs PyProof.Rows.slot_tuple_getitem (uJ PyProof.Rows.slot_tuple_getitem ht.typeIs entry_tuple_getitem ?_ (args_tuple_getitem _ _)))
 show wpAny _ _ (Builtin.Tuple.tupleItemsOf (.ref t) >>= _) _ _ s
 refine aN (tupleItemsOf_ ht ?_)
 refine aN (wpAny_typeOf tyS ?_)
 rw[aM (by decide)]
 refine aN (jA hs pl pu ?_)
 have yes:(((eZ items.size 0 lo:Nat):Int)==0&&(1:Int)==1&&(eZ items.size items.size hi-eZ items.size 0 lo)==items.size)=true:=by
  rw[hw1,hw2]; simp
 show wpAny _ _ (if(((eZ items.size 0 lo:Nat):Int)==0&&(1:Int)==1&&(eZ items.size items.size hi-eZ items.size 0 lo)==items.size)=true then _ else _) _ _ s
 rw[aM yes]
 have ex:∀{R:Bool->Shared->Prop},R true s->wpAny (model prog w) A.in1 (Builtin.Tuple.tupleIsExact (.ref t)) R E s:=fun {R} q=>by
  unfold Builtin.Tuple.tupleIsExact
  refine aN (wpAny_typeOf ht.typeIs (bH ?_))
  rw[beq_self_eq_true]
  exact q
 refine aN (ex ?_)
 rw[aM rfl]
 exact aN (pI (bH ⟨_,rfl,bH h⟩))
end
end HT
namespace L2
open PySem PySem.Spec PyProof.Rows
theorem wV:bootBuiltins "isinstance" = some (.builtin "isinstance"):=by decide +kernel
theorem g_:bootBuiltins "len" = some (.builtin "len"):=by decide +kernel
theorem Qf:bootBuiltins "sum" = some (.builtin "sum"):=by decide +kernel
theorem Qg:bootBuiltins "abs" = some (.builtin "abs"):=by decide +kernel
theorem mL:bootBuiltins "min" = some (.builtin "min"):=by decide +kernel
theorem rn:bootBuiltins "max" = some (.builtin "max"):=by decide +kernel
theorem GC:bootBuiltins "int" = some (.type "int"):=by decide +kernel
theorem tV:bootBuiltins "list" = some (.type "list"):=by decide +kernel
theorem dC:bootBuiltins "tuple" = some (.type "tuple"):=by decide +kernel
theorem DK:bootBuiltins "range" = some (.type "range"):=by decide +kernel
theorem qb:bootBuiltins "enumerate" = some (.type "enumerate"):=by decide +kernel
theorem Wj:bootBuiltins "zip" = some (.type "zip"):=by decide +kernel
section
variable {X:Cx}
theorem pty {x:Str} {T:String} {pos:Pos} (hg:Gl X x) (hm:X.mg x=none) (hv:bootBuiltins x=some (.type T)) (hn:x ≠ "__name__" := by decide) (hd:(x==("__debug__" : Str))=false:=by decide):PE X (.Name x pos) (tC (.ty T)):=
 Rr (v:=.ty T) hg hm hv rfl hn hd
def aal (K:PySem.W.Frag):List V->Hp->VK->Prop:=fun vs H Q=>∃(p:Addr) (ys:List V),vs=[.ref p]/\(eV K H p ys\/cD K H p ys)/\Q (.int ys.length) H
theorem cQ {K:PySem.W.Frag} (hK:X.K=K):cX X (.builtin "len") (aal K):=by
 subst hK
 exact Aj
def aag:V->Option Int->Option Int->Hp->VK->Prop:=fun x lo hi H Q=>∃(a:Addr) (xs:List V),x=.ref a/\H a=some (.tup xs)/\∀p H',aD H H'->H' p=some (.tup (oG xs lo hi))->Q (.ref p) H'
theorem ik:WX X aag:=by
 refine .mk ?_
 intro pins s σ H x v vl vu lo hi sl Q I rx hs pl pu h
 obtain⟨a,xs,e,hx,q⟩:=h
 by_cases hw:HT.eZ xs.length 0 lo=0/\HT.eZ xs.length xs.length hi=xs.length
 ·subst e
  cases rx
  obtain⟨its,r,ht,hz⟩:=I.tuple (cD.of (K:=X.K) hx)
  have hlen:its.toArray.size=xs.length:=by rw[e_]; exact r.length.symm
  refine⟨"tuple",_,PyProof.Rows.slot_tuple_getitem.lookup,ht.typeIs,?_⟩
  refine HT.pU ht hs pl pu (by rw[hlen]; exact hw.1) (by rw[hlen]; exact hw.2) ⟨.ref a,H,I,rfl,q a H (aD.refl H) ?_⟩
  rw[hx]
  unfold oG
  rw[hw.1,hw.2,List.drop_zero,Nat.sub_zero,su]
 ·exact Vj pins s σ H x v vl vu lo hi sl Q I rx hs pl pu ⟨a,xs,e,cD.of hx,hw,fun p hp=>q p _ (aO hp _) aC⟩
def Yc:R2:=fun x y H Q=>∃(a b:Addr) (xs ys:List V),x=.ref a/\y=.ref b/\H a=some (.tup xs)/\H b=some (.tup ys)/\xs.length+ys.length<=sizeLine/\∀p H',aD H H'->H' p=some (.tup (xs++ys))->Q (.ref p) H'
theorem tH:oU X (binaryOp .Add) Yc:=by
 refine .mk ?_
 intro pins s σ H x y v u Q I rx ry h
 obtain⟨a,b,xs,ys,e1,e2,ha,hb,hz,q⟩:=h
 by_cases hx:xs=[]
 ·subst hx e1 e2
  cases rx
  cases ry
  obtain⟨its,r1,p1,_⟩:=I.tuple (cD.of (K:=X.K) ha)
  obtain⟨its2,r2,p2,_⟩:=I.tuple (cD.of (K:=X.K) hb)
  cases r1
  obtain⟨⟨cls,dd,data,sl⟩,ho,hc,n,hd⟩:=id p1
  obtain⟨⟨cls2,dd2,data2,sl2⟩,ho2,hc2,n2,hd2⟩:=id p2
  simp only at hc hd hc2 hd2
  subst hc hd hc2 hd2
  exact concat_meets ⟨_,ho,rfl⟩ ⟨_,ho2,rfl⟩ noFill_tuple_add seq_tuple_add PySem.F.slot_tuple_add PySem.F.entry_tuple_add (PySem.F.args_tuple_add_2 _ _) (tuple_addW0 a b _ _ n n2 dd dd2 sl sl2 (by rfl)) ⟨ho,ho2,⟨.ref b,H,I,rfl,q b H (aD.refl H) hb⟩⟩
 ·refine Ry pins s σ H x y v u Q I rx ry ⟨a,b,xs,ys,e1,e2,cD.of ha,cD.of hb,hx,hz,fun z=>?_,fun _ p hp=>q p _ (aO hp _) aC⟩
  subst z
  exact q a H (aD.refl H) (by rw[ha,kZ])
def Rf:R2:=fun x y H Q=>∃(p:Addr) (xs:List V) (i:Int) (v:V),x=.ref p/\y=.int i/\(H p=some (.lst xs)\/H p=some (.tup xs))/\yG xs i=some v/\Q v H
theorem aP:QB X Rf:=by
 have h:=(Ih (X:=X)).or V8
 refine .mk ?_
 intro a b pins s σ H x y v u Q I rx ry q
 obtain⟨p,xs,i,z,e1,e2,hp,ha,q⟩:=q
 intro hs
 refine h a b pins s σ H x y v u Q I rx ry ?_ hs
 rcases hp with hp | hp
 ·exact .inl ⟨p,xs,i,z,e1,e2,eV.of hp,ha,q⟩
 ·exact .inr ⟨p,xs,i,z,e1,e2,cD.of hp,ha,q⟩
theorem Ix.tup {a:Addr} {xs:List V} {i:Int} {v:V} {H:Hp} {Q:VK} (h:H a=some (.tup xs)) (e:yG xs i=some v) (q:Q v H):Rf (.ref a) (.int i) H Q:=⟨a,xs,i,v,rfl,rfl,.inr h,e,q⟩
theorem Ix.lst {a:Addr} {xs:List V} {i:Int} {v:V} {H:Hp} {Q:VK} (h:H a=some (.lst xs)) (e:yG xs i=some v) (q:Q v H):Rf (.ref a) (.int i) H Q:=⟨a,xs,i,v,rfl,rfl,.inl h,e,q⟩
theorem Wg {js:List Nat} {ta:TA} {te:TE} {σ:St} {H:Hp} {Q:VK} {n:Nat} (hl:∀R:List V->Hp->Prop,R [.int n] H->ta σ H R) (hn:n<=1000000)
  (h:∀acc,H acc=none->∃Pv:Nat->List V->Hp->Prop,Pv 0 [] (upd H acc (.lst [])) /\
   (∀i ys H',i<n->Pv i ys H'->te (some (.int (0+(i:Nat)))::bU js σ) H' fun y du=>du acc=some (.lst ys)/\ys.length<sizeLine/\Pv (i+1) (ys++[y]) (upd du acc (.lst (ys++[y])))) /\
   ∀ys H',Pv n ys H'->Q (.ref acc) H'):iW js (Dk ta) te σ H Q:=by
 refine hl _ ⟨n,rfl,by omega,by omega,fun acc hacc=>?_⟩
 obtain⟨Pv,h0,hs,hd⟩:=h acc hacc
 have en:((n:Int)).toNat=n:=uK n
 rw[en]
 refine⟨fun i m ys H'=>m=n-i/\i<=n/\Pv i ys H',⟨n,rfl,gr _,h0⟩,?_⟩
 rintro i m ys H2 ⟨rfl,hi,p⟩
 by_cases hlt:i<n
 ·refine .inr ⟨hlt,fun x H3 y=>?_⟩
  obtain⟨e,y⟩:=y
  subst e y
  have Tq:=hs i ys _ hlt p
  have fe:(fun(y:V) (du:Hp)=>du acc=some (.lst ys)/\ys.length<sizeLine/\Pv (i+1) (ys++[y]) (upd du acc (.lst (ys++[y]))))=fun y H4=>H4 acc=some (.lst ys)/\ys.length<sizeLine/\∃m',m'<n-i/\(m'=n-(i+1)/\i+1<=n/\Pv (i+1) (ys++[y]) (upd H4 acc (.lst (ys++[y])))):=by
   funext y du
   refine propext ⟨fun⟨a,b,c⟩=>⟨a,b,_,by omega,rfl,hlt,c⟩,fun⟨a,b,m',_,_,_,c⟩=>⟨a,b,c⟩⟩
  rw[fe] at Tq
  exact Tq
 ·have e:i=n:=by omega
  subst e
  exact .inl ⟨cV _,hd ys _ p⟩
theorem cP:cX X (.type "tuple") (fun vs H Q=>∃(p:Addr) (ys:List V),vs=[.ref p]/\H p=some (.lst ys)/\∀l,H l=none->Q (.ref l) (upd H l (.tup ys))):=by
 refine .mk ?_
 intro pins s σ H vs us Q I r h
 obtain⟨p,ys,e,hp,q⟩:=h
 exact wR pins s σ H vs us Q I r ⟨p,ys,e,.inl ⟨eV.of hp,q⟩⟩
theorem K7:cX X (.type "list") (fun vs H Q=>∃(p:Addr) (ys:List V),vs=[.ref p]/\H p=some (.tup ys)/\∀l,H l=none->Q (.ref l) (upd H l (.lst ys))):=by
 refine .mk ?_
 intro pins s σ H vs us Q I r h
 obtain⟨p,ys,e,hp,q⟩:=h
 exact pY pins s σ H vs us Q I r ⟨p,ys,e,.inr (cD.of hp),q⟩
theorem Ux {ta:TA} {g:TG} {tb:TS} {D:Ends} {σ:St} {H:Hp} {n:Nat} (hl:∀R:List V->Hp->Prop,R [.int n] H->ta σ H R) (hn:n<=1000000) (Pv:Nat->St->Hp->Prop) (h0:Pv 0 σ H)
  (hs:∀i σ H,i<n->Pv i σ H->g (.int (0+(i:Nat))) σ H fun σ2 H2=>tb { D with nx:=Pv (i+1),ct:=Pv (i+1),bk:=D.nx } σ2 H2) (hd:∀σ H,Pv n σ H->D.nx σ H):Be (Dk ta) g tb D σ H:=by
 refine hl _ ⟨n,rfl,by omega,by omega,?_⟩
 rw[uK]
 exact yh Pv h0 hs hd
def TV (t:TA):TE:=fun σ H Q=>t σ H fun xs H1=>xs.length<=sizeLine/\∀p H',H1 p=none->aD H1 H'->H' p=some (.lst xs)->Q (.ref p) H'
def Mj (t:TA):TE:=fun σ H Q=>t σ H fun xs H1=>xs.length<=sizeLine/\∀p H',H1 p=none->aD H1 H'->H' p=some (.tup xs)->Q (.ref p) H'
theorem bT {es:List Expr} {t:TA} {pos:Pos} (h:PA X es t):PE X (.List es pos) (TV t):=by
 refine .mk ?_
 intro pins s σ H Q I hq
 refine wpAny_List_spliced (cF (h pos pins s σ H _ I hq) fun us s1 ⟨xs,H1,I1,r,z,q⟩=>⟨by rw[<- r.length]; exact z,?_⟩)
 have fr:H1 s1.heap.objs.size=none:=I1.hok.fresh (cV _)
 exact⟨.ref s1.heap.objs.size,upd H1 s1.heap.objs.size (.lst xs),I1.laid (t':=s1.toks) (fun b u e=>gf _ e) (cV _) ⟨z,us,0,r,dR _ rfl⟩,rfl,q _ _ fr (aO fr _) aC⟩
theorem aX {es:List Expr} {t:TA} {x1} {pos:Pos} (h:PA X es t):PE X (.Tuple es x1 pos) (Mj t):=by
 refine .mk ?_
 intro pins s σ H Q I hq
 refine wpAny_Tuple_spliced (cF (h pos pins s σ H _ I hq) fun us s1 ⟨xs,H1,I1,r,z,q⟩=>⟨by rw[<- r.length]; exact z,?_⟩)
 have fr:H1 s1.heap.objs.size=none:=I1.hok.fresh (cV _)
 exact⟨.ref s1.heap.objs.size,upd H1 s1.heap.objs.size (.tup xs),I1.laid (t':=s1.toks) (fun b u e=>gf _ e) (cV _) ⟨z,us,r,⟨_,dR _ rfl,rfl,_,rfl⟩⟩,rfl,q _ _ fr (aO fr _) aC⟩
def hid (a:Addr) (H:Hp):Hp:=fun b=>if b=a then none else H b
theorem bR {a b:Addr} {H:Hp} (h:b≠a):hid a H b=H b:=aK h
theorem mC {a:Addr} {H:Hp}:hid a H a=none:=aM rfl
theorem mz {a b:Addr} {H:Hp} {o:HO} (h:hid a H b=some o):b≠a/\H b=some o:=by
 by_cases e:b=a
 ·subst e; rw[mC] at h; cases h
 ·exact⟨e,by rw[bR e] at h; exact h⟩
theorem eX {a:Addr} {H:Hp} {o:HO}:hid a (upd H a o)=hid a H:=by
 funext b
 by_cases e:b=a
 ·subst e; rw[mC,mC]
 ·rw[bR e,bR e,aL e]
theorem cT {a p:Addr} {H:Hp} {o:HO} (h:p≠a):hid a (upd H p o)=upd (hid a H) p o:=by
 funext b
 by_cases e:b=a
 ·subst e; rw[mC,aL (Ne.symm h),mC]
 ·rw[bR e]
  by_cases e':b=p
  ·subst e'; rw[aC,aC]
  ·rw[aL e',aL e',bR e]
theorem dh {a:Addr} {H:Hp}:aD (hid a H) H:=fun b o h=>(mz h).2
def SX (a:Addr) (H H':Hp):Prop:=aD (hid a H) (hid a H')
theorem SX.refl (a:Addr) (H:Hp):SX a H H:=aD.refl _
theorem SX.trans {a:Addr} {H H1 H2:Hp} (x:SX a H H1) (y:SX a H1 H2):SX a H H2:=aD.trans x y
theorem SX.of {a:Addr} {H H':Hp} (s:aD H H'):SX a H H':=fun b o h=>by
 obtain⟨n,e⟩:=mz h
 rw[bR n]; exact s _ _ e
theorem SX.upd {a:Addr} {H:Hp} {o:HO}:SX a H (upd H a o):=by unfold SX; rw[eX]; exact aD.refl _
theorem SX.get {a b:Addr} {H H':Hp} {o:HO} (s:SX a H H') (n:b≠a) (h:H b=some o):H' b=some o:=by
 have:=s b o (by rw[bR n]; exact h)
 exact(mz this).2
def Tp (H:Hp) (a:Addr) (n:Nat):Prop:=∃x y z:Int,H a=some (.lst [.int x,.int y,.int z])/\0<=x/\0<=y/\y<4611686018427387904/\0<=z/\z<=n
theorem Tp.mono {H:Hp} {a:Addr} {n m:Nat} (h:Tp H a n) (l:n<=m):Tp H a m:=by
 obtain⟨x,y,z,e,h1,h2,h3,h4,h5⟩:=h
 exact⟨x,y,z,e,h1,h2,h3,h4,by omega⟩
theorem Tp.same {H H':Hp} {a:Addr} {n:Nat} (h:Tp H a n) (s:aD H H'):Tp H' a n:=by
 obtain⟨x,y,z,e,r⟩:=h
 exact⟨x,y,z,s _ _ e,r⟩
theorem Tp.ne {H:Hp} {a b:Addr} {n:Nat} (h:Tp H a n) (e:H b=none):b≠a:=by
 obtain⟨x,y,z,q,_⟩:=h
 intro z; subst z; rw[e] at q; cases q
theorem Tp.neT {H:Hp} {a b:Addr} {n:Nat} {xs:List V} (h:Tp H a n) (e:H b=some (.tup xs)):b≠a:=by
 obtain⟨x,y,z,q,_⟩:=h
 intro z; subst z; rw[e] at q; cases q
theorem aD.hid {a:Addr} {H H':Hp} (s:aD H H'):aD (L2.hid a H) (L2.hid a H'):=fun b o h=>by
 obtain⟨n,e⟩:=mz h
 rw[bR n]; exact s _ _ e
theorem SX.dG {a p:Addr} {H H':Hp} {o:HO} (s:SX a H H') (hp:H p=none) (pa:p≠a):SX a H (L2.upd H' p o):=fun b u h=>by
 obtain⟨n,e⟩:=mz h
 rw[cT pa,aL (bN e hp)]
 exact s b u h
theorem Tp.dG {H:Hp} {a p:Addr} {n:Nat} {o:HO} (t:Tp H a n) (pa:p≠a):Tp (L2.upd H p o) a n:=by
 obtain⟨x,y,z,e,r⟩:=t
 exact⟨x,y,z,by rw[aL (Ne.symm pa)]; exact e,r⟩
def Qz (K:PySem.W.Frag) (H:Hp) (p:Addr) (xs:List V):Prop:=(∃o,H p=some (.DY o (.lst xs))) \/
 ∃(o:Obj) (its:Array Value) (n:Nat),K.lookup p=some o/\o.cls=.type "list" /\ o.dict=none/\o.data=.seq its n/\its.size<=sizeLine/\Vals xs its.toList
theorem Qz.sq {K:PySem.W.Frag} {H:Hp} {p:Addr} {xs:List V} (h:Qz K H p xs):eV K H p xs:=by
 rcases h with⟨o,h⟩ | h
 ·exact .inl (.inr ⟨o,h⟩)
 ·exact .inr h
theorem Qz.of {K:PySem.W.Frag} {H:Hp} {p:Addr} {xs:List V} (h:eV K H p xs) (o:Only H):Qz K H p xs:=by
 rcases h with(h | h) | h
 ·rcases o p with e | ⟨ob,ys,e⟩
  ·rw[e] at h; cases h
  ·rw[e] at h; cases h
 ·exact .inl h
 ·exact .inr h
theorem Qz.same {K:PySem.W.Frag} {H H':Hp} {p:Addr} {xs:List V} (h:Qz K H p xs) (s:aD H H'):Qz K H' p xs:=by
 rcases h with⟨o,h⟩ | h
 ·exact .inl ⟨o,s _ _ h⟩
 ·exact .inr h
end
mutual
def fine (b:Nat):PyData->Bool
 | .none=>true
 | .bool _=>true
 | .int i=>decide (i.natAbs<=b)
 | .str x=>decide (x.length<=40)&&x.cps.toList.all fun c=>decide (c<4294967296)
 | .tuple ds=>Ac b ds
 | .list ds=>Ac b ds
 | .dict _=>false
def Ac (b:Nat):List PyData->Bool
 | []=>true
 | d::ds=>fine b d&&Ac b ds
end
mutual
def Yq:PyData->Nat
 | .tuple ds=>tO ds+3
 | .list ds=>tO ds+3
 | .dict _=>500
 | .none=>500
 | .bool _=>500
 | .int _=>500
 | .str _=>500
def tO:List PyData->Nat
 | []=>0
 | d::ds=>Yq d+2+tO ds
end
structure ae4 (b D M:Nat) (d:PyData):Prop where
 f:fine b d=true
 dp:d.depth<=D
 m:Yq d<=M
structure ZM (b D M:Nat) (ds:List PyData):Prop where
 f:∀d∈ds,fine b d=true
 dp:∀d∈ds,d.depth<=D
 m:tO ds<=M
section
variable {X:Cx}
end
theorem qY {xs:List V} {i:Int} (h:0<=i):oG xs none (some i)=xs.take i.toNat:=by
 obtain⟨j,rfl⟩:∃j:Nat,i=j:=⟨i.toNat,by omega⟩
 unfold oG
 rw[HT.Br,HT.tE,List.drop_zero,Nat.sub_zero,uK]
 by_cases q:j<=xs.length
 ·rw[Nat.min_eq_left q]
 ·rw[Hh (by omega),su,Np (by omega)]
theorem pW {xs:List V} {i:Int} (h:0<=i):oG xs (some i) none=xs.drop i.toNat:=by
 obtain⟨j,rfl⟩:∃j:Nat,i=j:=⟨i.toNat,by omega⟩
 unfold oG
 rw[HT.Br,HT.tE,uK]
 by_cases q:j<=xs.length
 ·rw[Nat.min_eq_left q,Np (by rw[uI]; omega)]
 ·rw[Hh (by omega),JL,List.take_nil,JV (by omega)]
def isS (d:PyData) (t:Str):Bool:=match d with
 | .str y=>y==t
 | _=>false
section
variable {X:Cx}
theorem qR (hu:X.A.units+64<cLine):oU X (compareOp .NotEq) (fun x y H Q=>∃d e,At H d x/\At H e y/\d.hasDict=false/\e.hasDict=false/\d.canLay0=true/\e.canLay0=true/\d.depth<=60/\Q (.bl (!PyData.eqv d e)) H):=by
 refine .mk ?_
 intro pins s σ H x y v u Q I rx ry h
 obtain⟨d,e,hd,he,n1,n2,c1,c2,dp,q⟩:=h
 obtain⟨as,r1⟩:=gO I.hok _ _ _ hd rx n1
 obtain⟨bs,r2⟩:=gO I.hok _ _ _ he ry n2
 exact SeqAt.compareNe_reads r1 r2 c1 c2 (by have:=B_ d.depth e.depth; omega) (bG I q rfl)
theorem zN (hu:X.A.units+64<cLine):oU X (compareOp .Eq) (fun x y H Q=>∃d e,At H d x/\At H e y/\d.hasDict=false/\e.hasDict=false/\d.canLay0=true/\e.canLay0=true/\d.depth<=60/\Q (.bl (PyData.eqv d e)) H):=by
 refine .mk ?_
 intro pins s σ H x y v u Q I rx ry h
 obtain⟨d,e,hd,he,n1,n2,c1,c2,dp,q⟩:=h
 obtain⟨as,r1⟩:=gO I.hok _ _ _ hd rx n1
 obtain⟨bs,r2⟩:=gO I.hok _ _ _ he ry n2
 exact SeqAt.compareEq_reads r1 r2 c1 c2 (by have:=B_ d.depth e.depth; omega) (bG I q rfl)
end
def FK (g:TG) (tb:TS) (D:Ends) (σ:St) (vs:List V) (H1:Hp):Prop:=∃j:Int,vs=[.int j]/\-(2 ^ 62)<=j/\j<2 ^ 62/\∃W:Nat->Nat->St->Hp->Prop,(∃m,W 0 m σ H1)/\∀i m σ H,W i m σ H ->
 ((Ls 0 j.toNat).stop i H/\D.nx σ H)\/((Ls 0 j.toNat).go i H/\∃N:St->Hp->Prop,(∀σ' H',N σ' H'->∃m',m'<m/\W (i+1) m' σ' H')/\∀x H',(Ls 0 j.toNat).wD i H x H'->g x σ H' fun σ2 H2=>tb { D with nx:=N,ct:=N,bk:=D.nx } σ2 H2)
theorem Mq {ta:TA} {g:TG} {tb:TS} {D:Ends} {σ:St} {H:Hp}:Be (Dk ta) g tb D σ H=ta σ H (FK g tb D σ):=rfl
theorem FK.of {g:TG} {tb:TS} {D:Ends} {σ:St} {H:Hp} {n:Nat} {i:Int} (ei:i=n) (hn:n<=1000000) (Pv:Nat->St->Hp->Prop) (h0:Pv 0 σ H)
  (hs:∀i σ H,i<n->Pv i σ H->g (.int (0+(i:Nat))) σ H fun σ2 H2=>tb { D with nx:=Pv (i+1),ct:=Pv (i+1),bk:=D.nx } σ2 H2) (hd:∀σ H,Pv n σ H->D.nx σ H):FK g tb D σ [.int i] H:=by
 subst ei
 refine⟨n,rfl,by omega,by omega,?_⟩
 rw[uK]
 exact yh Pv h0 hs hd
def TK (K:PySem.W.Frag) (g:TG) (tb:TS) (D:Ends) (σ:St) (x:V) (H1:Hp):Prop:=∃a,x=.ref a/\(∃xs,cD K H1 a xs)/\∃W:Nat->Nat->St->Hp->Prop,(∃m,W 0 m σ H1)/\∀i m σ H,W i m σ H ->
 ((UW K a).stop i H/\D.nx σ H)\/((UW K a).go i H/\∃N:St->Hp->Prop,(∀σ' H',N σ' H'->∃m',m'<m/\W (i+1) m' σ' H')/\∀x H',(UW K a).wD i H x H'->g x σ H' fun σ2 H2=>tb { D with nx:=N,ct:=N,bk:=D.nx } σ2 H2)
theorem Mp {K:PySem.W.Frag} {tl:TE} {g:TG} {tb:TS} {D:Ends} {σ:St} {H:Hp}:Be (wO K tl) g tb D σ H=tl σ H (TK K g tb D σ):=rfl
theorem TK.of {K:PySem.W.Frag} {g:TG} {tb:TS} {D:Ends} {σ:St} {H:Hp} {a:Addr} {xs:List V} (ha:H a=some (.tup xs)) (Pv:Nat->St->Hp->Prop) (h0:Pv 0 σ H) (hl:∀i σ H',i<=xs.length->Pv i σ H'->H' a=some (.tup xs))
  (hs:∀i x σ H,xs[i]?=some x->Pv i σ H->g x σ H fun σ2 H2=>tb { D with nx:=Pv (i+1),ct:=Pv (i+1),bk:=D.nx } σ2 H2) (hd:∀σ H,Pv xs.length σ H->D.nx σ H):TK K g tb D σ (.ref a) H:=
 ⟨a,rfl,⟨xs,cD.of ha⟩,Ss (xs:=xs) Pv h0 (fun i σ H' hi p=>cD.of (hl i σ H' hi p)) hs hd⟩
def CK (js:List Nat) (te:TE) (σ:St) (Q:VK) (vs:List V) (H1:Hp):Prop:=∃j:Int,vs=[.int j]/\-(2 ^ 62)<=j/\j<2 ^ 62/\∀acc,H1 acc=none->∃W:Nat->Nat->List V->Hp->Prop,(∃m,W 0 m [] (upd H1 acc (.lst [])))/\∀i m ys H2,W i m ys H2 ->
 ((Ls 0 j.toNat).stop i H2/\Q (.ref acc) H2)\/((Ls 0 j.toNat).go i H2/\∀x H3,(Ls 0 j.toNat).wD i H2 x H3->te (some x::bU js σ) H3 fun y H4=>H4 acc=some (.lst ys)/\ys.length<sizeLine/\∃m',m'<m/\W (i+1) m' (ys++[y]) (upd H4 acc (.lst (ys++[y]))))
theorem jy {js:List Nat} {ta:TA} {te:TE} {σ:St} {H:Hp} {Q:VK}:iW js (Dk ta) te σ H Q=ta σ H (CK js te σ Q):=rfl
theorem CK.of {js:List Nat} {te:TE} {σ:St} {H:Hp} {Q:VK} {n:Nat} {i:Int} (ei:i=n) (hn:n<=1000000)
  (h:∀acc,H acc=none->∃Pv:Nat->List V->Hp->Prop,Pv 0 [] (upd H acc (.lst [])) /\
   (∀i ys H',i<n->Pv i ys H'->te (some (.int (0+(i:Nat)))::bU js σ) H' fun y du=>du acc=some (.lst ys)/\ys.length<sizeLine/\Pv (i+1) (ys++[y]) (upd du acc (.lst (ys++[y])))) /\
   ∀ys H',Pv n ys H'->Q (.ref acc) H'):CK js te σ Q [.int i] H:=by
 subst ei
 have:=Wg (ta:=fun _ H R=>R [.int n] H) (σ:=σ) (H:=H) (Q:=Q) (js:=js) (te:=te) (n:=n) (fun R hR=>hR) hn h
 exact this
def Gs (mg:Str->Option Value) (x:Str) (i:Str):Prop:=∃t,mg x=some (.str i t)
theorem qO {X:Cx} {x:Str} {i:Str} {pos:Pos} (h:Gs X.mg x i) (hg:Gl X x:=by rfl) (hd:(x==("__debug__" : Str))=false:=by decide):PE X (.Name x pos) (tC (.str i)):=by
 obtain⟨t,ht⟩:=h
 exact zE hg ht ⟨t,rfl⟩ hd
def dJ (b:Int):List Int->Int
 | []=>b
 | x::r=>dJ (if x>b then x else b) r
section
variable {prog:Program} {w:World} {A:Around} {R:Result->Shared->Prop} {It:Addr} {fp wr:List Addr} {n:Nat} {Pv:Nat->Value->Prop} {St:Nat->Heap->Prop}
theorem Oj {ns:List Int} (W:Walks prog w A.in1 It fp wr n Pv St) (hn:n=ns.length) (hv:∀i v,Pv i v->∃t,v=.int (ns.getD i 0) t) (C:Addr) (nf:C∉fp) (d:Value):∀(m j:Nat) (z:Shared) (best:Int) (tb:Tok) (c:Nat),ns.length-j=m->j<=ns.length->St j z.heap ->
  z.heap.get? C=some ⟨.type "list",none,.seq #[.int best tb,.int best tb] c,#[]⟩ ->
  (∀t h' tk,(∀b o,b∉wr->b≠C->z.heap.get? b=some o->h'.get? b=some o)->R (.ok (.ret (.int (dJ best (ns.drop j)) t))) { z with heap:=h',toks:=tk }) ->
  codeAny (model prog w) A (.builtin "max.loop" ⟨[.ref It,.none,.ref C],[("default",d)]⟩) R z:=by
 subst hn
 have nw:C∉wr:=fun q=>nf (W.sub _ q)
 have nm:(toString "max" ++ toString ".loop" : String) = "max.loop" := by decide
 intro m
 induction m with
 | zero=>
  intro j z best tb c hm hj st hC fin
  have e:j=ns.length:=by omega
  subst e
  refine codeAny_builtin PySem.F.entry_max_loop ?_
  rw[Around.under_plainId PySem.F.plain_max_loop _]
  show wpAny _ A.in1 (seqItems? (.ref C) >>= _) _ _ z
  refine aN (pG hC rfl ?_)
  show wpAny _ A.in1 (tryCatch (pyNext (.ref It)) _ >>= _) _ _ z
  refine aN (xO (W.done z _ _ st fun h' tk kp=>?_))
  refine aN (wpAny_updateSeq (kp C _ nw hC) rfl (aN (uL (bH ?_))))
  rw[JL] at fin
  exact fin tb _ tk fun b o h1 h2 h3=>(sO _ _ (Ne.symm h2)).trans (kp b o h1 h3)
 | succ m ih=>
  intro j z best tb c hm hj st hC fin
  have lt:j<ns.length:=by omega
  refine codeAny_builtin PySem.F.entry_max_loop ?_
  rw[Around.under_plainId PySem.F.plain_max_loop _]
  show wpAny _ A.in1 (seqItems? (.ref C) >>= _) _ _ z
  refine aN (pG hC rfl ?_)
  show wpAny _ A.in1 (tryCatch (pyNext (.ref It)) _ >>= _) _ _ z
  refine aN (xO (W.item j z _ _ lt st fun v h' tk hP st' kp=>?_))
  obtain⟨t,rfl⟩:=hv j v hP
  have hC':=kp C _ nw hC
  show wpAny _ A.in1 (tryCatch (holding [_,_] (richCompare .Gt _ (.int best tb) >>= _)) _ >>= _) _ _ _
  refine aN (xO (qJ (aN (richCompare_gives (op:=.Gt) (typeIs_int _ _ t) (typeIs_int _ _ tb) PySem.F.slot_int_gt PySem.F.entry_int_gt (PySem.F.args_int_gt_2 _ _) (gives_int_gt _ _ t tb) (fun x=>nomatch x) ?_))))
  refine aN (qJ (Cg (aN (uL (bH ?_)))))
  have dr:ns.drop j=ns.getD j 0::ns.drop (j+1):=by
   rw[JX lt,iZ,gP lt]; rfl
  rw[dr] at fin
  by_cases hb:ns.getD j 0>best
  ·have e1:dJ best (ns.getD j 0::ns.drop (j+1))=dJ (ns.getD j 0) (ns.drop (j+1)):=by rw[dJ,aM hb]
   rw[e1] at fin
   rw[iT hb]
   simp only[if_true]
   refine aN (wpAny_updateSeq hC' rfl (aN (uL ?_)))
   rw[nm]
   refine bH ⟨plainId_quiet PySem.F.plain_max_loop _,ih (j+1) _ _ t _ (by omega) lt (W.frame _ _ _ st' fun b hb o e=>?_) (wJ _ hC' rfl) fun t2 h2 tk2 k2=>?_⟩
   ·exact(sO _ _ (fun q:C=b=>nf (by rw[q]; exact hb))).trans e
   ·exact fin t2 h2 tk2 fun b o h1 h3 e=>k2 b o h1 h3 ((sO _ _ (Ne.symm h3)).trans (kp b o h1 e))
  ·have e1:dJ best (ns.getD j 0::ns.drop (j+1))=dJ best (ns.drop (j+1)):=by rw[dJ,aK hb]
   rw[e1] at fin
   rw[fX hb]
   simp only[iU,if_false]
   refine aN (uL ?_)
   rw[nm]
   refine bH ⟨plainId_quiet PySem.F.plain_max_loop _,ih (j+1) _ best tb c (by omega) lt st' hC' fun t2 h2 tk2 k2=>?_⟩
   exact fin t2 h2 tk2 fun b o h1 h3 e=>k2 b o h1 h3 (kp b o h1 e)
theorem Kg {ns:List Int} (W:Walks prog w A.in1 It fp wr n Pv St) (hn:n=ns.length) (hv:∀i v,Pv i v->∃t,v=.int (ns.getD i 0) t) (C:Addr) (nf:C∉fp) (d:Value) (z:Shared) (c:Nat) (st:St 0 z.heap)
  (hC:z.heap.get? C=some ⟨.type "list",none,.seq #[] c,#[]⟩)
  (f0:ns=[]->∀h' tk,(∀b o,b∉wr->b≠C->z.heap.get? b=some o->h'.get? b=some o)->R (.ok (.ret d)) { z with heap:=h',toks:=tk })
  (f1:∀x r,ns=x::r->∀t h' tk,(∀b o,b∉wr->b≠C->z.heap.get? b=some o->h'.get? b=some o)->R (.ok (.ret (.int (dJ x r) t))) { z with heap:=h',toks:=tk }) :
  codeAny (model prog w) A (.builtin "max.loop" ⟨[.ref It,.none,.ref C],[("default",d)]⟩) R z:=by
 have nw:C∉wr:=fun q=>nf (W.sub _ q)
 have nm:(toString "max" ++ toString ".loop" : String) = "max.loop" := by decide
 refine codeAny_builtin PySem.F.entry_max_loop ?_
 rw[Around.under_plainId PySem.F.plain_max_loop _]
 show wpAny _ A.in1 (seqItems? (.ref C) >>= _) _ _ z
 refine aN (pG hC rfl ?_)
 show wpAny _ A.in1 (tryCatch (pyNext (.ref It)) _ >>= _) _ _ z
 cases ns with
 | nil=>
  subst hn
  refine aN (xO (W.done z _ _ st fun h' tk kp=>?_))
  show wpAny _ A.in1 (rule _ >>= _) _ _ _
  exact aN (pI (bH (f0 rfl h' tk fun b o h1 _ e=>kp b o h1 e)))
 | cons x r=>
  refine aN (xO (W.item 0 z _ _ (by rw[hn]; exact Nat.succ_pos _) st fun v h' tk hP st' kp=>?_))
  obtain⟨t,e⟩:=hv 0 v hP
  have e:v=.int x t:=e
  subst e
  have hC':=kp C _ nw hC
  show wpAny _ A.in1 (updateSeq C (fun _=>#[Value.int x t,Value.int x t]) >>= _) _ _ _
  refine aN (wpAny_updateSeq hC' rfl ?_)
  rw[nm]
  refine bH ⟨plainId_quiet PySem.F.plain_max_loop _,Oj W hn hv C nf d _ 1 _ x t _ rfl (by simp) (W.frame _ _ _ st' fun b hb o e=>?_) (wJ _ hC' rfl) fun t2 h2 tk2 k2=>?_⟩
  ·exact(sO _ _ (fun q:C=b=>nf (by rw[q]; exact hb))).trans e
  ·exact f1 x r rfl t2 h2 tk2 fun b o h1 h3 e=>k2 b o h1 h3 ((sO _ _ (Ne.symm h3)).trans (kp b o h1 e))
end
theorem Ld (a v:Value):argsOk "max" ⟨[a],[("default",v)]⟩:=by unfold argsOk; kernel_rfl
section
variable {prog:Program} {w:World} {A:Around} {E:Value->Shared->Prop} {s:Shared}
theorem K6 {l:Addr} {its:List Value} {ns:List Int} {d:Value} {Q:Value->Shared->Prop} (hh:A.handled=none) (hl:s.heap.IsList l its.toArray) (hi:∀i v,its[i]?=some v->∃t,v=Value.int (ns.getD i 0) t) (hlen:its.length=ns.length)
  (h0:ns=[]->∀h' tk,(∀b o,s.heap.get? b=some o->h'.get? b=some o)->Q d { s with heap:=h',toks:=tk })
  (h1:∀b r,ns=b::r->∀t h' tk,(∀b o,s.heap.get? b=some o->h'.get? b=some o)->Q (Value.int (dJ b r) t) { s with heap:=h',toks:=tk }) :
  wpAny (model prog w) A (call (.builtin "max") [.ref l] [("default",d)]) Q E s:=by
 have nm:(toString "max" ++ toString ".loop" : String) = "max.loop" := by decide
 have lt:l<s.heap.objs.size:=by obtain⟨_,e,_⟩:=hl; exact bW e
 refine kmk_tree PySem.F.kind_max PySem.F.plain_max PySem.F.entry_max (Ld _ _) ?_
 show wpAny _ A.in1 (Builtin.Builtins.bindParams "max" ["key","default"] 0 ⟨[],[("default",d)]⟩ >>= _) _ _ s
 refine aN (rY (show Builtin.Builtins.bindParams "max" ["key","default"] 0 ⟨[],[("default",d)]⟩=pure [none,some d] from rfl) ?_)
 refine aN (bH ?_)
 refine aN (wpAny_pyIter_list hl ?_)
 refine aN (sy ?_)
 rw[nm]
 have W:=Walks.list (prog:=prog) (w:=w) (A:=A.in1) hh s.heap.objs.size l (fW lt) its.toArray
 generalize eh:s.heap.push { cls:=.type "list_iterator",data:=.fields #[.ref l,.int 0 0] }=h1'
 have sz:h1'.objs.size=s.heap.objs.size+1:=by rw[<- eh,lR]
 have k1:∀b o,s.heap.get? b=some o->h1'.get? b=some o:=fun b o e=>by rw[<- eh]; exact gf _ e
 have hit:h1'.IsListIter s.heap.objs.size l 0:=by rw[<- eh]; exact⟨_,dR _ rfl,rfl,rfl⟩
 have hl1:h1'.IsList l its.toArray:=by rw[<- eh]; exact hl.push _
 have nf:h1'.objs.size∉[s.heap.objs.size,l]:=fun q=>by
  rcases b_.mp q with e | q
  ·rw[sz] at e; exact Nat.succ_ne_self _ e
  ·have e:=d8.mp q; rw[sz] at e; rw[<- e] at lt; exact sr _ (Nat.lt_trans (Ca _) lt)
 have ol:∀{h':Heap},(∀b o,b∉[s.heap.objs.size]->b≠h1'.objs.size->(h1'.push { cls:=.type "list",data:=.seq #[] 0 }).get? b=some o->h'.get? b=some o)->∀b o,s.heap.get? b=some o->h'.get? b=some o:=fun k b o e=>by
  have lb:=bW e
  refine k b o (fun q=>?_) (fun q=>?_) (gf _ (k1 b o e))
  ·rw[d8.mp q] at lb; exact sr _ lb
  ·rw[q,sz] at lb; exact sr _ (Nat.lt_trans (Ca _) lb)
 refine bH ⟨plainId_quiet PySem.F.plain_max_loop _,Kg (ns:=ns) W (by rw[e_,hlen]) (fun i v e=>hi i v (by simpa using e)) h1'.objs.size nf d _ _ ?_ (dR _ rfl) (fun e h' tk k=>h0 e h' tk (ol k)) (fun x r e t h' tk k=>h1 x r e t h' tk (ol k))⟩
 exact W.frame _ _ _ (show h1'.IsListIter s.heap.objs.size l 0/\h1'.IsList l its.toArray from⟨hit,hl1⟩) fun b _ o e=>gf _ e
end
section
variable {X:Cx}
def TQ (t:TA) (te:TE):TE:=fun σ H Q=>t σ H fun vs H1=>te σ H1 fun y H2=>∃(p:Addr) (ns:List Int),vs=[.ref p]/\H2 p=some (.lst (ns.map V.int))/\(ns=[]->Q y H2)/\∀b r,ns=b::r->Q (.int (dJ b r)) H2
theorem yQ {ns:List Int}:∀{us:List Value},Vals (ns.map V.int) us->∀i v,us[i]?=some v->∃t,v=Value.int (ns.getD i 0) t:=by
 induction ns with
 | nil=>intro us r i v e; cases r; simp at e
 | cons n ns ih=>
  intro us r i v e
  cases r with
  | cons r1 r2=>
   cases i with
   | zero=>
    obtain⟨t,rfl⟩:=(r1:∃t,_=Value.int n t)
    simp at e
    exact⟨t,e.symm⟩
   | succ i=>simpa using ih r2 i v (by simpa using e)
theorem Hx {e e2:Expr} {t:TA} {te:TE} {p pos R6:Pos} (hc:X.calm=true) (hm:X.mg "max" = none) (ha:PA X [e] t) (hk:PE X e2 te) (hg:Gl X "max" := by rfl) (h1:cG e=true:=by rfl) :
  PE X (.Call (.Name "max" p) [e] [⟨some "default",e2,R6⟩] pos) (TQ t te):=by
 refine .mk ?_
 intro pins s σ H Q I h
 refine sG (iJ I hg hm rn ?_ (by decide) (by decide))
 refine callWith_kw ?_ ?_ ?_ ?_ ?_
 ·refine cF (ha pos pins s σ H _ I h) fun us s1 qx=>?_
  obtain⟨vs,H1,I1,r,q⟩:=qx
  refine cF ((Rm hk Vv:PK X [⟨some "default",e2,R6⟩] _) pos pins s1 σ H1 (fun ys H2=>∃y,ys=[y]/\(∃(p:Addr) (ns:List Int),vs=[.ref p]/\H2 p=some (.lst (ns.map V.int))/\(ns=[]->Q y H2)/\∀b r,ns=b::r->Q (.int (dJ b r)) H2)) I1 ?_) fun ws s2 ⟨zs,H2,I2,rz,q2⟩=>?_
  ·show te σ H1 (fun x H2=>∃y,[x]=[y]/\_)
   have fe:(fun(x:V) (H2:Hp)=>∃y,[x]=[y]/\(∃(p:Addr) (ns:List Int),vs=[.ref p]/\H2 p=some (.lst (ns.map V.int))/\(ns=[]->Q y H2)/\∀b r,ns=b::r->Q (.int (dJ b r)) H2))=fun y H2=>∃(p:Addr) (ns:List Int),vs=[.ref p]/\H2 p=some (.lst (ns.map V.int))/\(ns=[]->Q y H2)/\∀b r,ns=b::r->Q (.int (dJ b r)) H2:=by
    funext x H2
    refine propext ⟨?_,fun z=>⟨x,rfl,z⟩⟩
    rintro⟨y,ey,z⟩
    cases ey
    exact z
   rw[fe]
   exact q
  ·obtain⟨y,rfl,l,ns,rfl,hl,q0,q1⟩:=q2
   obtain⟨u,rfl,ru⟩:=r.one
   cases ru
   obtain⟨v,rfl,rv⟩:=rz.one
   obtain⟨_,its,n,rvs,eo⟩:=I2.hok l _ hl
   have hlen:=rvs.length
   rw[cg] at hlen
   refine K6 (ns:=ns) (I2.ok.hd hc) (show s2.heap.IsList l its.toArray from⟨_,eo,rfl,n,rfl⟩) (yQ rvs) hlen.symm (fun e h' tk k=>⟨y,H2,I2.kept (t':=tk) k,rv,q0 e⟩) (fun b r e t h' tk k=>⟨.int (dJ b r),H2,I2.kept (t':=tk) k,⟨t,rfl⟩,q1 b r e⟩)
 ·rw[cJ h1]; rfl
 ·exact cI (es:=[e]) (by simp[h1])
 ·rfl
 ·rfl
end
def eY (t:Str):Nat:=if(("come" : Str)==t)=true then 0 else if(("done" : Str)==t)=true then 1 else 2
def Tj:List V:=[.str "come",.str "done",.str "wait"]
def X5 (K:PySem.W.Frag):V->List V->Hp->VK->Prop:=fun x xs H Q=>∃(p:Addr) (t:Str),x=.ref p/\cD K H p Tj/\xs=[.str t]/\t∈(["come","done","wait"]:List Str)/\Q (.int (eY t)) H
theorem Ed {x y z:V} {us:List Value} (h:Vals [x,y,z] us):∃u v q,us=[u,v,q]/\RelV x u/\RelV y v/\RelV z q:=by
 obtain⟨u,r,rfl,h1,h⟩:=h.un
 obtain⟨v,q,rfl,h2,h3⟩:=h.two
 exact⟨u,v,q,rfl,h1,h2,h3⟩
theorem R8 {t:Str} (h:t∈(["come","done","wait"]:List Str)) (h0:(("come" : Str)==t)=false) (h1:(("done" : Str)==t)=false):(("wait" : Str)==t)=true:=by
 simp only[b_,pH,or_false] at h
 rcases h with rfl | rfl | rfl
 ·revert h0; decide +kernel
 ·revert h1; decide +kernel
 ·decide +kernel
section
variable {X:Cx}
theorem Bc {prog:Program} {w:World} {A:Around} {E:Value->Shared->Prop} {s:Shared} {p:Addr} {a b c t:Str} {k0 k1 k2 k3:Tok} {Q:Value->Shared->Prop} (ht:IsTup s.heap p #[.str a k0,.str b k1,.str c k2]) (hl:(a==t)=false->(b==t)=false->(c==t)=true)
  (q:∀tk,Q (Value.int (if(a==t)=true then 0 else if(b==t)=true then 1 else 2) tk) { s with toks:=s.toks+1 }):wpAny (model prog w) A (call (.builtin "tuple.index") [.ref p,.str t k3]) Q E s:=by
 refine uJ PySem.F.slot_tuple_index ht.typeIs PySem.F.entry_tuple_index ?_ (PySem.F.args_tuple_index_2 _ _)
 show wpAny _ A.in1 (Builtin.Tuple.tupleItemsOf (.ref p) >>= _) _ _ s
 refine aN (tupleItemsOf_ ht ?_)
 show wpAny _ _ ((pure 0:Sem Nat) >>= _) _ _ s
 refine aN (bH ?_)
 show wpAny _ _ ((pure 3:Sem Nat) >>= _) _ _ s
 refine aN (bH ?_)
 show wpAny _ _ (forIn [0:3] _ _ >>= _) _ _ s
 rw[Std.Legacy.Range.forIn_eq_forIn_range']
 have e:List.range' [0:3].start [0:3].size [0:3].step=[0,1,2]:=rfl
 rw[e,xP]
 have mk:∀(i:Int) {R:PySem.Fin->Shared->Prop},(∀tk,R (.done (.ret (.int i tk))) { s with toks:=s.toks+1 })->wpAny (model prog w) A.in1 (retInt i) R E s:=fun i {R} h=>by
  unfold retInt
  refine aN (wpAny_mkInt (bH (h _)))
 have eq:∀(z:Str) (k:Tok),SeqAt.EqAt A.in1 s (.str z k) (.str t k3) (z==t):=fun z k=>SeqAt.EqAt.str_str z k t k3
 cases e0:(a==t) with
 | true=>
  rw[e0] at q
  refine aN (aN (aN (eq a k0 _ _ _ _ ?_)))
  rw[e0,aM rfl]
  refine aN (mk 0 fun tk=>bH (bH (bH ⟨_,rfl,q tk⟩)))
 | false=>
  rw[e0] at q
  refine aN (aN (aN (eq a k0 _ _ _ _ ?_)))
  rw[e0,aK (by decide)]
  refine bH ?_
  show wpAny _ _ (forIn [1,2] _ _) _ _ s
  rw[xP]
  cases e1:(b==t) with
  | true=>
   rw[e1] at q
   refine aN (aN (eq b k1 _ _ _ _ ?_))
   rw[e1,aM rfl]
   refine aN (mk 1 fun tk=>bH (bH (bH ⟨_,rfl,q tk⟩)))
  | false=>
   rw[e1] at q
   refine aN (aN (eq b k1 _ _ _ _ ?_))
   rw[e1,aK (by decide)]
   refine bH ?_
   show wpAny _ _ (forIn [2] _ _) _ _ s
   rw[xP]
   refine aN (aN (eq c k2 _ _ _ _ ?_))
   rw[hl e0 e1,aM rfl]
   refine aN (mk 2 fun tk=>bH (bH (bH ⟨_,rfl,q tk⟩)))
theorem Kh {K:PySem.W.Frag} (hK:X.K=K):ZQ X "tuple.index" (X5 K):=by
 subst hK
 intro pins s σ H x xs v us Q I rx rv h
 obtain⟨p,t,rfl,hp,rfl,ht,q⟩:=h
 cases rx
 obtain⟨u,rfl,tk,rfl⟩:=rv.one
 obtain⟨its,r,pt,_⟩:=I.tuple hp
 obtain⟨u0,u1,u2,rfl,⟨k0,rfl⟩,⟨k1,rfl⟩,⟨k2,rfl⟩⟩:=Ed r
 refine Bc pt (R8 ht) fun tk'=>⟨.int (eY t),H,I.tok _,⟨tk',?_⟩,q⟩
 unfold eY
 split
 ·rfl
 ·split <;> rfl
def GT2 (K:PySem.W.Frag) (mg:Str->Option Value) (x:Str) (W:List V):Prop:=∃a,mg x=some (.ref a)/\(∃o,K.lookup a=some o/\o.cls=.type "tuple" /\ o.dict=none)/\∀H,cD K H a W
def Vd (K:PySem.W.Frag) (W:List V):TE:=fun _ H Q=>∀a,(∃o,K.lookup a=some o/\o.cls=.type "tuple" /\ o.dict=none)->(∀H',cD K H' a W)->Q (.ref a) H
theorem Hv {K:PySem.W.Frag} {x:Str} {W:List V} {pos:Pos} (hK:X.K=K) (h:GT2 K X.mg x W) (hg:Gl X x:=by rfl) (hd:(x==("__debug__" : Str))=false:=by decide):PE X (.Name x pos) (Vd K W):=by
 obtain⟨a,ha,ho,hs⟩:=h
 refine .mk ?_
 intro pins s σ H Q I q
 exact zE (v:=.ref a) hg ha rfl hd pins s σ H Q I (q a ho hs)
end
section
variable {X:Cx} {pos:Pos}
def Xk (i j l:Nat) (ta:TA):TS:=fun D σ H=>ta σ H fun vs H1=>∃v w z,vs=[v,w,z]/\D.nx (((σ.set l (some z)).set j (some w)).set i (some v)) H1
end
theorem Inv.GF {X:Cx} {pins:List (Addr×Obj)} {σ:St} {H:Hp} {s:Shared} {h':Heap} {t':Nat} {e it:Addr} (I:Inv X pins σ H s) (k:∀b o,b≠e->b≠it->s.heap.get? b=some o->h'.get? b=some o) (fe:gH X pins H e) (fi:gH X pins H it) :
  Inv X pins σ H { s with heap:=h',toks:=t' }:=by
 have k2:∀b o,b∉[e,it]->s.heap.get? b=some o->h'.get? b=some o:=fun b o hb q=>k b o (fun z=>hb (by simp[z])) (fun z=>hb (by simp[z])) q
 have fp:∀b∈[e,it],gH X pins H b:=fun b hb=>by
  rcases b_.mp hb with z | z
  ·rw[z]; exact fe
  ·rw[d8.mp z]; exact fi
 have ni:∀b u,H b=some u->b∉[e,it]:=fun b u q hb=>by rw[(fp b hb).1] at q; cases q
 refine I.step (g':=s.gens) (d':=s.drawn) (ch:=[e,it]) (fun b hb=>?_) (fun b o _ _ hc q _=>k2 b o hc q) (fun b o _ _ hc q _=>⟨o.slots,k2 b o hc q⟩) (fun _ _ _ _ n=>n) (fun b o hc q=>⟨o,k2 b o hc q⟩) (fun _ _ q=>q) (fun _ _ _ q=>q)
  (fun b ps q=>⟨#[],by rw[q]; simp⟩) (fun m hm=>?_) (fun b u q=>?_) I.bare
 ·obtain⟨_,f1,_,f3,f4,f5⟩:=fp b hb
  exact⟨f3,f1,f4,f5⟩
 ·obtain⟨o,es,ep,ho,r⟩:=hm
  refine⟨o,es,ep,k2 _ o (fun hb=>(fp _ hb).2.1 rfl) ho,r⟩
 ·refine(I.hok b u q).stay (fun c v hc z=>k2 c v ?_ z) (fun _ z=>z) fun _ _ z=>z
  rcases hc with z | z
  ·rw[z]; exact ni b u q
  ·exact ni c _ z
def W0 (K:PySem.W.Frag) (a:Addr):It:=
 ⟨fun i H=>∃xs x,eV K H a xs/\xs[i]?=some x,fun i H x H'=>∃p y,H p=none/\x=.ref p/\H'=upd H p (.tup [.int i,y])/\∀xs,eV K H a xs->xs[i]?=some y,fun i H=>∃xs,eV K H a xs/\xs.length<=i⟩
theorem Jt {P:Program} {w:World} {K:PySem.W.Frag} {elts:List Expr} {x1} {tp:Pos} (a e it:Addr) (hne:e≠it):Turn P w K (.Tuple elts x1 tp) (W0 K a) [e,it] e (fun i h=>(∃old,IsEnum h e it (i:Nat) old)/\h.IsListIter it a i) where
 mem:=by simp
 obj:=fun i h st b hb=>by
  obtain⟨⟨old,he⟩,o,ho,c,d⟩:=st
  rcases b_.mp hb with z | z
  ·rw[z]; exact⟨_,he,fun v q=>by cases q⟩
  ·rw[d8.mp z]; exact⟨o,ho,fun v q=>by rw[d] at q; cases q⟩
 keep:=fun i h h' st k=>by
  obtain⟨⟨old,he⟩,hi⟩:=st
  exact⟨⟨old,k e (by simp) _ he⟩,hi.at fun o q=>k it (by simp) o q⟩
 item:=by
  intro X hP hw hK hc i pins s σ H E I hf st hg
  subst hP hw hK
  obtain⟨⟨old,he⟩,hi⟩:=st
  obtain⟨xs,x,hq,hx⟩:=hg
  obtain⟨its,rv,p,hz⟩:=I.list hq
  obtain⟨u,hu,ru⟩:=rv.get hx
  have fe:=hf e (by simp)
  have fi:=hf it (by simp)
  refine wpAny_pyNext_enum_item he hi p.isList (x:=u) (by simpa using hu) hne fun h' eo hi' ht hsz kk=>?_
  have fr:H s.heap.objs.size=none:=I.hok.fresh (cV _)
  have I1:Inv X pins σ (upd H s.heap.objs.size (.tup [.int i,x])) { s with heap:=s.heap.push { cls:=.type "tuple",data:=.seq #[.int i s.toks,u] },toks:=s.toks }:=
   I.laid (t':=s.toks) (fun b v q=>gf _ q) (cV _) ⟨(by show 2<=sizeLine; decide),[.int i s.toks,u],.cons ⟨_,rfl⟩ (.cons ru .nil),⟨_,dR _ rfl,rfl,_,rfl⟩⟩
  have ee:e<s.heap.objs.size:=bW he
  have ei:it<s.heap.objs.size:=by obtain⟨o,ho,_⟩:=hi; exact bW ho
  have Gg:gH X pins (upd H s.heap.objs.size (.tup [.int i,x])) e:=⟨by rw[aL (fW ee)]; exact fe.1,fe.2⟩
  have YF:gH X pins (upd H s.heap.objs.size (.tup [.int i,x])) it:=⟨by rw[aL (fW ei)]; exact fi.1,fi.2⟩
  have I2:Inv X pins σ (upd H s.heap.objs.size (.tup [.int i,x])) { s with heap:=h',toks:=s.toks+1 }:=I1.GF (t':=s.toks+1) (fun b o h1 h2 q=>by
   by_cases z:b=s.heap.objs.size
   ·subst z
    rw[dR _ rfl] at q
    cases q
    exact ht
   ·rcases Heap.get?_push_cases q with w | w
    ·exact absurd w.1 z
    ·exact kk b o h1 h2 w) Gg YF
  refine⟨_,rfl,wpAny_letOwnedTupleGo_enum eo fun h'' en sb=>⟨.ref s.heap.objs.size,_,I2.turned (it:=e) (t':=s.toks+1) (fun b o hb q=>sb.extBut b o hb q) Gg.1 Gg.2.1 Gg.2.2.2.1 Gg.2.2.2.2.1 Gg.2.2.2.2.2,rfl,⟨_,x,fr,rfl,rfl,fun ys hy=>by rw[I.Dc hy hq]; exact hx⟩,⟨⟨_,en⟩,?_⟩,fun b hb=>?_⟩⟩
  ·exact hi'.at fun o q=>sb.extBut it o (Ne.symm hne) q
  ·rcases b_.mp hb with z | z
   ·rw[z]; exact Gg.1
   ·rw[d8.mp z]; exact YF.1
 done:=by
  intro X hP hw hK hc i pins s σ H E I hf st hg
  subst hP hw hK
  obtain⟨⟨old,he⟩,hi⟩:=st
  obtain⟨xs,hq,hx⟩:=hg
  obtain⟨its,rv,p,hz⟩:=I.list hq
  have hl:=rv.length
  obtain⟨f0,f1,f2,f3,f4,f5⟩:=hf it (by simp)
  exact wpAny_pyNext_enum_end (I.ok.hd hc) he hi p.isList (by simp; omega) fun h' eb=>⟨rfl,I.turned (t':=s.toks) (fun b o hb q=>eb b o hb q) f0 f1 f3 f4 f5⟩
 self:=fun _ _ _ _ _ st h=>by
  obtain⟨⟨old,he⟩,_⟩:=st
  exact Hk he h
section
variable {X:Cx}
def Uu (K:PySem.W.Frag) (ta:TA):TI:=fun σ H R=>ta σ H fun vs H1=>∃a,vs=[.ref a]/\(∃xs,eV K H1 a xs)/\R (W0 K a) H1
theorem Ro {K:PySem.W.Frag} {e:Expr} {elts:List Expr} {x1} {tp p pos:Pos} {ta:TA} (hK:X.K=K) (hm:X.mg "enumerate" = none) (ha:PA X [e] ta) (hg:Gl X "enumerate" := by rfl) (h1:cG e=true:=by rfl) :
  PI X (.Tuple elts x1 tp) (.Call (.Name "enumerate" p) [e] [] pos) (Uu K ta):=by
 subst hK
 refine .mk ?_
 intro pins s σ H R I h
 refine sG (iJ I hg hm qb ?_ (by decide) (by decide))
 refine PyProof.Rows.callWith_type1 (cF (ha pos pins s σ H _ I h) fun us s1 ⟨vs,H1,I1,r1,q1⟩=>?_) (cJ h1) (cI (es:=[]) rfl)
 obtain⟨a,rfl,⟨xs,hq⟩,q⟩:=q1
 obtain⟨u,rfl,ru⟩:=r1.one
 cases ru
 obtain⟨its,rv,pl,hz⟩:=I1.list hq
 refine call_enumerate_list pl.isList fun h' he hi hsz kk=>?_
 have I2:Inv X pins σ H1 { s1 with heap:=h' }:=I1.kept (t':=s1.toks) kk
 have f1:H1 (s1.heap.objs.size+1)=none:=I1.hok.fresh (Nat.le_succ _)
 have f0:H1 s1.heap.objs.size=none:=I1.hok.fresh (cV _)
 refine Hk he ⟨s1.heap.objs.size+1,_,_,W0 X.K a,H1,rfl,I2,Jt a (s1.heap.objs.size+1) s1.heap.objs.size (Nat.succ_ne_self _),⟨⟨_,he⟩,hi⟩,fun b hb=>?_,q⟩
 rcases b_.mp hb with z | z
 ·rw[z]; exact I1.vD (Nat.le_succ _) f1
 ·rw[d8.mp z]; exact I1.vD (cV _) f0
def EK (K:PySem.W.Frag) (g:TG) (tb:TS) (D:Ends) (σ:St) (vs:List V) (H1:Hp):Prop:=∃a,vs=[.ref a]/\(∃xs,eV K H1 a xs)/\∃W:Nat->Nat->St->Hp->Prop,(∃m,W 0 m σ H1)/\∀i m σ H,W i m σ H ->
 ((W0 K a).stop i H/\D.nx σ H)\/((W0 K a).go i H/\∃N:St->Hp->Prop,(∀σ' H',N σ' H'->∃m',m'<m/\W (i+1) m' σ' H')/\∀x H',(W0 K a).wD i H x H'->g x σ H' fun σ2 H2=>tb { D with nx:=N,ct:=N,bk:=D.nx } σ2 H2)
theorem Jw {K:PySem.W.Frag} {ta:TA} {g:TG} {tb:TS} {D:Ends} {σ:St} {H:Hp}:Be (Uu K ta) g tb D σ H=ta σ H (EK K g tb D σ):=rfl
theorem EK.of {K:PySem.W.Frag} {g:TG} {tb:TS} {D:Ends} {σ:St} {H:Hp} {a:Addr} {xs:List V} (ha:H a=some (.lst xs)) (Pv:Nat->St->Hp->Prop) (h0:Pv 0 σ H) (hl:∀i σ H',i<=xs.length->Pv i σ H'->H' a=some (.lst xs))
  (hs:∀i x σ H p,xs[i]?=some x->Pv i σ H->H p=none->g (.ref p) σ (upd H p (.tup [.int (i:Nat),x])) fun σ2 H2=>tb { D with nx:=Pv (i+1),ct:=Pv (i+1),bk:=D.nx } σ2 H2) (hd:∀σ H,Pv xs.length σ H->D.nx σ H):EK K g tb D σ [.ref a] H:=by
 refine⟨a,rfl,⟨xs,eV.of ha⟩,fun i m σ H=>m=xs.length-i/\i<=xs.length/\Pv i σ H,⟨_,rfl,gr _,h0⟩,?_⟩
 rintro i m σ H ⟨rfl,hi,p⟩
 have q:eV K H a xs:=eV.of (hl i σ H hi p)
 by_cases hlt:i<xs.length
 ·refine .inr ⟨⟨xs,xs[i],q,gP hlt⟩,Pv (i+1),fun σ' H' p'=>⟨xs.length-(i+1),by omega,rfl,hlt,p'⟩,fun x H' y=>?_⟩
  obtain⟨t,z,ht,rfl,rfl,hz⟩:=y
  exact hs i z σ H t (hz xs q) p ht
 ·have e:i=xs.length:=by omega
  subst e
  exact .inl ⟨⟨xs,q,cV _⟩,hd σ H p⟩
end
theorem xY:∀(l:List Int) (b x:Int),dJ b (l++[x])=if x>dJ b l then x else dJ b l
 | [],b,x=>rfl
 | y::l,b,x=>by
  show dJ (if y>b then y else b) (l++[x])=_
  rw[xY l]; rfl
theorem Jg (val:Nat->Int):∀k,val (argBest (fun i j=>decide (val i>val j)) k)=dJ (val 0) ((List.range k).map fun i=>val (i+1))
 | 0=>rfl
 | k+1=>by
  have ih:=Jg val k
  rw[List.range_succ,gY]
  show val (if decide (val (k+1)>val (argBest _ k))=true then k+1 else argBest _ k)=dJ (val 0) (_++[val (k+1)])
  rw[xY,<- ih]
  by_cases h:val (k+1)>val (argBest (fun i j=>decide (val i>val j)) k)
  ·rw[aM (iT h),aM h]
  ·rw[aK (by rw[fX h]; decide),aK h]
def pairOf:Value->Int×Tok
 | .int i t=>(i,t)
 | _=>(0,0)
theorem oh:∀{ns:List Int} {us:List Value},Vals (ns.map V.int) us->us.toArray=intItems (us.map pairOf).toArray/\us.map (fun u=>(pairOf u).1)=ns
 | [],_,.nil=>⟨by simp[intItems],rfl⟩
 | n::ns,_,.cons r t=>by
  obtain⟨tk,rfl⟩:=(r:∃tk,_=Value.int n tk)
  obtain⟨h1,h2⟩:=oh t
  refine⟨?_,by rw[rZ,h2]; rfl⟩
  have h1':=gW Array.toList h1
  unfold intItems at h1' ⊢
  apply Array.ext'
  simp at h1' ⊢
  exact⟨⟨rfl,rfl⟩,h1'⟩
section
variable {X:Cx}
theorem K5 (hc:X.calm=true):cX X (.builtin "max") (fun vs H Q=>∃(p:Addr) (b:Int) (r:List Int),vs=[.ref p]/\H p=some (.lst ((b::r).map V.int))/\Q (.int (dJ b r)) H):=by
 refine .mk ?_
 intro pins s σ H vs us Q I r h
 obtain⟨p,b,rs,rfl,hp,q⟩:=h
 obtain⟨u,rfl,ru⟩:=r.one
 cases ru
 obtain⟨_,its,n,rv,e⟩:=I.hok p _ hp
 obtain⟨e1,e2⟩:=oh rv
 have hl:s.heap.IsList p (intItems (its.map pairOf).toArray):=by rw[<- e1]; exact⟨_,e,rfl,n,rfl⟩
 have hlen:=rv.length
 rw[cg] at hlen
 have na:∀i,numAt (its.map pairOf).toArray i=(b::rs).getD i 0:=fun i=>by
  unfold numAt
  rw[<- e2,iZ]
  simp
  rfl
 refine max_intList (I.ok.hd hc) hl (by simp; rw[<- hlen]; simp) fun v h' tk hv k=>?_
 obtain⟨t,rfl⟩:=intItems_at hv
 refine⟨.int (dJ b rs),H,I.kept (t':=tk) k,⟨t,?_⟩,q⟩
 have:=Jg (numAt (its.map pairOf).toArray) ((its.map pairOf).toArray.size-1)
 rw[this]
 congr 1
 have sz:(its.map pairOf).toArray.size-1=rs.length:=by simp; rw[<- hlen]; simp
 rw[sz,na 0]
 show dJ b _=_
 congr 1
 apply Hg
 ·simp
 ·intro i h1 h2
  simp at h1 h2
  rw[List.getElem_map,Hm,na (i+1)]
  simp[iZ,h2]
theorem K9:cX X (.type "list") (fun vs H Q=>∃(p:Addr) (ys:List V),vs=[.ref p]/\H p=some (.lst ys)/\∀l,H l=none->Q (.ref l) (upd H l (.lst ys))):=by
 refine .mk ?_
 intro pins s σ H vs us Q I r h
 obtain⟨p,ys,e,hp,q⟩:=h
 exact pY pins s σ H vs us Q I r ⟨p,ys,e,.inl (eV.of hp),q⟩
theorem nU {K:PySem.W.Frag} {o e:Expr} {es:List Expr} {to:TE} {t:TA} {name:Str} {apos cpos:Pos} {T id:String} {r:V->List V->Hp->VK->Prop} (hK:X.K=K) (pa:PlainAttrs T) (slot:Slot T name id) (hty:typeOf (.builtin id)=pure (.type "method_descriptor")) (hm:ZQ X id r) (ho:PE X o to) (ha:PA X (e::es) t)
  (hbase:attributeBase o name X.env (eval o X.env)=eval o X.env:=by rfl)
  (hfew:((backTo cpos (starEach (e::es) X.env)).all (fun x=>!x.1)&&(backToKw cpos (keywordEach [] X.env)).all (fun x=>x.1.isSome)&&decide ((e::es).length+([]:List Keyword).length+(if([]:List Keyword).isEmpty then 0 else 1)<30))=true:=by rfl)
  (hline:(apos.endLine==cpos.line)=true:=by rfl) (hs:starEach (e::es) X.env=(false,eval e X.env)::starEach es X.env:=by rfl) (hplain:(backTo cpos (starEach es X.env)).any (·.1)=false:=by rfl):PE X (.Call (.Attribute o name apos) (e::es) [] cpos) (Z9 K T r to t):=by
 subst hK
 exact Yh pa slot hty hm ho ha hbase hfew hline hs hplain
end
theorem El:isSubtype (.type "range_iterator") (.type "reversed")=pure false:=by rw[isSubtype_type]; kernel_rfl
section
variable {prog:Program} {w:World} {A:Around} {E:Value->Shared->Prop} {s:Shared}
def uG (n:Int):Obj:={ cls:=.type "range_iterator",data:=.fields #[rawInt (n-1),rawInt n,rawInt (-1)] }
theorem vR {r:Addr} {n:Int} {t u v:Tok} {Q:Value->Shared->Prop} (hr:IsRange s.heap r 0 n 1 t u v) (h0:0<=n) (h1:n<2 ^ 62) (h:Q (.ref s.heap.objs.size) { s with heap:=s.heap.push (uG n) }) :
  wpAny (model prog w) A (call (.builtin "range.__reversed__") [.ref r]) Q E s:=by
 have hT:s.TypeIs (.ref r) "range" := ⟨_,hr,rfl⟩
 refine uJ PySem.F.slot_range_reversed hT PySem.F.entry_range_reversed ?_ (PySem.F.args_range_reversed_1 _)
 unfold Builtin.«range.__reversed__»
 refine aN (rY (a:=Value.ref r) rfl ?_)
 have rf:∀{R:Int×Int×Int->Shared->Prop},R (0,n,1) s->wpAny (model prog w) A.in1 (Builtin.Range.rangeFields (.ref r)) R E s:=fun {R} hR=>by
  unfold Builtin.Range.rangeFields
  refine aN (iD hr rfl (x:=.int 0 t) rfl (aN (rY (a:=some (0:Int)) rfl ?_)))
  refine aN (iD hr rfl (x:=.int n u) rfl (aN (rY (a:=some n) rfl ?_)))
  exact aN (iD hr rfl (x:=.int 1 v) rfl (aN (rY (a:=some (1:Int)) rfl (bH hR))))
 refine aN (rf ?_)
 dsimp only
 have sz:Builtin.Range.rangeSize 0 n 1=n:=by rw[rangeSize_one]; split <;> omega
 rw[sz]
 have sm:(Builtin.Range.rangeFitsLong 0&&Builtin.Range.rangeFitsLong n&&Builtin.Range.rangeFitsLong 1&&Builtin.Range.rangeFitsLong (-1)&&Builtin.Range.rangeFitsLong (0-1)&&Builtin.Range.rangeFitsLong n)=true:=by
  have:Builtin.Range.rangeFitsLong n=true:=by simp only[Builtin.Range.rangeFitsLong,Bw,decide_eq_true_eq]; omega
  rw[this]; decide
 rw[sm]
 simp only[zj,iU,if_false,if_true]
 have e1:(0+(n-1)*1:Int)=n-1:=by omega
 rw[e1]
 exact aN (sy (bH ⟨_,rfl,h⟩))
theorem vO {r:Addr} {n:Int} {t u v:Tok} {Q:Value->Shared->Prop} (hr:IsRange s.heap r 0 n 1 t u v) (h0:0<=n) (h1:n<2 ^ 62) (h:Q (.ref s.heap.objs.size) { s with heap:=s.heap.push (uG n) }) :
  codeAny (model prog w) A (.call (.builtin "reversed.__new__") ⟨[.type "reversed",.ref r],[]⟩) (wants Q E) s:=by
 have hT:s.TypeIs (.ref r) "range" := ⟨_,hr,rfl⟩
 refine codeAny_of_tree ?_
 show wpAny _ A.in1 (do checkBuiltinCall "reversed.__new__" ⟨[.type "reversed",.ref r],[]⟩; again (.builtin "reversed.__new__" ⟨[.type "reversed",.ref r],[]⟩)) _ _ s
 refine aN (rY (F.newCall_reversed_1 (.ref r)) (bH ⟨plainId_quiet F.plain_reversed_new _,codeAny_builtin F.entry_reversed_new ?_⟩))
 rw[Around.under_plainId F.plain_reversed_new _]
 unfold Builtin.«reversed.__new__»
 refine aN (rY (newClass_reversed (.ref r)) ?_); (try dsimp only)
 refine aN (rY (a:=()) rfl (aN (rY (a:=()) rfl ?_)))
 refine aN (xT hT PySem.F.slot_range_reversed.lookup ?_); (try dsimp only)
 refine aN (rY (PySem.F.slot_range_reversed.bind _) ?_); (try dsimp only)
 rw[aK (show ¬((Value.builtin "range.__reversed__" == Value.none)=true) from jD)]
 refine aN (pI (aN (m:=runValue (.call (.builtin "range.__reversed__") ⟨[.ref r],[]⟩)) (show wpAny _ _ (call (.builtin "range.__reversed__") [.ref r]) _ _ _ from vR hr h0 h1 ?_)))
 first
  | exact bH h
  | exact aN (bH (bH h))
theorem vQ {r:Addr} {n:Int} {t u v:Tok} {Q:Value->Shared->Prop} (hr:IsRange s.heap r 0 n 1 t u v) (h0:0<=n) (h1:n<2 ^ 62) (h:Q (.ref s.heap.objs.size) { s with heap:=s.heap.push (uG n) }) :
  wpAny (model prog w) A (call (.type "reversed") [.ref r]) Q E s:=by
 refine callType_other (U:="range_iterator") (Q₁:=fun obj z=>obj=.ref s.heap.objs.size/\z={ s with heap:=s.heap.push (uG n) }) (by decide +kernel) F.create_reversed ⟨_,_,F.mro_reversed⟩ F.made_reversed El (F.typeCall_reversed_1 _) (vO hr h0 h1 ⟨rfl,rfl⟩) ?_
 rintro obj z ⟨rfl,rfl⟩
 exact⟨⟨_,dR _ rfl,rfl⟩,h⟩
end
def WY (n:Nat):It:=⟨fun i _=>i<n,fun i H x H'=>H'=H/\x=.int ((n:Int)-1-i),fun i _=>n<=i⟩
theorem Mg {P:Program} {w:World} {K:PySem.W.Frag} {tg:Expr} (it:Addr) (n:Nat):Turn P w K tg (WY n) [it] it (fun i h=>IsRangeIter h it ((n:Int)-1+(i:Nat)*(-1)) ((n:Int)-(i:Nat)) (-1)) where
 mem:=by simp
 obj:=fun i h st b hb=>by
  rw[d8.mp hb]
  exact⟨_,st,fun v z=>by
   have z':Data.fields _=Data.cell v:=z
   cases z'⟩
 keep:=fun i h h' st k=>k it (by simp) _ st
 item:=by
  intro X hP hw hK hc i pins s σ H E I hf st hg
  subst hP hw hK
  obtain⟨f0,f1,f2,f3,f4,f5⟩:=hf it (by simp)
  have W:=Walks.range (prog:=X.prog) (w:=X.w) (I.ok.hd hc) it ((n:Int)-1) (-1) n
  refine W.item i s _ _ hg st fun v h' tk hv st' kk=>?_
  obtain⟨t,rfl⟩:=hv
  have I1:Inv X pins σ H { s with heap:=h',toks:=tk }:=I.turned (fun b o hb e=>kk b o (by simpa using hb) e) f0 f1 f3 f4 f5
  refine⟨_,rfl,Iu (s:={ s with heap:=h',toks:=tk }) (n:="range_iterator") st' rfl rfl (by decide) ⟨.int ((n:Int)-1-i),H,I1,⟨t,?_⟩,⟨rfl,rfl⟩,st',fun b hb=>(hf b hb).1⟩⟩
  congr 1
  omega
 done:=by
  intro X hP hw hK hc i pins s σ H E I hf st hg
  subst hP hw hK
  obtain⟨f0,f1,f2,f3,f4,f5⟩:=hf it (by simp)
  exact wpAny_pyNext_range_end (I.ok.hd hc) st (by have:n<=i:=hg; omega) fun h' eb=>⟨rfl,I.turned (t':=s.toks) (fun b o hb e=>eb b o hb e) f0 f1 f3 f4 f5⟩
 self:=fun _ _ _ _ _ st h=>Nq st h
section
variable {X:Cx}
theorem DG:bootBuiltins "reversed" = some (.type "reversed"):=by decide +kernel
def Yv (ta:TA):TI:=fun σ H R=>ta σ H fun vs H1=>∃n:Nat,vs=[.int n]/\n<=1000000/\R (WY n) H1
theorem Vx {tg a:Expr} {p p2 pos pos2:Pos} {ta:TA} (hm:X.mg "reversed" = none) (hm2:X.mg "range" = none) (ha:PA X [a] ta) (hg:Gl X "reversed" := by rfl) (hg2:Gl X "range" := by rfl) (h1:cG a=true:=by rfl) :
  PI X tg (.Call (.Name "reversed" p) [.Call (.Name "range" p2) [a] [] pos2] [] pos) (Yv ta):=by
 refine .mk ?_
 intro pins s σ H R I h
 refine sG (iJ I hg hm DG ?_ (by decide) (by decide))
 refine PyProof.Rows.callWith_type1 ?_ (cJ rfl) (cI (es:=[]) rfl)
 rw[cJ (e:=.Call (.Name "range" p2) [a] [] pos2) rfl]
 show wpAny _ _ (spliced ((false,eval (.Call (.Name "range" p2) [a] [] pos2) X.env)::backTo pos (starEach [] X.env))) _ _ s
 refine Calls.spliced_cons ?_
 refine sG (iJ I hg2 hm2 DK ?_ (by decide) (by decide))
 refine PyProof.Rows.callWith_type1 (cF (ha pos2 pins s σ H _ I h) fun us s1 ⟨vs,H1,I1,r1,n,e,hn,q⟩=>?_) (cJ h1) (cI (es:=[]) rfl)
 subst e
 obtain⟨u,rfl,t,rfl⟩:=r1.one
 refine call_range_1 ?_
 refine Calls.spliced_nil ?_
 refine vQ (IsRange.new ..) (by omega) (by omega) ?_
 have k2:∀b o,s1.heap.get? b=some o->((s1.heap.push { cls:=.type "range",data:=.fields #[.int 0 s1.toks,.int (n:Int) t,.int 1 (s1.toks+1)] }).push (uG n)).get? b=some o:=fun b o e=>gf _ (gf _ e)
 have I2:=I1.kept (t':=s1.toks+1+1) k2
 generalize hh:s1.heap.push { cls:=.type "range",data:=.fields #[.int 0 s1.toks,.int (n:Int) t,.int 1 (s1.toks+1)] }=h1' at I2 ⊢
 have sz:s1.heap.objs.size<=h1'.objs.size:=by rw[<- hh,lR]; exact Nat.le_succ _
 have st:IsRangeIter (h1'.push (uG n)) h1'.objs.size ((n:Int)-1+((0:Nat):Int)*(-1)) ((n:Int)-((0:Nat):Int)) (-1):=by
  have e1:(n:Int)-1+((0:Nat):Int)*(-1)=(n:Int)-1:=by simp
  have e2:(n:Int)-((0:Nat):Int)=n:=by simp
  rw[e1,e2]
  exact dR _ rfl
 refine Nq (s:={ s1 with heap:=h1'.push (uG n),toks:=s1.toks+1+1 }) (by exact st) ⟨h1'.objs.size,[h1'.objs.size],_,WY n,H1,rfl,I2,Mg _ n,st,fun b hb=>?_,q⟩
 rw[d8.mp hb]
 exact I1.vD sz (I1.hok.fresh sz)
def ZJ (g:TG) (tb:TS) (D:Ends) (σ:St) (vs:List V) (H1:Hp):Prop:=∃n:Nat,vs=[.int n]/\n<=1000000/\∃W:Nat->Nat->St->Hp->Prop,(∃m,W 0 m σ H1)/\∀i m σ H,W i m σ H ->
 ((WY n).stop i H/\D.nx σ H)\/((WY n).go i H/\∃N:St->Hp->Prop,(∀σ' H',N σ' H'->∃m',m'<m/\W (i+1) m' σ' H')/\∀x H',(WY n).wD i H x H'->g x σ H' fun σ2 H2=>tb { D with nx:=N,ct:=N,bk:=D.nx } σ2 H2)
theorem Mr {ta:TA} {g:TG} {tb:TS} {D:Ends} {σ:St} {H:Hp}:Be (Yv ta) g tb D σ H=ta σ H (ZJ g tb D σ):=rfl
theorem ZJ.of {g:TG} {tb:TS} {D:Ends} {σ:St} {H:Hp} {n:Nat} {i:Int} (ei:i=n) (hn:n<=1000000) (Pv:Nat->St->Hp->Prop) (h0:Pv 0 σ H)
  (hs:∀i σ H,i<n->Pv i σ H->g (.int ((n:Int)-1-(i:Nat))) σ H fun σ2 H2=>tb { D with nx:=Pv (i+1),ct:=Pv (i+1),bk:=D.nx } σ2 H2) (hd:∀σ H,Pv n σ H->D.nx σ H):ZJ g tb D σ [.int i] H:=by
 subst ei
 refine⟨n,rfl,hn,fun i m σ H=>m=n-i/\i<=n/\Pv i σ H,⟨n,rfl,gr _,h0⟩,?_⟩
 rintro i m σ H ⟨rfl,hi,p⟩
 by_cases hlt:i<n
 ·refine .inr ⟨hlt,Pv (i+1),fun σ' H' p'=>⟨n-(i+1),by omega,rfl,hlt,p'⟩,fun x H' y=>?_⟩
  obtain⟨e1,e2⟩:=y
  subst e1 e2
  exact hs i σ _ hlt p
 ·have e:i=n:=by omega
  subst e
  exact .inl ⟨cV _,hd σ H p⟩
end
structure sY (K:PySem.W.Frag) (x qual:Str) (st:Stmt) (f:Addr) (fd:FuncData) (T:Addr) (i:Int) (t:Tok):Prop where
 ex:∃(oc:Value) (od:Option Addr) (kV doc pm:Value) (an:Option Addr) (cdv ct:Value) (osl:Array (Option Value)),
  fd=PySem.W.fnOf x qual (dF st) (cN st) (aH st) (.ref T) kV doc pm an cdv ct/\K.lookup f=some ⟨oc,od,.func fd,osl⟩/\PySem.W.codeIn K cdv qual=true
 kp:PySem.W.keepIn K (.ref f)=true
 df:∃o n,K.lookup T=some o/\o.data=.seq #[.int i t] n
section
variable {P:Program} {w:World} {K:PySem.W.Frag} {mg:Str->Option Value} {base:Heap}
theorem sY.ok {x qual:Str} {st:Stmt} {f T:Addr} {i:Int} {t:Tok} {fd:FuncData} {N ps:List Str} {k:Nat} {sp:Sp} (F:sY K x qual st f fd T i t) (S:aU N ps (aH st)) (len:∀vs H Q E,sp vs H Q E->vs.length=ps.length)
  (hb:∀(cdv:Value) (A:Around) (outer:List Env) (s:Shared) (H:Hp) (vs:List V) (Q:VK) (E:XK),gG k (A.deeper (envOfC qual (aH st) s.heap.objs.size f cdv))->sp vs H Q E ->
   ∃t,wY (fH iz P w K mg base N qual (aH st) f cdv A outer s H E).WD (cN st) t/\t { nx:=fun _ H'=>Q .non H',rt:=Q } (start N vs) H):bM P w K mg base iz (k+1) f fd ps sp:=by
 obtain⟨oc,od,kV,doc,pm,an,cdv,ct,osl,rfl,lk,hcd⟩:=F.ex
 exact Uy lk hcd S len fun A outer s H vs Q E hr hsp=>let ⟨t,h,q⟩:=hb cdv A outer s H vs Q E hr hsp; ⟨t,h.WD,q⟩
theorem sY.binds {x qual:Str} {st:Stmt} {f T:Addr} {i:Int} {t:Tok} {fd:FuncData} {ps:List Str} {ds:List Value} (F:sY K x qual st f fd T i t)
  (h:∀(kV doc pm:Value) (an:Option Addr) (cdv ct:Value) (us:List Value),(us++ds).length=ps.length->∃k,bindArgs (PySem.W.fnOf x qual (dF st) (cN st) (aH st) (.ref T) kV doc pm an cdv ct) ⟨us,[]⟩=seqItems? (.ref T) >>= k/\k (some #[.int i t])=pure (ps.zip (us++ds))):Binds K fd ps ds:=by
 obtain⟨oc,od,kV,doc,pm,an,cdv,ct,osl,rfl,lk,hcd⟩:=F.ex
 obtain⟨o,n,ho,hd⟩:=F.df
 intro s us KX hl
 obtain⟨k,h1,h2⟩:=h kV doc pm an cdv ct us hl
 exact BindsTo.of_defaults rfl (KX _ _ ho) hd h1 h2
end
structure U5 (P:Program) (w:World) (K:PySem.W.Frag) (mg:Str->Option Value) (base:Heap) (k:Nat) (x:Str) (ps:List Str) (i:Int) (sp:Sp) where
 f:Addr
 fd:FuncData
 t:Tok
 G:bM P w K mg base iz k f fd ps sp
 kp:PySem.W.keepIn K (.ref f)=true
 b:Binds K fd ps []
 bd:Binds K fd ps [.int i t]
 m:mg x=some (.ref f)
def U5.mono {P:Program} {w:World} {K:PySem.W.Frag} {mg:Str->Option Value} {base:Heap} {j k:Nat} {x:Str} {ps:List Str} {i:Int} {sp:Sp} (c:U5 P w K mg base j x ps i sp) (h:j<=k):U5 P w K mg base k x ps i sp:={ c with G:=c.G.mono h }
section
variable {X:Cx} {x:Str} {p pos:Pos} {e:Expr} {es:List Expr} {t:TA}
theorem pfd {k:Nat} {ps:List Str} {i:Int} {sp:Sp} (c:U5 X.prog X.w X.K X.mg X.base k x ps i sp) (hr:gG k X.A) (ha:PA X (e::es) t) (hg:Gl X x:=by rfl) (hdb:(x==("__debug__" : Str))=false:=by decide) (h1:cG e=true:=by rfl) (h2:es.all cG=true:=by rfl) :
  PE X (.Call (.Name x p) (e::es) [] pos) (rD sp [.int i] E0 t):=Hy c.G hr hg c.m c.kp c.bd (.cons ⟨_,rfl⟩ .nil) Ul ha hdb (cJ h1) (cI h2)
end
section
variable {X:Cx}
end
def LK (K:PySem.W.Frag) (g:TG) (tb:TS) (D:Ends) (σ:St) (x:V) (H1:Hp):Prop:=∃a,x=.ref a/\(∃xs,eV K H1 a xs)/\∃W:Nat->Nat->St->Hp->Prop,(∃m,W 0 m σ H1)/\∀i m σ H,W i m σ H ->
 ((U0 K a).stop i H/\D.nx σ H)\/((U0 K a).go i H/\∃N:St->Hp->Prop,(∀σ' H',N σ' H'->∃m',m'<m/\W (i+1) m' σ' H')/\∀x H',(U0 K a).wD i H x H'->g x σ H' fun σ2 H2=>tb { D with nx:=N,ct:=N,bk:=D.nx } σ2 H2)
theorem tZ {K:PySem.W.Frag} {tl:TE} {g:TG} {tb:TS} {D:Ends} {σ:St} {H:Hp}:Be (Dl K tl) g tb D σ H=tl σ H (LK K g tb D σ):=rfl
theorem LK.of {K:PySem.W.Frag} {g:TG} {tb:TS} {D:Ends} {σ:St} {H:Hp} {a:Addr} {xs:List V} (ha:H a=some (.lst xs)) (Pv:Nat->St->Hp->Prop) (h0:Pv 0 σ H) (hl:∀i σ H',i<=xs.length->Pv i σ H'->H' a=some (.lst xs))
  (hs:∀i x σ H,xs[i]?=some x->Pv i σ H->g x σ H fun σ2 H2=>tb { D with nx:=Pv (i+1),ct:=Pv (i+1),bk:=D.nx } σ2 H2) (hd:∀σ H,Pv xs.length σ H->D.nx σ H):LK K g tb D σ (.ref a) H:=
 ⟨a,rfl,⟨xs,eV.of ha⟩,Pn (xs:=xs) Pv h0 (fun i σ H' hi p=>eV.of (hl i σ H' hi p)) hs hd⟩
end L2
namespace L2
open PySem
mutual
def uZ:PyData->Bool
 | .tuple ds=>bJ ds
 | .list _=>false
 | .dict _=>false
 | .none=>true
 | .bool _=>true
 | .int _=>true
 | .str _=>true
def bJ:List PyData->Bool
 | []=>true
 | d::ds=>uZ d&&bJ ds
end
theorem cZ:∀{ds:List PyData},bJ ds=true↔∀d∈ds,uZ d=true
 | []=>by simp[bJ]
 | d::ds=>by
  have ih:=cZ (ds:=ds)
  simp only[bJ,Bw,ih,b_,forall_eq_or_imp]
mutual
theorem At.vy {G:Hp} {p:Addr} {xs:List V} (hp:G p=some (.lst xs)):∀(d:PyData) (v:V),uZ d=true->At G d v->At (hid p G) d v
 | .none,_,_,h=>by unfold At at h ⊢; exact h
 | .bool _,_,_,h=>by unfold At at h ⊢; exact h
 | .int _,_,_,h=>by unfold At at h ⊢; exact h
 | .str _,_,_,h=>by unfold At at h ⊢; exact h
 | .tuple ds,v,n,h=>by
  unfold At at h ⊢
  obtain⟨a,ys,e,h1,h2⟩:=h
  refine⟨a,ys,e,?_,aa.vy hp ds ys (by simpa[uZ] using n) h2⟩
  rw[bR (fun z=>by subst z; rw[hp] at h1; cases h1)]; exact h1
 | .list _,_,n,_=>by simp[uZ] at n
 | .dict _,_,n,_=>by simp[uZ] at n
theorem aa.vy {G:Hp} {p:Addr} {xs:List V} (hp:G p=some (.lst xs)):∀(ds:List PyData) (ys:List V),bJ ds=true->aa G ds ys->aa (hid p G) ds ys
 | [],_,_,h=>by unfold aa at h ⊢; exact h
 | d::ds,ys,n,h=>by
  unfold aa at h ⊢
  obtain⟨x,r,e,h1,h2⟩:=h
  have n':uZ d=true/\bJ ds=true:=by simpa[bJ] using n
  exact⟨x,r,e,At.vy hp d x n'.1 h1,aa.vy hp ds r n'.2 h2⟩
end
theorem Ek:∀l:List Int,(∀c∈l,0<=c)->0<=l.sum
 | [],_=>by simp
 | x::l,h=>by rw[BW]; have:=Ek l fun c hc=>h c (iG _ hc); have:=h x jl; omega
theorem iw:∀ws:List Int,PyData.hasDictAll (ws.map .int)=false/\PyData.canLayAll0 (ws.map .int)=true/\PyData.depthAll (ws.map .int)=0
 | []=>⟨rfl,rfl,rfl⟩
 | w::ws=>by
  obtain⟨h1,h2,h3⟩:=iw ws
  refine⟨?_,?_,?_⟩
  ·show(PyData.hasDict (.int w) || PyData.hasDictAll (ws.map .int))=false
   rw[h1]; rfl
  ·show(PyData.canLay0 (.int w)&&PyData.canLayAll0 (ws.map .int))=true
   rw[h2]; rfl
  ·show max (PyData.depth (.int w)) (PyData.depthAll (ws.map .int))=0
   rw[h3]; rfl
theorem take_snoc {α:Type} {l:List α} {i:Nat} {c:α} (h:l[i]?=some c):l.take (i+1)=l.take i++[c]:=by
 obtain⟨hi,e⟩:=nG.mp h
 rw[List.take_succ_eq_append_getElem hi,e]
theorem SX.same {p:Addr} {H H':Hp} (hp:H p=none) (s:SX p H H'):aD H H':=fun b o h=>by
 have hb:b≠p:=fun z=>by rw[z,hp] at h; cases h
 exact s.get hb h
theorem xV {ts:List Str} {i:Int} (h0:0<=i) (h1:i<ts.length):∃t,t∈ts/\yG (ts.map V.str) i=some (.str t):=by
 have hi:i.toNat<ts.length:=by omega
 refine⟨ts[i.toNat],JM hi,?_⟩
 have:=bx (xs:=ts.map V.str) (j:=i.toNat) (v:=.str ts[i.toNat]) (by rw[il,gP hi]; rfl)
 rwa [show((i.toNat:Nat):Int)=i by omega] at this
theorem ir {ts:List Int} {i:Int} (h0:0<=i) (h1:i<ts.length):∃t,t∈ts/\yG (ts.map V.int) i=some (.int t):=by
 have hi:i.toNat<ts.length:=by omega
 refine⟨ts[i.toNat],JM hi,?_⟩
 have:=bx (xs:=ts.map V.int) (j:=i.toNat) (v:=.int ts[i.toNat]) (by rw[il,gP hi]; rfl)
 rwa [show((i.toNat:Nat):Int)=i by omega] at this
def eN (a b:TS):TS:=Ml a b
theorem T6 (i:Nat) {e:TE} {b:TS}:Ml (Bf e (eQ i)) b=eN (Bf e (eQ i)) b:=rfl
theorem M4 {c:TT} {x y b:TS}:Ml (QV c x y) b=eN (QV c x y) b:=rfl
theorem eN.of {a b:TS} {D:Ends} {σ:St} {H:Hp} (R:St->Hp->Prop) (hR:∀σ' H',R σ' H'->b D σ' H') (h:∀N:St->Hp->Prop,(∀σ' H',R σ' H'->N σ' H')->a { D with nx:=N } σ H):eN a b D σ H:=h _ hR
theorem eN.on {a b:TS} {D:Ends} {σ:St} {H:Hp} (hR:∀H',aD H H'->b D σ H') (h:∀N:St->Hp->Prop,(∀H',aD H H'->N σ H')->a { D with nx:=N } σ H):eN a b D σ H:=
 eN.of (fun σ' H'=>σ'=σ/\aD H H') (fun σ' H' z=>by rw[z.1]; exact hR H' z.2) fun N hN=>h N fun H' s=>hN _ _ ⟨rfl,s⟩
theorem Kr {α:Type} {l:List α} (h:l.length=3):∃a b c,l=[a,b,c]:=by
 match l,h with
 | [a,b,c],_=>exact⟨a,b,c,rfl⟩
theorem R0 {α:Type} {l:List α} (h:l.length=5):∃a b c d e,l=[a,b,c,d,e]:=by
 match l,h with
 | [a,b,c,d,e],_=>exact⟨a,b,c,d,e,rfl⟩
theorem aD.dG {H H':Hp} {p:Addr} {o:HO} (s:aD H H') (hp:H p=none):aD H (upd H' p o):=fun b u h=>by rw[aL (bN h hp)]; exact s _ _ h
def Ut:PyData->Bool
 | .list _=>true
 | _=>false
theorem R7 (K:PySem.W.Frag) (d:PyData):PySem.W.kitOne K (.type (Z6 d)) (.type "list")=some (Ut d):=by cases d <;> kernel_rfl
theorem R9 {X:Cx}:cX X (.builtin "isinstance") (X8 "list" Ut):=V9 R7
theorem j5 {ds:List PyData} (h:bJ ds=true) {i:Nat} {d:PyData} (e:ds[i]?=some d):uZ d=true:=cZ.mp h d (lU e)
theorem Sy {K:PySem.W.Frag} {js:List Nat} {a:Addr} {xs:List V} {es:List PyData} {tl te:TE} {σ:St} {H:Hp} {Q:VK} (hl:∀R:VK,R (.ref a) H->tl σ H R) (ha:H a=some (.lst xs)) (hn:es.length=xs.length) (hz:es.length<=sizeLine) (hL:bJ es=true)
  (step:∀(i:Nat) x e H',xs[i]?=some x->es[i]?=some e->aD H H'->∀R:VK,(∀v du,aD H' du->At du e v->R v du)->te (some x::bU js σ) H' R)
  (fin:∀acc ys H',aD H H'->H acc=none->H' acc=some (.lst ys)->aa (hid acc H') es ys->Q (.ref acc) H'):iW js (Dl K tl) te σ H Q:=by
 refine hl _ ⟨a,rfl,⟨xs,eV.of ha⟩,fun acc hacc=>?_⟩
 refine⟨fun i m ys H2=>m=es.length-i/\i<=es.length/\aa (hid acc H2) (es.take i) ys/\aD H H2/\H2 acc=some (.lst ys),⟨_,rfl,gr _,aa.nil,aO hacc _,aC⟩,?_⟩
 rintro i m ys H2 ⟨rfl,hi,hA,sm,hy⟩
 have ht:eV K H2 a xs:=eV.of (sm _ _ ha)
 by_cases hlt:i<es.length
 ·refine .inr ⟨⟨xs,xs[i]'(by omega),ht,gP (by omega)⟩,fun x H3 y=>?_⟩
  obtain⟨e,y⟩:=y
  subst e
  have e1:es[i]?=some es[i]:=gP hlt
  refine step i x _ _ (y xs ht) e1 sm _ fun v H4 s4 a4=>⟨s4 _ _ hy,?_,es.length-(i+1),by omega,rfl,hlt,?_,?_,aC⟩
  ·rw[hA.length,jC]; omega
  ·rw[eX,Bu,e1]
   exact aa.append (hA.mono (aD.hid s4)) (aa.cons (At.vy (s4 _ _ hy) _ _ (j5 hL e1) a4) aa.nil)
  ·refine fun b o q=>?_
   have nb:b≠acc:=bN q hacc
   rw[aL nb]
   exact s4 _ _ (sm _ _ q)
 ·have e:i=es.length:=by omega
  subst e
  rw[su] at hA
  exact .inl ⟨⟨xs,ht,by omega⟩,fin _ _ _ sm hacc hy hA⟩
end L2
namespace L2
open PySem PySem.Spec PyProof.Rows
def jH:Int->List Int->Int
 | b,[]=>b
 | b,x::l=>jH (if x<b then x else b) l
theorem xW:∀(l:List Int) (b x:Int),jH b (l++[x])=if x<jH b l then x else jH b l
 | [],b,x=>rfl
 | y::l,b,x=>by
  show jH (if y<b then y else b) (l++[x])=_
  rw[xW l]; rfl
theorem Jf (val:Nat->Int):∀k,val (argBest (fun i j=>decide (val i<val j)) k)=jH (val 0) ((List.range k).map fun i=>val (i+1))
 | 0=>rfl
 | k+1=>by
  have ih:=Jf val k
  rw[List.range_succ,gY]
  show val (if decide (val (k+1)<val (argBest _ k))=true then k+1 else argBest _ k)=jH (val 0) (_++[val (k+1)])
  rw[xW,<- ih]
  by_cases h:val (k+1)<val (argBest (fun i j=>decide (val i<val j)) k)
  ·rw[aM (iT h),aM h]
  ·rw[aK (by rw[fX h]; decide),aK h]
section
variable {X:Cx}
theorem K4 (hc:X.calm=true):cX X (.builtin "min") (fun vs H Q=>∃(p:Addr) (b:Int) (r:List Int),vs=[.ref p]/\H p=some (.lst ((b::r).map V.int))/\Q (.int (jH b r)) H):=by
 refine .mk ?_
 intro pins s σ H vs us Q I r h
 obtain⟨p,b,rs,rfl,hp,q⟩:=h
 obtain⟨u,rfl,ru⟩:=r.one
 cases ru
 obtain⟨_,its,n,rv,e⟩:=I.hok p _ hp
 obtain⟨e1,e2⟩:=oh rv
 have hl:s.heap.IsList p (intItems (its.map pairOf).toArray):=by rw[<- e1]; exact⟨_,e,rfl,n,rfl⟩
 have hlen:=rv.length
 rw[cg] at hlen
 have na:∀i,numAt (its.map pairOf).toArray i=(b::rs).getD i 0:=fun i=>by
  unfold numAt
  rw[<- e2,iZ]
  simp
  rfl
 refine min_intList (I.ok.hd hc) hl (by simp; rw[<- hlen]; simp) fun v h' tk hv k=>?_
 obtain⟨t,rfl⟩:=intItems_at hv
 refine⟨.int (jH b rs),H,I.kept (t':=tk) k,⟨t,?_⟩,q⟩
 have:=Jf (numAt (its.map pairOf).toArray) ((its.map pairOf).toArray.size-1)
 rw[this]
 congr 1
 have sz:(its.map pairOf).toArray.size-1=rs.length:=by simp; rw[<- hlen]; simp
 rw[sz,na 0]
 show jH b _=_
 congr 1
 apply Hg
 ·simp
 ·intro i h1 h2
  simp at h1 h2
  rw[List.getElem_map,Hm,na (i+1)]
  simp[iZ,h2]
end
structure mQ (X:Cx) (nt:Nat) (N':List Str) (js:List Nat) (sc:Scope):Prop where
 kind:sc.kind=.function
 gw:∀y∈sc.names,y.2≠.cell
 names:∀y∈sc.names,y.2=.local->sc.names.lookup y.1=some .local
 clos:closureFor sc X.env=pure (oJ sc X.env)
 all:(sc.names.all fun y=>y.2 != .free || (X.env.cells.lookup y.1).isSome)=true
 len:N'.length=nt+js.length
 cap:∀(i j:Nat),js[i]?=some j->N'[nt+i]?=X.N[j]?
 Qa:∀y∈N'.drop nt,X.env.kindOf y=some .cell/\sc.names.lookup y=some .free
theorem vP:∀(names:List (Str×NameKind)) (h:Heap) (acc:List (Str×Addr)) (x:Str) (c:Addr),(cellsFrom h.objs.size names acc).lookup x=some c->((pushCells h names).IsCell c none/\h.objs.size<=c)\/(acc.lookup x=some c/\(x,NameKind.cell)∉names)
 | [],h,acc,x,c,e=>.inr ⟨e,by simp⟩
 | (name,kind)::r,h,acc,x,c,e=>by
  unfold cellsFrom at e
  unfold pushCells
  split at e
  ·rename_i hk
   have hk':kind=.cell:=by simpa using hk
   rw[aM hk]
   have:=vP r (h.push { cls:=.type "cell",data:=.cell none }) ((name,h.objs.size)::acc) x c (by rw[lR]; exact e)
   rw[lR] at this
   rcases this with⟨z,z'⟩ | ⟨z,z'⟩
   ·exact .inl ⟨z,by omega⟩
   ·rw[qK] at z
    cases hx:x==name with
    | true=>
     rw[hx] at z
     cases z
     refine .inl ⟨?_,cV _⟩
     exact⟨_,pushCells_keeps r _ _ _ (dR _ rfl),rfl⟩
    | false=>
     rw[hx] at z
     refine .inr ⟨z,fun m=>?_⟩
     rcases b_.mp m with q | q
     ·have:x=name:=(Prod.mk.inj q).1
      simp[this] at hx
     ·exact z' q
  ·rename_i hk
   rw[aK hk]
   rcases vP r h acc x c e with z | ⟨z,z'⟩
   ·exact .inl z
   ·refine .inr ⟨z,fun m=>?_⟩
    rcases b_.mp m with q | q
    ·exact hk (by rw[<- (Prod.mk.inj q).2]; rfl)
    ·exact z' q
theorem Gu:∀(names:List (Str×NameKind)) (n:Nat) (acc:List (Str×Addr)),(∀x y c,acc.lookup x=some c->acc.lookup y=some c->x=y)->(∀x c,acc.lookup x=some c->c<n) ->
  (∀x y c,(cellsFrom n names acc).lookup x=some c->(cellsFrom n names acc).lookup y=some c->x=y)/\True
 | [],n,acc,h,_=>⟨h,trivial⟩
 | (name,kind)::r,n,acc,h,hb=>by
  unfold cellsFrom
  split
  ·refine Gu r (n+1) ((name,n)::acc) (fun x y c e1 e2=>?_) (fun x c e=>?_)
   ·rw[qK] at e1 e2
    cases hx:x==name with
    | true=>
     rw[hx] at e1
     cases e1
     cases hy:y==name with
     | true=>rw[beq_iff_eq.mp hx,beq_iff_eq.mp hy]
     | false=>rw[hy] at e2; exact absurd (hb _ _ e2) (sr _)
    | false=>
     rw[hx] at e1
     cases hy:y==name with
     | true=>rw[hy] at e2; cases e2; exact absurd (hb _ _ e1) (sr _)
     | false=>rw[hy] at e2; exact h x y c e1 e2
   ·rw[qK] at e
    cases hx:x==name with
    | true=>rw[hx] at e; cases e; exact Ca _
    | false=>rw[hx] at e; exact JN (hb _ _ e)
  ·exact Gu r n acc h hb
theorem Gv {x:Str}:∀(names:List (Str×NameKind)) (n:Nat) (acc:List (Str×Addr)),((x,NameKind.cell)∈names\/(acc.lookup x).isSome=true)->((cellsFrom n names acc).lookup x).isSome=true
 | [],n,acc,h=>by
  rcases h with h | h
  ·simp at h
  ·exact h
 | (name,kind)::r,n,acc,h=>by
  unfold cellsFrom
  split
  ·rename_i hk
   refine Gv r (n+1) _ ?_
   rcases h with h | h
   ·rcases b_.mp h with q | q
    ·refine .inr ?_
     rw[qK,(Prod.mk.inj q).1]
     simp
    ·exact .inl q
   ·refine .inr ?_
    rw[qK]
    split
    ·rfl
    ·exact h
  ·rename_i hk
   refine Gv r n acc ?_
   rcases h with h | h
   ·rcases b_.mp h with q | q
    ·exact absurd (by rw[<- (Prod.mk.inj q).2]; rfl) hk
    ·exact .inl q
   ·exact .inr h
theorem Ah {x:Str} {c:Addr}:∀(names:List (Str×NameKind)) (n:Nat) (acc:List (Str×Addr)),(x,NameKind.cell)∉names->acc.lookup x=some c->(cellsFrom n names acc).lookup x=some c
 | [],n,acc,_,e=>e
 | (name,kind)::r,n,acc,h,e=>by
  unfold cellsFrom
  split
  ·rename_i hk
   refine Ah r (n+1) _ (fun m=>h (iG _ m)) ?_
   rw[qK]
   cases hx:x==name with
   | true=>
    have hk':kind=.cell:=by simpa using hk
    exact absurd (by rw[beq_iff_eq.mp hx,hk']; exact jl) h
   | false=>exact e
  ·exact Ah r n acc (fun m=>h (iG _ m)) e
theorem wF {M:Model} {A:Around} {E:Value->Shared->Prop} {s:Shared} {scope:Scope} {globals:Addr} {cl:List (Str×Addr)} {qual:Str} {env:Env} {Q:Env->Shared->Prop}
  (hQ:Q { scope,locals:=s.heap.objs.size,globals,cells:=cellsFrom (s.heap.objs.size+1) scope.names cl,qual,func:=none,code:=env.code,frame:=env.frame,builtins:=env.builtins } { s with heap:=pushCells (s.heap.push { cls:=.type "dict",data:=.dict #[] }) scope.names }) :
  wpAny M A (newFunctionEnv scope globals cl [] qual none .none (some env)) Q E s:=by
 simp only[newFunctionEnv,Option.isSome_some,if_true]
 refine aN (wpAny_alloc ?_)
 refine aN (wpAny_layCells _ (fun name kind cells=>by cases hkc:kind==NameKind.cell <;> simp[hkc]) _ _ _ _ ?_)
 rw[show({ s with heap:=s.heap.push { cls:=.type "dict",data:=.dict #[] } }:Shared).heap.objs.size=s.heap.objs.size+1 from lR ..]
 simp only[List.forIn_nil]
 exact aN (bH (bH hQ))
def Ae (X:Cx) (N':List Str) (sc:Scope) (fp:List Addr) (s:Shared) (H:Hp):Cx where
 prog:=X.prog
 w:=X.w
 K:=X.K
 mg:=X.mg
 base:=X.base
 A:=X.A
 N:=N'
 s₀:=s
 H₀:=H
 env:=compEnvC sc (cellsFrom (s.heap.objs.size+1) sc.names (oJ sc X.env)) s.heap.objs.size X.env
 outer:=X.stack
 stack:=X.stack
 ex:=fp
 fn:=fun y=>sc.names.lookup y==some .cell
 calm:=X.calm
 pn:=[]
 xe:=fun _ _=>False
structure Qv (X:Cx) (nt:Nat) (N':List Str) (js:List Nat) (sc:Scope):Prop where
 kind:sc.kind=.function
 cells:∀y∈sc.names,y.2=.cell->sc.names.lookup y.1=some .cell
 names:∀y∈sc.names,y.2=.local->sc.names.lookup y.1=some .local
 clos:closureFor sc X.env=pure (oJ sc X.env)
 all:(sc.names.all fun y=>y.2 != .free || (X.env.cells.lookup y.1).isSome)=true
 len:N'.length=nt+js.length
 cap:∀(i j:Nat),js[i]?=some j->N'[nt+i]?=X.N[j]?
 Qa:∀y∈N'.drop nt,X.env.kindOf y=some .cell/\sc.names.lookup y=some .free
theorem yd {X:Cx} {pins:List (Addr×Obj)} {σ:St} {H:Hp} {s:Shared} {fp:List Addr} {N':List Str} {js:List Nat} {sc:Scope} {nt:Nat} {h1:Heap} {tk:Nat} (I:Inv X pins σ H s) (hf:∀b∈fp,gH X pins H b) (hlt:∀b∈fp,b<s.heap.objs.size)
  (S:Qv X nt N' js sc) (Ai:∀{x:Str} {c:Addr},(cellsFrom (s.heap.objs.size+1) sc.names (oJ sc X.env)).lookup x=some c->(h1.IsCell c none/\s.heap.objs.size<c)\/((oJ sc X.env).lookup x=some c/\(x,NameKind.cell)∉sc.names)) (hn:h1.Ns s.heap.objs.size fun _=>none) (hk:∀b o,s.heap.get? b=some o->h1.get? b=some o):Inv (Ae X N' sc fp s H) [] (List.replicate nt none++bU js σ) H { s with heap:=h1,toks:=tk }:=by
 have old:∀x c,(oJ sc X.env).lookup x=some c->c<s.heap.objs.size+1:=fun x c e=>by
  obtain⟨v,o,ho,_⟩:=I.cell x c (gC e)
  exact JN (bW ho)
 refine⟨⟨I.ok.mod,S.kind,I.ok.glob,I.ok.blt,cV _,fun x y c e1 e2=>(Gu sc.names _ _ (fun x y c e1 e2=>I.ok.inj x y c (gC e1) (gC e2)) old).1 x y c e1 e2,fun x hx=>?_,fun x c hf' e=>(by
   rcases Ai e with z | ⟨_,z⟩
   ·exact lQ z.2
   ·exact absurd (PySem.mem_of_lookup (show sc.names.lookup x=some .cell from by simpa using(show(sc.names.lookup x==some NameKind.cell)=true from hf'))) z),I.ok.hd,I.ok.frames,.inl rfl,fun b hb=>⟨fW (hlt b hb),fun x c e=>(by
   rcases Ai e with z | ⟨z,_⟩
   ·exact BR (Nat.lt_trans (hlt b hb) z.2)
   ·exact(hf b hb).2.2.2.2.1 x c (gC z))⟩,I.bs,
  pF I.ok.Qh I.sz,fun b o e hb=>?_,fun b hb z=>?_,I.stack,I.tu⟩,rfl,I.bare,Un.kept hk,⟨fun _=>none,hn,fun i x v e1 e2 e3=>?_⟩,fun x c e=>?_,I.hok.fresh (cV _),fun x c e=>(by
   rcases Ai e with z | ⟨z,_⟩
   ·exact I.hok.fresh (lQ z.2)
   ·exact I.jL x c (gC z)),fun p hp=>absurd (show p∈([]:List (Addr×Obj)) from hp) (by simp),I.hok.kept hk,?_⟩
 ·refine Fg.mp (Gv sc.names _ _ ?_)
  have hx':(relabel sc X.env).names.lookup x=some .cell\/(relabel sc X.env).names.lookup x=some .free:=hx
  have key:(x,NameKind.cell)∈sc.names\/(x,NameKind.free)∈sc.names:=by
   rcases hx' with q | q
   ·obtain⟨k,hm,e | ⟨e,_⟩⟩:=rK q
    ·rw[<- e] at hm; exact .inl hm
    ·refine .inr ?_; rw[<- e]; exact hm
   ·refine .inr ?_
    obtain⟨k,hm,e | ⟨e,_⟩⟩:=rK q
    ·rw[e]; exact hm
    ·rw[<- e]; exact hm
  rcases key with key | key
  ·exact .inl key
  have a:=zq.mp S.all _ key
  have a':(X.env.cells.lookup x).isSome=true:=by simpa using a
  obtain⟨c,hc⟩:=Fg.mp a'
  exact .inr (Fg.mpr ⟨c,Gr hc sc.names [] key⟩)
 ·rcases(hf b hb).2.2.2.1 with z | z
  ·exact I.ok.FT b o e z
  ·exact absurd (jU (bW e) (pF I.ok.Qh z)) (sr _)
 ·rcases b_.mp (I.Em b z) with q | q
  ·exact(hf b hb).2.1 q
  ·exact(hf b hb).2.2.1 q
 ·by_cases hlt:i<nt
  ·rw[BP (by rw[BK]; exact hlt),Nr,aM hlt] at e2
   cases e2
  ·obtain⟨i',rfl⟩:∃i',i=nt+i':=⟨i-nt,by omega⟩
   rw[nj (by rw[BK]; omega),BK,Nat.add_sub_cancel_left] at e2
   have e2':(bU js σ)[i']?=some (some v):=e2
   unfold bU at e2'
   rw[il] at e2'
   cases hj:js[i']? with
   | none=>rw[hj] at e2'; simp at e2'
   | some j=>
    rw[hj] at e2'
    have e4:(σ[j]?).join=some v:=by simpa using e2'
    have e5:σ[j]?=some (some v):=by
     cases q:σ[j]? with
     | none=>rw[q] at e4; simp at e4
     | some z=>rw[q] at e4; simp at e4; rw[e4]
    have e6:X.N[j]?=some x:=by rw[<- S.cap i' j hj]; exact e1
    have mem:x∈N'.drop nt:=by
     have e1':N'[nt+i']?=some x:=e1
     exact lU (i:=i') (by rw[Ci]; exact e1')
    obtain⟨k1,k2⟩:=S.Qa x mem
    obtain⟨m,_,hl⟩:=I.loc
    obtain⟨u,r,l⟩:=hl j x v e6 e5 (.inr (.inl k1))
    refine⟨u,r,.inr ⟨.inl (pC I.ok.kind k1 sc.names k2),?_⟩⟩
    rcases l with⟨z,_⟩ | ⟨_,c,hc,hcell⟩
    ·rw[k1] at z; cases z
    ·obtain⟨o,ho,hd⟩:=hcell
     exact⟨c,Ah sc.names _ _ (fun z=>by have:=S.cells _ z rfl; rw[k2] at this; cases this) (Gr hc sc.names [] (PySem.mem_of_lookup k2)),o,hk c o ho,hd⟩
 ·rcases Ai e with z | ⟨z,_⟩
  ·exact⟨none,z.1⟩
  ·obtain⟨v,o,ho,hd⟩:=I.cell x c (gC z)
   exact⟨v,o,hk c o ho,hd⟩
 ·show(List.replicate nt none++bU js σ).length=N'.length
  rw[S.len]; simp[bU]
theorem Ag:∀{names:List (Str×NameKind)} {n:Nat} {acc:List (Str×Addr)},(∀y∈names,y.2≠.cell)->cellsFrom n names acc=acc
 | [],_,_,_=>rfl
 | (name,kind)::r,n,acc,h=>by
  unfold cellsFrom
  rw[aK (fun z=>h _ jl (by simpa using z))]
  exact Ag fun y hy=>h y (iG _ hy)
theorem vK {X:Cx} {N':List Str} {sc:Scope} {fp:List Addr} {s:Shared} {H:Hp} (h:∀y∈sc.names,y.2≠.cell):oE X N' sc fp s H=Ae X N' sc fp s H:=by
 have e:(fun _:Str=>false)=fun y=>sc.names.lookup y==some .cell:=funext fun y=>by
  cases z:sc.names.lookup y==some NameKind.cell with
  | false=>rfl
  | true=>exact absurd rfl (h _ (PySem.mem_of_lookup (by simpa using z)))
 unfold oE Ae
 rw[Ag h,e]
theorem mQ.toD {X:Cx} {nt:Nat} {N':List Str} {js:List Nat} {sc:Scope} (S:mQ X nt N' js sc):Qv X nt N' js sc:=⟨S.kind,fun y hy e=>absurd e (S.gw y hy),S.names,S.clos,S.all,S.len,S.cap,S.Qa⟩
theorem Kw {X:Cx} {pins:List (Addr×Obj)} {σ:St} {H:Hp} {s:Shared} {fp:List Addr} {N':List Str} {js:List Nat} {sc:Scope} {nt:Nat} {h1:Heap} {tk:Nat} (I:Inv X pins σ H s) (hf:∀b∈fp,gH X pins H b) (hlt:∀b∈fp,b<s.heap.objs.size)
  (S:mQ X nt N' js sc) (hn:h1.Ns s.heap.objs.size fun _=>none) (hk:∀b o,s.heap.get? b=some o->h1.get? b=some o):Inv (oE X N' sc fp s H) [] (List.replicate nt none++bU js σ) H { s with heap:=h1,toks:=tk }:=by
 rw[vK S.gw]
 exact yd I hf hlt S.toD (fun {x c} e=>by rw[Ag S.gw] at e; exact .inr ⟨e,fun z=>S.gw _ z rfl⟩) hn hk
structure Ar (X:Cx) (ifs:List Expr) (t:TT):Prop where
 mk ::
 go:∀(pins:List (Addr×Obj)) (s:Shared) (σ:St) (H:Hp) (Q:Bool->Hp->Prop),Inv X pins σ H s->t σ H Q->wpAny (model X.prog X.w) X.A (forIn ifs true fun c r=>if r=true then do let ok <- isTrue c X.env (eval c X.env); pure (ForInStep.yield ok) else pure (ForInStep.yield r)) (TP X pins σ Q) X.xe s
instance {X:Cx} {ifs:List Expr} {t:TT}:CoeFun (Ar X ifs t) (fun _=>
 ∀(pins:List (Addr×Obj)) (s:Shared) (σ:St) (H:Hp) (Q:Bool->Hp->Prop),Inv X pins σ H s->t σ H Q->wpAny (model X.prog X.w) X.A (forIn ifs true fun c r=>if r=true then do let ok <- isTrue c X.env (eval c X.env); pure (ForInStep.yield ok) else pure (ForInStep.yield r)) (TP X pins σ Q) X.xe s):=⟨Ar.go⟩
def rW:TT:=fun _ H Q=>Q true H
theorem j9 {X:Cx}:Ar X [] rW:=.mk fun pins s σ H Q I h=>wpAny_tests_nil ⟨H,I,h⟩
theorem Sd {X:Cx} {c:Expr} {t:TT} (h:PT X c t):Ar X [c] t:=.mk fun pins s σ H Q I q=>wpAny_tests_one (h pins s σ H Q I q)
def gQ (nt:Nat) (js:List Nat) (wi:TI) (g:TG) (tc:TT) (te:TE):TE:=fun σ H Q=>wi σ H fun J H1=>∀acc,H1 acc=none->∃W:Nat->Nat->List V->Hp->Prop,(∃m,W 0 m [] (upd H1 acc (.lst [])))/\∀i m ys H2,W i m ys H2 ->
 (J.stop i H2/\Q (.ref acc) H2)\/(J.go i H2/\∀x H3,J.wD i H2 x H3->g x (List.replicate nt none++bU js σ) H3 fun σ' H'=>(σ'.drop nt=bU js σ/\σ'.length=(List.replicate nt (none:Option V)++bU js σ).length)/\tc σ' H' fun b du=>
  if b=true then te σ' du fun y H4=>H4 acc=some (.lst ys)/\ys.length<sizeLine/\∃m',m'<m/\W (i+1) m' (ys++[y]) (upd H4 acc (.lst (ys++[y]))) else ∃m',m'<m/\W (i+1) m' ys du)
theorem Af {prog:Program} {w:World} {A:Around} {R:Result->Shared->Prop} {s:Shared} {elt target iter:Expr} {ifs:List Expr} {sc:Scope} {pos:Pos} {it acc:Value} {env:Env} (Iv:Nat->Shared->Prop)
  (turn:∀n s,Iv n s->wpAny (model prog w) A (pyNext it) (fun r s1=>match r with
   | none=>R (.ok .next) s1
   | some v=>wpAny (model prog w) A (letOwnedTupleGo target it v) (fun _ s2=>wpAny (model prog w) A (assign target env v) (fun _ s3=>
     wpAny (model prog w) A (forIn ifs true fun c r=>if r=true then do let ok <- isTrue c env (eval c env); pure (ForInStep.yield ok) else pure (ForInStep.yield r)) (fun ok s3'=>
     if ok=true then wpAny (model prog w) A (eval elt env) (fun x s4=>
     wpAny (model prog w) A (call (.builtin "list.append") [acc,x]) (fun _ s5=>∃m,m<n/\Iv m s5) (fun _ _=>False) s4) (fun _ _=>False) s3' else ∃m,m<n/\Iv m s3') (fun _ _=>False) s3) (fun _ _=>False) s2) (fun _ _=>False) s1) (fun _ _=>False) s)
  (n:Nat) (h:Iv n s):codeAny (model prog w) A (.compLoop (.ListComp elt [⟨target,iter,ifs,0⟩] sc pos) 0 it acc env) R s:=by
 refine codeAny_loop rfl Iv (fun n s hI=>?_) n h
 show wpAny _ _ ((compTurn (.ListComp elt [⟨target,iter,ifs,0⟩] sc pos) 0 it acc env).onRaise (fun x=>do noteFrame x env; theTreesLotGoes x)) _ _ s
 refine wpAny_noted ?_
 rw[compTurn_list]
 refine aN (zm (aN (fM (turn n s hI) (fun r s1 q1=>?_) fun _ _ f=>f.elim)))
 cases r with
 | none=>exact bH q1
 | some v=>
  refine aN (fM q1 (fun _ s2 q2=>?_) fun _ _ f=>f.elim)
  refine aN (fM q2 (fun _ s3 q3=>aN (fM q3 (fun ok s3' q3'=>?_) fun _ _ f=>f.elim)) fun _ _ f=>f.elim)
  cases ok with
  | false=>exact bH ⟨rfl,q3'⟩
  | true=>exact aN (aN (fM q3' (fun x s4 q4=>aN (fM q4 (fun _ s5 q5=>bH (bH ⟨rfl,q5⟩)) fun _ _ f=>f.elim)) fun _ _ f=>f.elim))
theorem vL {X:Cx} {elt iter:Expr} {tg:Expr} {ifs:List Expr} {g:TG} {tc:TT} {nt:Nat} {pos:Pos} {sc:Scope} {wi:TI} {te:TE} {N':List Str} {js:List Nat} {use:Option (Value->Sem Unit)} {Qc:Value->Shared->Prop} {pins:List (Addr×Obj)} {s:Shared} {σ:St} {H:Hp} {Q:VK} {kp:Pos} (hc:X.calm=true) (hi:PI X tg iter wi) (S:Qv X nt N' js sc)
  (hgt:∀fp s H,PG (Ae X N' sc fp s H) tg g) (hif:∀fp s H,Ar (Ae X N' sc fp s H) ifs tc) (he:∀fp s H,PE (Ae X N' sc fp s H) elt te) (hs:∀x,foldedSetIterable iter X.env x=pure x) (I:Inv X pins σ H s) (h:gQ nt js wi g tc te σ H Q)
  (fin:∀(acc C:Addr) (H':Hp) (s':Shared),Inv X pins σ H' s'->gH X pins H' C->(∃m,s'.heap.Ns C m)->Q (.ref acc) H'->compPost (model X.prog X.w) X.A X.xe use Qc (.ref acc) C (.ok .next) s') :
  wpAny (model X.prog X.w) X.A (comprehension (.ListComp elt [⟨tg,iter,ifs,0⟩] sc pos) sc X.env kp (newList []) false (eval iter X.env) use) Qc X.xe s:=by
 refine wpAny_comprehension_free (use:=use) rfl hs S.clos S.kind S.names ?_
 refine cF (hi pins s σ H _ I h) fun v s1 q1=>cF q1 fun itv s2 q2=>?_
 obtain⟨it,fp,tn,J,H2,e,I2,T,st2,f2,q3⟩:=q2
 subst e
 refine sy ?_
 obtain⟨W,⟨m0,w0⟩,turn⟩:=q3 s2.heap.objs.size I2.fresh
 have I3:=I2.RX (ys:=[]) (its:=[]) (t':=s2.toks) .nil (gr _)
 have Yt:∀b∈fp,b<s2.heap.objs.size:=fun b hb=>by
  obtain⟨o,ho,_⟩:=T.obj 0 _ st2 b hb
  exact bW ho
 generalize e3:({ s2 with heap:=s2.heap.push { cls:=.type "list",data:=.seq ([]:List Value).toArray },toks:=s2.toks }:Shared)=s3 at I3
 have e3':({ s2 with heap:=s2.heap.push { cls:=.type "list",dict:=none,data:=.seq ([]:List Value).toArray } }:Shared)=s3:=e3
 have Z_:s3.heap.objs.size=s2.heap.objs.size+1:=by rw[<- e3]; exact lR ..
 have st3:tn 0 s3.heap:=T.keep 0 _ _ st2 fun b hb o ho=>by rw[<- e3]; exact gf _ ho
 have Ys:∀b∈fp,b<s3.heap.objs.size:=fun b hb=>by rw[Z_]; exact JN (Yt b hb)
 have f3:∀b∈fp,gH X pins (upd H2 s2.heap.objs.size (.lst [])) b:=fun b hb=>⟨by rw[aL (fW (Yt b hb))]; exact(f2 b hb).1,(f2 b hb).2⟩
 generalize hH3:upd H2 s2.heap.objs.size (.lst [])=H3 at I3 f3 w0
 refine wF ?_
 generalize eh1:pushCells (s3.heap.push { cls:=.type "dict",data:=.dict #[] }) sc.names=h1
 have hk:∀b o,s3.heap.get? b=some o->h1.get? b=some o:=fun b o q=>by rw[<- eh1]; exact pushCells_keeps _ _ b o (gf _ q)
 have hns':h1.Ns s3.heap.objs.size fun _=>none:=by rw[<- eh1]; exact(Heap.Ns.new s3.heap (.type "dict")).keeps (pushCells_keeps _ _)
 have I4:Inv (Ae X N' sc fp s3 H3) [] (List.replicate nt none++bU js σ) H3 { s3 with heap:=h1,toks:=s3.toks }:=yd I3 f3 Ys S (fun {x c} e=>by
  have:=vP sc.names (s3.heap.push { cls:=.type "dict",data:=.dict #[] }) (oJ sc X.env) x c (by rw[lR]; exact e)
  rw[eh1,lR] at this
  exact this) hns' hk
 have Xz:tn 0 h1:=T.keep 0 _ _ st3 fun b hb o ho=>hk b o ho
 have stat:∀{H':Hp},(∀b∈fp,H' b=none)->∀b∈fp,gH (Ae X N' sc fp s3 H3) [] H' b:=fun hn b hb=>⟨hn b hb,fW (Ys b hb),I4.ok.Gh b hb,.inl hb,(I4.ok.YJ b hb).2,fun p hp=>absurd (show p∈([]:List (Addr×Obj)) from hp) (by simp)⟩
 have out:∀{σ':St} {H':Hp} {s':Shared},Inv (Ae X N' sc fp s3 H3) [] σ' H' s'->Q (.ref s2.heap.objs.size) H'->compPost (model X.prog X.w) X.A X.xe use Qc (.ref s2.heap.objs.size) s3.heap.objs.size (.ok .next) s':=by
  intro σ' H' s' I' q'
  obtain⟨m,hn,_⟩:=id I'.loc
  have I5:Inv X pins σ H' s':=I3.call' I'.os I'.base I'.hok I'.bare fun b hb=>⟨(f3 b hb).2.2.2.1,(f3 b hb).2.1,(f3 b hb).2.2.2.2.1,(f3 b hb).2.2.2.2.2⟩
  exact fin _ _ H' s' I5 (I3.vD (cV _) I'.free) ⟨m,hn⟩ q'
 have loop:∀s4:Shared,s4={ s3 with heap:=h1,toks:=s3.toks }->codeAny (model X.prog X.w) X.A (.compLoop (.ListComp elt [⟨tg,iter,ifs,0⟩] sc pos) 0 (.ref it) (.ref s2.heap.objs.size) (compEnvC sc (cellsFrom (s3.heap.objs.size+1) sc.names (oJ sc X.env)) s3.heap.objs.size X.env))
   (compPost (model X.prog X.w) X.A X.xe use Qc (.ref s2.heap.objs.size) s3.heap.objs.size) s4:=by
  rintro s4 rfl
  refine Af (fun n s'=>∃i ys H',Inv (Ae X N' sc fp s3 H3) [] (List.replicate nt none++bU js σ) H' s'/\tn i s'.heap/\(∀b∈fp,H' b=none)/\W i n ys H') ?_ m0 ⟨0,[],H3,I4,Xz,fun b hb=>(f3 b hb).1,w0⟩
  rintro n s5 ⟨i,ys,H5,I5,QX,Wc,w5⟩
  rcases turn i n ys H5 w5 with⟨stop,qn⟩ | ⟨go,step⟩
  ·refine cF (T.done (Ae X N' sc fp s3 H3) rfl rfl rfl hc i [] s5 _ H5 (fun _ _=>False) I5 (stat Wc) QX stop) fun r s6 qx=>?_
   obtain⟨hr,I6⟩:=qx
   subst hr
   exact out I6 qn
  ·refine cF (T.item (Ae X N' sc fp s3 H3) rfl rfl rfl hc i [] s5 _ H5 (fun _ _=>False) I5 (stat Wc) QX go) fun r s6 qx=>?_
   obtain⟨u,hr,q6⟩:=qx
   subst hr
   refine cF q6 fun _ s7 qx=>?_
   obtain⟨y,H7,I7,r7,y7,QW,fr7⟩:=qx
   have I7':=I7.pinned (stat fr7) (T.obj _ _ QW)
   refine cF (hgt fp s3 H3 _ s7 _ H7 y u _ I7' r7 (step y _ y7)) fun _ s8 qx=>?_
   obtain⟨σ8,H8,I8,hsh,q8⟩:=qx
   refine cF (hif fp s3 H3 _ s8 _ _ _ I8 q8) fun b s8' qx=>?_
   obtain⟨H8',ZV,Zk⟩:=qx
   have wk:∀k v,(List.replicate nt none++bU js σ)[k]?=some (some v)->σ8[k]?=some (some v):=fun k v e=>by
    by_cases hlt:k<nt
    ·rw[BP (by rw[BK]; exact hlt),Nr,aM hlt] at e
     cases e
    ·rw[nj (by rw[BK]; omega),BK,<- hsh.1,Ci] at e
     rw[show nt+(k-nt)=k by omega] at e
     exact e
   cases b with
   | true=>
    rw[aM rfl] at Zk ⊢
    refine cF (he fp s3 H3 _ s8' _ _ _ ZV Zk) fun z s9 qx=>?_
    obtain⟨vz,H9,I9,r9,ha,hz,m',hm,w9⟩:=qx
    refine cF (gA (X:=Ae X N' sc fp s3 H3) _ s9 _ H9 (.ref s2.heap.objs.size) [vz] (.ref s2.heap.objs.size) [z] (fun _ H'=>H'=upd H9 s2.heap.objs.size (.lst (ys++[vz]))) I9 rfl (.cons r9 .nil) ⟨_,ys,vz,rfl,rfl,ha,hz,rfl⟩) fun _ rH qx=>?_
    obtain⟨_,Aw,Y_,_,e10⟩:=qx
    subst e10
    refine⟨m',hm,i+1,ys++[vz],_,(Y_.gM).weak hsh.2.symm wk,T.keep _ _ _ QW fun b hb o e=>(Y_.pin (b,o) (gZ _ (gZ _ (cL hb e)))).1,fun b hb=>?_,w9⟩
    obtain⟨o,e,d⟩:=T.obj _ _ QW b hb
    exact(Y_.pin (b,o) (gZ _ (gZ _ (cL hb e)))).2.1
   | false=>
    rw[aK (by decide)] at Zk ⊢
    obtain⟨m',hm,w9⟩:=Zk
    refine⟨m',hm,i+1,ys,_,(ZV.gM).weak hsh.2.symm wk,T.keep _ _ _ QW fun b hb o e=>(ZV.pin (b,o) (gZ _ (gZ _ (cL hb e)))).1,fun b hb=>?_,w9⟩
    obtain⟨o,e,d⟩:=T.obj _ _ QW b hb
    exact(ZV.pin (b,o) (gZ _ (gZ _ (cL hb e)))).2.1
 exact codeAny_compStart_list (loop _ rfl) (T.self X.A 0 _ _ _ Xz (loop _ rfl))
theorem Nx {X:Cx} {elt iter:Expr} {tg:Expr} {ifs:List Expr} {g:TG} {tc:TT} {nt:Nat} {y:Str} {py pos spos:Pos} {sc:Scope} {wi:TI} {te:TE} {N':List Str} {js:List Nat} {i:Nat} (hN:X.N.Nodup) (hi':X.N[i]?=some y) (hy:Loc X.env.scope y) (hc:X.calm=true) (hi:PI X tg iter wi) (S:Qv X nt N' js sc)
  (hgt:∀fp s H,PG (Ae X N' sc fp s H) tg g) (hif:∀fp s H,Ar (Ae X N' sc fp s H) ifs tc) (he:∀fp s H,PE (Ae X N' sc fp s H) elt te) (hs:∀x,foldedSetIterable iter X.env x=pure x:=by intro _; rfl) (hw:swapsWith (.ListComp elt [⟨tg,iter,ifs,0⟩] sc pos) (some (.Name y py)) spos.line X.env=pure true:=by rfl)
  (hf:X.fn y=true\/X.env.scope.names.lookup y=some .local:=by first | exact .inl rfl | exact .inr rfl | assumption) :
  PS X (.Assign [.Name y py] (.ListComp elt [⟨tg,iter,ifs,0⟩] sc pos) spos) (Bf (gQ nt js wi g tc te) (eQ i)):=by
 refine .mk ?_
 intro pins s σ H D I h
 rw[exec_Assign_Name_used _ _ _ _ hw]
 refine aN (zm (aN ?_))
 refine aN (vL hc hi S hgt hif he hs I h fun acc C H' s' I5 fc ⟨m,hn⟩ q=>?_)
 have ho:∀b∈[C],∃o,s'.heap.get? b=some o/\∀v,o.data≠.cell v:=fun b hb=>by
  rw[d8.mp hb]
  obtain⟨o,es,n,e,ed,_⟩:=hn
  exact⟨o,e,fun v z=>by rw[ed] at z; cases z⟩
 have I6:=I5.pinned (fp:=[C]) (fun b hb=>by rw[d8.mp hb]; exact fc) ho
 have hg:PG X (.Name y py) (eQ i):=aG hN hi' hy hf
 show wpAny _ _ (assign (.Name y py) X.env (.ref acc)) (fun _ s''=>∃m,s''.heap.Ns C m/\∀h',Heap.SameBut C s''.heap h'->_) _ s'
 refine cF (hg _ s' _ H' (.ref acc) (.ref acc) _ I6 rfl q) fun _ s7 qx=>?_
 obtain⟨σ7,H7,I7,q7⟩:=qx
 have pc:∀o,s'.heap.get? C=some o->s7.heap.get? C=some o/\H7 C=none:=fun o e=>by
  have:=I7.pin (C,o) (gZ _ (gZ _ (cL (by simp) e)))
  exact⟨this.1,this.2.1⟩
 refine⟨m,hn.at fun o e=>(pc o e).1,fun h' sb=>bH (bH ⟨σ7,H7,?_,q7⟩)⟩
 have fr:H7 C=none:=by
  obtain⟨o,es,n,e,ed,_⟩:=hn
  exact(pc o e).2
 exact I7.gM.turned (it:=C) (t':=s7.toks) (fun b o hb e=>sb.extBut b o hb e) fr fc.2.1 fc.2.2.2.1 fc.2.2.2.2.1 fc.2.2.2.2.2
theorem NQ {X:Cx} {elt iter tg:Expr} {ifs:List Expr} {g:TG} {tc:TT} {nt:Nat} {pos:Pos} {sc:Scope} {wi:TI} {te:TE} {N':List Str} {js:List Nat} (hc:X.calm=true) (hi:PI X tg iter wi) (S:Qv X nt N' js sc)
  (hgt:∀fp s H,PG (Ae X N' sc fp s H) tg g) (hif:∀fp s H,Ar (Ae X N' sc fp s H) ifs tc) (he:∀fp s H,PE (Ae X N' sc fp s H) elt te) (hs:∀x,foldedSetIterable iter X.env x=pure x:=by intro _; rfl):PE X (.ListComp elt [⟨tg,iter,ifs,0⟩] sc pos) (gQ nt js wi g tc te):=by
 refine .mk ?_
 intro pins s σ H Q I h
 rw[eval_ListComp]
 refine vL (use:=none) hc hi S hgt hif he hs I h fun acc C H' s' I5 fc ⟨m,hn⟩ q=>?_
 refine⟨m,hn,fun h' sb=>?_⟩
 exact⟨.ref acc,H',I5.turned (it:=C) (t':=s'.toks) (fun b o hb q=>sb.extBut b o hb q) fc.1 fc.2.1 fc.2.2.2.1 fc.2.2.2.2.1 fc.2.2.2.2.2,rfl,q⟩
theorem Nv {X:Cx} {elt iter:Expr} {tg:Expr} {ifs:List Expr} {g:TG} {tc:TT} {nt:Nat} {y:Str} {py pos spos:Pos} {sc:Scope} {wi:TI} {te:TE} {N':List Str} {js:List Nat} {i:Nat} (hN:X.N.Nodup) (hi':X.N[i]?=some y) (hy:Loc X.env.scope y) (hc:X.calm=true) (hi:PI X tg iter wi) (S:mQ X nt N' js sc)
  (hgt:∀fp s H,PG (oE X N' sc fp s H) tg g) (hif:∀fp s H,Ar (oE X N' sc fp s H) ifs tc) (he:∀fp s H,PE (oE X N' sc fp s H) elt te) (hs:∀x,foldedSetIterable iter X.env x=pure x:=by intro _; rfl) (hw:swapsWith (.ListComp elt [⟨tg,iter,ifs,0⟩] sc pos) (some (.Name y py)) spos.line X.env=pure true:=by rfl)
  (hf:X.fn y=true\/X.env.scope.names.lookup y=some .local:=by first | exact .inl rfl | exact .inr rfl | assumption) :
  PS X (.Assign [.Name y py] (.ListComp elt [⟨tg,iter,ifs,0⟩] sc pos) spos) (Bf (gQ nt js wi g tc te) (eQ i)):=Nx hN hi' hy hc hi S.toD (fun fp s H=>vK S.gw▸hgt fp s H) (fun fp s H=>vK S.gw▸hif fp s H) (fun fp s H=>vK S.gw▸he fp s H) hs hw hf
theorem iH {X:Cx} {elt iter tg:Expr} {ifs:List Expr} {g:TG} {tc:TT} {nt:Nat} {pos:Pos} {sc:Scope} {wi:TI} {te:TE} {N':List Str} {js:List Nat} (hc:X.calm=true) (hi:PI X tg iter wi) (S:mQ X nt N' js sc)
  (hgt:∀fp s H,PG (oE X N' sc fp s H) tg g) (hif:∀fp s H,Ar (oE X N' sc fp s H) ifs tc) (he:∀fp s H,PE (oE X N' sc fp s H) elt te) (hs:∀x,foldedSetIterable iter X.env x=pure x:=by intro _; rfl):PE X (.ListComp elt [⟨tg,iter,ifs,0⟩] sc pos) (gQ nt js wi g tc te):=NQ hc hi S.toD (fun fp s H=>vK S.gw▸hgt fp s H) (fun fp s H=>vK S.gw▸hif fp s H) (fun fp s H=>vK S.gw▸he fp s H) hs
theorem Ax.toG {X:Cx} {N':List Str} {js:List Nat} {sc:Scope} (S:Ax X N' js sc):mQ X 1 N' js sc:=⟨S.kind,S.gw,S.names,S.clos,S.all,by rw[S.len,Nat.add_comm],fun i j h=>by rw[Nat.add_comm]; exact S.cap i j h,fun y h=>S.Qa y (by rw[<- List.drop_one]; exact h)⟩
theorem GP {js:List Nat} {wi:TI} {te:TE}:iW js wi te=gQ 1 js wi (eQ 0) rW te:=by
 funext σ H Q
 have e:∀(x:V) (H3:Hp) (K1:VK) (K2:Hp->Prop),te (some x::bU js σ) H3 K1=eQ 0 x (List.replicate 1 none++bU js σ) H3 fun σ' H'=>(σ'.drop 1=bU js σ/\σ'.length=(List.replicate 1 (none:Option V)++bU js σ).length)/\rW σ' H' fun b du=>if b=true then te σ' du K1 else K2 du:=fun x H3 K1 K2=>propext ⟨fun h=>⟨⟨rfl,rfl⟩,h⟩,fun h=>h.2⟩
 unfold iW gQ
 refine gW (wi σ H) (funext fun J=>funext fun H1=>?_)
 refine propext ⟨fun h acc ha=>?_,fun h acc ha=>?_⟩
 ·obtain⟨W,h0,hs⟩:=h acc ha
  refine⟨W,h0,fun i m ys H2 w=>(hs i m ys H2 w).imp id fun z=>⟨z.1,fun x H3 y=>?_⟩⟩
  have:=z.2 x H3 y
  rw[e x H3 _ fun du=>∃m',m'<m/\W (i+1) m' ys du] at this
  exact this
 ·obtain⟨W,h0,hs⟩:=h acc ha
  refine⟨W,h0,fun i m ys H2 w=>(hs i m ys H2 w).imp id fun z=>⟨z.1,fun x H3 y=>?_⟩⟩
  rw[e x H3 _ fun du=>∃m',m'<m/\W (i+1) m' ys du]
  exact z.2 x H3 y
theorem jZ {X:Cx} {elt iter:Expr} {x:Str} {px pos:Pos} {sc:Scope} {wi:TI} {te:TE} {N':List Str} {js:List Nat} (hc:X.calm=true) (hi:PI X (.Name x px) iter wi) (S:Ax X N' js sc) (h0:N'[0]?=some x) (nd:N'.Nodup)
  (hx:sc.names.lookup x=some .local) (he:∀fp s H,PE (oE X N' sc fp s H) elt te) (hs:∀x,foldedSetIterable iter X.env x=pure x:=by intro _; rfl):PE X (.ListComp elt [⟨.Name x px,iter,[],0⟩] sc pos) (iW js wi te):=by
 rw[GP]
 exact iH hc hi S.toG (fun _ _ _=>aG nd h0 (.inl (dU hx)) (.inr (dU hx))) (fun _ _ _=>j9) he hs
theorem Ht {X:Cx} {elt iter:Expr} {x y:Str} {px py pos spos:Pos} {sc:Scope} {wi:TI} {te:TE} {N':List Str} {js:List Nat} {i:Nat} (hN:X.N.Nodup) (hi':X.N[i]?=some y) (hy:Loc X.env.scope y) (hc:X.calm=true) (hi:PI X (.Name x px) iter wi) (S:Ax X N' js sc) (h0:N'[0]?=some x) (nd:N'.Nodup)
  (hx:sc.names.lookup x=some .local) (he:∀fp s H,PE (oE X N' sc fp s H) elt te) (hs:∀x,foldedSetIterable iter X.env x=pure x:=by intro _; rfl) (hw:swapsWith (.ListComp elt [⟨.Name x px,iter,[],0⟩] sc pos) (some (.Name y py)) spos.line X.env=pure true:=by rfl)
  (hf:X.fn y=true\/X.env.scope.names.lookup y=some .local:=by first | exact .inl rfl | exact .inr rfl | assumption) :
  PS X (.Assign [.Name y py] (.ListComp elt [⟨.Name x px,iter,[],0⟩] sc pos) spos) (Bf (iW js wi te) (eQ i)):=by
 rw[GP]
 exact Nv hN hi' hy hc hi S.toG (fun _ _ _=>aG nd h0 (.inl (dU hx)) (.inr (dU hx))) (fun _ _ _=>j9) he hs hw hf
theorem mQ.of {X:Cx} {nt:Nat} {N':List Str} {js:List Nat} {sc:Scope} (k:sc.kind=.function:=by rfl) (n:(sc.names.all fun y=>y.2 != .cell)=true:=by decide +kernel)
  (l:(sc.names.all fun y=>y.2 != .local || sc.names.lookup y.1==some .local)=true:=by decide +kernel) (al:(sc.names.all fun y=>y.2 != .free || (X.env.cells.lookup y.1).isSome)=true:=by rfl)
  (ln:N'.length=nt+js.length:=by rfl) (cp:(N'.drop nt).map some=js.map (fun j=>X.N[j]?):=by rfl) (ck:((N'.drop nt).all fun y=>X.env.kindOf y==some .cell&&sc.names.lookup y==some .free)=true:=by rfl):mQ X nt N' js sc:=by
 have n':∀y∈sc.names,y.2≠.cell:=fun y hy=>by have:=zq.mp n y hy; simpa using this
 refine⟨k,n',pK l,j_ al,al,ln,fun i j h=>?_,fun y h=>?_⟩
 ·have:=gW (fun l=>l[i]?) cp
  simp only[il,Ci,h,Option.map_some] at this
  cases e:N'[nt+i]? with
  | none=>rw[e] at this; cases this
  | some y=>rw[e] at this; exact Option.some.inj this
 ·have:=zq.mp ck y h
  simpa using this
theorem KJ (kp:Nat->Bool) (f:Nat->V) (i:Nat):((List.range (i+1)).filter kp).map f=((List.range i).filter kp).map f++(if kp i=true then[f i] else[]):=by
 rw[List.range_succ,List.filter_append,gY]
 cases h:kp i <;> simp[h]
theorem Pz (kp:Nat->Bool) (f:Nat->V) (i:Nat):(((List.range i).filter kp).map f).length<=i:=by
 rw[cg]
 exact pF (List.length_filter_le _ _) (by rw[Hj]; exact cV _)
theorem Gq {js:List Nat} {J:It} {tc:TT} {te:TE} {σ:St} {H:Hp} {Q:VK} {acc:Addr} {n:Nat} (xv:Nat->V) (kp:Nat->Bool) (f:Nat->V) (hn:n<=1000) (hacc:H acc=none)
  (go:∀i H',i<n->aD H H'->J.go i H') (yl:∀i H' x du,i<n->aD H H'->J.wD i H' x du->x=xv i/\du=H') (st:∀H',aD H H'->J.stop n H')
  (test:∀i H',i<n->aD H H'->∀R:Bool->Hp->Prop,R (kp i) H'->tc (some (xv i)::bU js σ) H' R)
  (val:∀i H',i<n->kp i=true->aD H H'->∀R:VK,R (f i) H'->te (some (xv i)::bU js σ) H' R)
  (fin:∀H',aD H H'->H' acc=some (.lst (((List.range n).filter kp).map f))->Q (.ref acc) H') :
  ∃W:Nat->Nat->List V->Hp->Prop,(∃m,W 0 m [] (upd H acc (.lst [])))/\∀i m ys H2,W i m ys H2 ->
   (J.stop i H2/\Q (.ref acc) H2)\/(J.go i H2/\∀x H3,J.wD i H2 x H3->eQ 0 x (List.replicate 1 none++bU js σ) H3 fun σ' H'=>(σ'.drop 1=bU js σ/\σ'.length=(List.replicate 1 (none:Option V)++bU js σ).length)/\tc σ' H' fun b du=>
    if b=true then te σ' du fun y H4=>H4 acc=some (.lst ys)/\ys.length<sizeLine/\∃m',m'<m/\W (i+1) m' (ys++[y]) (upd H4 acc (.lst (ys++[y]))) else ∃m',m'<m/\W (i+1) m' ys du):=by
 refine⟨fun i m ys H2=>m=n-i/\i<=n/\ys=((List.range i).filter kp).map f/\aD H H2/\H2 acc=some (.lst ys),⟨_,rfl,gr _,rfl,aO hacc _,aC⟩,?_⟩
 rintro i m ys H2 ⟨rfl,hi,rfl,sm,hy⟩
 by_cases hlt:i<n
 ·refine .inr ⟨go i H2 hlt sm,fun x H3 y=>?_⟩
  obtain⟨rfl,rfl⟩:=yl i H2 x H3 hlt sm y
  refine⟨⟨rfl,by simp⟩,?_⟩
  refine test i _ hlt sm _ ?_
  have hs:=KJ kp f i
  cases h:kp i with
  | true=>
   rw[aM rfl]
   rw[h,aM rfl] at hs
   refine val i _ hlt h sm _ ⟨hy,bB (by have:=Pz kp f i; omega),n-(i+1),by omega,rfl,hlt,hs.symm,sm.dG hacc,aC⟩
  | false=>
   rw[aK (by decide)]
   rw[h,aK (by decide),kZ] at hs
   exact⟨n-(i+1),by omega,rfl,hlt,hs.symm,sm,hy⟩
 ·have e:i=n:=by omega
  subst e
  exact .inl ⟨st _ sm,fin _ sm hy⟩
theorem SJ {K:PySem.W.Frag} {js:List Nat} {a:Addr} {xs:List V} {tl:TE} {tc:TT} {te:TE} {σ:St} {H:Hp} {Q:VK} (kp:Nat->Bool) (f:Nat->V) (hl:∀R:VK,R (.ref a) H->tl σ H R) (ha:H a=some (.lst xs)) (hn:xs.length<=1000)
  (test:∀i x H',xs[i]?=some x->aD H H'->∀R:Bool->Hp->Prop,R (kp i) H'->tc (some x::bU js σ) H' R)
  (val:∀i x H',xs[i]?=some x->kp i=true->aD H H'->∀R:VK,R (f i) H'->te (some x::bU js σ) H' R)
  (fin:∀acc H',aD H H'->H acc=none->H' acc=some (.lst (((List.range xs.length).filter kp).map f))->Q (.ref acc) H'):gQ 1 js (Dl K tl) (eQ 0) tc te σ H Q:=by
 refine hl _ ⟨a,rfl,⟨xs,eV.of ha⟩,fun acc hacc=>?_⟩
 have ht:∀H',aD H H'->eV K H' a xs:=fun H' s=>eV.of (s _ _ ha)
 have gx:∀i,i<xs.length->xs[i]?=some (xs.getD i .non):=fun i hi=>by rw[iZ,gP hi]; rfl
 exact Gq (n:=xs.length) (fun i=>xs.getD i .non) kp f hn hacc (fun i H' hi s=>⟨xs,_,ht H' s,gx i hi⟩) (fun i H' x du hi s y=>by
   obtain⟨e,y⟩:=y
   have:=y xs (ht H' s)
   rw[gx i hi] at this
   exact⟨(Option.some.inj this).symm,e⟩) (fun H' s=>⟨xs,ht H' s,cV _⟩)
  (fun i H' hi s R hR=>test i _ H' (gx i hi) s R hR) (fun i H' hi hk s R hR=>val i _ H' (gx i hi) hk s R hR) fun H' s h=>fin acc H' s hacc h
section
variable {prog:Program} {w:World} {A:Around} {E:Value->Shared->Prop} {s:Shared}
theorem _root_.PySem.Heap.ExtBut.trans' {b:Addr} {h h1 h2:Heap} (x:Heap.ExtBut b h h1) (y:∀c o,h1.get? c=some o->h2.get? c=some o):Heap.ExtBut b h h2:=fun c o n e=>y c o (x c o n e)
theorem Jy {α:Type} {Q:α->Shared->Prop} (hh:A.handled=none) (q:∀h' x,(∀c o,s.heap.get? c=some o->h'.get? c=some o)->(∃o,h'.get? x=some o/\o.cls=.type "StopIteration")->E (.ref x) { s with heap:=h' }) :
  wpAny (model prog w) A (Builtin.SmallTypes.stopIteration (α:=α)) Q E s:=by
 unfold Builtin.SmallTypes.stopIteration
 refine aN ?_
 simp only[newExc,newTuple]
 refine aN (sy ?_ (by size_fits)); refine aN (m:=firstArgMember _ _) (rY (a:=Value.none) (by rfl) ?_)
 refine sy ?_ (by size_fits); simp only[raiseNew]
 refine aN (wpAny_handled ?_); rw[hh]
 refine aN (bH (wpAny_throw ?_)); refine q _ _ (fun c o e=>?_) ⟨_,dR _ rfl,rfl⟩
 exact gf _ (gf _ e)
theorem VJ {it t:Addr} {i:Nat} {its:Array Value} {u:Value} {Q:Value->Shared->Prop} (hi:s.heap.IsTupleIter it t i) (ht:s.heap.IsTuple t its) (hu:its[i]?=some u)
  (q:∀h',h'.IsTupleIter it t (i+1)->Heap.SameBut it s.heap h'->Q u { s with heap:=h' }):wpAny (model prog w) A (Builtin.SmallTypes.nextOf (.ref it)) Q E s:=by
 obtain⟨oi,gi,ci,di⟩:=id hi
 obtain⟨ot,gt,_,nt,dt⟩:=ht
 have ty:=hi.typeIs
 have nn:¬((Value.ref t==Value.none)=true):=fun z=>Bool.noConfusion (show false=true from z)
 unfold Builtin.SmallTypes.nextOf
 refine aN (JW (name:=Str.ofString "__next__") ty F.slot_tuple_iterator_next (uJ F.slot_tuple_iterator_next ty F.entry_tuple_iterator_next ?_ (F.args_tuple_iterator_next_1 _)))
 show wpAny _ _ (field (.ref it) 0 >>= _) _ _ s; refine aN (iD gi di (x:=.ref t) rfl ?_)
 show wpAny _ _ (if(Value.ref t==Value.none)=true then _ else _) _ _ s; rw[aK nn]
 show wpAny _ _ (field (.ref it) 1 >>= _) _ _ s; refine aN (iD gi di (x:=.int i 0) rfl ?_)
 show wpAny _ _ (seqItems? (.ref t) >>= _) _ _ s; refine aN (pG gt dt ?_)
 simp only[uK,hu]
 have fin:∀h',(∃o,h'.get? it=some o/\o.cls=.type "tuple_iterator" /\ o.data=.fields #[.ref t,.int ((i+1:Nat):Int) 0])->Heap.SameBut it s.heap h'->Q u { s with heap:=h' }:=fun h' z sb=>q h' z sb
 refine aN (xN gi di (by simp) (bH ⟨u,rfl,bH (fin _ ?_ (Hn ..))⟩))
 refine⟨_,wJ _ gi (Obj.isFreed_of_fields (Obj.data_mapFields di _)),(Obj.cls_mapFields ..).trans ci,?_⟩
 rw[Obj.data_mapFields di]
 simp[rawInt]
theorem RG {it t:Addr} {i:Nat} {its:Array Value} {Q:Value->Shared->Prop} (hh:A.handled=none) (hi:s.heap.IsTupleIter it t i) (ht:s.heap.IsTuple t its) (hu:its[i]?=none)
  (q:∀h' x,Heap.ExtBut it s.heap h'->(∃o,h'.get? x=some o/\o.cls=.type "StopIteration")->E (.ref x) { s with heap:=h' }):wpAny (model prog w) A (Builtin.SmallTypes.nextOf (.ref it)) Q E s:=by
 obtain⟨oi,gi,ci,di⟩:=id hi
 obtain⟨ot,gt,_,nt,dt⟩:=ht
 have ty:=hi.typeIs
 have nn:¬((Value.ref t==Value.none)=true):=fun z=>Bool.noConfusion (show false=true from z)
 unfold Builtin.SmallTypes.nextOf
 refine aN (JW (name:=Str.ofString "__next__") ty F.slot_tuple_iterator_next (uJ F.slot_tuple_iterator_next ty F.entry_tuple_iterator_next ?_ (F.args_tuple_iterator_next_1 _)))
 show wpAny _ _ (field (.ref it) 0 >>= _) _ _ s; refine aN (iD gi di (x:=.ref t) rfl ?_)
 show wpAny _ _ (if(Value.ref t==Value.none)=true then _ else _) _ _ s; rw[aK nn]
 show wpAny _ _ (field (.ref it) 1 >>= _) _ _ s; refine aN (iD gi di (x:=.int i 0) rfl ?_)
 show wpAny _ _ (seqItems? (.ref t) >>= _) _ _ s; refine aN (pG gt dt ?_)
 simp only[uK,hu]
 refine aN (pI (aN (xN gi di (by simp) ?_)))
 exact Jy (A:=A.in1) hh fun h' x k z=>q h' x ((Hn ..).extBut.trans' k) z
end
theorem qX {prog:Program} {w:World} {A:Around} (hh:A.handled=none) {it t:Addr} (ne:t≠it) (its:Array Value):Draws prog w A it [it,t] its.size (fun i v=>its[i]?=some v) (fun i h=>h.IsTupleIter it t i/\h.IsTuple t its) where
 live:=fun i h z=>let ⟨⟨o,e,_⟩,_⟩:=z; ⟨o,e⟩
 frame:=fun i h h' z k=>⟨z.1.at fun o e=>k it jl o e,z.2.at fun o e=>k t (iG _ jl) o e⟩
 item:=fun i s Q E hi z q=>by
  refine VJ z.1 z.2 (u:=its[i]) (BL hi) fun h' z' sb=>?_
  exact q _ h' s.toks (BL hi) ⟨z',z.2.extBut sb.extBut ne⟩ sb
 done:=fun s Q E z q=>RG hh z.1 z.2 (by simp) q
abbrev tiH (h:Heap) (t:Addr):Heap:=h.push { cls:=.type "tuple_iterator",data:=.fields #[.ref t,.int 0 0] }
abbrev enH (h:Heap) (t:Addr):Heap:=(tiH h t).push { cls:=.type "enumerate",data:=.fields #[.none,.bool false,.ref h.objs.size,rawInt 0,.none,.none] }
set_option maxHeartbeats 1000000 in
theorem Oo (t:Addr) (its:Array Value) (n:Nat) (dc:Option Addr) (sl:Array (Option Value)) :
  Meets (Builtin.«enumerate.__new__» ⟨[.type "enumerate",.ref t],[]⟩) (fun _ R s=>s.heap.get? t=some ⟨.type "tuple",dc,.seq its n,sl⟩/\R (.ok (.ret (.ref (tiH s.heap t).objs.size))) { s with heap:=enH s.heap t }):=
 .of_wp fun prog w A R s z=>by
  obtain⟨hp,g,d,tk,os⟩:=s
  obtain⟨ht,z⟩:=z
  have sub:=sub_enumerate
  have hT:Heap.IsTuple (Shared.heap ⟨hp,g,d,tk,os⟩) t its:=⟨_,ht,rfl,n,rfl⟩
  wp_walk using AutoSeq1.wpAny_loadPart' ht
  refine wpAny_stack_any fun st=>bH ?_
  split
  ·rename_i c _ _ _ _ _
   cases(c==Value.type "enumerate") <;> (wp_walk using AutoSeq1.wpAny_loadPart' ht,JR hT; exact⟨_,rfl,z⟩)
  ·wp_walk using AutoSeq1.wpAny_loadPart' ht,JR hT; exact⟨_,rfl,z⟩
theorem Gw {prog:Program} {w:World} {A:Around} {E:Value->Shared->Prop} {s:Shared} {t:Addr} {its:Array Value} {Q:Value->Shared->Prop} (hT:s.heap.IsTuple t its)
  (q:∀h',IsEnum h' (s.heap.objs.size+1) s.heap.objs.size 0 .none->h'.IsTupleIter s.heap.objs.size t 0->(∀b o,s.heap.get? b=some o->h'.get? b=some o)->Q (.ref (s.heap.objs.size+1)) { s with heap:=h' }) :
  wpAny (model prog w) A (call (.type "enumerate") [.ref t]) Q E s:=by
 obtain⟨⟨c,dc,dt,sl⟩,ht,hc,n,hd⟩:=hT
 cases(show c=.type "tuple" from hc)
 cases(show dt=.seq its n from hd)
 have sz:(tiH s.heap t).objs.size=s.heap.objs.size+1:=lR ..
 have g1:(enH s.heap t).get? (tiH s.heap t).objs.size=some _:=dR _ rfl
 have g0:(enH s.heap t).get? s.heap.objs.size=some _:=gf _ (dR _ rfl)
 refine callType_new F.called_enumerate (by decide) (F.typeCall_enumerate_1 _) (F.newCall_enumerate_1 _) (fun x=>F.args_object_init_2 x _) F.entry_enumerate_new (Oo t its n dc sl) ⟨ht,?_⟩
 show _/\_
 rw[sz] at g1 ⊢
 exact⟨⟨_,g1,rfl⟩,q _ g1 ⟨_,g0,rfl,rfl⟩ fun b o e=>gf _ (gf _ e)⟩
def Wu (K:PySem.W.Frag) (a:Addr):It:=
 ⟨fun i H=>∃xs x,cD K H a xs/\xs[i]?=some x,fun i H x H'=>∃p y,H p=none/\x=.ref p/\H'=upd H p (.tup [.int i,y])/\∀xs,cD K H a xs->xs[i]?=some y,fun i H=>∃xs,cD K H a xs/\xs.length=i⟩
theorem Eh {P:Program} {w:World} {K:PySem.W.Frag} {elts:List Expr} {x1} {tp:Pos} (a e it:Addr) (hne:e≠it):Turn P w K (.Tuple elts x1 tp) (Wu K a) [e,it] e (fun i h=>(∃old,IsEnum h e it (i:Nat) old)/\h.IsTupleIter it a i) where
 mem:=by simp
 obj:=fun i h st b hb=>by
  obtain⟨⟨old,he⟩,o,ho,c,d⟩:=st
  rcases b_.mp hb with z | z
  ·rw[z]; exact⟨_,he,fun v q=>by cases q⟩
  ·rw[d8.mp z]; exact⟨o,ho,fun v q=>by rw[d] at q; cases q⟩
 keep:=fun i h h' st k=>by
  obtain⟨⟨old,he⟩,hi⟩:=st
  exact⟨⟨old,k e (by simp) _ he⟩,hi.at fun o q=>k it (by simp) o q⟩
 item:=by
  intro X hP hw hK hc i pins s σ H E I hf st hg
  subst hP hw hK
  obtain⟨⟨old,he⟩,hi⟩:=st
  obtain⟨xs,x,hq,hx⟩:=hg
  obtain⟨its,rv,p,hz⟩:=I.tuple hq
  obtain⟨u,hu,ru⟩:=rv.get hx
  have fe:=hf e (by simp)
  have fi:=hf it (by simp)
  have pT:s.heap.IsTuple a its.toArray:=p
  have nea:e≠a:=fun z=>by
   obtain⟨o,g,c,_⟩:=pT
   rw[<- z,he] at g
   cases g
   exact absurd (show Value.type "enumerate" = Value.type "tuple" from c) (by decide)
  have nia:a≠it:=fun z=>by
   obtain⟨o,g,c,_⟩:=pT
   obtain⟨o',g',c',_⟩:=hi
   rw[z,g'] at g
   cases g
   rw[c'] at c
   exact absurd c (by decide)
  have hlt:i<its.toArray.size:=by have:=(nG.mp hu).1; simpa using this
  refine wpAny_pyNext_enum_itemD (qX (A:=X.A.in1) (show X.A.in1.handled=none from I.ok.hd hc) nia its.toArray) he (show _/\_ from⟨hi,pT⟩) hlt hne (fun z=>by rcases b_.mp z with y | y; exact hne y; exact nea (d8.mp y)) fun u' h' tk hu' eo hi' ht hsz kk=>?_
  have eu:u'=u:=by
   have:its[i]?=some u':=by simpa using hu'
   rw[hu] at this; exact(Option.some.inj this).symm
  subst eu
  have fr:H s.heap.objs.size=none:=I.hok.fresh (cV _)
  have I1:Inv X pins σ (upd H s.heap.objs.size (.tup [.int i,x])) { s with heap:=s.heap.push { cls:=.type "tuple",data:=.seq #[.int i tk,u'] },toks:=tk }:=
   I.laid (t':=tk) (fun b v z=>gf _ z) (cV _) ⟨(by show 2<=sizeLine; decide),[.int i tk,u'],.cons ⟨_,rfl⟩ (.cons ru .nil),⟨_,dR _ rfl,rfl,_,rfl⟩⟩
  have le:e<s.heap.objs.size:=bW he
  have li:it<s.heap.objs.size:=by obtain⟨o,ho,_⟩:=hi; exact bW ho
  have Gg:gH X pins (upd H s.heap.objs.size (.tup [.int i,x])) e:=⟨by rw[aL (fW le)]; exact fe.1,fe.2⟩
  have YF:gH X pins (upd H s.heap.objs.size (.tup [.int i,x])) it:=⟨by rw[aL (fW li)]; exact fi.1,fi.2⟩
  have I2:Inv X pins σ (upd H s.heap.objs.size (.tup [.int i,x])) { s with heap:=h',toks:=tk+1 }:=I1.GF (t':=tk+1) (fun b o z1 z2 z=>by
   by_cases y:b=s.heap.objs.size
   ·subst y
    rw[dR _ rfl] at z
    cases z
    exact ht
   ·rcases Heap.get?_push_cases z with v | v
    ·exact absurd v.1 y
    ·exact kk b o z1 z2 v) Gg YF
  refine⟨_,rfl,wpAny_letOwnedTupleGo_enum eo fun h2 en sb=>⟨.ref s.heap.objs.size,_,I2.turned (it:=e) (t':=tk+1) (fun b o hb z=>sb.extBut b o hb z) Gg.1 Gg.2.1 Gg.2.2.2.1 Gg.2.2.2.2.1 Gg.2.2.2.2.2,rfl,⟨_,x,fr,rfl,rfl,fun ys hy=>by rw[I.qp hy hq]; exact hx⟩,⟨⟨_,en⟩,?_⟩,fun b hb=>?_⟩⟩
  ·exact hi'.1.at fun o z=>sb.extBut it o (Ne.symm hne) z
  ·rcases b_.mp hb with z | z
   ·rw[z]; exact Gg.1
   ·rw[d8.mp z]; exact YF.1
 done:=by
  intro X hP hw hK hc i pins s σ H E I hf st hg
  subst hP hw hK
  obtain⟨⟨old,he⟩,hi⟩:=st
  obtain⟨xs,hq,hx⟩:=hg
  obtain⟨its,rv,p,hz⟩:=I.tuple hq
  have hl:=rv.length
  have pT:s.heap.IsTuple a its.toArray:=p
  obtain⟨f0,f1,f2,f3,f4,f5⟩:=hf it (by simp)
  have nia:a≠it:=fun z=>by
   obtain⟨o,g,c,_⟩:=pT
   obtain⟨o',g',c',_⟩:=hi
   rw[z,g'] at g
   cases g
   rw[c'] at c
   exact absurd c (by decide)
  have D:=qX (prog:=X.prog) (w:=X.w) (A:=X.A.in1) (show X.A.in1.handled=none from I.ok.hd hc) nia its.toArray
  refine wpAny_pyNext_enum_endD D he (show _/\_ from⟨?_,pT⟩) fun h' eb=>⟨rfl,I.turned (t':=s.toks) (fun b o hb z=>eb b o hb z) f0 f1 f3 f4 f5⟩
  have e:its.toArray.size=i:=by simp; omega
  rw[e]; exact hi
 self:=fun _ _ _ _ _ st h=>by
  obtain⟨⟨old,he⟩,_⟩:=st
  exact Hk he h
section
variable {X:Cx}
def O9 (K:PySem.W.Frag) (ta:TA):TI:=fun σ H R=>ta σ H fun vs H1=>∃a,vs=[.ref a]/\(∃xs,cD K H1 a xs)/\R (Wu K a) H1
theorem NK {K:PySem.W.Frag} {e:Expr} {elts:List Expr} {x1} {tp p pos:Pos} {ta:TA} (hK:X.K=K) (hm:X.mg "enumerate" = none) (ha:PA X [e] ta) (hg:Gl X "enumerate" := by rfl) (h1:cG e=true:=by rfl) :
  PI X (.Tuple elts x1 tp) (.Call (.Name "enumerate" p) [e] [] pos) (O9 K ta):=by
 subst hK
 refine .mk ?_
 intro pins s σ H R I h
 refine sG (iJ I hg hm qb ?_ (by decide) (by decide))
 refine PyProof.Rows.callWith_type1 (cF (ha pos pins s σ H _ I h) fun us s1 ⟨vs,H1,I1,r1,q1⟩=>?_) (cJ h1) (cI (es:=[]) rfl)
 obtain⟨a,rfl,⟨xs,hq⟩,q⟩:=q1
 obtain⟨u,rfl,ru⟩:=r1.one
 cases ru
 obtain⟨its,rv,pl,hz⟩:=I1.tuple hq
 refine Gw (show s1.heap.IsTuple a its.toArray from pl) fun h' he hi kk=>?_
 have I2:Inv X pins σ H1 { s1 with heap:=h' }:=I1.kept (t':=s1.toks) kk
 have f1:H1 (s1.heap.objs.size+1)=none:=I1.hok.fresh (Nat.le_succ _)
 have f0:H1 s1.heap.objs.size=none:=I1.hok.fresh (cV _)
 refine Hk he ⟨s1.heap.objs.size+1,_,_,Wu X.K a,H1,rfl,I2,Eh a (s1.heap.objs.size+1) s1.heap.objs.size (Nat.succ_ne_self _),⟨⟨_,he⟩,hi⟩,fun b hb=>?_,q⟩
 rcases b_.mp hb with z | z
 ·rw[z]; exact I1.vD (Nat.le_succ _) f1
 ·rw[d8.mp z]; exact I1.vD (cV _) f0
end
end L2
namespace L2
open PySem PySem.Spec PyProof.Rows
structure WQ (z TI TO i1 i2:Addr) (f1 f2:List Addr):Prop where
 a1:TI≠z
 a2:TO≠z
 a3:TI≠TO
 a4:i1≠z
 a5:i2≠z
 a6:TO≠i1
 a7:TO≠i2
 a8:i1≠i2
 b1:z∉f1
 b2:z∉f2
 b3:TO∉f1
 b4:TO∉f2
 b5:i1∉f2
 b6:i2∉f1
section
variable {prog:Program} {w:World} {A:Around} {E:Value->Shared->Prop} {s:Shared}
theorem Jz {b:Addr} {h h':Heap} {f:List Addr} (sb:Heap.SameBut b h h') (hb:b∉f):∀c∈f,∀o,h.get? c=some o->h'.get? c=some o:=fun c hc o e=>sb.extBut c o (fun z=>hb (z▸hc)) e
theorem Lx {z TI TO i1 i2:Addr} {f1 f2:List Addr} {n1 n2 k:Nat} {P1 P2:Nat->Value->Prop} {S1 S2:Nat->Heap->Prop} {a b:Value} {Q:Value->Shared->Prop} (Z:WQ z TI TO i1 i2 f1 f2) (D1:Draws prog w A i1 f1 n1 P1 S1) (D2:Draws prog w A i2 f2 n2 P2 S2)
  (hz:IsZip s.heap z TI TO .none) (hi:IsPair s.heap TI (.ref i1) (.ref i2)) (ho:IsPair s.heap TO a b) (s1:S1 k s.heap) (s2:S2 k s.heap) (k1:k<n1) (k2:k<n2)
  (q:∀x y h' tk,P1 k x->P2 k y->IsZip h' z TI TO (rawInt s.heap.objs.size)->IsPair h' TO x y->S1 (k+1) h'->S2 (k+1) h'->IsPair h' s.heap.objs.size x y->h'.objs.size=s.heap.objs.size+1->(∀c o,c≠z->c≠TO->c≠i1->c≠i2->s.heap.get? c=some o->h'.get? c=some o)->Q (.ref s.heap.objs.size) { s with heap:=h',toks:=tk }) :
  wpAny (model prog w) A (Builtin.«zip.__next__» ⟨[.ref z],[]⟩) (fun fin s'=>∃v,fin=.done (.ret v)/\Q v s') E s:=by
 show wpAny _ _ (field (.ref z) 2 >>= _) _ _ _; refine aN (iD hz rfl (x:=.bool false) rfl ?_)
 show wpAny _ _ (field (.ref z) 3 >>= _) _ _ _; refine aN (iD hz rfl (x:=.ref TI) rfl (aN (pG hi rfl ?_)))
 show wpAny _ _ (Builtin.SmallTypes.ownedTupleIsFree (.ref z) >>= _) _ _ _; unfold Builtin.SmallTypes.ownedTupleIsFree
 refine aN (aN (iD hz rfl (x:=.none) rfl (bH ?_))); simp only[if_true]
 refine aN (pI (aN (iD hz rfl (x:=.ref TO) rfl (aN (JS hz (by simp) fun hA zA sA=>?_)))))
 replace zA:IsZip hA z TI TO .ellipsis:=zA
 refine aN ?_; simp only[List.zipIdx_cons,List.zipIdx_nil,xP,List.forIn_nil]
 refine aN (aN (wpAny_onRaise ?_)); show wpAny _ _ (Builtin.SmallTypes.nextOf (.ref i1) >>= _) _ _ _
 refine aN (D1.item k _ _ _ k1 (D1.frame _ _ _ s1 (Jz sA Z.b1)) fun x hB tB pB stb sB=>bH ?_)
 have oB:IsPair hB TO a b:=sB.extBut _ _ Z.a6 (sA.extBut _ _ Z.a2 ho)
 have uB:S2 k hB:=D2.frame _ _ _ (D2.frame _ _ _ s2 (Jz sA Z.b2)) (Jz sB Z.b5)
 refine aN (pG oB rfl (aN (wpAny_updateSeq_pair oB fun hC oC sC=>?_)))
 replace oC:IsPair hC TO x b:=oC
 refine aN (uL (bH (aN (aN (wpAny_onRaise ?_))))); show wpAny _ _ (Builtin.SmallTypes.nextOf (.ref i2) >>= _) _ _ _
 refine aN (D2.item k _ _ _ k2 (D2.frame _ _ _ uB (Jz sC Z.b4)) fun y hD tD pD std sD=>bH ?_)
 have oD:IsPair hD TO x b:=sD.extBut _ _ Z.a7 oC
 refine aN (pG oD rfl (aN (wpAny_updateSeq_pair oD fun hF oF sF=>?_)))
 replace oF:IsPair hF TO x y:=oF
 refine aN (uL (bH (bH (aN (pG oF rfl (aN (wpAny_newTuple ?_)))))))
 have zF:IsZip hF z TI TO .ellipsis:=sF.extBut _ _ Z.a2.symm (sD.extBut _ _ Z.a5.symm (sC.extBut _ _ Z.a2.symm (sB.extBut _ _ Z.a4.symm zA)))
 have size:hF.objs.size=s.heap.objs.size:=by rw[sF.1,sD.1,sC.1,sB.1,sA.1]
 have lz:z<hF.objs.size:=bW zF
 show wpAny _ _ (Builtin.SmallTypes.ownedTupleHandOut (.ref z) (.ref hF.objs.size) >>= _) _ _ _; unfold Builtin.SmallTypes.ownedTupleHandOut
 have zG:IsZip (hF.push { cls:=.type "tuple",data:=.seq #[x,y] }) z TI TO .ellipsis:=gf _ zF
 refine aN (aN (JS zG (by simp) fun hI zI sI=>?_))
 replace zI:IsZip hI z TI TO (rawInt hF.objs.size):=zI
 refine JS zI (by simp) fun hJ zJ sJ=>bH ⟨_,rfl,?_⟩
 replace zJ:IsZip hJ z TI TO (rawInt hF.objs.size):=zJ
 have up:∀c o,c≠z->hF.get? c=some o->hJ.get? c=some o:=fun c o n e=>sJ.extBut _ _ n (sI.extBut _ _ n (gf _ e))
 have tJ:IsPair hJ hF.objs.size x y:=sJ.extBut _ _ (BR lz) (sI.extBut _ _ (BR lz) (dR _ rfl))
 have szJ:hJ.objs.size=hF.objs.size+1:=by rw[sJ.1,sI.1,lR]
 have kB:∀c o,c≠z->c≠TO->c≠i1->c≠i2->s.heap.get? c=some o->hF.get? c=some o:=fun c o n1 n2 n3 n4 e=>sF.extBut _ _ n2 (sD.extBut _ _ n4 (sC.extBut _ _ n2 (sB.extBut _ _ n3 (sA.extBut _ _ n1 e))))
 have u1:S1 (k+1) hF:=D1.frame _ _ _ (D1.frame _ _ _ (D1.frame _ _ _ stb (Jz sC Z.b3)) (Jz sD Z.b6)) (Jz sF Z.b3)
 have u2:S2 (k+1) hF:=D2.frame _ _ _ std (Jz sF Z.b4)
 show Q (.ref hF.objs.size) _
 rw[size] at zJ tJ szJ ⊢
 exact q x y hJ tD pB pD zJ (up _ _ Z.a2 oF) (D1.frame _ _ _ u1 fun c hc o e=>up c o (fun z'=>Z.b1 (z'▸hc)) e) (D2.frame _ _ _ u2 fun c hc o e=>up c o (fun z'=>Z.b2 (z'▸hc)) e) tJ szJ fun c o n1 n2 n3 n4 e=>up c o n1 (kB c o n1 n2 n3 n4 e)
theorem Jm {z TI TO i1 i2:Addr} {f1 f2:List Addr} {n1 n2 k:Nat} {P1 P2:Nat->Value->Prop} {S1 S2:Nat->Heap->Prop} {a b:Value} {Q:Fin->Shared->Prop} (Z:WQ z TI TO i1 i2 f1 f2) (D1:Draws prog w A i1 f1 n1 P1 S1) (D2:Draws prog w A i2 f2 n2 P2 S2)
  (hz:IsZip s.heap z TI TO .none) (hi:IsPair s.heap TI (.ref i1) (.ref i2)) (ho:IsPair s.heap TO a b) (s1:S1 k s.heap) (s2:S2 k s.heap) (kk:k=n1\/(k<n1/\k=n2))
  (q:∀h' e,(∀c o,c≠z->c≠TO->c≠i1->c≠i2->s.heap.get? c=some o->h'.get? c=some o)->(∃o,h'.get? e=some o/\o.cls=.type "StopIteration")->∀tk,E (.ref e) { s with heap:=h',toks:=tk }) :
  wpAny (model prog w) A (Builtin.«zip.__next__» ⟨[.ref z],[]⟩) Q E s:=by
 show wpAny _ _ (field (.ref z) 2 >>= _) _ _ _; refine aN (iD hz rfl (x:=.bool false) rfl ?_)
 show wpAny _ _ (field (.ref z) 3 >>= _) _ _ _; refine aN (iD hz rfl (x:=.ref TI) rfl (aN (pG hi rfl ?_)))
 show wpAny _ _ (Builtin.SmallTypes.ownedTupleIsFree (.ref z) >>= _) _ _ _; unfold Builtin.SmallTypes.ownedTupleIsFree
 refine aN (aN (iD hz rfl (x:=.none) rfl (bH ?_))); simp only[if_true]
 refine aN (pI (aN (iD hz rfl (x:=.ref TO) rfl (aN (JS hz (by simp) fun hA zA sA=>?_)))))
 replace zA:IsZip hA z TI TO .ellipsis:=zA
 refine aN ?_; simp only[List.zipIdx_cons,List.zipIdx_nil,xP,List.forIn_nil]
 refine aN (aN (wpAny_onRaise ?_)); show wpAny _ _ (Builtin.SmallTypes.nextOf (.ref i1) >>= _) _ _ _
 rcases kk with e1 | ⟨k1,e2⟩
 ·have Zj:=s1
  rw[e1] at Zj
  refine aN (D1.done _ _ _ (D1.frame _ _ _ Zj (Jz sA Z.b1)) fun hB x sB hx=>?_)
  obtain⟨ox,gx,cx⟩:=hx
  have zB:IsZip hB z TI TO .ellipsis:=sB _ _ Z.a4.symm zA
  have nx:x≠z:=fun y=>by subst y; rw[zB] at gx; cases gx; exact absurd (show Value.type "zip" = Value.type "StopIteration" from cx) (by decide)
  refine JS zB (by simp) fun hC _ sC=>q hC x (fun c o m1 _ m3 _ e=>sC.extBut _ _ m1 (sB _ _ m3 (sA.extBut _ _ m1 e))) ⟨ox,sC.extBut _ _ nx gx,cx⟩ _
 ·refine aN (D1.item k _ _ _ k1 (D1.frame _ _ _ s1 (Jz sA Z.b1)) fun x hB tB pB stb sB=>bH ?_)
  have oB:IsPair hB TO a b:=sB.extBut _ _ Z.a6 (sA.extBut _ _ Z.a2 ho)
  have uB:S2 k hB:=D2.frame _ _ _ (D2.frame _ _ _ s2 (Jz sA Z.b2)) (Jz sB Z.b5)
  refine aN (pG oB rfl (aN (wpAny_updateSeq_pair oB fun hC oC sC=>?_)))
  refine aN (uL (bH (aN (aN (wpAny_onRaise ?_))))); show wpAny _ _ (Builtin.SmallTypes.nextOf (.ref i2) >>= _) _ _ _
  have uC:S2 n2 hC:=by rw[<- e2]; exact D2.frame _ _ _ uB (Jz sC Z.b4)
  refine aN (D2.done _ _ _ uC fun hD v sD hx=>?_)
  obtain⟨ox,gx,cx⟩:=hx
  have zD:IsZip hD z TI TO .ellipsis:=sD _ _ Z.a5.symm (sC.extBut _ _ Z.a2.symm (sB.extBut _ _ Z.a4.symm zA))
  have nx:v≠z:=fun y=>by subst y; rw[zD] at gx; cases gx; exact absurd (show Value.type "zip" = Value.type "StopIteration" from cx) (by decide)
  refine JS zD (by simp) fun hF _ sF=>q hF v (fun c o m1 m2 m3 m4 e=>sF.extBut _ _ m1 (sD _ _ m4 (sC.extBut _ _ m2 (sB.extBut _ _ m3 (sA.extBut _ _ m1 e))))) ⟨ox,sF.extBut _ _ nx gx,cx⟩ _
theorem U6 {z TI TO i1 i2:Addr} {f1 f2:List Addr} {n1 n2 k:Nat} {P1 P2:Nat->Value->Prop} {S1 S2:Nat->Heap->Prop} {a b:Value} {Q:Option Value->Shared->Prop} (Z:WQ z TI TO i1 i2 f1 f2) (D1:Draws prog w A.in1 i1 f1 n1 P1 S1) (D2:Draws prog w A.in1 i2 f2 n2 P2 S2)
  (hz:IsZip s.heap z TI TO .none) (hi:IsPair s.heap TI (.ref i1) (.ref i2)) (ho:IsPair s.heap TO a b) (s1:S1 k s.heap) (s2:S2 k s.heap) (k1:k<n1) (k2:k<n2)
  (q:∀x y h' tk,P1 k x->P2 k y->IsZip h' z TI TO (rawInt s.heap.objs.size)->IsPair h' TO x y->S1 (k+1) h'->S2 (k+1) h'->IsPair h' s.heap.objs.size x y->h'.objs.size=s.heap.objs.size+1->(∀c o,c≠z->c≠TO->c≠i1->c≠i2->s.heap.get? c=some o->h'.get? c=some o)->Q (some (.ref s.heap.objs.size)) { s with heap:=h',toks:=tk }) :
  wpAny (model prog w) A (pyNext (.ref z)) Q E s:=by
 have ty:s.TypeIs (.ref z) "zip" := ⟨_,hz,rfl⟩
 unfold pyNext
 refine aN (wpAny_attempt (JW (name:=Str.ofString "__next__") ty F.slot_zip_next (uJ F.slot_zip_next ty F.entry_zip_next ?_ (F.args_zip_next_1 _))))
 exact Lx Z D1 D2 hz hi ho s1 s2 k1 k2 fun x y h' tk p1 p2 v1 v2 v3 v4 v5 v6 v7=>bH (q x y h' tk p1 p2 v1 v2 v3 v4 v5 v6 v7)
theorem QD {z TI TO i1 i2:Addr} {f1 f2:List Addr} {n1 n2 k:Nat} {P1 P2:Nat->Value->Prop} {S1 S2:Nat->Heap->Prop} {a b:Value} {Q:Option Value->Shared->Prop} (Z:WQ z TI TO i1 i2 f1 f2) (D1:Draws prog w A.in1 i1 f1 n1 P1 S1) (D2:Draws prog w A.in1 i2 f2 n2 P2 S2)
  (hz:IsZip s.heap z TI TO .none) (hi:IsPair s.heap TI (.ref i1) (.ref i2)) (ho:IsPair s.heap TO a b) (s1:S1 k s.heap) (s2:S2 k s.heap) (kk:k=n1\/(k<n1/\k=n2))
  (q:∀h' tk,(∀c o,c≠z->c≠TO->c≠i1->c≠i2->s.heap.get? c=some o->h'.get? c=some o)->Q none { s with heap:=h',toks:=tk }):wpAny (model prog w) A (pyNext (.ref z)) Q E s:=by
 have ty:s.TypeIs (.ref z) "zip" := ⟨_,hz,rfl⟩
 unfold pyNext
 refine aN (wpAny_attempt (JW (name:=Str.ofString "__next__") ty F.slot_zip_next (uJ F.slot_zip_next ty F.entry_zip_next ?_ (F.args_zip_next_1 _))))
 refine Jm Z D1 D2 hz hi ho s1 s2 kk fun h' e k hx tk=>?_
 obtain⟨o,g,c⟩:=hx
 exact aN (wpAny_isInstance (T:="StopIteration") (b:=true) ⟨o,g,c⟩ isSubtype_stop (bH (q _ tk k)))
end
abbrev Zd (h:Heap) (t1 t2:Addr):Heap:=tiH (tiH h t1) t2
abbrev Zc (h:Heap) (t1 t2:Addr):Heap:=(Zd h t1 t2).push { cls:=.type "tuple",data:=.seq #[.ref h.objs.size,.ref (tiH h t1).objs.size] }
abbrev Zb (h:Heap) (t1 t2:Addr):Heap:=(Zc h t1 t2).push { cls:=.type "tuple",data:=.seq #[.none,.none] }
abbrev U8 (h:Heap) (t1 t2:Addr):Heap:=(Zb h t1 t2).push { cls:=.type "zip",data:=.fields #[.none,.bool false,.bool false,.ref (Zd h t1 t2).objs.size,.ref (Zc h t1 t2).objs.size] }
theorem RQ (t1 t2:Addr) (xs ys:Array Value):Meets (Builtin.«zip.__new__» ⟨[.type "zip",.ref t1,.ref t2],[]⟩) (fun _ R s=>s.heap.IsTuple t1 xs/\s.heap.IsTuple t2 ys/\R (.ok (.ret (.ref (Zb s.heap t1 t2).objs.size))) { s with heap:=U8 s.heap t1 t2 }):=
 .of_wp fun prog w A R s z=>by
  obtain⟨hp,g,d,tk,os⟩:=s
  obtain⟨hx,hy,z⟩:=z
  have sub:=sub_zip
  have hX:Heap.IsTuple (Shared.heap ⟨hp,g,d,tk,os⟩) t1 xs:=hx
  have hY:Heap.IsTuple (Shared.heap ⟨tiH hp t1,g,d,tk,os⟩) t2 ys:=hy.push _
  wp_walk using JR hX,JR hY
  exact⟨_,rfl,z⟩
theorem KY {prog:Program} {w:World} {A:Around} {E:Value->Shared->Prop} {s:Shared} {t1 t2:Addr} {xs ys:Array Value} {Q:Value->Shared->Prop} (hx:s.heap.IsTuple t1 xs) (hy:s.heap.IsTuple t2 ys)
  (q:∀h',IsZip h' (s.heap.objs.size+4) (s.heap.objs.size+2) (s.heap.objs.size+3) .none->IsPair h' (s.heap.objs.size+2) (.ref s.heap.objs.size) (.ref (s.heap.objs.size+1))->IsPair h' (s.heap.objs.size+3) .none .none ->
   h'.IsTupleIter s.heap.objs.size t1 0->h'.IsTupleIter (s.heap.objs.size+1) t2 0->(∀c o,s.heap.get? c=some o->h'.get? c=some o)->Q (.ref (s.heap.objs.size+4)) { s with heap:=h' }) :
  wpAny (model prog w) A (call (.type "zip") [.ref t1,.ref t2]) Q E s:=by
 have n1:(tiH s.heap t1).objs.size=s.heap.objs.size+1:=lR ..
 have n2:(Zd s.heap t1 t2).objs.size=s.heap.objs.size+2:=by rw[lR,n1]
 have n3:(Zc s.heap t1 t2).objs.size=s.heap.objs.size+3:=by rw[lR,n2]
 have n4:(Zb s.heap t1 t2).objs.size=s.heap.objs.size+4:=by rw[lR,n3]
 have up:∀c o,s.heap.get? c=some o->(U8 s.heap t1 t2).get? c=some o:=fun c o e=>gf _ (gf _ (gf _ (gf _ (gf _ e))))
 have v5:(U8 s.heap t1 t2).get? (Zb s.heap t1 t2).objs.size=some _:=dR _ rfl
 have v4:(U8 s.heap t1 t2).get? (Zc s.heap t1 t2).objs.size=some _:=gf _ (dR _ rfl)
 have v3:(U8 s.heap t1 t2).get? (Zd s.heap t1 t2).objs.size=some _:=gf _ (gf _ (dR _ rfl))
 have v2:(U8 s.heap t1 t2).get? (tiH s.heap t1).objs.size=some _:=gf _ (gf _ (gf _ (dR _ rfl)))
 have v1:(U8 s.heap t1 t2).get? s.heap.objs.size=some _:=gf _ (gf _ (gf _ (gf _ (dR _ rfl))))
 refine callType_new F.called_zip (by decide) (F.typeCall_zip_2 _ _) (F.newCall_zip_2 _ _) (fun x=>F.args_object_init_3 x _ _) F.entry_zip_new (RQ t1 t2 xs ys) ⟨hx,hy,?_⟩
 show _/\_
 rw[n2,n3,n4] at v5
 rw[n1,n2] at v3
 rw[n3] at v4
 rw[n1] at v2
 rw[n4]
 exact⟨⟨_,v5,rfl⟩,q _ v5 v3 v4 ⟨_,v1,rfl,rfl⟩ ⟨_,v2,rfl,rfl⟩ up⟩
theorem Inv.yR {X:Cx} {pins:List (Addr×Obj)} {σ:St} {H:Hp} {s:Shared} {h':Heap} {t':Nat} {fp:List Addr} (I:Inv X pins σ H s) (k:∀b o,b∉fp->s.heap.get? b=some o->h'.get? b=some o) (hf:∀b∈fp,gH X pins H b) :
  Inv X pins σ H { s with heap:=h',toks:=t' }:=by
 have ni:∀b u,H b=some u->b∉fp:=fun b u q hb=>by rw[(hf b hb).1] at q; cases q
 refine I.step (g':=s.gens) (d':=s.drawn) (ch:=fp) (fun b hb=>?_) (fun b o _ _ hc q _=>k b o hc q) (fun b o _ _ hc q _=>⟨o.slots,k b o hc q⟩) (fun _ _ _ _ n=>n) (fun b o hc q=>⟨o,k b o hc q⟩) (fun _ _ q=>q) (fun _ _ _ q=>q)
  (fun b ps q=>⟨#[],by rw[q]; simp⟩) (fun m hm=>?_) (fun b u q=>?_) I.bare
 ·obtain⟨_,f1,_,f3,f4,f5⟩:=hf b hb
  exact⟨f3,(hf b hb).2.1,f4,f5⟩
 ·obtain⟨o,es,ep,ho,r⟩:=hm
  exact⟨o,es,ep,k _ o (fun hb=>(hf _ hb).2.1 rfl) ho,r⟩
 ·refine(I.hok b u q).stay (fun c v hc z=>k c v ?_ z) (fun _ z=>z) fun _ _ z=>z
  rcases hc with z | z
  ·rw[z]; exact ni b u q
  ·exact ni c _ z
theorem XF {X:Cx} {pins:List (Addr×Obj)} {σ:St} {H:Hp} {s:Shared} {a b:Addr} {xs:List V} (I:Inv X pins σ H s) (hq:cD X.K H a xs) (hf:gH X pins H b):a≠b:=fun z=>by
 rcases hq with h | ⟨o,its,n,hk,_⟩
 ·rcases h with h | ⟨o,h⟩ <;> (rw[z,hf.1] at h; cases h)
 ·have e:X.base.get? a=some o:=I.ok.mod.Ur a o hk
  rcases hf.2.2.2.1 with y | y
  ·exact I.ok.FT a o e (z▸y)
  ·have l:=bW e
   have m:=I.ok.Qh
   rw[z] at l
   exact absurd (jU l (pF m y)) (sr _)
structure ZS where
 Sq:PySem.W.Frag->Hp->Addr->List V->Prop
 It:Heap->Addr->Addr->Nat->Prop
 Pl:Heap->Addr->Array Value->Prop
 obj:∀{h:Heap} {i a:Addr} {n:Nat},It h i a n->∃o,h.get? i=some o/\∀v,o.data≠.cell v
 keep:∀{h h':Heap} {i a:Addr} {n:Nat},It h i a n->(∀o,h.get? i=some o->h'.get? i=some o)->It h' i a n
 inv:∀{X:Cx} {pins:List (Addr×Obj)} {σ:St} {H:Hp} {s:Shared} {a:Addr} {xs:List V},Inv X pins σ H s->Sq X.K H a xs->∃us:List Value,Vals xs us/\Pl s.heap a us.toArray
 inj:∀{X:Cx} {pins:List (Addr×Obj)} {σ:St} {H:Hp} {s:Shared} {a:Addr} {xs ys:List V},Inv X pins σ H s->Sq X.K H a xs->Sq X.K H a ys->xs=ys
 ne:∀{X:Cx} {pins:List (Addr×Obj)} {σ:St} {H:Hp} {s:Shared} {a b:Addr} {xs:List V},Inv X pins σ H s->Sq X.K H a xs->gH X pins H b->a≠b
 dr:∀{prog:Program} {w:World} {A:Around},A.handled=none->∀{i a:Addr},a≠i->∀us:Array Value,Draws prog w A i [i,a] us.size (fun n v=>us[n]?=some v) (fun n h=>It h i a n/\Pl h a us)
def kT:ZS:=⟨fun K=>cD K,fun h i a n=>h.IsTupleIter i a n,fun h a us=>h.IsTuple a us,fun⟨o,g,_,d⟩=>⟨o,g,fun v q=>by rw[d] at q; cases q⟩,fun g k=>g.at k,fun I h=>(I.tuple h).elim fun us p=>⟨us,p.1,p.2.1⟩,fun I h h'=>I.qp h h',fun I h f=>XF I h f,fun hh _ _ n us=>qX hh n us⟩
def Y8 (k1 k2:ZS) (K:PySem.W.Frag) (a b:Addr):It:=
 ⟨fun i H=>∃xs ys x y,k1.Sq K H a xs/\k2.Sq K H b ys/\xs[i]?=some x/\ys[i]?=some y,fun i H v H'=>∃p x y,H p=none/\v=.ref p/\H'=upd H p (.tup [x,y])/\(∀xs,k1.Sq K H a xs->xs[i]?=some x)/\∀ys,k2.Sq K H b ys->ys[i]?=some y,
  fun i H=>∃xs ys,k1.Sq K H a xs/\k2.Sq K H b ys/\(i=xs.length\/(i<xs.length/\i=ys.length))⟩
structure abt (k1 k2:ZS) (z TI TO i1 i2 a b:Addr) (i:Nat) (h:Heap):Prop where
 z:IsZip h z TI TO .none
 p:IsPair h TI (.ref i1) (.ref i2)
 o:∃x y,IsPair h TO x y
 l:k1.It h i1 a i
 r:k2.It h i2 b i
abbrev Y7:=Y8 kT kT
theorem Jr (k1 k2:ZS) {P:Program} {w:World} {K:PySem.W.Frag} {elts:List Expr} {x1} {tp:Pos} (a b z TI TO i1 i2:Addr) (n1:TI≠z) (n2:TO≠z) (n3:TI≠TO) (n4:i1≠z) (n5:i2≠z) (n6:TO≠i1) (n7:TO≠i2) (n8:i1≠i2) (n9:TI≠i1) (n10:TI≠i2) :
  Turn P w K (.Tuple elts x1 tp) (Y8 k1 k2 K a b) [z,TI,TO,i1,i2] z (abt k1 k2 z TI TO i1 i2 a b) where
 mem:=by simp
 obj:=fun i h st c hc=>by
  obtain⟨g1,g2,⟨x,y,g3⟩,g4,g5⟩:=st
  simp only[b_,pH,or_false] at hc
  rcases hc with rfl | rfl | rfl | rfl | rfl
  ·exact⟨_,g1,fun v q=>by cases q⟩
  ·exact⟨_,g2,fun v q=>by cases q⟩
  ·exact⟨_,g3,fun v q=>by cases q⟩
  ·exact k1.obj g4
  ·exact k2.obj g5
 keep:=fun i h h' st k=>by
  obtain⟨g1,g2,⟨x,y,g3⟩,g4,g5⟩:=st
  exact⟨k z (by simp) _ g1,k TI (by simp) _ g2,⟨x,y,k TO (by simp) _ g3⟩,k1.keep g4 fun o e=>k i1 (by simp) o e,k2.keep g5 fun o e=>k i2 (by simp) o e⟩
 item:=by
  intro X hP hw hK hc i pins s σ H E I hf st hg
  subst hP hw hK
  obtain⟨g1,g2,⟨xo,yo,g3⟩,g4,g5⟩:=st
  obtain⟨xs,ys,x,y,hx,hy,ex,ey⟩:=hg
  obtain⟨us,ru,pu⟩:=k1.inv I hx
  obtain⟨vs,rv,pv⟩:=k2.inv I hy
  obtain⟨u,hu,ru'⟩:=ru.get ex
  obtain⟨v,hv,rv'⟩:=rv.get ey
  have ha:∀c∈[z,TI,TO,i1,i2],a≠c:=fun c hc=>k1.ne I hx (hf c hc)
  have hb:∀c∈[z,TI,TO,i1,i2],b≠c:=fun c hc=>k2.ne I hy (hf c hc)
  have hh:X.A.in1.handled=none:=I.ok.hd hc
  have Z:WQ z TI TO i1 i2 [i1,a] [i2,b]:=⟨n1,n2,n3,n4,n5,n6,n7,n8,by simp; exact⟨n4.symm,(ha z (by simp)).symm⟩,by simp; exact⟨n5.symm,(hb z (by simp)).symm⟩,by simp; exact⟨n6,(ha TO (by simp)).symm⟩,by simp; exact⟨n7,(hb TO (by simp)).symm⟩,by simp; exact⟨n8,(hb i1 (by simp)).symm⟩,by simp; exact⟨n8.symm,(ha i2 (by simp)).symm⟩⟩
  refine U6 Z (k1.dr hh (ha i1 (by simp)) us.toArray) (k2.dr hh (hb i2 (by simp)) vs.toArray) g1 g2 g3 (show _/\_ from⟨g4,pu⟩) (show _/\_ from⟨g5,pv⟩) (by have:=(nG.mp hu).1; simpa using this) (by have:=(nG.mp hv).1; simpa using this)
   fun u' v' h' tk hu' hv' z1 z2 z3 z4 z5 z6 kk=>?_
  have eu:u'=u:=by
   have:us[i]?=some u':=by simpa using hu'
   rw[hu] at this; exact(Option.some.inj this).symm
  have ev:v'=v:=by
   have:vs[i]?=some v':=by simpa using hv'
   rw[hv] at this; exact(Option.some.inj this).symm
  subst eu ev
  have fr:H s.heap.objs.size=none:=I.hok.fresh (cV _)
  have I1:Inv X pins σ (upd H s.heap.objs.size (.tup [x,y])) { s with heap:=s.heap.push { cls:=.type "tuple",data:=.seq #[u',v'] },toks:=tk }:=
   I.laid (t':=tk) (fun b v z=>gf _ z) (cV _) ⟨(by show 2<=sizeLine; decide),[u',v'],.cons ru' (.cons rv' .nil),⟨_,dR _ rfl,rfl,_,rfl⟩⟩
  have lt:∀c∈[z,TI,TO,i1,i2],c<s.heap.objs.size:=fun c hc=>by
   simp only[b_,pH,or_false] at hc
   rcases hc with rfl | rfl | rfl | rfl | rfl
   ·exact bW g1
   ·exact bW g2
   ·exact bW g3
   ·obtain⟨o,e,_⟩:=k1.obj g4; exact bW e
   ·obtain⟨o,e,_⟩:=k2.obj g5; exact bW e
  have f1:∀c∈[z,TI,TO,i1,i2],gH X pins (upd H s.heap.objs.size (.tup [x,y])) c:=fun c hc=>⟨by rw[aL (fW (lt c hc))]; exact(hf c hc).1,(hf c hc).2⟩
  have I2:Inv X pins σ (upd H s.heap.objs.size (.tup [x,y])) { s with heap:=h',toks:=tk }:=I1.yR (t':=tk) (fun c o nc e=>by
   have m:∀d∈[z,TI,TO,i1,i2],c≠d:=fun d hd y=>nc (y▸hd)
   by_cases y:c=s.heap.objs.size
   ·subst y
    rw[dR _ rfl] at e
    cases e
    exact z5
   ·rcases Heap.get?_push_cases e with w | w
    ·exact absurd w.1 y
    ·exact kk c o (m z (by simp)) (m TO (by simp)) (m i1 (by simp)) (m i2 (by simp)) w) f1
  have g2':IsPair h' TI (.ref i1) (.ref i2):=kk _ _ n1 n3 n9 n10 g2
  refine⟨_,rfl,wpAny_letOwnedTupleGo_zip z1 fun h2 zz sb=>⟨.ref s.heap.objs.size,_,I2.yR (fp:=[z,TI,TO,i1,i2]) (t':=tk) (fun c o nc e=>sb.extBut c o (fun y=>nc (by simp[y])) e) f1,rfl,⟨_,x,y,fr,rfl,rfl,fun xs' h=>by rw[k1.inj I h hx]; exact ex,fun ys' h=>by rw[k2.inj I h hy]; exact ey⟩,⟨zz,sb.extBut _ _ n1 g2',⟨_,_,sb.extBut _ _ n2 z2⟩,?_,?_⟩,fun c hc=>(f1 c hc).1⟩⟩
  ·exact k1.keep z3.1 fun o e=>sb.extBut i1 o n4 e
  ·exact k2.keep z4.1 fun o e=>sb.extBut i2 o n5 e
 done:=by
  intro X hP hw hK hc i pins s σ H E I hf st hg
  subst hP hw hK
  obtain⟨g1,g2,⟨xo,yo,g3⟩,g4,g5⟩:=st
  obtain⟨xs,ys,hx,hy,hl⟩:=hg
  obtain⟨us,ru,pu⟩:=k1.inv I hx
  obtain⟨vs,rv,pv⟩:=k2.inv I hy
  have ha:∀c∈[z,TI,TO,i1,i2],a≠c:=fun c hc=>k1.ne I hx (hf c hc)
  have hb:∀c∈[z,TI,TO,i1,i2],b≠c:=fun c hc=>k2.ne I hy (hf c hc)
  have hh:X.A.in1.handled=none:=I.ok.hd hc
  have Z:WQ z TI TO i1 i2 [i1,a] [i2,b]:=⟨n1,n2,n3,n4,n5,n6,n7,n8,by simp; exact⟨n4.symm,(ha z (by simp)).symm⟩,by simp; exact⟨n5.symm,(hb z (by simp)).symm⟩,by simp; exact⟨n6,(ha TO (by simp)).symm⟩,by simp; exact⟨n7,(hb TO (by simp)).symm⟩,by simp; exact⟨n8,(hb i1 (by simp)).symm⟩,by simp; exact⟨n8.symm,(ha i2 (by simp)).symm⟩⟩
  have l1:=ru.length
  have l2:=rv.length
  refine QD Z (k1.dr hh (ha i1 (by simp)) us.toArray) (k2.dr hh (hb i2 (by simp)) vs.toArray) g1 g2 g3 (show _/\_ from⟨g4,pu⟩) (show _/\_ from⟨g5,pv⟩) (by simp; omega) fun h' tk kk=>⟨rfl,I.yR (fp:=[z,TI,TO,i1,i2]) (t':=tk) (fun c o nc e=>?_) hf⟩
  have m:∀d∈[z,TI,TO,i1,i2],c≠d:=fun d hd y=>nc (y▸hd)
  exact kk c o (m z (by simp)) (m TO (by simp)) (m i1 (by simp)) (m i2 (by simp)) e
 self:=fun _ _ _ _ _ st h=>wpAny_pyIter_zip st.z h
section
variable {X:Cx}
def O8 (K:PySem.W.Frag) (ta:TA):TI:=fun σ H R=>ta σ H fun vs H1=>∃a b,vs=[.ref a,.ref b]/\(∃xs,cD K H1 a xs)/\(∃ys,cD K H1 b ys)/\R (Y7 K a b) H1
theorem zy {K:PySem.W.Frag} {e e':Expr} {elts:List Expr} {x1} {tp p pos:Pos} {ta:TA} (hK:X.K=K) (hm:X.mg "zip" = none) (ha:PA X [e,e'] ta) (hg:Gl X "zip" := by rfl) (h1:cG e=true:=by rfl) (h2:cG e'=true:=by rfl) :
  PI X (.Tuple elts x1 tp) (.Call (.Name "zip" p) [e,e'] [] pos) (O8 K ta):=by
 subst hK
 refine .mk ?_
 intro pins s σ H R I h
 refine sG (iJ I hg hm Wj ?_ (by decide) (by decide))
 refine PyProof.Rows.callWith_type1 (cF (ha pos pins s σ H _ I h) fun us s1 ⟨vs,H1,I1,r1,q1⟩=>?_) (cJ h1) (cI (es:=[e']) (by simp[h2]))
 obtain⟨a,b,rfl,⟨xs,hx⟩,⟨ys,hy⟩,q⟩:=q1
 obtain⟨u,v,rfl,ru,rv⟩:=r1.two
 cases ru
 cases rv
 obtain⟨us,_,pu,_⟩:=I1.tuple hx
 obtain⟨ws,_,pw,_⟩:=I1.tuple hy
 refine KY (show s1.heap.IsTuple a us.toArray from pu) (show s1.heap.IsTuple b ws.toArray from pw) fun h' hz hp ho h1 h2 kk=>?_
 have I2:Inv X pins σ H1 { s1 with heap:=h' }:=I1.kept (t':=s1.toks) kk
 have fr:∀n,H1 (s1.heap.objs.size+n)=none:=fun n=>I1.hok.fresh (Nat.le_add_right _ _)
 have fk:∀n,gH X pins H1 (s1.heap.objs.size+n):=fun n=>I1.vD (Nat.le_add_right _ _) (fr n)
 have ne:∀i j:Nat,i≠j->s1.heap.objs.size+i≠s1.heap.objs.size+j:=fun i j n e=>n (Nat.add_left_cancel e)
 refine wpAny_pyIter_zip hz ⟨s1.heap.objs.size+4,_,_,Y7 X.K a b,H1,rfl,I2,Jr kT kT a b (s1.heap.objs.size+4) (s1.heap.objs.size+2) (s1.heap.objs.size+3) s1.heap.objs.size (s1.heap.objs.size+1) (ne _ _ (by decide)) (ne _ _ (by decide)) (ne _ _ (by decide)) (ne 0 _ (by decide)) (ne _ _ (by decide)) (ne _ 0 (by decide)) (ne _ _ (by decide)) (ne 0 _ (by decide)) (ne _ 0 (by decide)) (ne _ _ (by decide)),⟨hz,hp,⟨_,_,ho⟩,h1,h2⟩,fun c hc=>?_,q⟩
 simp only[b_,pH,or_false] at hc
 rcases hc with rfl | rfl | rfl | rfl | rfl
 ·exact fk 4
 ·exact fk 2
 ·exact fk 3
 ·exact fk 0
 ·exact fk 1
end
abbrev two (elt t1 i1 t2 i2:Expr) (sc:Scope) (pos:Pos):Expr:=.ListComp elt [⟨t1,i1,[],0⟩,⟨t2,i2,[],0⟩] sc pos
theorem QQ (elt t1 i1 t2 i2:Expr) (sc:Scope) (pos:Pos) (it acc:Value) (env:Env) :
  compTurn (two elt t1 i1 t2 i2 sc pos) 1 it acc env=(standAt i2.pos >>= fun _=>pyNext it >>= fun r=>match r with
   | none=>pure (.done .next)
   | some v=>letOwnedTupleGo t2 it v >>= fun _=>assign t2 env v >>= fun _=>(eval elt env >>= fun x=>call (.builtin "list.append") [acc,x] >>= fun _=>pure ()) >>= fun _=>again (.compLoop (two elt t1 i1 t2 i2 sc pos) 1 it acc env)):=by rfl
theorem Mh (elt t1 i1 t2 i2:Expr) (sc:Scope) (pos:Pos) (it acc:Value) (env:Env) :
  compTurn (two elt t1 i1 t2 i2 sc pos) 0 it acc env=(do
   standAt i1.pos
   match <- pyNext it with
   | none=>pure (.done .next)
   | some v=>
    letOwnedTupleGo t1 it v
    assign t1 env v
    let mut ok:=true
    for c in([]:List Expr) do
     if ok then ok <- isTrue c env (eval c env)
    if ok then
     let x <- eval i2 env
     standAt i2.pos
     let y <- foldedSetIterable i2 env x
     let _ <- runOwn (.compStart (two elt t1 i1 t2 i2 sc pos) 1 (<- holding [y] (pyIter y)) acc env) env
    again (.compLoop (two elt t1 i1 t2 i2 sc pos) 0 it acc env)):=by rfl
section
variable {prog:Program} {w:World} {A:Around} {R:Result->Shared->Prop} {s:Shared} {elt t1 i1 t2 i2:Expr} {sc:Scope} {pos:Pos} {it acc:Value} {env:Env}
theorem RW (Iv:Nat->Shared->Prop)
  (turn:∀n s,Iv n s->wpAny (model prog w) A (pyNext it) (fun r s1=>match r with
   | none=>R (.ok .next) s1
   | some v=>wpAny (model prog w) A (letOwnedTupleGo t2 it v) (fun _ s2=>wpAny (model prog w) A (assign t2 env v) (fun _ s3=>wpAny (model prog w) A (eval elt env) (fun x s4=>
     wpAny (model prog w) A (call (.builtin "list.append") [acc,x]) (fun _ s5=>∃m,m<n/\Iv m s5) (fun _ _=>False) s4) (fun _ _=>False) s3) (fun _ _=>False) s2) (fun _ _=>False) s1) (fun _ _=>False) s)
  (n:Nat) (h:Iv n s):codeAny (model prog w) A (.compLoop (two elt t1 i1 t2 i2 sc pos) 1 it acc env) R s:=by
 refine codeAny_loop rfl Iv (fun n s hI=>?_) n h
 show wpAny _ _ ((compTurn (two elt t1 i1 t2 i2 sc pos) 1 it acc env).onRaise (fun x=>do noteFrame x env; theTreesLotGoes x)) _ _ s
 refine wpAny_noted ?_
 rw[QQ]
 refine aN (zm (aN (fM (turn n s hI) (fun r s1 q1=>?_) fun _ _ f=>f.elim)))
 cases r with
 | none=>exact bH q1
 | some v=>exact aN (fM q1 (fun _ s2 q2=>aN (fM q2 (fun _ s3 q3=>aN (aN (fM q3 (fun x s4 q4=>aN (fM q4 (fun _ s5 q5=>bH (bH ⟨rfl,q5⟩)) fun _ _ f=>f.elim)) fun _ _ f=>f.elim))) fun _ _ f=>f.elim)) fun _ _ f=>f.elim)
theorem Ov (hs:∀x,foldedSetIterable i2 env x=pure x) (Iv:Nat->Shared->Prop)
  (turn:∀n s,Iv n s->wpAny (model prog w) A (pyNext it) (fun r s1=>match r with
   | none=>R (.ok .next) s1
   | some v=>wpAny (model prog w) A (letOwnedTupleGo t1 it v) (fun _ s2=>wpAny (model prog w) A (assign t1 env v) (fun _ s3=>wpAny (model prog w) A (eval i2 env) (fun x s4=>wpAny (model prog w) A (pyIter x) (fun j s5=>
     codeAny (model prog w) A (.compStart (two elt t1 i1 t2 i2 sc pos) 1 j acc env) (fun r s6=>match r with | .ok _=>∃m,m<n/\Iv m s6 | .error _=>False) s5) (fun _ _=>False) s4) (fun _ _=>False) s3) (fun _ _=>False) s2) (fun _ _=>False) s1) (fun _ _=>False) s)
  (n:Nat) (h:Iv n s):codeAny (model prog w) A (.compLoop (two elt t1 i1 t2 i2 sc pos) 0 it acc env) R s:=by
 refine codeAny_loop rfl Iv (fun n s hI=>?_) n h
 show wpAny _ _ ((compTurn (two elt t1 i1 t2 i2 sc pos) 0 it acc env).onRaise (fun x=>do noteFrame x env; theTreesLotGoes x)) _ _ s
 refine wpAny_noted ?_
 rw[Mh]
 refine aN (zm (aN (fM (turn n s hI) (fun r s1 q1=>?_) fun _ _ f=>f.elim)))
 cases r with
 | none=>exact bH q1
 | some v=>
  refine aN (fM q1 (fun _ s2 q2=>aN (fM q2 (fun _ s3 q3=>?_) fun _ _ f=>f.elim)) fun _ _ f=>f.elim)
  refine aN (fM (wpAny_tests_nil (Q:=fun ok s'=>ok=true/\s'=s3) ⟨rfl,rfl⟩) (fun ok s' z=>?_) fun _ _ f=>f)
  obtain⟨rfl,rfl⟩:=z
  simp only[if_true]
  refine aN (fM q3 (fun x s4 q4=>aN (zm ?_)) fun _ _ f=>f.elim)
  refine aN (rY (hs x) (aN (qJ (fM q4 (fun j s5 q5=>?_) fun _ _ f=>f.elim))))
  refine aN (wpAny_runOwn ?_)
  refine codeAny_mono q5 fun r s6 z=>?_
  cases r with
  | ok f=>exact bH ⟨rfl,z⟩
  | error e=>exact z.elim
theorem Mu (h0:codeAny (model prog w) A (.compLoop (two elt t1 i1 t2 i2 sc pos) 1 it acc env) R s)
  (h:wpAny (model prog w) A (pyIter it) (fun j s'=>codeAny (model prog w) A (.compLoop (two elt t1 i1 t2 i2 sc pos) 1 j acc env) R s') (fun _ _=>False) s):codeAny (model prog w) A (.compStart (two elt t1 i1 t2 i2 sc pos) 1 it acc env) R s:=by
 refine codeAny_of_tree ?_
 show wpAny _ _ ((compStart (two elt t1 i1 t2 i2 sc pos) 1 it acc env).onRaise (fun x=>do noteFrame x env; standAt theWindowsPlace)) _ _ s
 refine wpAny_notedAt ?_; unfold compStart
 show wpAny _ _ (ask >>= _) _ _ s; refine aN (wpAny_askSetting (wpAny_ite ?_))
 split
 ·exact aN (bH (bH ⟨rfl,h0⟩))
 ·refine aN (pI ?_); show wpAny _ _ (standAt i2.pos >>= _) _ _ s
  exact aN (zm (aN (fM h (fun j s' z=>bH ⟨rfl,z⟩) fun _ _ f=>f.elim)))
end
def Ej (js:List Nat) (wi wj:TI) (te:TE):TE:=fun σ H Q=>wi σ H fun J H1=>∀acc,H1 acc=none->∃W:Nat->Nat->List V->Hp->Prop,(∃m,W 0 m [] (upd H1 acc (.lst [])))/\∀i m ys H2,W i m ys H2 ->
 (J.stop i H2/\Q (.ref acc) H2)\/(J.go i H2/\∀x H3,J.wD i H2 x H3->wj (some x::none::bU js σ) H3 fun L H4=>∃U:Nat->Nat->List V->Hp->Prop,(∃k,U 0 k ys H4)/\∀j k zs H5,U j k zs H5 ->
  (L.stop j H5/\∃m',m'<m/\W (i+1) m' zs H5)\/(L.go j H5/\∀y H6,L.wD j H5 y H6->te (some x::some y::bU js σ) H6 fun v H7=>H7 acc=some (.lst zs)/\zs.length<sizeLine/\∃k',k'<k/\U (j+1) k' (zs++[v]) (upd H7 acc (.lst (zs++[v])))))
theorem Gp {X:Cx} {elt i1 i2:Expr} {x1 x2:Str} {p1 p2 pos:Pos} {sc:Scope} {wi wj:TI} {te:TE} {N':List Str} {js:List Nat} {use:Option (Value->Sem Unit)} {Qc:Value->Shared->Prop} {pins:List (Addr×Obj)} {s:Shared} {σ:St} {H:Hp} {Q:VK} {kp:Pos} (hc:X.calm=true) (hi:PI X (.Name x1 p1) i1 wi) (S:mQ X 2 N' js sc)
  (h0:N'[0]?=some x1) (h1':N'[1]?=some x2) (nd:N'.Nodup) (l1:sc.names.lookup x1=some .local) (l2:sc.names.lookup x2=some .local) (hj:∀fp s H,PI (oE X N' sc fp s H) (.Name x2 p2) i2 wj) (he:∀fp s H,PE (oE X N' sc fp s H) elt te) (hs:∀x,foldedSetIterable i1 X.env x=pure x) (hs2:∀fp s H x,foldedSetIterable i2 (oE X N' sc fp s H).env x=pure x) (I:Inv X pins σ H s) (h:Ej js wi wj te σ H Q)
  (fin:∀(acc C:Addr) (H':Hp) (s':Shared),Inv X pins σ H' s'->gH X pins H' C->(∃m,s'.heap.Ns C m)->Q (.ref acc) H'->compPost (model X.prog X.w) X.A X.xe use Qc (.ref acc) C (.ok .next) s') :
  wpAny (model X.prog X.w) X.A (comprehension (two elt (.Name x1 p1) i1 (.Name x2 p2) i2 sc pos) sc X.env kp (newList []) false (eval i1 X.env) use) Qc X.xe s:=by
 refine wpAny_comprehension_free (use:=use) rfl hs S.clos S.kind S.names ?_
 refine cF (hi pins s σ H _ I h) fun v s1 q1=>cF q1 fun itv s2 q2=>?_
 obtain⟨it,fp,tn,J,H2,e,I2,T,st2,f2,q3⟩:=q2
 subst e
 refine sy ?_
 obtain⟨W,⟨m0,w0⟩,turn⟩:=q3 s2.heap.objs.size I2.fresh
 have I3:=I2.RX (ys:=[]) (its:=[]) (t':=s2.toks) .nil (gr _)
 have Yt:∀b∈fp,b<s2.heap.objs.size:=fun b hb=>by
  obtain⟨o,ho,_⟩:=T.obj 0 _ st2 b hb
  exact bW ho
 generalize e3:({ s2 with heap:=s2.heap.push { cls:=.type "list",data:=.seq ([]:List Value).toArray },toks:=s2.toks }:Shared)=s3 at I3
 have e3':({ s2 with heap:=s2.heap.push { cls:=.type "list",dict:=none,data:=.seq ([]:List Value).toArray } }:Shared)=s3:=e3
 have Z_:s3.heap.objs.size=s2.heap.objs.size+1:=by rw[<- e3]; exact lR ..
 have st3:tn 0 s3.heap:=T.keep 0 _ _ st2 fun b hb o ho=>by rw[<- e3]; exact gf _ ho
 have Ys:∀b∈fp,b<s3.heap.objs.size:=fun b hb=>by rw[Z_]; exact JN (Yt b hb)
 have f3:∀b∈fp,gH X pins (upd H2 s2.heap.objs.size (.lst [])) b:=fun b hb=>⟨by rw[aL (fW (Yt b hb))]; exact(f2 b hb).1,(f2 b hb).2⟩
 generalize hH3:upd H2 s2.heap.objs.size (.lst [])=H3 at I3 f3 w0
 refine wpAny_newFunctionEnv S.gw (by intro y hy; simp at hy) (fun h1 hns hsb=>?_) S.kind
 have hk:∀b o,s3.heap.get? b=some o->h1.get? b=some o:=fun b o q=>hsb.extBut b o (fW (bW q)) (gf _ q)
 have hns':h1.Ns s3.heap.objs.size fun _=>none:=hns
 have I4:Inv (oE X N' sc fp s3 H3) [] (none::none::bU js σ) H3 { s3 with heap:=h1,toks:=s3.toks+([]:List (Str×Value)).length }:=Kw (nt:=2) I3 f3 Ys S hns' hk
 have Xz:tn 0 h1:=T.keep 0 _ _ st3 fun b hb o ho=>hk b o ho
 have stat:∀{H':Hp},(∀b∈fp,H' b=none)->∀b∈fp,gH (oE X N' sc fp s3 H3) [] H' b:=fun hn b hb=>⟨hn b hb,fW (Ys b hb),I4.ok.Gh b hb,.inl hb,(I4.ok.YJ b hb).2,fun p hp=>absurd (show p∈([]:List (Addr×Obj)) from hp) (by simp)⟩
 have out:∀{σ':St} {H':Hp} {s':Shared},Inv (oE X N' sc fp s3 H3) [] σ' H' s'->Q (.ref s2.heap.objs.size) H'->compPost (model X.prog X.w) X.A X.xe use Qc (.ref s2.heap.objs.size) s3.heap.objs.size (.ok .next) s':=by
  intro σ' H' s' I' q'
  obtain⟨m,hn,_⟩:=id I'.loc
  have I5:Inv X pins σ H' s':=I3.call' I'.os I'.base I'.hok I'.bare fun b hb=>⟨(f3 b hb).2.2.2.1,(f3 b hb).2.1,(f3 b hb).2.2.2.2.1,(f3 b hb).2.2.2.2.2⟩
  exact fin _ _ H' s' I5 (I3.vD (cV _) I'.free) ⟨m,hn⟩ q'
 have loop:∀s4:Shared,s4={ s3 with heap:=h1,toks:=s3.toks+([]:List (Str×Value)).length }->codeAny (model X.prog X.w) X.A (.compLoop (two elt (.Name x1 p1) i1 (.Name x2 p2) i2 sc pos) 0 (.ref it) (.ref s2.heap.objs.size) (compEnvC sc (oJ sc X.env) s3.heap.objs.size X.env))
   (compPost (model X.prog X.w) X.A X.xe use Qc (.ref s2.heap.objs.size) s3.heap.objs.size) s4:=by
  rintro s4 rfl
  refine Ov (hs2 fp s3 H3) (fun n s'=>∃i ys H',Inv (oE X N' sc fp s3 H3) [] (none::none::bU js σ) H' s'/\tn i s'.heap/\(∀b∈fp,H' b=none)/\W i n ys H') ?_ m0 ⟨0,[],H3,I4,Xz,fun b hb=>(f3 b hb).1,w0⟩
  rintro n s5 ⟨i,ys,H5,I5,QX,Wc,w5⟩
  rcases turn i n ys H5 w5 with⟨stop,qn⟩ | ⟨go,step⟩
  ·refine cF (T.done (oE X N' sc fp s3 H3) rfl rfl rfl hc i [] s5 _ H5 (fun _ _=>False) I5 (stat Wc) QX stop) fun r s6 qx=>?_
   obtain⟨hr,I6⟩:=qx
   subst hr
   exact out I6 qn
  ·refine cF (T.item (oE X N' sc fp s3 H3) rfl rfl rfl hc i [] s5 _ H5 (fun _ _=>False) I5 (stat Wc) QX go) fun r s6 qx=>?_
   obtain⟨u,hr,q6⟩:=qx
   subst hr
   refine cF q6 fun _ s7 qx=>?_
   obtain⟨y,H7,I7,r7,y7,QW,fr7⟩:=qx
   have I7':=I7.pinned (stat fr7) (T.obj _ _ QW)
   have g1:PG (oE X N' sc fp s3 H3) (.Name x1 p1) (eQ 0):=aG nd h0 (.inl (dU l1)) (.inr (dU l1))
   have g2:PG (oE X N' sc fp s3 H3) (.Name x2 p2) (eQ 1):=aG nd h1' (.inl (dU l2)) (.inr (dU l2))
   refine cF (g1 _ s7 _ H7 y u (fun σ' H'=>σ'=some y::none::bU js σ/\H'=H7) I7' r7 ⟨rfl,rfl⟩) fun _ s8 qx=>?_
   obtain⟨σ8,H8,I8,e8,e8'⟩:=qx
   subst e8 e8'
   refine cF (hj fp s3 H3 _ s8 _ _ _ I8 (step y _ y7)) fun v9 s9 q9=>cF q9 fun itv rH Vq=>?_
   obtain⟨it2,fp2,tn2,L,Aw,e10,Y_,T2,XD,YH,U,⟨k0,u0⟩,Xh⟩:=Vq
   subst e10
   have Mt:∀{H':Hp},(∀b∈fp2,H' b=none)->∀b∈fp2,gH (oE X N' sc fp s3 H3) _ H' b:=fun hn b hb=>⟨hn b hb,(YH b hb).2⟩
   have Up:codeAny (model X.prog X.w) X.A (.compLoop (two elt (.Name x1 p1) i1 (.Name x2 p2) i2 sc pos) 1 (.ref it2) (.ref s2.heap.objs.size) (compEnvC sc (oJ sc X.env) s3.heap.objs.size X.env))
     (fun r s6=>match r with | .ok _=>∃m,m<n/\∃i ys H',Inv (oE X N' sc fp s3 H3) [] (none::none::bU js σ) H' s6/\tn i s6.heap/\(∀b∈fp,H' b=none)/\W i m ys H' | .error _=>False) rH:=by
    refine RW (fun k s'=>∃j zs H',Inv (oE X N' sc fp s3 H3) _ (some y::none::bU js σ) H' s'/\tn2 j s'.heap/\(∀b∈fp2,H' b=none)/\U j k zs H') ?_ k0 ⟨0,ys,Aw,Y_,XD,fun b hb=>(YH b hb).1,u0⟩
    rintro k DX ⟨j,zs,Lh,I11,XC,YC,w11⟩
    rcases Xh j k zs Lh w11 with⟨Xw,m',hm,qn2⟩ | ⟨go2,Xy⟩
    ·refine cF (T2.done (oE X N' sc fp s3 H3) rfl rfl rfl hc j _ DX _ Lh (fun _ _=>False) I11 (Mt YC) XC Xw) fun r s12 qx=>?_
     obtain⟨hr,I12⟩:=qx
     subst hr
     refine⟨m',hm,i+1,zs,Lh,(I12.gM).weak rfl fun q v e=>?_,T.keep _ _ _ QW fun b hb o e=>(I12.pin (b,o) (gZ _ (gZ _ (cL hb e)))).1,fun b hb=>?_,qn2⟩
     ·cases q with
      | zero=>simp at e
      | succ q=>simpa using e
     ·obtain⟨o,e,d⟩:=T.obj _ _ QW b hb
      exact(I12.pin (b,o) (gZ _ (gZ _ (cL hb e)))).2.1
    ·refine cF (T2.item (oE X N' sc fp s3 H3) rfl rfl rfl hc j _ DX _ Lh (fun _ _=>False) I11 (Mt YC) XC go2) fun r s12 qx=>?_
     obtain⟨u2,hr,q12⟩:=qx
     subst hr
     refine cF q12 fun _ Az qx=>?_
     obtain⟨y2,U4,I13,r13,y13,Vh,aaV⟩:=qx
     have abB:=I13.pinned (Mt aaV) (T2.obj _ _ Vh)
     refine cF (g2 _ Az _ U4 y2 u2 (fun σ' H'=>σ'=some y::some y2::bU js σ/\H'=U4) abB r13 ⟨rfl,rfl⟩) fun _ Ua qx=>?_
     obtain⟨σ14,W2,I14,Sv,abo⟩:=qx
     subst Sv abo
     refine cF (he fp s3 H3 _ Ua _ _ _ I14 (Xy y2 _ y13)) fun z Ww qx=>?_
     obtain⟨vz,U3,I15,r15,ha,hz,k',hk',w15⟩:=qx
     refine cF (gA (X:=oE X N' sc fp s3 H3) _ Ww _ U3 (.ref s2.heap.objs.size) [vz] (.ref s2.heap.objs.size) [z] (fun _ H'=>H'=upd U3 s2.heap.objs.size (.lst (zs++[vz]))) I15 rfl (.cons r15 .nil) ⟨_,zs,vz,rfl,rfl,ha,hz,rfl⟩) fun _ Lk qx=>?_
     obtain⟨_,H16,I16,_,We⟩:=qx
     subst We
     refine⟨k',hk',j+1,zs++[vz],_,(I16.gM).weak rfl fun q v e=>?_,T2.keep _ _ _ Vh fun b hb o e=>(I16.pin (b,o) (gZ _ (gZ _ (cL hb e)))).1,fun b hb=>?_,w15⟩
     ·match q,e with
      | 0,e=>simpa using e
      | 1,e=>simp at e
      | q+2,e=>simpa using e
     ·obtain⟨o,e,d⟩:=T2.obj _ _ Vh b hb
      exact(I16.pin (b,o) (gZ _ (gZ _ (cL hb e)))).2.1
   exact Mu Up (T2.self X.A 0 _ _ _ XD Up)
 exact codeAny_compStart_list (loop _ rfl) (T.self X.A 0 _ _ _ Xz (loop _ rfl))
theorem bL {X:Cx} {K:PySem.W.Frag} {pos:Pos} {es:List Expr} {k:Nat} {t:Qo} {n:Nat} (hK:X.K=K) (hc:X.calm=true) (h:Wq X es t)
  (hn:(assignEach es X.env).length=n:=by rfl) (hst:(assignEach es X.env).findIdx? (·.1)=none:=by rfl):PG X (.Tuple es k pos) (Pg K n t):=by
 subst hK
 exact Vy hc h hn hst
theorem jY {X:Cx} {K:PySem.W.Frag} {tg l:Expr} {tl:TE} (hK:X.K=K) (hl:PE X l tl):PI X tg l (wO K tl):=by
 subst hK
 exact Vw hl
theorem lV {X:Cx} {K:PySem.W.Frag} {tg l:Expr} {tl:TE} (hK:X.K=K) (hl:PE X l tl):PI X tg l (Dl K tl):=by
 subst hK
 exact Rn hl
theorem NZ {X:Cx} {elt i1 i2:Expr} {x1 x2:Str} {p1 p2 pos:Pos} {sc:Scope} {wi wj:TI} {te:TE} {N':List Str} {js:List Nat} (hc:X.calm=true) (hi:PI X (.Name x1 p1) i1 wi) (S:mQ X 2 N' js sc)
  (h0:N'[0]?=some x1) (h1':N'[1]?=some x2) (nd:N'.Nodup) (l1:sc.names.lookup x1=some .local) (l2:sc.names.lookup x2=some .local) (hj:∀fp s H,PI (oE X N' sc fp s H) (.Name x2 p2) i2 wj) (he:∀fp s H,PE (oE X N' sc fp s H) elt te) (hs:∀x,foldedSetIterable i1 X.env x=pure x:=by intro _; rfl) (hs2:∀fp s H x,foldedSetIterable i2 (oE X N' sc fp s H).env x=pure x:=by intro _ _ _ _; rfl) :
  PE X (two elt (.Name x1 p1) i1 (.Name x2 p2) i2 sc pos) (Ej js wi wj te):=by
 refine .mk ?_
 intro pins s σ H Q I h
 rw[eval_ListComp]
 refine Gp (use:=none) hc hi S h0 h1' nd l1 l2 hj he hs hs2 I h fun acc C H' s' I5 fc ⟨m,hn⟩ q=>?_
 refine⟨m,hn,fun h' sb=>?_⟩
 exact⟨.ref acc,H',I5.turned (it:=C) (t':=s'.toks) (fun b o hb q=>sb.extBut b o hb q) fc.1 fc.2.1 fc.2.2.2.1 fc.2.2.2.2.1 fc.2.2.2.2.2,rfl,q⟩
theorem vN {K:PySem.W.Frag} {js:List Nat} {J:It} {te:TE} {σ:St} {H:Hp} {Q:VK} {acc:Addr} {es:List PyData} (xv yv:Nat->V) (hz:es.length<=sizeLine) (hL:bJ es=true) (hacc:H acc=none)
  (go:∀i H',i<es.length->aD H H'->J.go i H') (yl:∀i H' v du,i<es.length->aD H H'->J.wD i H' v du->∃p,H' p=none/\v=.ref p/\du=upd H' p (.tup [xv i,yv i])) (st:∀H',aD H H'->J.stop es.length H')
  (val:∀(i:Nat) e H',es[i]?=some e->aD H H'->∀R:VK,(∀v du,aD H' du->At du e v->R v du)->te (some (xv i)::some (yv i)::bU js σ) H' R)
  (fin:∀ys H',aD H H'->H' acc=some (.lst ys)->aa (hid acc H') es ys->Q (.ref acc) H') :
  ∃W:Nat->Nat->List V->Hp->Prop,(∃m,W 0 m [] (upd H acc (.lst [])))/\∀i m ys H2,W i m ys H2 ->
   (J.stop i H2/\Q (.ref acc) H2)\/(J.go i H2/\∀x H3,J.wD i H2 x H3->Pg K 2 (mF (eQ 0) (mF (eQ 1) Dq)) x (List.replicate 2 none++bU js σ) H3 fun σ' H'=>(σ'.drop 2=bU js σ/\σ'.length=(List.replicate 2 (none:Option V)++bU js σ).length)/\rW σ' H' fun b du=>
    if b=true then te σ' du fun y H4=>H4 acc=some (.lst ys)/\ys.length<sizeLine/\∃m',m'<m/\W (i+1) m' (ys++[y]) (upd H4 acc (.lst (ys++[y]))) else ∃m',m'<m/\W (i+1) m' ys du):=by
 refine⟨fun i m ys H2=>m=es.length-i/\i<=es.length/\aa (hid acc H2) (es.take i) ys/\aD H H2/\H2 acc=some (.lst ys),⟨_,rfl,gr _,aa.nil,aO hacc _,aC⟩,?_⟩
 rintro i m ys H2 ⟨rfl,hi,hA,sm,hy⟩
 by_cases hlt:i<es.length
 ·refine .inr ⟨go i H2 hlt sm,fun x H3 y=>?_⟩
  obtain⟨p,fp,rfl,rfl⟩:=yl i H2 x H3 hlt sm y
  refine⟨p,_,rfl,cD.of aC,rfl,(show(_=_/\_=_)/\rW _ _ _ from⟨⟨rfl,by simp⟩,?_⟩)⟩
  unfold rW
  simp only[if_true]
  have e1:es[i]?=some es[i]:=gP hlt
  have s3:aD H2 (upd H2 p (.tup [xv i,yv i])):=aO fp _
  refine val i _ _ e1 (sm.trans s3) _ fun v H4 s4 a4=>⟨s4 _ _ (s3 _ _ hy),?_,es.length-(i+1),by omega,rfl,hlt,?_,?_,aC⟩
  ·rw[hA.length,jC]; omega
  ·rw[eX,Bu,e1]
   exact aa.append (hA.mono (aD.hid (s3.trans s4))) (aa.cons (At.vy (s4 _ _ (s3 _ _ hy)) _ _ (j5 hL e1) a4) aa.nil)
  ·refine fun b o q=>?_
   have nb:b≠acc:=bN q hacc
   rw[aL nb]
   exact s4 _ _ (s3 _ _ (sm _ _ q))
 ·have e:i=es.length:=by omega
  subst e
  rw[su] at hA
  exact .inl ⟨st _ sm,fin _ _ sm hy hA⟩
theorem KQ {K:PySem.W.Frag} {js:List Nat} {a b:Addr} {xs ys:List V} {es:List PyData} {ta:TA} {te:TE} {σ:St} {H:Hp} {Q:VK} (hl:∀R:List V->Hp->Prop,R [.ref a,.ref b] H->ta σ H R) (ha:H a=some (.tup xs)) (hb:H b=some (.tup ys)) (n1:xs.length=es.length) (n2:ys.length=es.length) (hz:es.length<=sizeLine) (hL:bJ es=true)
  (val:∀(i:Nat) x y e H',xs[i]?=some x->ys[i]?=some y->es[i]?=some e->aD H H'->∀R:VK,(∀v du,aD H' du->At du e v->R v du)->te (some x::some y::bU js σ) H' R)
  (fin:∀acc zs H',aD H H'->H acc=none->H' acc=some (.lst zs)->aa (hid acc H') es zs->Q (.ref acc) H'):gQ 2 js (O8 K ta) (Pg K 2 (mF (eQ 0) (mF (eQ 1) Dq))) rW te σ H Q:=by
 refine hl _ ⟨a,b,rfl,⟨xs,cD.of ha⟩,⟨ys,cD.of hb⟩,fun acc hacc=>?_⟩
 have gx:∀i,i<es.length->xs[i]?=some (xs.getD i .non):=fun i hi=>by rw[iZ,gP (by omega)]; rfl
 have gy:∀i,i<es.length->ys[i]?=some (ys.getD i .non):=fun i hi=>by rw[iZ,gP (by omega)]; rfl
 refine vN (es:=es) (fun i=>xs.getD i .non) (fun i=>ys.getD i .non) hz hL hacc (fun i H' hi s=>⟨xs,ys,_,_,cD.of (s _ _ ha),cD.of (s _ _ hb),gx i hi,gy i hi⟩) (fun i H' v du hi s y=>?_) (fun H' s=>⟨xs,ys,cD.of (s _ _ ha),cD.of (s _ _ hb),.inl n1.symm⟩) (fun i e H' he s R hR=>?_) fun zs H' s h1 h2=>fin acc zs H' s hacc h1 h2
 ·obtain⟨p,x,y,fp,e1,e2,h1,h2⟩:=y
  have q1:=h1 xs (cD.of (s _ _ ha))
  have q2:=h2 ys (cD.of (s _ _ hb))
  rw[gx i hi] at q1
  rw[gy i hi] at q2
  cases q1
  cases q2
  exact⟨p,fp,e1,e2⟩
 ·have hi:i<es.length:=by
   by_cases z:i<es.length
   ·exact z
   ·rw[Hq (by omega)] at he; cases he
  exact val i _ _ e H' (gx i hi) (gy i hi) he s R hR
theorem Gn {K:PySem.W.Frag} {js:List Nat} {a:Addr} {ys:List V} {es:List PyData} {ta:TA} {te:TE} {σ:St} {H:Hp} {Q:VK} (hl:∀R:List V->Hp->Prop,R [.ref a] H->ta σ H R) (hb:H a=some (.tup ys)) (n2:ys.length=es.length) (hz:es.length<=sizeLine) (hL:bJ es=true)
  (val:∀(i:Nat) y e H',ys[i]?=some y->es[i]?=some e->aD H H'->∀R:VK,(∀v du,aD H' du->At du e v->R v du)->te (some (.int (i:Nat))::some y::bU js σ) H' R)
  (fin:∀acc zs H',aD H H'->H acc=none->H' acc=some (.lst zs)->aa (hid acc H') es zs->Q (.ref acc) H'):gQ 2 js (O9 K ta) (Pg K 2 (mF (eQ 0) (mF (eQ 1) Dq))) rW te σ H Q:=by
 refine hl _ ⟨a,rfl,⟨ys,cD.of hb⟩,fun acc hacc=>?_⟩
 have gy:∀i,i<es.length->ys[i]?=some (ys.getD i .non):=fun i hi=>by rw[iZ,gP (by omega)]; rfl
 refine vN (es:=es) (fun i=>.int (i:Nat)) (fun i=>ys.getD i .non) hz hL hacc (fun i H' hi s=>⟨ys,_,cD.of (s _ _ hb),gy i hi⟩) (fun i H' v du hi s y=>?_) (fun H' s=>⟨ys,cD.of (s _ _ hb),n2⟩) (fun i e H' he s R hR=>?_) fun zs H' s h1 h2=>fin acc zs H' s hacc h1 h2
 ·obtain⟨p,y,fp,e1,e2,h2⟩:=y
  have q2:=h2 ys (cD.of (s _ _ hb))
  rw[gy i hi] at q2
  cases q2
  exact⟨p,fp,e1,e2⟩
 ·have hi:i<es.length:=by
   by_cases z:i<es.length
   ·exact z
   ·rw[Hq (by omega)] at he; cases he
  exact val i _ e H' (gy i hi) he s R hR
theorem PN {K:PySem.W.Frag} {js:List Nat} {xs:List V} {es:List PyData} {te:TE} {σ:St} {H:Hp} {Q:VK} (hn:es.length=xs.length) (hz:es.length<=sizeLine) (hL:bJ es=true)
  (step:∀(i:Nat) x e H',xs[i]?=some x->es[i]?=some e->aD H H'->∀R:VK,(∀v du,aD H' du->At du e v->R v du)->te (some x::bU js σ) H' R)
  (fin:∀acc ys H',aD H H'->H acc=none->H' acc=some (.lst ys)->aa (hid acc H') es ys->Q (.ref acc) H'):iW js (wO K (Vd K xs)) te σ H Q:=by
 intro a _ ht
 refine⟨a,rfl,⟨xs,ht H⟩,fun acc hacc=>?_⟩
 refine⟨fun i m ys H2=>m=es.length-i/\i<=es.length/\aa (hid acc H2) (es.take i) ys/\aD H H2/\H2 acc=some (.lst ys),⟨_,rfl,gr _,aa.nil,aO hacc _,aC⟩,?_⟩
 rintro i m ys H2 ⟨rfl,hi,hA,sm,hy⟩
 by_cases hlt:i<es.length
 ·refine .inr ⟨⟨xs,xs[i]'(by omega),ht _,gP (by omega)⟩,fun x H3 y=>?_⟩
  obtain⟨e,y⟩:=y
  subst e
  have e1:es[i]?=some es[i]:=gP hlt
  refine step i x _ _ (y xs (ht _)) e1 sm _ fun v H4 s4 a4=>⟨s4 _ _ hy,?_,es.length-(i+1),by omega,rfl,hlt,?_,?_,aC⟩
  ·rw[hA.length,jC]; omega
  ·rw[eX,Bu,e1]
   exact aa.append (hA.mono (aD.hid s4)) (aa.cons (At.vy (s4 _ _ hy) _ _ (j5 hL e1) a4) aa.nil)
  ·refine fun b o q=>?_
   have nb:b≠acc:=bN q hacc
   rw[aL nb]
   exact s4 _ _ (sm _ _ q)
 ·have e:i=es.length:=by omega
  subst e
  rw[su] at hA
  exact .inl ⟨⟨xs,ht _,by omega⟩,fin _ _ _ sm hacc hy hA⟩
theorem PQ {K:PySem.W.Frag} {js:List Nat} {a:Addr} {xs:List V} {tl tm te:TE} {σ:St} {H:Hp} {Q:VK} (vG:List (List PyData)) (hl:∀R:VK,R (.ref a) H->tl σ H R) (ha:H a=some (.tup xs)) (hA:aa H (vG.map PyData.tuple) xs) (hn:vG.flatten.length<=1000)
  (hm:∀x H' (R:VK),R x H'->tm (some x::none::bU js σ) H' R) (he:∀x y H' (R:VK),R y H'->te (some x::some y::bU js σ) H' R)
  (fin:∀acc ys H',aD H H'->H acc=none->H' acc=some (.lst ys)->aa H vG.flatten ys->Q (.ref acc) H'):Ej js (wO K tl) (wO K tm) te σ H Q:=by
 refine hl _ ⟨a,rfl,⟨xs,cD.of ha⟩,fun acc hacc=>?_⟩
 have hlen:xs.length=vG.length:=by rw[hA.length,cg]
 have tl':∀i,(vG.take i).flatten.length<=vG.flatten.length:=fun i=>by
  have:vG.flatten=(vG.take i).flatten++(vG.drop i).flatten:=by rw[<- List.flatten_append,List.take_append_drop]
  rw[this,fj]; omega
 refine⟨fun i m ys H2=>m=vG.length-i/\i<=vG.length/\aa H (vG.take i).flatten ys/\aD H H2/\H2 acc=some (.lst ys),⟨_,rfl,gr _,aa.nil,aO hacc _,aC⟩,?_⟩
 rintro i m ys H2 ⟨rfl,hi,Yz,sm,hy⟩
 have ht:cD K H2 a xs:=cD.of (sm _ _ ha)
 by_cases hlt:i<vG.length
 ·refine .inr ⟨⟨xs,xs[i]'(by omega),ht,gP (by omega)⟩,fun x H3 y=>?_⟩
  obtain⟨e,y⟩:=y
  subst e
  have hx:=y xs ht
  have e1:vG[i]?=some vG[i]:=gP hlt
  obtain⟨x',hx',ax⟩:=hA.getD (show(vG.map PyData.tuple)[i]?=some (.tuple vG[i]) by rw[il,e1]; rfl)
  rw[hx] at hx'
  cases hx'
  generalize hds:vG[i]=ds at *
  unfold At at ax
  obtain⟨b,zs,rfl,hb,aB⟩:=ax
  have ef:(vG.take (i+1)).flatten=(vG.take i).flatten++ds:=by rw[Bu,e1]; simp
  refine hm _ _ _ ⟨b,rfl,⟨zs,cD.of (sm _ _ hb)⟩,?_⟩
  refine⟨fun j k ws H5=>k=ds.length-j/\j<=ds.length/\aa H ((vG.take i).flatten++ds.take j) ws/\aD H H5/\H5 acc=some (.lst ws),⟨_,rfl,gr _,by simpa using Yz,sm,hy⟩,?_⟩
  rintro j k ws H5 ⟨rfl,hj,Zy,sm5,hy5⟩
  have ht5:cD K H5 b zs:=cD.of (sm5 _ _ hb)
  have hzl:=aB.length
  by_cases hjt:j<ds.length
  ·refine .inr ⟨⟨zs,zs[j]'(by omega),ht5,gP (by omega)⟩,fun u H6 yu=>?_⟩
   obtain⟨e,yu⟩:=yu
   subst e
   have hu:=yu zs ht5
   obtain⟨d,hd,au⟩:=aB.get hu
   refine he _ _ _ _ ⟨hy5,bB ?_,ds.length-(j+1),by omega,rfl,hjt,?_,sm5.dG hacc,aC⟩
   ·have:=Zy.length
    rw[fj,jC] at this
    have t2:=tl' (i+1)
    rw[ef,fj] at t2
    omega
   ·rw[Bu,hd,<- zr]
    exact Zy.append (aa.cons au aa.nil)
  ·have ej:j=ds.length:=by omega
   subst ej
   rw[su] at Zy
   refine .inl ⟨⟨zs,ht5,by omega⟩,vG.length-(i+1),by omega,rfl,hlt,by rw[ef]; exact Zy,sm5,hy5⟩
 ·have e:i=vG.length:=by omega
  subst e
  rw[su] at Yz
  exact .inl ⟨⟨xs,ht,by omega⟩,fin _ _ _ sm hacc hy Yz⟩
section
variable {X:Cx} {pins:List (Addr×Obj)} {σ:St} {H:Hp} {s:Shared} {A:Around} {E:Value->Shared->Prop} {Q:Value->Shared->Prop} {b:Bool}
end
section
variable {X:Cx}
end
theorem vM {nt:Nat} {g:TG} {js:List Nat} {J:It} {te:TE} {σ:St} {H:Hp} {Q:VK} {acc:Addr} {es:List PyData} (τ:Nat->St) (hτ:∀i,(τ i).length=nt) (hz:es.length<=sizeLine) (hL:bJ es=true) (hacc:H acc=none)
  (go:∀i H',i<es.length->aD H H'->J.go i H')
  (yl:∀i H' v du,i<es.length->aD H H'->J.wD i H' v du->aD H' du/\∀R:St->Hp->Prop,R (τ i++bU js σ) du->g v (List.replicate nt none++bU js σ) du R) (st:∀H',aD H H'->J.stop es.length H')
  (val:∀(i:Nat) e H',es[i]?=some e->aD H H'->∀R:VK,(∀v du,aD H' du->At du e v->R v du)->te (τ i++bU js σ) H' R)
  (fin:∀ys H',aD H H'->H' acc=some (.lst ys)->aa (hid acc H') es ys->Q (.ref acc) H') :
  ∃W:Nat->Nat->List V->Hp->Prop,(∃m,W 0 m [] (upd H acc (.lst [])))/\∀i m ys H2,W i m ys H2 ->
   (J.stop i H2/\Q (.ref acc) H2)\/(J.go i H2/\∀x H3,J.wD i H2 x H3->g x (List.replicate nt none++bU js σ) H3 fun σ' H'=>(σ'.drop nt=bU js σ/\σ'.length=(List.replicate nt (none:Option V)++bU js σ).length)/\rW σ' H' fun b du=>
    if b=true then te σ' du fun y H4=>H4 acc=some (.lst ys)/\ys.length<sizeLine/\∃m',m'<m/\W (i+1) m' (ys++[y]) (upd H4 acc (.lst (ys++[y]))) else ∃m',m'<m/\W (i+1) m' ys du):=by
 refine⟨fun i m ys H2=>m=es.length-i/\i<=es.length/\aa (hid acc H2) (es.take i) ys/\aD H H2/\H2 acc=some (.lst ys),⟨_,rfl,gr _,aa.nil,aO hacc _,aC⟩,?_⟩
 rintro i m ys H2 ⟨rfl,hi,hA,sm,hy⟩
 by_cases hlt:i<es.length
 ·refine .inr ⟨go i H2 hlt sm,fun x H3 y=>?_⟩
  obtain⟨s3,gg⟩:=yl i H2 x H3 hlt sm y
  refine gg _ ⟨⟨?_,?_⟩,?_⟩
  ·rw[List.drop_append_of_le_length (by rw[hτ]; exact cV _),<- hτ i,JL,xQ]
  ·rw[fj,fj,hτ,BK]
  unfold rW
  simp only[if_true]
  have e1:es[i]?=some es[i]:=gP hlt
  refine val i _ _ e1 (sm.trans s3) _ fun v H4 s4 a4=>⟨s4 _ _ (s3 _ _ hy),?_,es.length-(i+1),by omega,rfl,hlt,?_,?_,aC⟩
  ·rw[hA.length,jC]; omega
  ·rw[eX,Bu,e1]
   exact aa.append (hA.mono (aD.hid (s3.trans s4))) (aa.cons (At.vy (s4 _ _ (s3 _ _ hy)) _ _ (j5 hL e1) a4) aa.nil)
  ·refine fun b o q=>?_
   have nb:b≠acc:=bN q hacc
   rw[aL nb]
   exact s4 _ _ (s3 _ _ (sm _ _ q))
 ·have e:i=es.length:=by omega
  subst e
  rw[su] at hA
  exact .inl ⟨st _ sm,fin _ _ sm hy hA⟩
theorem yp {K:PySem.W.Frag} {nt:Nat} {g:TG} {js:List Nat} {a b:Addr} {xs ys:List V} {es:List PyData} {ta:TA} {te:TE} {σ:St} {H:Hp} {Q:VK} (τ:Nat->St) (hτ:∀i,(τ i).length=nt) (hl:∀R:List V->Hp->Prop,R [.ref a,.ref b] H->ta σ H R) (ha:H a=some (.tup xs)) (hb:H b=some (.tup ys)) (n1:xs.length=es.length) (n2:ys.length=es.length) (hz:es.length<=sizeLine) (hL:bJ es=true)
  (tgt:∀(i:Nat) x y p H',xs[i]?=some x->ys[i]?=some y->aD H H'->H' p=some (.tup [x,y])->∀R:St->Hp->Prop,R (τ i++bU js σ) H'->g (.ref p) (List.replicate nt none++bU js σ) H' R)
  (val:∀(i:Nat) e H',es[i]?=some e->aD H H'->∀R:VK,(∀v du,aD H' du->At du e v->R v du)->te (τ i++bU js σ) H' R)
  (fin:∀acc zs H',aD H H'->H acc=none->H' acc=some (.lst zs)->aa (hid acc H') es zs->Q (.ref acc) H'):gQ nt js (O8 K ta) g rW te σ H Q:=by
 refine hl _ ⟨a,b,rfl,⟨xs,cD.of ha⟩,⟨ys,cD.of hb⟩,fun acc hacc=>?_⟩
 have gx:∀i,i<es.length->xs[i]?=some (xs.getD i .non):=fun i hi=>by rw[iZ,gP (by omega)]; rfl
 have gy:∀i,i<es.length->ys[i]?=some (ys.getD i .non):=fun i hi=>by rw[iZ,gP (by omega)]; rfl
 refine vM (es:=es) τ hτ hz hL hacc (fun i H' hi s=>⟨xs,ys,_,_,cD.of (s _ _ ha),cD.of (s _ _ hb),gx i hi,gy i hi⟩) (fun i H' v du hi s y=>?_) (fun H' s=>⟨xs,ys,cD.of (s _ _ ha),cD.of (s _ _ hb),.inl n1.symm⟩) val fun zs H' s h1 h2=>fin acc zs H' s hacc h1 h2
 obtain⟨p,x,y,fp,rfl,rfl,h1,h2⟩:=y
 have q1:=h1 xs (cD.of (s _ _ ha))
 have q2:=h2 ys (cD.of (s _ _ hb))
 exact⟨aO fp _,fun R hR=>tgt i x y p _ q1 q2 (s.trans (aO fp _)) aC R hR⟩
theorem Sx {K:PySem.W.Frag} {nt:Nat} {g:TG} {js:List Nat} {a:Addr} {xs:List V} {es:List PyData} {tl te:TE} {σ:St} {H:Hp} {Q:VK} (τ:Nat->St) (hτ:∀i,(τ i).length=nt) (hl:∀R:VK,R (.ref a) H->tl σ H R) (ha:H a=some (.tup xs)) (n1:xs.length=es.length) (hz:es.length<=sizeLine) (hL:bJ es=true)
  (tgt:∀(i:Nat) x H',xs[i]?=some x->aD H H'->∀R:St->Hp->Prop,R (τ i++bU js σ) H'->g x (List.replicate nt none++bU js σ) H' R)
  (val:∀(i:Nat) e H',es[i]?=some e->aD H H'->∀R:VK,(∀v du,aD H' du->At du e v->R v du)->te (τ i++bU js σ) H' R)
  (fin:∀acc zs H',aD H H'->H acc=none->H' acc=some (.lst zs)->aa (hid acc H') es zs->Q (.ref acc) H'):gQ nt js (wO K tl) g rW te σ H Q:=by
 refine hl _ ⟨a,rfl,⟨xs,cD.of ha⟩,fun acc hacc=>?_⟩
 have ht:∀H',aD H H'->cD K H' a xs:=fun H' s=>cD.of (s _ _ ha)
 refine vM (es:=es) τ hτ hz hL hacc (fun i H' hi s=>⟨xs,xs[i]'(by omega),ht H' s,gP (by omega)⟩) (fun i H' v du hi s y=>?_) (fun H' s=>⟨xs,ht H' s,by omega⟩) val fun zs H' s h1 h2=>fin acc zs H' s hacc h1 h2
 obtain⟨e,y⟩:=y
 subst e
 exact⟨aD.refl _,fun R hR=>tgt i v _ (y xs (ht _ s)) s R hR⟩
section
variable {X:Cx}
def Tt (K:PySem.W.Frag) (te:TE) (tp:TO):TE:=fun σ H Q=>te σ H fun x H1=>tp σ H1 fun u H2=>u=some (-1)/\∃(a:Addr) (xs:List V),x=.ref a/\eV K H2 a xs/\∀p,H2 p=none->Q (.ref p) (upd H2 p (.lst xs.reverse))
theorem Rq {K:PySem.W.Frag} {e st:Expr} {te:TE} {tp:TO} {pos p2:Pos} (hK:X.K=K) (he:PE X e te) (hp:PO X (some st) tp) (hsub:∀v r,∃ops,subscripted (.Slice none none (some st) p2) false v r=operate ops (getItem v r):=by intro _ _; exact⟨_,by with_unfolding_all rfl⟩):PE X (.Subscript e (.Slice none none (some st) p2) pos) (Tt K te tp):=by
 subst hK
 refine .mk ?_
 intro pins s σ H Q I h
 refine Subscript_ (cF (he pins s σ H _ I h) fun v s1 qx=>?_)
 obtain⟨x,H1,I1,r1,q1⟩:=qx
 refine wpAny_Slice ?_
 rw[evalPart_none]
 refine bH (bH ?_)
 refine cF (hp pins s1 σ H1 _ I1 q1) fun vu s3 qx=>?_
 obtain⟨u,H3,I3,pu,q3⟩:=qx
 obtain⟨rfl,a,xs,rfl,hx,q⟩:=q3
 cases r1
 have I4:Inv X pins σ H3 { s3 with heap:=s3.heap.push { cls:=.type "slice",data:=.fields #[.none,.none,vu] } }:=I3.kept (t':=s3.toks) fun b ob q=>gf _ q
 obtain⟨its,r,ht,hz⟩:=I4.list hx
 have hlen:=r.length
 obtain⟨ops,ho⟩:=hsub (.ref a) (.ref s3.heap.objs.size)
 refine tail_any (ops:=ops) ht.isList.typeIs slot_list_getitem.lookup ?_ ho
 refine wpAny_getItem_list_slice ht.isList (Heap.IsSliceOf.new ..) .none .none pu (by simp) ?_ (by rw[e_] <;> omega)
 rw[PySem.W.krv_pick]
 refine⟨.ref _,_,I4.laid (t':=s3.toks) (o:=.lst xs.reverse) (fun b ob q=>gf _ q) (cV _) ?_,rfl,q _ (I4.hok.fresh (cV _))⟩
 exact⟨by rw[List.length_reverse]; exact pF (by omega) hz,_,0,r.reverse,dR _ rfl⟩
end
def YD:V->Option Str
 | .int i=>if i.natAbs.log2<1920 then some (Str.ofString (toString i)) else none
 | .str z=>some z
 | _=>none
def tFv (te:TE):TE:=fun σ H Q=>te σ H fun x H1=>∃z,YD x=some z/\z.length<=sizeLine/\Q (.str z) H1
abbrev TJ:=Str->St->Hp->(Str->Hp->Prop)->Prop
section
variable {X:Cx}
theorem Uk {e:Expr} {te:TE} {pos:Pos} (he:PE X e te):PE X (.FormattedValue e (-1) none pos) (tFv te):=by
 refine .mk ?_
 intro pins s σ H Q I h
 refine FormattedValue_plain (cF (he pins s σ H _ I h) fun v s1 qx=>?_)
 obtain⟨x,H1,I1,r1,z,hz,hl,q⟩:=qx
 cases x with
 | int i=>
  obtain⟨t,rfl⟩:=r1
  by_cases hd:i.natAbs.log2<1920
  ·have e:z=Str.ofString (toString i):=(Option.some.inj ((aM hd).symm.trans hz)).symm
   subst e
   exact formatField_int_small hd ⟨.str _,H1,I1.tok _,⟨_,rfl⟩,q⟩
  ·have e:(none:Option Str)=some z:=(aK hd).symm.trans hz
   cases e
 | str y=>
  obtain⟨t,rfl⟩:=r1
  cases hz
  exact formatField_str (fun t' tk=>⟨.str _,H1,I1.tok _,⟨_,rfl⟩,q⟩) hl
 | _=>cases hz
structure PJ (X:Cx) (es:List Expr) (t:TJ):Prop where
 mk ::
 go:∀(acc:Str) (pins:List (Addr×Obj)) (s:Shared) (σ:St) (H:Hp) (R:Str->Hp->Prop),Inv X pins σ H s->t acc σ H R ->
  Joins (model X.prog X.w) X.A X.xe (evalEach es X.env) acc (fun out s'=>∃H',Inv X pins σ H' s'/\R out H') s
def tJ0:TJ:=fun acc _ H R=>R acc H
def tJ1 (te:TE) (t:TJ):TJ:=fun acc σ H R=>te σ H fun x H1=>∃y,x=.str y/\(acc++y).length<=sizeLine/\t (acc++y) σ H1 R
def tJs (t:TJ):TE:=fun σ H Q=>t Str.empty σ H fun out H'=>out.length<=sizeLine/\Q (.str out) H'
theorem Joins.mono {M:Model} {A:Around} {E:Value->Shared->Prop}:∀{ps:List (Sem Value)} {acc:Str} {Q Q':Str->Shared->Prop} {s:Shared},(∀o s',Q o s'->Q' o s')->Joins M A E ps acc Q s->Joins M A E ps acc Q' s
 | [],_,_,_,_,h,j=>h _ _ j
 | _::_,_,_,_,_,h,j=>fM j (fun _ _ ⟨y,t,e,l,r⟩=>⟨y,t,e,l,Joins.mono h r⟩) fun _ _ e=>e
theorem Nz:PJ X [] tJ0:=.mk fun acc pins s σ H R I h=>⟨H,I,h⟩
theorem mR {e:Expr} {es:List Expr} {te:TE} {t:TJ} (he:PE X e te) (hr:PJ X es t):PJ X (e::es) (tJ1 te t):=by
 refine .mk fun acc pins s σ H R I h=>?_
 show wpAny _ _ (eval e X.env) _ _ s
 refine cF (he pins s σ H _ I h) fun v s1 qx=>?_
 obtain⟨x,H1,I1,r1,y,ex,hl,q⟩:=qx
 subst ex
 obtain⟨t',rfl⟩:=r1
 exact⟨y,t',rfl,hl,hr.go _ pins s1 σ H1 R I1 q⟩
theorem Uj {a b:Expr} {r:List Expr} {t:TJ} {pos:Pos} (h:PJ X (a::b::r) t):PE X (.JoinedStr (a::b::r) pos) (tJs t):=by
 refine .mk fun pins s σ H Q I hw=>?_
 refine wpAny_JoinedStr (Joins.mono ?_ (h.go Str.empty pins s σ H _ I hw))
 rintro o s' ⟨H',I',hl,q⟩
 exact⟨hl,.str o,H',I'.tok _,⟨_,rfl⟩,q⟩
def Z8 (K:PySem.W.Frag) (ta:TE):TT:=fun σ H Q=>ta σ H fun x H'=>∃k,abu K x H' k/\Q k H'
end
def tx (l:List Nat):Str:=⟨l.toArray⟩
theorem qm (l:List Nat):(tx l).length=l.length:=by show l.toArray.size=_; simp
theorem Xg {z:Str} {l:List Nat} (h:z.cps.toList=l):z=tx l:=by subst h; cases z; simp[tx]
def dg (n:Int):List Nat:=(Nat.toDigits 10 n.toNat).map Char.toNat
theorem Vg {n:Int} (h:0<=n):Str.ofString (toString n)=tx (dg n):=by
 obtain⟨m,rfl⟩:=Int.eq_ofNat_of_zero_le h
 exact Xg (PySem.W.KIN.signs_num m)
theorem PB {n:Int} {k:Nat} (hk:0<k) (h1:n<10 ^ k):(dg n).length<=k:=by
 unfold dg
 rw[cg]
 refine(Nat.length_toDigits_le_iff (by decide) hk).mpr ?_
 by_cases h0:0<=n
 ·have:(n.toNat:Int)<((10 ^ k:Nat):Int):=by rw[Int.toNat_of_nonneg h0]; simpa using h1
  exact_mod_cast this
 ·rw[show n.toNat=0 by omega]
  exact Nat.pow_pos (by decide)
theorem Ko {m:Nat} (h:m<=1000000000000):m.log2<1920:=by
 by_cases e:m=0
 ·subst e; decide
 ·rw[Nat.log2_lt e]
  exact Nat.lt_of_le_of_lt h (jU (show 1000000000000<2 ^ 40 by decide) (JT (by decide) (by decide)))
theorem Pu {n:Int} (h0:0<=n) (h1:n<=1000000000000):YD (.int n)=some (tx (dg n)):=by
 show(if n.natAbs.log2<1920 then some (Str.ofString (toString n)) else none)=_
 rw[aM (Ko (by omega)),Vg h0]
section
variable {X:Cx}
end
end L2
namespace L2
open PySem
structure Pl (n:Nat) (d:PyData):Prop where
 hd:d.hasDict=false
 cl:d.canLay0=true
 dp:d.depth<=n
end L2
namespace L2
open PySem PySem.Spec PyProof.Rows
def Li (h:Heap) (e:Addr) (cls:Value) (T:Addr):Prop:=∃oe vs,h.get? e=some oe/\(oe.cls=cls/\oe.dict=none)/\oe.data=.fields vs/\vs[1]?=some (.ref T)/\vs[2]?=some .none
def Lf (h:Heap) (T:Addr):Prop:=∃oT ts,h.get? T=some oT/\oT.data=.fields ts/\ts[3]?=some .none
structure UT (fs:List Addr) (h h':Heap) (e T:Addr) (cls:Value):Prop where
 keep:∀b o,b≠e->b∉fs->h.get? b=some o->h'.get? b=some o
 slot:∀b o,b≠e->h.get? b=some o->∃sl,h'.get? b=some { o with slots:=sl }
 fresh:h.objs.size<=T
 ex:Li h' e cls T
 tb:Lf h' T
section
variable {M:Model} {A:Around} {E:Value->Shared->Prop} {s:Shared}
theorem vJ (o:Obj) (f:Array Value->Array Value):(Obj.mapFields f o).dict=o.dict:=by
 obtain⟨c,d,dt,sl⟩:=o
 cases dt <;> rfl
theorem entryE {base:Heap} {env:Env} {outer:List Env} {L e:Addr} {oe:Obj} {vs:Array Value} {head:Value} {nx:Bool} {Q:Unit->Shared->Prop}
  (fr:A.frames=some (env::outer)) (ff:s.heap.FunFrames base (env::outer)) (fL:env.frame=some L) (he:s.heap.get? e=some oe) (hdn:oe.dict=none) (hd:oe.data=.fields vs) (hz:1<vs.size) (hc:vs[2]?=some .none)
  (q:∀h' T,UT (frs (env::outer)) s.heap h' e T oe.cls->Q () { s with heap:=h' }) :
  wpAny M A (do
   let a <- frameOf env
   let pl <- entryPlaceOf L nx
   let b <- EntryCells.newEntry head a .none (rawInt L) .none pl
   setField (.ref e) 1 b) (fun _ s'=>wpAny M A (setFlight (.ref e) none) Q E s') E s:=by
 have ne:e∉frs (env::outer):=fun hm=>by
  obtain⟨_,o,ho,hf⟩:=ff.mem hm
  rw[he] at ho
  cases ho
  exact hf vs hd
 refine aN (wpAny_frameOf_fun fr ff fL fun h1 so=>aN (wpAny_entryPlaceOf fun pl hpl=>?_))
 obtain⟨sz,sk,ss⟩:=so
 unfold EntryCells.newEntry newFields
 refine aN (sy ?_ (hpl.sizeOk5 _ _ _ _ _))
 have e1:h1.get? e=some oe:=(sk e ne).trans he
 have pe:=gf (h:=h1) { cls:=.type "traceback",data:=.fields (([head,.ref L,.none,rawInt L,.none]:List Value)++(if pl.isEmpty then List.replicate 6 .none else pl)).toArray } e1
 have nT:h1.objs.size≠e:=BR (bW e1)
 have pT:=dR h1 (o:={ cls:=.type "traceback",data:=.fields (([head,.ref L,.none,rawInt L,.none]:List Value)++(if pl.isEmpty then List.replicate 6 .none else pl)).toArray }) rfl
 have pk:∀b o,h1.get? b=some o->(h1.push { cls:=.type "traceback",data:=.fields (([head,.ref L,.none,rawInt L,.none]:List Value)++(if pl.isEmpty then List.replicate 6 .none else pl)).toArray }).get? b=some o:=fun b o z=>gf _ z
 refine xN pe hd hz ?_
 generalize h1.push { cls:=.type "traceback",data:=.fields (([head,.ref L,.none,rawInt L,.none]:List Value)++(if pl.isEmpty then List.replicate 6 .none else pl)).toArray }=h2 at pe pT pk ⊢
 have dx:=Obj.data_mapFields hd (·.setIfInBounds 1 (Value.ref h1.objs.size))
 have pe3:=wJ (Obj.mapFields (·.setIfInBounds 1 (Value.ref h1.objs.size))) pe (Obj.isFreed_of_fields dx)
 have pT3:=(sO h2 (Obj.mapFields (·.setIfInBounds 1 (Value.ref h1.objs.size))) (Ne.symm nT)).trans pT
 have pk3:∀b o,b≠e->h1.get? b=some o->(h2.update e (Obj.mapFields (·.setIfInBounds 1 (Value.ref h1.objs.size)))).get? b=some o:=fun b o z y=>(sO h2 _ (Ne.symm z)).trans (pk b o y)
 have ce:=Obj.cls_mapFields oe (·.setIfInBounds 1 (Value.ref h1.objs.size))
 generalize h2.update e (Obj.mapFields (·.setIfInBounds 1 (Value.ref h1.objs.size)))=h3 at pe3 pT3 pk3 ⊢
 unfold setFlight
 have v1:(vs.setIfInBounds 1 (Value.ref h1.objs.size))[1]?=some (.ref h1.objs.size):=by simp[hz]
 refine aN (iD pe3 dx v1 ?_)
 rw[aM (show(Value.ref h1.objs.size != Value.none)=true by simp)]
 refine xN pT3 rfl (by simp only[e_,fj,m8,List.length_nil] <;> omega) ?_
 have d4:=Obj.data_mapFields (o:={ cls:=.type "traceback",data:=.fields (([head,.ref L,.none,rawInt L,.none]:List Value)++(if pl.isEmpty then List.replicate 6 .none else pl)).toArray }) rfl (·.setIfInBounds 3 ((none:Option Addr).elim Value.none fun f=>rawInt f))
 have pT4:=wJ (Obj.mapFields (·.setIfInBounds 3 ((none:Option Addr).elim Value.none fun f=>rawInt f))) pT3 (Obj.isFreed_of_fields d4)
 have o4:∀b,b≠h1.objs.size->(h3.update h1.objs.size (Obj.mapFields (·.setIfInBounds 3 ((none:Option Addr).elim Value.none fun f=>rawInt f)))).get? b=h3.get? b:=fun b z=>sO h3 _ (Ne.symm z)
 refine q _ h1.objs.size ⟨fun b o z y x=>?_,fun b o z x=>?_,Nat.le_of_eq sz.symm,⟨_,_,(o4 e (Ne.symm nT)).trans pe3,⟨ce,(vJ oe _).trans hdn⟩,dx,v1,by rw[Array.getElem?_setIfInBounds]; simpa using hc⟩,⟨_,_,pT4,d4,?_⟩⟩
 ·have x1:h1.get? b=some o:=(sk b y).trans x
  exact(o4 b (fW (bW x1))).trans (pk3 b o z x1)
 ·obtain⟨sl,x1⟩:=ss b o x
  exact⟨sl,(o4 b (fW (bW x1))).trans (pk3 b _ z x1)⟩
 ·first | (simp; done) | (rcases hpl with rfl | ⟨_,_,_,_,_,_,_,rfl⟩ <;> simp)
theorem R4 {base:Heap} {env:Env} {outer:List Env} {L e:Addr} {oe:Obj} {vs:Array Value} {Q:Unit->Shared->Prop}
  (fr:A.frames=some (env::outer)) (ff:s.heap.FunFrames base (env::outer)) (fL:env.frame=some L) (he:s.heap.get? e=some oe) (hdn:oe.dict=none) (hd:oe.data=.fields vs) (h1:vs[1]?=some .none) (h2:vs[2]?=some .none)
  (q:∀h' T,UT (frs (env::outer)) s.heap h' e T oe.cls->Q () { s with heap:=h' }):wpAny M A (leaving env (.ref e)) Q E s:=by
 unfold leaving noteFrame
 simp only[fL]
 refine aN (aN (iD he hd h1 ?_))
 rw[aK (by decide)]
 exact entryE fr ff fL he hdn hd (wK.mp h1).1 h2 q
structure Ws (fs:List Addr) (h h':Heap) (e T0 T:Addr) (cls:Value):Prop where
 keep:∀b o,b≠e->b≠T0->b∉fs->h.get? b=some o->h'.get? b=some o
 slot:∀b o,b≠e->b≠T0->h.get? b=some o->∃sl,h'.get? b=some { o with slots:=sl }
 old:∃o,h'.get? T0=some o
 fresh:h.objs.size<=T
 ex:Li h' e cls T
 tb:Lf h' T
theorem noteE2 {base:Heap} {env:Env} {outer:List Env} {L e T0:Addr} {cls:Value} {Q:Unit->Shared->Prop}
  (fr:A.frames=some (env::outer)) (ff:s.heap.FunFrames base (env::outer)) (fL:env.frame=some L) (he:Li s.heap e cls T0) (hT:Lf s.heap T0) (nT:T0≠e)
  (q:∀h' T,Ws (frs (env::outer)) s.heap h' e T0 T cls->Q () { s with heap:=h' }) :
  wpAny M A (noteFrame (.ref e) env) (fun _ s2=>wpAny M A (setFlight (.ref e) none) Q E s2) E s:=by
 obtain⟨oe,vs,e1,⟨ec,edn⟩,ed,ev,ev2⟩:=he
 obtain⟨oT,ts,t1,td,tv⟩:=hT
 subst ec
 unfold noteFrame
 simp only[fL]
 refine aN (iD e1 ed ev ?_)
 rw[aM (show(Value.ref T0 != Value.none)=true by simp)]
 refine aN (iD t1 td tv ?_)
 rw[aK (show ¬((Value.none==rawInt L)=true) by simp[rawInt])]
 have tz:=(wK.mp tv).1
 refine aN (xN t1 td tz ?_)
 have dT:=Obj.data_mapFields td (·.setIfInBounds 3 Value.none)
 have g1:=wJ (Obj.mapFields (·.setIfInBounds 3 Value.none)) t1 (Obj.isFreed_of_fields dT)
 have g2:∀b,b≠T0->(s.heap.update T0 (Obj.mapFields (·.setIfInBounds 3 Value.none))).get? b=s.heap.get? b:=fun b z=>sO _ _ (Ne.symm z)
 have gz:(s.heap.update T0 (Obj.mapFields (·.setIfInBounds 3 Value.none))).objs.size=s.heap.objs.size:=Heap.size_after_update ..
 have f2:(s.heap.update T0 (Obj.mapFields (·.setIfInBounds 3 Value.none))).FunFrames base (env::outer):=ff.of_keeps fun b o ho hf=>⟨o,(g2 b fun z=>by
  rw[z,t1] at ho
  cases ho
  exact hf ts td).trans ho,rfl⟩
 generalize s.heap.update T0 (Obj.mapFields (·.setIfInBounds 3 Value.none))=h2 at g1 g2 gz f2 ⊢
 refine entryE (s:={ s with heap:=h2 }) fr f2 fL ((g2 e (Ne.symm nT)).trans e1) edn ed (wK.mp ev).1 ev2 fun h' T l=>?_
 have nf:T0∉frs (env::outer):=fun hm=>by
  obtain⟨_,o,ho,hf⟩:=ff.mem hm
  rw[t1] at ho
  cases ho
  exact hf ts td
 exact q h' T ⟨fun b o z y x u=>l.keep b o z x ((g2 b y).trans u),fun b o z y u=>l.slot b o z ((g2 b y).trans u),⟨_,l.keep _ _ nT nf g1⟩,by rw[<- gz]; exact l.fresh,l.ex,l.tb⟩
end
section
variable {P:Program} {w:World} {H H':Hp} {h h':Heap} {a:Addr} {o:HO}
theorem cB.there (x:cB P w H h a o):∃u,h.get? a=some u:=by
 cases o with
 | lst xs=>obtain⟨_,_,_,_,e⟩:=x; exact⟨_,e⟩
 | tup xs=>obtain⟨_,_,_,ob,e,_⟩:=x; exact⟨_,e⟩
 | dK kvs=>obtain⟨_,_,_,_,o,_,_,e,_⟩:=x; exact⟨_,e⟩
 | dT kvs=>obtain⟨_,_,_,_,o,_,_,e,_⟩:=x; exact⟨_,e⟩
 | set S n=>obtain⟨o,_,_,_,e,_⟩:=x; exact⟨_,e⟩
 | ins C dx fs=>obtain⟨_,_,_,e,_⟩:=x; exact⟨_,e⟩
 | own y=>exact x
 | xd fs=>obtain⟨_,⟨_,_,_,e,_⟩,_⟩:=x; exact⟨_,e⟩
 | Q5 lo hi=>obtain⟨_,_,_,e⟩:=x; exact⟨_,e⟩
 | DY ob u=>obtain⟨e,_⟩:=x; exact⟨_,e⟩
 | Tr ps=>exact⟨_,(show h.get? a=some _ from x)⟩
 | met f y=>exact⟨_,(show h.get? a=some _ from x)⟩
 | ext φ=>obtain⟨_,e,_⟩:=x; exact e
theorem kI.none (x:kI P w H h) (e:h.get? a=none):H a=none:=by
 cases q:H a with
 | none=>rfl
 | some u=>
  obtain⟨v,z⟩:=(x a u q).there
  rw[e] at z; cases z
def wB (e:Addr) (cls:Value) (T:Addr):HO:=.ext fun h=>Li h e cls T
def wX (T:Addr):HO:=.ext fun h=>Lf h T
def QC (T:Addr):HO:=.ext fun h=>∃o,h.get? T=some o
theorem Od {e T:Addr} {cls:Value} (x:Li h e cls T):cB P w H h e (wB e cls T):=by
 refine⟨x,?_,?_⟩
 ·obtain⟨oe,vs,e1,_⟩:=x; exact⟨_,e1⟩
 ·rintro h1 h2 ⟨oe,vs,e1,r⟩ k
  exact⟨oe,vs,k _ e1,r⟩
theorem HH {T:Addr} (x:Lf h T):cB P w H h T (wX T):=by
 refine⟨x,?_,?_⟩
 ·obtain⟨oe,vs,e1,_⟩:=x; exact⟨_,e1⟩
 ·rintro h1 h2 ⟨oe,vs,e1,r⟩ k
  exact⟨oe,vs,k _ e1,r⟩
theorem Uo {T:Addr} (x:∃o,h.get? T=some o):cB P w H h T (QC T):=by
 refine⟨x,x,?_⟩
 rintro h1 h2 ⟨oe,e1⟩ k
 exact⟨oe,k _ e1⟩
theorem wB.at {e T:Addr} {cls:Value} (x:cB P w H h e (wB e cls T)):Li h e cls T:=x.1
theorem wX.at {T:Addr} (x:cB P w H h T (wX T)):Lf h T:=x.1
theorem kI.ext (x:kI P w H h) (S:Addr->Prop) (k:∀b u v,H b=some u->¬S b->h.get? b=some v->h'.get? b=some v) (hs:∀b,S b->H b=Option.none\/∃φ,H b=some (.ext φ))
  (o1:∀b,¬S b->H' b=H b) (o2:∀b u,S b->H' b=some u->cB P w H' h' b u):kI P w H' h':=fun b u e=>by
 by_cases z:S b
 ·exact o2 b u z e
 ·rw[o1 b z] at e
  refine(x b u e).stay (fun c v q y=>?_) (fun c q=>?_) (fun c xs q=>?_)
  ·rcases q with q | q
   ·subst q; exact k c u v e z y
   ·exact k c _ v q (fun y'=>(hs c y').elim (fun n=>by rw[n] at q; cases q) fun⟨φ,n⟩=>by rw[n] at q; cases q) y
  ·rw[o1 c fun y'=>(hs c y').elim (fun n=>by rw[n] at q; cases q) fun⟨φ,n⟩=>by rw[n] at q; cases q]; exact q
  ·rw[o1 c fun y'=>(hs c y').elim (fun n=>by rw[n] at q; cases q) fun⟨φ,n⟩=>by rw[n] at q; cases q]; exact q
end
def lA (P:Program) (w:World):Jl:=fun outer H s E e s'=>∃(a T:Addr) (cls:Value) (H':Hp),e=.ref a/\s'.os=s.os/\AllBare s'.gens/\Un (frs outer) [] H H' s.heap s'.heap/\kI P w H' s'.heap /\
 H' a=some (wB a cls T)/\H' T=some (wX T)/\T≠a/\(s.heap.get? a=none/\s.heap.get? T=none)/\E cls none H'
section
variable {P:Program} {w:World} {K:PySem.W.Frag} {mg:Str->Option Value} {base:Heap} {N:List Str} {qual:Str} {scope:Scope} {f:Addr} {cd:Value} {A:Around} {outer:List Env} {s0:Shared} {H0:Hp} {E:XK}
theorem E_ {pins:List (Addr×Obj)} {σ:St} {H:Hp} {s:Shared} {h2:Heap} {e C:Addr} {us:List Value} (I:Inv (fH (lA P w) P w K mg base N qual scope f cd A outer s0 H0 E) pins σ H s)
  (m:Heap.MadeExcOf s.heap h2 e (.ref C) us) (KC:kI P w H0 s0.heap) (q:∀H',aD H H'->E (.ref C) none H'):(fH (lA P w) P w K mg base N qual scope f cd A outer s0 H0 E).xe (.ref e) { s with heap:=h2 }:=by
 obtain⟨t,he,_,_⟩:=m.there
 have ff:h2.FunFrames base (envOfC qual scope s0.heap.objs.size f cd::outer):=(I.stack:s.heap.FunFrames base (envOfC qual scope s0.heap.objs.size f cd::outer)).of_keeps fun b o ho _=>⟨o,m.keeps b o ho,rfl⟩
 have fr:(A.deeper (envOfC qual scope s0.heap.objs.size f cd)).frames=some (envOfC qual scope s0.heap.objs.size f cd::outer):=I.ok.frames
 refine R4 (s:={ s with heap:=h2 }) fr ff rfl he rfl rfl rfl rfl fun h3 T l=>?_
 have ne:H e=none:=I.hok.none m.new
 have nT:H T=none:=I.hok.none (by
  cases z:s.heap.get? T with
  | none=>rfl
  | some o=>exact absurd (bW (m.keeps _ _ z)) (Nat.not_lt.mpr l.fresh))
 have Te:T≠e:=fun z=>by
  obtain⟨oe,vs,e1,e2,e3,e4⟩:=l.ex
  obtain⟨oT,ts,t1,t2,t3⟩:=l.tb
  have:=bW he
  have:=l.fresh
  have:e<h2.objs.size:=bW he
  subst z
  exact absurd this (Nat.not_lt.mpr l.fresh)
 have iL:∀b o,s0.heap.get? b=some o->b≠s0.heap.objs.size:=fun b o z=>fW (bW z)
 have ib:Un (frs outer) [] H0 H s0.heap s.heap:=I.base
 have u1:∀b,b≠T->b≠e->upd (upd H e (wB e (.ref C) T)) T (wX T) b=H b:=fun b y z=>by rw[aL y,aL z]
 have nb:∀b o,s.heap.get? b=some o->b≠e:=fun b o z y=>by rw[y,m.new] at z; cases z
 have nbT:∀b o,s.heap.get? b=some o->b≠T:=fun b o z y=>by
  have a1:=bW (m.keeps b o z)
  have a2:h2.objs.size<=T:=l.fresh
  subst y
  exact Nat.not_lt.mpr a2 a1
 have nf:∀b,b∉frs outer->b≠s0.heap.objs.size->b∉frs (envOfC qual scope s0.heap.objs.size f cd::outer):=fun b y z hm=>by
  rcases b_.mp (show b∈s0.heap.objs.size::frs outer from hm) with x | x
  ·exact z x
  ·exact y x
 have hu:∀b u,H b=some u->b≠e/\b≠T:=fun b u z=>⟨fun y=>(by rw[y,ne] at z; cases z),fun y=>(by rw[y,nT] at z; cases z)⟩
 refine⟨e,T,.ref C,upd (upd H e (wB e (.ref C) T)) T (wX T),rfl,I.os,I.bare,⟨fun b o z n y _=>?_,fun b o z n y x=>?_,fun b o z n x=>?_,fun b o z x=>?_,fun b xs z=>?_,fun b o u z=>?_,fun b ps z=>?_⟩,?_,?_,aC,Te,⟨?_,?_⟩,?_⟩
 ·have g:=ib.keep b o z n y (by simp)
  exact l.keep b o (nb b o g) (nf b y (iL b o z)) (m.keeps b o g)
 ·obtain⟨sl,g⟩:=ib.slot b o z n y x
  obtain⟨sl2,g2⟩:=l.slot b _ (nb b _ g) (m.keeps b _ g)
  exact⟨sl2,g2⟩
 ·obtain⟨o',g⟩:=ib.there b o z x
  rw[u1 b (nbT b _ g) (nb b _ g)]
  exact ib.free b o z n x
 ·obtain⟨o',g⟩:=ib.there b o z x
  obtain⟨sl2,g2⟩:=l.slot b _ (nb b _ g) (m.keeps b _ g)
  exact⟨_,g2⟩
 ·have g:=ib.tups b xs z
  rw[u1 b (hu b _ g).2 (hu b _ g).1]; exact g
 ·have g:=ib.wQ b o u z
  rw[u1 b (hu b _ g).2 (hu b _ g).1]; exact g
 ·obtain⟨more,g⟩:=ib.yS b ps z
  exact⟨more,by rw[u1 b (hu b _ g).2 (hu b _ g).1]; exact g⟩
 ·refine(show kI P w H s.heap from I.hok).ext (fun b=>b=e\/b=T) (fun b u v z y x=>?_) (fun b z=>?_) (fun b z=>?_) (fun b u z y=>?_)
  ·have g:=(I.hok b u z).there
   refine l.keep b v (fun q=>y (.inl q)) (fun hm=>?_) (m.keeps b v x)
   have:=I.tu b hm
   rw[z] at this; cases this
  ·rcases z with rfl | rfl
   ·exact .inl ne
   ·exact .inl nT
  ·exact u1 b (fun q=>z (.inr q)) fun q=>z (.inl q)
  ·rcases z with rfl | rfl
   ·rw[aL (Ne.symm Te),aC] at y
    cases y
    exact Od l.ex
   ·rw[aC] at y
    cases y
    exact HH l.tb
 ·rw[aL (Ne.symm Te),aC]
 ·cases z:s0.heap.get? e with
  | none=>rfl
  | some o=>
   obtain⟨o',g⟩:=ib.there e o z (by simp)
   rw[m.new] at g; cases g
 ·cases z:s0.heap.get? T with
  | none=>rfl
  | some o=>
   obtain⟨o',g⟩:=ib.there T o z (by simp)
   exact absurd rfl (nbT T o' g)
 ·exact q _ ((aO ne _).trans (aO (by rw[aL Te]; exact nT) _))
end
def U_:List Value:=[.type "ValueError",.type "Exception",.type "BaseException",.type "object"]
structure ExC (K:PySem.W.Frag) (mg:Str->Option Value) (x:Str) (C:Addr):Prop where
 bound:mg x=some (.ref C)
 ok:PySem.W.excIn K C U_ "ValueError.__new__" = true
theorem ExC.obj {K:PySem.W.Frag} {C:Addr} {h:Heap} (X:K.In h) (q:PySem.W.excIn K C U_ "ValueError.__new__" = true) :
  ∃bm N nm qn bs hdct sn sub ab col dd k0 k1 k2 k3 k5 mN,h.get? C=some (excClassObj nm qn C N bs bm hdct sn sub ab col dd k0 k1 k2 k3 k5 "ValueError.__new__")/\h.Ns N mN/\mN "__init__" = none/\OwnTail h U_ bm:=by
 unfold PySem.W.excIn at q
 split at q
 ·rename_i dd cd sl ho
  split at q
  ·rename_i C' bm k0 k1 k2 k3 n k5 hm hs
   simp only[Bw,beq_iff_eq,Bool.not_eq_true'] at q
   obtain⟨⟨⟨⟨⟨rfl,rfl⟩,a1⟩,a2⟩,a3⟩,a4⟩:=q
   cases cd with
   | mk nm bs mro ns qn hd sn sub ab col del=>
    dsimp only at hm a1 a3 a4
    subst hm a1
    obtain⟨l⟩:=sl
    have e:l=[k0,k1,k2,k3,some (.builtin "ValueError.__new__"),k5]:=hs
    subst e
    exact⟨bm,ns,nm,qn,bs,hd,sn,sub,ab,col,dd,k0,k1,k2,k3,k5,_,X _ _ ho,.of_isNs (PySem.W.isNs_of_in X a3),PySem.W.nsMap_none_of_in X a3 a4,PySem.W.tail_of_in X a2⟩
  ·cases q
 ·cases q
def Mm (E:XK) (C:Addr) (ta:TA):TS:=fun _ σ H=>ta σ H fun vs H1=>vs.length<=sizeLine/\∀H',aD H1 H'->E (.ref C) none H'
section
variable {P:Program} {w:World} {K:PySem.W.Frag} {mg:Str->Option Value} {base:Heap} {N:List Str} {qual:Str} {scope:Scope} {f:Addr} {cd:Value} {A:Around} {outer:List Env} {s0:Shared} {H0:Hp} {E:XK}
theorem Ck {x:Str} {C:Addr} {e0:Expr} {np cpos pos:Pos} {ta:TA} (c:ExC K mg x C) (KC:kI P w H0 s0.heap) (ha:PA (fH (lA P w) P w K mg base N qual scope f cd A outer s0 H0 E) [e0] ta) (hg:Gl (fH (lA P w) P w K mg base N qual scope f cd A outer s0 H0 E) x:=by rfl)
  (hd:(x==("__debug__" : Str))=false:=by decide)
  (he:starEach [e0] (fH (lA P w) P w K mg base N qual scope f cd A outer s0 H0 E).env=[(false,eval e0 (fH (lA P w) P w K mg base N qual scope f cd A outer s0 H0 E).env)]:=by rfl) :
  PS (fH (lA P w) P w K mg base N qual scope f cd A outer s0 H0 E) (.Raise (some (.Call (.Name x np) [e0] [] cpos)) none pos) (Mm E C ta):=by
 refine .mk ?_
 intro pins s σ H D I h
 obtain⟨bm,N1,nm,qn,bs,hdct,sn,sub,ab,col,dd,k0,k1,k2,k3,k5,mN,hC,hN,hni,T⟩:=ExC.obj (show K.In base from I.mod.Ur) c.ok
 have bk:∀{s:Shared} {H:Hp} {σ:St},Inv (fH (lA P w) P w K mg base N qual scope f cd A outer s0 H0 E) pins σ H s->∀b o,base.get? b=some o->s.heap.get? b=some o:=fun I=>I.bk
 refine wpAny_Raise_call_subU (C:=C) (nm:=nm) (q:=qn) (N:=N1) (bs:=bs) (bm:=bm) (hdct:=hdct) (sn:=sn) (sub:=sub) (ab:=ab) (col:=col) (dd:=dd) (k0:=k0) (k1:=k1) (k2:=k2) (k3:=k3) (k5:=k5) (newId:="ValueError.__new__")
  PySem.F.excBase_ValueError (by decide) PySem.F.excBase_ValueError (mN:=mN) (T.hasType PySem.F.excBase_ValueError.hasBase) (I.ok.hd rfl) (by rw[he]; rfl) hni (pN I hg c.bound ⟨rfl,?_⟩ hd)
 have g:=ha cpos pins s σ H _ I h
 rw[he] at g ⊢
 refine Calls.evalArgs_plain (fM g (fun us s2 z=>?_) fun _ _ y=>y)
 obtain⟨vs,H2,I2,rv,l2,q2⟩:=z
 refine⟨rfl,by rw[<- rv.length]; exact l2,bk I2 _ _ hC,hN.keeps (bk I2),T.keeps (bk I2),fun h' e m=>E_ I2 m KC q2⟩
end
section
variable {X:Cx} {pins:List (Addr×Obj)} {σ:St} {H:Hp} {s:Shared}
end
section
variable {X:Cx} {pins:List (Addr×Obj)} {σ:St} {H:Hp} {s:Shared}
abbrev Cx.in' (X:Cx) (e:Value):Cx:={ X with A:=X.A.mark (some e),calm:=false }
theorem Inv.inE (I:Inv X pins σ H s) (e:Value):Inv (X.in' e) pins σ H s:=
 ⟨⟨I.ok.mod,I.ok.kind,I.ok.glob,I.ok.blt,I.ok.above,I.ok.inj,I.ok.has,I.ok.cab,(fun z=>nomatch z),I.ok.frames,I.ok.Xx,I.ok.YJ,I.ok.bs,I.ok.Qh,I.ok.FT,I.ok.Gh,I.ok.sW,I.ok.Wb⟩,I.os,I.bare,I.base,I.loc,I.cell,I.free,I.jL,I.pin,I.hok,I.len⟩
theorem Inv.Rv {e:Value} (I:Inv (X.in' e) pins σ H s) (ok:X.Ok):Inv X pins σ H s:=⟨ok,I.os,I.bare,I.base,I.loc,I.cell,I.free,I.jL,I.pin,I.hok,I.len⟩
theorem Inv.ext {H':Hp} {h':Heap} (I:Inv X pins σ H s) (S:Addr->Prop) (keep:∀b o,¬S b->b∉frs X.stack->s.heap.get? b=some o->h'.get? b=some o) (slot:∀b o,¬S b->s.heap.get? b=some o->∃sl,h'.get? b=some { o with slots:=sl })
  (there:∀b o,S b->s.heap.get? b=some o->∃o',h'.get? b=some o') (hs:∀b,S b->(H b=none/\s.heap.get? b=none)\/∃φ,H b=some (.ext φ))
  (o1:∀b,¬S b->H' b=H b) (o2:∀b u,S b->H' b=some u->cB X.prog X.w H' h' b u):Inv X pins σ H' { s with heap:=h' }:=by
 have un:∀b o,s.heap.get? b=some o->H b=none->¬S b:=fun b o e n z=>by
  rcases hs b z with⟨_,q⟩ | ⟨φ,q⟩
  ·rw[e] at q; cases q
  ·rw[n] at q; cases q
 have tr:∀b u,H b=some u->(∀φ,u≠.ext φ)->H' b=some u:=fun b u e n=>by
  rw[o1 b fun z=>(hs b z).elim (fun q=>by rw[q.1] at e; cases e) fun⟨φ,q⟩=>by rw[q] at e; cases e; exact n φ rfl]
  exact e
 refine I.call (ch:=[]) (g':=s.gens) (t':=s.toks) (d':=s.drawn) ⟨fun b o e n hb _=>keep b o (un b o e n) hb e,fun b o e n hb _=>slot b o (un b o e n) e,fun b o e n _=>(by rw[o1 b (un b o e n)]; exact n),fun b o e _=>?_,fun b xs e=>tr b _ e (fun φ z=>by cases z),fun b o u e=>tr b _ e (fun φ z=>by cases z),fun b ps e=>⟨#[],(by rw[tr b _ e (fun φ z=>by cases z)]; simp)⟩⟩ ?_ I.bare fun b z=>nomatch z
 ·by_cases z:S b
  ·exact there b o z e
  ·obtain⟨sl,q⟩:=slot b o z e; exact⟨_,q⟩
 ·refine I.hok.ext S (fun b u v e z q=>?_) (fun b z=>(hs b z).elim (fun q=>.inl q.1) .inr) o1 o2
  refine keep b v z (fun hm=>?_) q
  have:=I.tu b hm
  rw[e] at this; cases this
theorem KD {M:Model} {A:Around} {E:Value->Shared->Prop} {a T:Addr} {cls:Value} {Q:Unit->Shared->Prop} (I:Inv X pins σ H s) (ha:H a=some (wB a cls T)) (hT:H T=some (wX T)) (q:∀s',Inv X pins σ H s'->Q () s') :
  wpAny M A (setFlight (.ref a) none) Q E s:=by
 obtain⟨oe,vs,e1,ec,ed,ev,_⟩:=wB.at (I.hok a _ ha)
 obtain⟨oT,ts,t1,td,tv⟩:=wX.at (I.hok T _ hT)
 unfold setFlight
 refine aN (iD e1 ed ev ?_)
 rw[aM (show(Value.ref T != Value.none)=true by simp)]
 have tz:=(wK.mp tv).1
 refine xN t1 td tz ?_
 have dT:=Obj.data_mapFields td (·.setIfInBounds 3 ((none:Option Addr).elim Value.none fun f=>rawInt f))
 have g1:=wJ (Obj.mapFields (·.setIfInBounds 3 ((none:Option Addr).elim Value.none fun f=>rawInt f))) t1 (Obj.isFreed_of_fields dT)
 have g2:∀b,b≠T->(s.heap.update T (Obj.mapFields (·.setIfInBounds 3 ((none:Option Addr).elim Value.none fun f=>rawInt f)))).get? b=s.heap.get? b:=fun b z=>sO _ _ (Ne.symm z)
 refine q _ (I.ext (fun b=>b=T) (fun b o z _ e=>(g2 b z).trans e) (fun b o z e=>⟨o.slots,(g2 b z).trans e⟩) (fun b o z e=>by subst z; exact⟨_,g1⟩) (fun b z=>.inr (by subst z; exact⟨_,hT⟩)) (fun _ _=>rfl) fun b u z e=>?_)
 subst z
 rw[hT] at e
 cases e
 exact HH ⟨_,_,g1,dT,by simp[tz]⟩
end
def Y9 (H:Hp) (a:Addr) (cls:Value):Prop:=∃T,H a=some (wB a cls T)
section
variable {X:Cx} {pins:List (Addr×Obj)} {σ:St} {H1:Hp} {s1 s':Shared}
end
section
variable {P:Program} {w:World} {K:PySem.W.Frag} {mg:Str->Option Value} {base:Heap}
theorem Pq {CX:Jl} {k:Nat} {f:Addr} {name qual:Str} {params:Arguments} {body:List Stmt} {scope:Scope} {dV kV doc pm cdv ct oc:Value} {an od:Option Addr}
  {osl:Array (Option Value)} {N ps:List Str} {sp:Sp} (lk:K.lookup f=some ⟨oc,od,.func (PySem.W.fnOf name qual params body scope dV kV doc pm an cdv ct),osl⟩) (hcd:PySem.W.codeIn K cdv qual=true) (S:aU N ps scope)
  (len:∀vs H Q E,sp vs H Q E->vs.length=ps.length)
  (hbody:∀(A:Around) (outer:List Env) (s:Shared) (H:Hp) (vs:List V) (Q:VK) (E:XK),kI P w H s.heap->gG k (A.deeper (envOfC qual scope s.heap.objs.size f cdv))->sp vs H Q E ->
   ∃t,wY (fH CX P w K mg base N qual scope f cdv A outer s H E) body t/\t { nx:=fun _ H'=>Q .non H',rt:=Q } (start N vs) H) :
  bM P w K mg base CX (k+1) f (PySem.W.fnOf name qual params body scope dV kV doc pm an cdv ct) ps sp:=by
 refine⟨len,fun A outer s H args us vs Q E hr e0 hb r hsp=>?_⟩
 have hl:=len _ _ _ _ hsp
 have KX:K.In s.heap:=e0.mod.Ur.keeps fun b o e=>(e0.bs b o e).1
 have lim:s.heap.NoLimit:=e0.mod.nolimit.keeps fun b o e=>(e0.bs b o e).1
 have hkind:∀y∈ps.zip us,scope.names.lookup y.1=some .local\/(scope.names.lookup y.1=some .cell/\((cellsFrom (s.heap.objs.size+1) scope.names []).lookup y.1).isSome=true):=fun⟨n,v⟩ hy=>by
  rcases S.par n (List.of_mem_zip hy).1 with q | q
  ·exact .inl q
  ·exact .inr ⟨q,PySem.W.cellsFrom_some _ _ _ (.inl q)⟩
 refine codeAny_call_function hr.depth (KX _ _ lk) rfl S.co S.gen rfl (PySem.W.codeRec_of KX hcd) (hb _ _ _ _ ?_)
 refine wpAny_newFunctionEnv_cells S.kind hkind fun env he s1 x=>?_
 subst he
 refine⟨lim.keeps x.toInCall.keep,codeAny_func ?_⟩
 obtain⟨t,ht,hq⟩:=hbody A outer s H vs Q E e0.hok (hr.deeper _) hsp
 have I:Inv (fH CX P w K mg base N qual scope f cdv A outer s H E) [] (start N vs) H s1:=yc S hr.hd e0 hl r x
 refine fM (ht [] s1 (start N vs) H _ I hq) (fun fl s' hs=>?_) fun e s' hs=>hs
 have fin:∀{σ':St} {H':Hp} {v:V} {u:Value},Inv (fH CX P w K mg base N qual scope f cdv A outer s H E) [] σ' H' s'->RelV v u->Q v H'->CE outer P w H s Q u s':=
  fun {σ' H' v u} J rv q=>⟨v,H',J.os,J.bare,J.base,J.hok,rv,q⟩
 cases fl with
 | ret u=>
  obtain⟨v,σ',H',J,rv,q⟩:=hs
  exact fin J rv q
 | next=>
  obtain⟨σ',H',J,q⟩:=hs
  exact fin (v:=V.non) (u:=Value.none) J rfl q
 | brk=>
  obtain⟨_,_,_,q⟩:=hs
  exact False.elim q
 | cont=>
  obtain⟨_,_,_,q⟩:=hs
  exact False.elim q
theorem iV.Wx {x qual:Str} {st:Stmt} {f:Addr} {fd:FuncData} {N ps:List Str} {k:Nat} {sp:Sp} (F:iV K x qual st f fd) (S:aU N ps (aH st)) (len:∀vs H Q E,sp vs H Q E->vs.length=ps.length)
  (hbody:∀(cdv:Value) (A:Around) (outer:List Env) (s:Shared) (H:Hp) (vs:List V) (Q:VK) (E:XK),kI P w H s.heap->gG k (A.deeper (envOfC qual (aH st) s.heap.objs.size f cdv))->sp vs H Q E ->
   ∃t,wY (fH (lA P w) P w K mg base N qual (aH st) f cdv A outer s H E) (cN st) t/\t { nx:=fun _ H'=>Q .non H',rt:=Q } (start N vs) H):bM P w K mg base (lA P w) (k+1) f fd ps sp:=by
 obtain⟨oc,od,kV,doc,pm,an,cdv,ct,osl,rfl,lk,hcd⟩:=F.ex
 exact Pq lk hcd S len fun A outer s H vs Q E KC hr hsp=>hbody cdv A outer s H vs Q E KC hr hsp
structure Lj (P:Program) (w:World) (K:PySem.W.Frag) (mg:Str->Option Value) (base:Heap) (k:Nat) (x:Str) (ps:List Str) (sp:Sp) where
 f:Addr
 fd:FuncData
 G:bM P w K mg base (lA P w) k f fd ps sp
 kp:PySem.W.keepIn K (.ref f)=true
 b:Binds K fd ps []
 m:mg x=some (.ref f)
def Lj.mono {j k:Nat} {x:Str} {ps:List Str} {sp:Sp} (c:Lj P w K mg base j x ps sp) (h:j<=k):Lj P w K mg base k x ps sp:={ c with G:=c.G.mono h }
def Lj.calm {k:Nat} {x:Str} {ps:List Str} {sp:Sp} (c:Lj P w K mg base k x ps sp):Ct P w K mg base k x ps (fun vs H Q _=>sp vs H Q E0):=⟨c.f,c.fd,⟨fun vs H Q E h=>c.G.len _ _ _ _ h,fun A outer s H args us vs Q E hr he hb hv h=>codeAny_mono (c.G.run A outer s H args us vs Q E0 hr he hb hv h) fun r s' z=>by
 cases r with
 | error e=>
  obtain⟨_,_,_,_,_,_,_,_,_,_,_,_,_,q⟩:=z
  exact q.elim
 | ok fl=>cases fl <;> exact z⟩,c.kp,c.b,c.m⟩
end
section
variable {prog:Program} {w:World} {A:Around} {E:Value->Shared->Prop} {s:Shared} {K:PySem.W.Frag} {x D:Addr} {ox:Obj} {od:Option Obj}
structure ExK (K:PySem.W.Frag) (D:Addr):Prop where
 ga:PySem.W.findIn K (.ref D) "__getattribute__" = some (some (.builtin "BaseException.__getattribute__"))
 gt:PySem.W.findIn K (.ref D) "__getattr__" = some none
 fo:PySem.W.findObj K D none "__class__" = some (.bind (.builtin "getset_descriptor.__get__") (.builtin "object.__class__"))
 sb:PySem.W.subIn K (.ref D) (.type "BaseException")=some true
 ob:PySem.W.mroIn K D (.type "object")=some true
end
section
variable {X:Cx}
end
noncomputable instance ZF:DecidableEq PyData:=fun a b=>Classical.propDecidable (a=b)
mutual
def nY:PyData->Bool
 | .int _=>true
 | .tuple ds=>d9 ds
 | _=>false
def d9:List PyData->Bool
 | []=>true
 | d::ds=>nY d&&d9 ds
end
theorem u_:∀{ds:List PyData},d9 ds=true↔∀d∈ds,nY d=true
 | []=>by simp[d9]
 | d::ds=>by
  have ih:=u_ (ds:=ds)
  simp only[d9,Bw,ih,b_,forall_eq_or_imp]
mutual
theorem nW:∀d:PyData,nY d=true->d.canLay0=true/\d.hasDict=false/\uZ d=true
 | .int _,_=>⟨rfl,rfl,rfl⟩
 | .tuple ds,h=>by
  obtain⟨h1,h2,h3⟩:=HJ ds (by simpa[nY] using h)
  exact⟨by simpa[PyData.canLay0] using h1,by simpa[PyData.hasDict] using h2,by simpa[uZ] using h3⟩
 | .none,h=>nomatch h
 | .bool _,h=>nomatch h
 | .str _,h=>nomatch h
 | .list _,h=>nomatch h
 | .dict _,h=>nomatch h
theorem HJ:∀ds:List PyData,d9 ds=true->PyData.canLayAll0 ds=true/\PyData.hasDictAll ds=false/\bJ ds=true
 | [],_=>⟨rfl,rfl,rfl⟩
 | d::ds,h=>by
  have h':nY d=true/\d9 ds=true:=by simpa[d9] using h
  obtain⟨h1,h2,h3⟩:=nW d h'.1
  obtain⟨g1,g2,g3⟩:=HJ ds h'.2
  exact⟨by simp[PyData.canLayAll0,h1,g1],by simp[PyData.hasDictAll,h2,g2],by simp[bJ,h3,g3]⟩
end
mutual
theorem zV:∀d e:PyData,nY d=true->nY e=true->(PyData.eqv d e=true↔d=e)
 | .int i,.int j,_,_=>by simp[PyData.eqv]
 | .int i,.tuple es,_,_=>by simp[PyData.eqv]
 | .tuple ds,.int j,_,_=>by simp[PyData.eqv]
 | .tuple ds,.tuple es,h,g=>by
  have:=CP ds es (by simpa[nY] using h) (by simpa[nY] using g)
  simpa[PyData.eqv] using this
 | .none,_,h,_=>nomatch h
 | .bool _,_,h,_=>nomatch h
 | .str _,_,h,_=>nomatch h
 | .list _,_,h,_=>nomatch h
 | .dict _,_,h,_=>nomatch h
 | .int _,.none,_,h=>nomatch h
 | .int _,.bool _,_,h=>nomatch h
 | .int _,.str _,_,h=>nomatch h
 | .int _,.list _,_,h=>nomatch h
 | .int _,.dict _,_,h=>nomatch h
 | .tuple _,.none,_,h=>nomatch h
 | .tuple _,.bool _,_,h=>nomatch h
 | .tuple _,.str _,_,h=>nomatch h
 | .tuple _,.list _,_,h=>nomatch h
 | .tuple _,.dict _,_,h=>nomatch h
theorem CP:∀ds es:List PyData,d9 ds=true->d9 es=true->(PyData.eqvAll ds es=true↔ds=es)
 | [],[],_,_=>by simp[PyData.eqvAll]
 | [],_::_,_,_=>by simp[PyData.eqvAll]
 | _::_,[],_,_=>by simp[PyData.eqvAll]
 | d::ds,e::es,h,g=>by
  have h':nY d=true/\d9 ds=true:=by simpa[d9] using h
  have g':nY e=true/\d9 es=true:=by simpa[d9] using g
  have h1:=zV d e h'.1 g'.1
  have h2:=CP ds es h'.2 g'.2
  simp[PyData.eqvAll,h1,h2]
end
theorem RJ {d e:PyData} (h:nY d=true) (g:nY e=true):PyData.eqv d e=decide (d=e):=by
 by_cases z:d=e
 ·rw[iT z]; exact(zV d e h g).mpr z
 ·rw[fX z]
  cases q:PyData.eqv d e with
  | false=>rfl
  | true=>exact absurd ((zV d e h g).mp q) z
mutual
def bw:PyData->Int
 | .int i=>hashInt i
 | .tuple ds=>reduceHash (Builtin.Tuple.tupleHashOf (gB ds))
 | _=>0
def gB:List PyData->List Int
 | []=>[]
 | d::ds=>bw d::gB ds
end
mutual
def IK:PyData->Nat
 | .tuple ds=>jn ds+1
 | _=>1
def jn:List PyData->Nat
 | []=>0
 | d::ds=>IK d+jn ds
end
theorem vB:∀a b:List PyData,gB (a++b)=gB a++gB b
 | [],_=>rfl
 | d::a,b=>by rw[List.cons_append,gB,gB,vB a b]; rfl
theorem vH:∀a b:List PyData,jn (a++b)=jn a+jn b
 | [],_=>by rw[xQ,jn,wI]
 | d::a,b=>by rw[List.cons_append,jn,jn,vH a b,Bt]
theorem jM:∀{ds:List PyData} {d:PyData},d∈ds->d.depth<=PyData.depthAll ds
 | x::ds,d,h=>by
  show d.depth<=max x.depth (PyData.depthAll ds)
  rcases b_.mp h with rfl | h
  ·omega
  ·have:=jM h
   omega
def Av (prog:Program) (w:World) (d:PyData):Prop:=∀(A:Around) (E:Value->Shared->Prop) (s:Shared) (v:Value) (as:List Addr) (Q:Int->Shared->Prop),Reads s.heap v d as->A.units+d.depth<cLine ->
 Q (bw d) { s with toks:=s.toks+IK d }->wpAny (model prog w) A (PySem.pyHash v) Q E s
theorem Pa {prog:Program} {w:World} {ds:List PyData} (ih:∀d∈ds,Av prog w d):Av prog w (.tuple ds):=by
 intro A E s v as Q r hu h
 cases r with
 | @tuple a o items n _ _ ho hc hd hi=>
 have hT:s.TypeIs (.ref a) "tuple" := ⟨o,ho,hc⟩
 have adN:A.units+(PyData.depthAll ds+1)<cLine:=hu
 have hu0:A.units<cLine:=by omega
 unfold pyHash
 first | unfold pyHashByItsType | skip
 first | refine aN (wpAny_cRoomFor_or (.inr hu0) ?_) | skip
 refine aN (xT hT F.slot_tuple_hash.lookup ?_)
 show wpAny _ _ (if(some (Value.builtin "tuple.__hash__")==some Value.none)=true then _ else _) Q E s
 rw[aK (by rw[beq_builtin_none]; exact jD)]
 refine aN (xT hT F.slot_tuple_hash.lookup ?_)
 show wpAny _ _ (callSpecialIfBoundUnlessNone? (.ref a) "__hash__" _ >>= _) Q E s
 refine aN (wpAny_callSpecialIfBoundUnlessNone?_slot hT F.slot_tuple_hash (uJ F.slot_tuple_hash hT F.entry_tuple_hash ?_ (F.args_tuple_hash_1 _)))
 show wpAny _ _ (Builtin.Tuple.tupleItemsOf (.ref a) >>= _) _ _ s
 refine aN (wpAny_tupleItemsOf ho hd ?_)
 refine aN ?_
 rw[<- Hl]
 refine Cd _
  (fun rest (b:Array Int) s'=>∃done left bs,ds=done++left/\ReadsAll s.heap rest left bs/\b.toList=gB done/\s'={ s with toks:=s.toks+jn done })
  _ ?_ ?_ _ _ ⟨[],ds,_,rfl,hi,rfl,rfl⟩
 ·rintro x rest b s' ⟨done,left,bs,e,hl,hb,rfl⟩
  cases hl with
  | @cons _ _ k ks' as1 WM h1 hl'=>
   have hk:k∈ds:=by rw[e]; simp
   refine aN (ih k hk _ _ _ _ _ _ h1 ?_ ?_)
   ·have:=jM hk
    show A.units+1+k.depth<cLine
    omega
   ·exact bH ⟨done++[k],ks',_,by rw[e]; simp,hl',by rw[vB]; simp[hb,gB],by rw[vH]; simp[jn,Bt]⟩
 ·rintro b s' ⟨done,left,bs,e,hl,hb,rfl⟩
  cases hl
  rw[kZ] at e
  subst e
  show wpAny _ _ (retInt (Builtin.Tuple.tupleHashOf b.toList)) _ _ _
  rw[hb]
  refine wpAny_ret_mkInt ?_
  show wpAny _ _ (if(decide (-(2:Int) ^ 63<=Builtin.Tuple.tupleHashOf (gB ds))&&decide (Builtin.Tuple.tupleHashOf (gB ds)<2 ^ 63))=true then _ else _) Q E _
  unfold bw reduceHash IK at h
  by_cases hr:(decide (-(2:Int) ^ 63<=Builtin.Tuple.tupleHashOf (gB ds))&&decide (Builtin.Tuple.tupleHashOf (gB ds)<2 ^ 63))=true
  ·rw[aM hr]
   rw[aM hr] at h
   exact bH (by simpa[Bt] using h)
  ·rw[aK hr]
   rw[aK hr] at h
   exact aN (pI (bH (by simpa[Bt] using h)))
mutual
theorem yf {prog:Program} {w:World}:∀d:PyData,nY d=true->Av prog w d
 | .int i,_=>by
  intro A E s v as Q r hu h
  cases r
  exact wpAny_pyHash_int h
 | .tuple ds,h=>Pa (vA ds (by simpa[nY] using h))
 | .none,h=>nomatch h
 | .bool _,h=>nomatch h
 | .str _,h=>nomatch h
 | .list _,h=>nomatch h
 | .dict _,h=>nomatch h
theorem vA {prog:Program} {w:World}:∀ds:List PyData,d9 ds=true->∀d∈ds,Av prog w d
 | [],_,d,hd=>by cases hd
 | x::ds,h,d,hd=>by
  have h':nY x=true/\d9 ds=true:=by simpa[d9] using h
  rcases b_.mp hd with e | e
  ·rw[e]; exact yf x h'.1
  ·exact vA ds h'.2 d e
end
def tY (prog:Program) (w:World) (d:PyData):Prop:=∀(n:Nat) (A:Around) (E:Value->Shared->Prop) (s:Shared) (v:Value) (as:List Addr) (Q:Bool->Shared->Prop),Reads s.heap v d as->d.depth<=n->Q true s ->
 wpAny (model prog w) A (eqIsQuiet n v) Q E s
theorem J0 {prog:Program} {w:World} {ds:List PyData} (ih:∀d∈ds,tY prog w d):tY prog w (.tuple ds):=by
 intro n A E s v as Q r hn h
 have hn:PyData.depthAll ds+1<=n:=hn
 obtain⟨m,rfl⟩:∃m,n=m+1:=⟨n-1,by omega⟩
 cases r with
 | @tuple a o items nn _ _ ho hc hd hi=>
 have hT:s.TypeIs (.ref a) "tuple" := ⟨o,ho,hc⟩
 unfold eqIsQuiet
 refine aN (xT hT F.slot_tuple_eq.lookup ?_)
 show wpAny _ _ (isInstance (.ref a) (.type "tuple") >>= _) _ _ s
 refine aN (wpAny_isInstance hT isSubtype_tuple_tuple ?_)
 simp only[zj,iU,if_false]
 refine aN (pG ho hd ?_)
 refine aN ?_
 show wpAny _ _ (forIn items _ _) _ _ s
 rw[<- Hl]
 refine Cd _ (fun rest r s'=>r.1=none/\s'=s/\∃left bs,(∀d∈left,d∈ds)/\ReadsAll s.heap rest left bs) _ ?_ ?_ _ _ ⟨rfl,rfl,ds,_,fun d h=>h,hi⟩
 ·rintro v rest r s' ⟨hr,rfl,left,bs,hall,hl⟩
  cases hl with
  | @cons _ _ k ks' as1 WM h1 hl'=>
  have hk:=hall k jl
  have:=jM hk
  refine aN (ih k hk m _ _ _ _ _ _ h1 (by omega) ?_)
  simp only[zj,iU,if_false]
  exact bH ⟨rfl,rfl,ks',WM,fun d h=>hall d (iG _ h),hl'⟩
 ·rintro⟨r1,r2⟩ s' ⟨hr,rfl,_⟩
  simp only at hr
  subst hr
  exact bH h
mutual
theorem uM {prog:Program} {w:World}:∀d:PyData,nY d=true->tY prog w d
 | .int i,_=>by
  intro n A E s v as Q r hu h
  cases r
  rw[eqIsQuiet_byValue _ rfl]
  exact bH h
 | .tuple ds,h=>J0 (rN ds (by simpa[nY] using h))
 | .none,h=>nomatch h
 | .bool _,h=>nomatch h
 | .str _,h=>nomatch h
 | .list _,h=>nomatch h
 | .dict _,h=>nomatch h
theorem rN {prog:Program} {w:World}:∀ds:List PyData,d9 ds=true->∀d∈ds,tY prog w d
 | [],_,d,hd=>by cases hd
 | x::ds,h,d,hd=>by
  have h':nY x=true/\d9 ds=true:=by simpa[d9] using h
  rcases b_.mp hd with e | e
  ·rw[e]; exact uM x h'.1
  ·exact rN ds h'.2 d e
end
mutual
theorem uH {h h':Heap} (k:∀b o,h.get? b=some o->o.cls=.type "tuple" -> (∃vs n,o.data=.seq vs n)->h'.get? b=some o):∀(d:PyData) (v:Value) (as:List Addr),nY d=true->Reads h v d as->Reads h' v d as
 | .int i,_,_,_,r=>by cases r; exact .int _ _
 | .tuple ds,_,_,g,r=>by
  cases r with
  | tuple ho hc hd hi=>exact .tuple (k _ _ ho hc ⟨_,_,hd⟩) hc hd (rM k ds _ _ (by simpa[nY] using g) hi)
 | .none,_,_,h,_=>nomatch h
 | .bool _,_,_,h,_=>nomatch h
 | .str _,_,_,h,_=>nomatch h
 | .list _,_,_,h,_=>nomatch h
 | .dict _,_,_,h,_=>nomatch h
theorem rM {h h':Heap} (k:∀b o,h.get? b=some o->o.cls=.type "tuple" -> (∃vs n,o.data=.seq vs n)->h'.get? b=some o):∀(ds:List PyData) (vs:List Value) (as:List Addr),d9 ds=true->ReadsAll h vs ds as->ReadsAll h' vs ds as
 | [],_,_,_,r=>by cases r; exact .nil
 | d::ds,_,_,g,r=>by
  have g':nY d=true/\d9 ds=true:=by simpa[d9] using g
  cases r with
  | cons h1 h2=>exact .cons (uH k d _ _ g'.1 h1) (rM k ds _ _ g'.2 h2)
end
noncomputable def bD (prog:Program) (w:World):HeapKind prog w PyData where
 is:=fun h d a=>nY d=true/\d.depth<=8/\∃as,Reads h (.ref a) d as
 hash:=bw
 draws:=IK
 room:=fun A=>A.units+60<cLine
 inj:=fun⟨g,_,_,r⟩ ⟨_,_,_,r'⟩=>SeqAt.Reads.unique _ _ _ _ _ (nW _ g).1 r r'
 keeps:=fun {h h' k a d o es ep} ⟨g,dp,as,r⟩ ho hd hs=>⟨g,dp,as,uH (fun b ob hb hc ⟨vs,n,hq⟩=>by
  have hne:b≠d:=by
   rintro rfl
   obtain rfl:ob=o:=Option.some.inj (hb.symm.trans ho)
   rw[hd] at hq; exact nomatch hq
  exact(hs.2 b hne).trans hb) _ _ _ g r⟩
 pyHash:=fun hu ⟨g,dp,as,r⟩ h=>yf _ g _ _ _ _ _ _ r (by omega) h
 eqBool:=fun {A E s x y a b Q} hu ⟨g,dp,as,r⟩ ⟨g',dp',as',r'⟩ h=>by
  have:=SeqAt.eqAt_reads x y A s _ _ _ _ r r' (nW _ g).1 (nW _ g').1 (by have:=B_ x.depth y.depth; omega)
  rw[RJ g g'] at this
  exact this prog w E Q h
 quiet:=fun⟨g,dp,as,r⟩ h=>uM _ g 8 _ _ _ _ _ _ r dp h
mutual
theorem At.tupS {H H':Hp} (k:∀b xs,H b=some (.tup xs)->H' b=some (.tup xs)):∀(d:PyData) (v:V),uZ d=true->At H d v->At H' d v
 | .none,_,_,h=>by unfold At at h ⊢; exact h
 | .bool _,_,_,h=>by unfold At at h ⊢; exact h
 | .int _,_,_,h=>by unfold At at h ⊢; exact h
 | .str _,_,_,h=>by unfold At at h ⊢; exact h
 | .tuple ds,v,n,h=>by
  unfold At at h ⊢
  obtain⟨a,ys,e,h1,h2⟩:=h
  exact⟨a,ys,e,k _ _ h1,aa.tupS k ds ys (by simpa[uZ] using n) h2⟩
 | .list _,_,n,_=>by simp[uZ] at n
 | .dict _,_,n,_=>by simp[uZ] at n
theorem aa.tupS {H H':Hp} (k:∀b xs,H b=some (.tup xs)->H' b=some (.tup xs)):∀(ds:List PyData) (ys:List V),bJ ds=true->aa H ds ys->aa H' ds ys
 | [],_,_,h=>by unfold aa at h ⊢; exact h
 | d::ds,ys,n,h=>by
  unfold aa at h ⊢
  obtain⟨x,r,e,h1,h2⟩:=h
  have n':uZ d=true/\bJ ds=true:=by simpa[bJ] using n
  exact⟨x,r,e,At.tupS k d x n'.1 h1,aa.tupS k ds r n'.2 h2⟩
end
structure wz (d:PyData):Prop where
 t:∃ds,d=.tuple ds
 k:nY d=true
 dp:d.depth<=8
section
variable {X:Cx} {pins:List (Addr×Obj)} {σ:St} {H:Hp} {s:Shared} {a:Addr} {kvs:List (PyData×V)}
theorem CN (ok:kI X.prog X.w H s.heap) {d:PyData} {b:Addr} (hk:wz d) (hd:At H d (.ref b)):(bD X.prog X.w).is s.heap d b:=by
 obtain⟨as,r⟩:=gO ok d (.ref b) (.ref b) hd rfl (nW _ hk.k).2.1
 exact⟨hk.k,hk.dp,as,r⟩
theorem tL {A:Around} (hu:A.units+64<cLine):(bD X.prog X.w).room A.in1:=by
 show A.units+1+60<cLine
 omega
def nM (H:Hp) (d:PyData) (y:V):Prop:=wz d/\At H d y
theorem nM.ref {d:PyData} {y:V} {u:Value} (k:nM H d y) (r:RelV y u):∃b,y=.ref b/\u=.ref b:=by
 obtain⟨⟨⟨ds,rfl⟩,_,_⟩,h⟩:=k
 unfold At at h
 obtain⟨b,_,rfl,_,_⟩:=h
 exact⟨b,rfl,r⟩
end
section
variable {X:Cx}
end
def gR:Nat->Nat->Nat
 | 0,x=>x
 | r+1,x=>gR r (5*x+1)
theorem Ge:∀(r s x:Nat),gR (r+s) x=gR s (gR r x)
 | 0,s,x=>by rw[wI]; rfl
 | r+1,s,x=>by rw[show r+1+s=(r+s)+1 by omega]; exact Ge r s (5*x+1)
theorem Pj:∀k:Nat,∃a b:Nat,∀x,gR (2 ^ k) x=(1+4*2 ^ k*a)*x+2 ^ k*(1+2*b)
 | 0=>⟨1,0,fun x=>by show 5*x+1=(1+4*1*1)*x+1*(1+2*0); omega⟩
 | k+1=>by
  obtain⟨a,b,h⟩:=Pj k
  refine⟨a+2*2 ^ k*a*a,b+2 ^ k*a+2*b*2 ^ k*a,fun x=>?_⟩
  rw[show 2 ^ (k+1)=2 ^ k+2 ^ k by rw[BV]; omega,Ge,h,h]
  generalize 2 ^ k=P
  grind
theorem Sh (k x:Nat):gR (2 ^ k) x % (2 ^ k*2)=(x+2 ^ k) % (2 ^ k*2):=by
 obtain⟨a,b,h⟩:=Pj k
 rw[h]
 generalize 2 ^ k=P
 have e:(1+4*P*a)*x+P*(1+2*b)=(x+P)+P*2*(2*a*x+b):=by grind
 rw[e,Nat.add_mul_mod_self_left]
theorem Kl {P z y:Nat} (h:z % P=y % P):z % (P*2)=y % (P*2)\/(z+P) % (P*2)=y % (P*2):=by
 rcases Nat.eq_zero_or_pos P with e | hp
 ·subst e
  left
  simpa using h
 ·rw[Nat.mod_mul,Nat.mod_mul (x:=y),Nat.mod_mul (x:=z+P),h,Nat.add_mod_right,h,Nat.add_div_right _ hp]
  rcases Nat.mod_two_eq_zero_or_one (z / P) with a | a <;> rcases Nat.mod_two_eq_zero_or_one (y / P) with b | b
  ·left; rw[a,b]
  ·right; rw[b,show(z / P).succ % 2=1 by omega]
  ·right; rw[b,show(z / P).succ % 2=0 by omega]
  ·left; rw[a,b]
theorem Ab:∀(k x y:Nat),∃r,r<2 ^ k/\gR r x % 2 ^ k=y % 2 ^ k
 | 0,x,y=>⟨0,by decide,by rw[Nat.pow_zero,Nat.mod_one,Nat.mod_one]⟩
 | k+1,x,y=>by
  obtain⟨r,hr,e⟩:=Ab k x y
  have hp:0<2 ^ k:=Nat.pow_pos (by decide)
  rw[BV]
  rcases Kl e with z | z
  ·exact⟨r,by omega,z⟩
  ·exact⟨r+2 ^ k,by omega,by rw[Ge,Sh]; exact z⟩
open SetTable (Probe runEnd leap turns bits)
def yH (m:Nat) (p:Probe):Probe:=
 if p.more>0 then { p with j:=p.j+1,more:=p.more-1 } else
 { p with j:=(leap m p.i p.perturb).1,more:=runEnd m (leap m p.i p.perturb).1-(leap m p.i p.perturb).1,i:=(leap m p.i p.perturb).1,perturb:=(leap m p.i p.perturb).2 }
theorem Wm (t:SetTable) (p:Probe):t.advance p=yH t.mask p:=rfl
def fJ (m:Nat):Nat->Probe->Probe
 | 0,p=>p
 | n+1,p=>fJ m n (yH m p)
theorem j8 (m:Nat):∀(a b:Nat) (p:Probe),fJ m (a+b) p=fJ m b (fJ m a p)
 | 0,b,p=>by rw[wI]; rfl
 | a+1,b,p=>by rw[show a+1+b=(a+b)+1 by omega]; exact j8 m a b (yH m p)
theorem O4 (m n:Nat) (p:Probe):fJ m (n+1) p=yH m (fJ m n p):=j8 m n 1 p
structure WP (m:Nat) (p:Probe):Prop where
 i:p.i<=m
 j:p.j+p.more=runEnd m p.i
 q:p.perturb<2 ^ 64
 d:p.dummy=none
 ij:p.i<=p.j
theorem gq {m i:Nat} (h:i<=m):runEnd m i<=m/\i<=runEnd m i/\runEnd m i<=i+9:=by unfold runEnd; split <;> omega
theorem pL (m i q:Nat):(leap m i q).1<=m:=by
 show(i*5+1+q / 32) % (m+1)<=m
 exact Nat.le_of_lt_succ (Nat.mod_lt _ (Nat.succ_pos m))
theorem WP.yH {m:Nat} {p:Probe} (h:WP m p):WP m (yH m p):=by
 unfold L2.yH
 have hj:=h.j
 by_cases c:p.more>0
 ·rw[aM c]
  exact⟨h.i,by show p.j+1+(p.more-1)=runEnd m p.i; omega,h.q,h.d,by show p.i<=p.j+1; have:=h.ij; omega⟩
 ·rw[aK c]
  have l:=pL m p.i p.perturb
  have r:=gq l
  refine⟨l,?_,?_,h.d,cV _⟩
  ·show(leap m p.i p.perturb).1+(runEnd m (leap m p.i p.perturb).1-(leap m p.i p.perturb).1)=runEnd m (leap m p.i p.perturb).1
   omega
  ·show p.perturb / 32<2 ^ 64
   have:=h.q
   omega
theorem WP.fJ {m:Nat}:∀(n:Nat) {p:Probe},WP m p->WP m (fJ m n p)
 | 0,_,h=>h
 | n+1,_,h=>WP.fJ n h.yH
theorem WP.le {m:Nat} {p:Probe} (h:WP m p):p.j<=m:=by
 have:=h.j
 have:=(gq h.i).1
 omega
theorem WP.more {m:Nat} {p:Probe} (h:WP m p):p.more<=9:=by
 have hj:=h.ij
 have:=h.j
 have:=(gq h.i).2.2
 omega
theorem t_ (t:SetTable) (h:Int):WP t.mask (t.probeStart h):=by
 have l:bits h % (t.mask+1)<=t.mask:=Nat.le_of_lt_succ (Nat.mod_lt _ (Nat.succ_pos t.mask))
 have r:=gq l
 refine⟨l,?_,?_,rfl,cV _⟩
 ·show bits h % (t.mask+1)+(runEnd t.mask (bits h % (t.mask+1))-bits h % (t.mask+1))=runEnd t.mask (bits h % (t.mask+1))
  omega
 ·show bits h<2 ^ 64
  unfold bits
  have:=Bx h (show(0:Int)<2 ^ 64 by decide)
  have:=Bv h (show(2:Int) ^ 64≠0 by decide)
  omega
def jmp (m i q:Nat):Probe:={ j:=i,more:=runEnd m i-i,i:=i,perturb:=q,dummy:=none }
theorem pP {m:Nat}:∀(n:Nat) {p:Probe},WP m p->p.more=n->fJ m (n+1) p=jmp m (leap m p.i p.perturb).1 (leap m p.i p.perturb).2
 | 0,p,h,e=>by
  show yH m p=_
  unfold yH
  rw[aK (by omega),h.d]; rfl
 | n+1,p,h,e=>by
  show fJ m (n+1) (yH m p)=_
  have e2:yH m p={ p with j:=p.j+1,more:=p.more-1 }:=by unfold yH; rw[aM (by omega)]
  have:=pP n h.yH (by rw[e2]; show p.more-1=n; omega)
  rw[this,e2]
def rQ (m:Nat):Nat->Nat->Nat->Nat×Nat
 | 0,i,q=>(i,q)
 | n+1,i,q=>rQ m n (leap m i q).1 (leap m i q).2
theorem z_ {m i q:Nat} (hi:i<=m) (hq:q<2 ^ 64):WP m (jmp m i q):=by
 have r:=gq hi
 exact⟨hi,by show i+(runEnd m i-i)=runEnd m i; omega,hq,rfl,cV _⟩
theorem O2 {m i q:Nat} (hi:i<=m):(jmp m i q).more<=9:=by
 have:=gq hi
 show runEnd m i-i<=9
 omega
theorem Ik {m:Nat}:∀(n i q:Nat),i<=m->q<2 ^ 64->∃k,k<=10*n/\fJ m k (jmp m i q)=jmp m (rQ m n i q).1 (rQ m n i q).2
 | 0,i,q,_,_=>⟨0,by omega,rfl⟩
 | n+1,i,q,hi,hq=>by
  have w:=z_ hi hq
  have e:=pP _ w rfl
  have hm:=O2 (q:=q) hi
  have hq':(leap m i q).2<2 ^ 64:=by show q / 32<2 ^ 64; omega
  obtain⟨k,hk,ek⟩:=Ik n (leap m i q).1 (leap m i q).2 (pL m i q) hq'
  refine⟨(jmp m i q).more+1+k,by omega,?_⟩
  rw[j8,e]
  exact ek
theorem zY (m:Nat):∀(a b i q:Nat),rQ m (a+b) i q=rQ m b (rQ m a i q).1 (rQ m a i q).2
 | 0,b,i,q=>by rw[wI]; rfl
 | a+1,b,i,q=>by rw[show a+1+b=(a+b)+1 by omega]; exact zY m a b _ _
theorem Ot (m:Nat):∀(n i q:Nat),(rQ m n i q).2=q / 32 ^ n
 | 0,i,q=>by show q=q / 1; omega
 | n+1,i,q=>by
  have:=Ot m n (leap m i q).1 (leap m i q).2
  show(rQ m n (leap m i q).1 (leap m i q).2).2=_
  rw[this]
  show q / 32 / 32 ^ n=q / 32 ^ (n+1)
  rw[Nat.div_div_eq_div_mul,BV,Nat.mul_comm]
theorem vf (m:Nat):∀(n i:Nat),(rQ m n i 0).1 % (m+1)=gR n i % (m+1)
 | 0,i=>rfl
 | n+1,i=>by
  have h:=vf m n (leap m i 0).1
  have e2:(leap m i 0).2=0:=rfl
  show(rQ m n (leap m i 0).1 (leap m i 0).2).1 % (m+1)=gR n (5*i+1) % (m+1)
  rw[e2,h]
  have e1:(leap m i 0).1 % (m+1)=(5*i+1) % (m+1):=by
   show(i*5+1+0 / 32) % (m+1) % (m+1)=_
   rw[Nat.mod_mod,show i*5+1+0 / 32=5*i+1 by omega]
  exact Ph n e1
where
 Ph {N:Nat}:∀(n:Nat) {x y:Nat},x % N=y % N->gR n x % N=gR n y % N
  | 0,_,_,h=>h
  | n+1,x,y,h=>Ph n (by rw[Nat.add_mod,Nat.mul_mod,h,<- Nat.mul_mod,<- Nat.add_mod])
theorem vg (m:Nat):∀(n i q:Nat),i<=m->(rQ m n i q).1<=m
 | 0,_,_,h=>h
 | n+1,i,q,_=>vg m n _ _ (pL m i q)
theorem P0 {k m:Nat} (hm:m+1=2 ^ k) {p:Probe} (w:WP m p) {y:Nat} (hy:y<=m):∃n,n<10*(m+15)/\(fJ m n p).j=y:=by
 have e:=pP _ w rfl
 have hmo:=w.more
 have hq1:(leap m p.i p.perturb).2<2 ^ 64:=by have:=w.q; show p.perturb / 32<2 ^ 64; omega
 have l1:=pL m p.i p.perturb
 generalize (leap m p.i p.perturb).1=i at e l1
 generalize (leap m p.i p.perturb).2=q at e hq1
 have hz:(rQ m 13 i q).2=0:=by rw[Ot]; exact Nat.div_eq_of_lt (by omega)
 have l13:=vg m 13 i q l1
 obtain⟨r,hr,er⟩:=Ab k (rQ m 13 i q).1 y
 rw[<- hm] at hr er
 obtain⟨n,hn,en⟩:=Ik (13+r) i q l1 hq1
 rw[zY,hz] at en
 have lr:=vg m r (rQ m 13 i q).1 0 l13
 have ey:(rQ m r (rQ m 13 i q).1 0).1=y:=by
  have:=vf m r (rQ m 13 i q).1
  rw[er,Hi (by omega),Hi (by omega)] at this
  exact this
 rw[ey] at en
 exact⟨p.more+1+n,by omega,by rw[j8,e,en]; rfl⟩
def Aq (xs:Array Nat):Prop:=∀(a b x y:Nat),xs[a]?=some x->xs[b]?=some y->a<b->x<y
theorem Aq.inj {xs:Array Nat} (h:Aq xs) {a b x:Nat} (ha:xs[a]?=some x) (hb:xs[b]?=some x):a=b:=by
 rcases Nat.lt_trichotomy a b with z | z | z
 ·have:=h _ _ _ _ ha hb z; omega
 ·exact z
 ·have:=h _ _ _ _ hb ha z; omega
theorem v_ {xs:Array Nat} (R:Aq xs) {j:Nat}:∀(fuel lo hi:Nat),hi-lo<=fuel->lo<=hi->hi<=xs.size->(∀i x,i<lo->xs[i]?=some x->x<j)->(∀i x,hi<=i->xs[i]?=some x->j<=x) ->
  lo<=SetTable.below.go xs j fuel lo hi/\SetTable.below.go xs j fuel lo hi<=hi/\(∀i x,i<SetTable.below.go xs j fuel lo hi->xs[i]?=some x->x<j)/\(∀i x,SetTable.below.go xs j fuel lo hi<=i->xs[i]?=some x->j<=x)
 | 0,lo,hi,hf,h1,_,h2,h3=>by
  unfold SetTable.below.go
  have:lo=hi:=by omega
  subst this
  exact⟨cV _,cV _,h2,h3⟩
 | fuel+1,lo,hi,hf,h1,hs,h2,h3=>by
  unfold SetTable.below.go
  by_cases c:lo<hi
  ·rw[aM c]
   have hm:(lo+hi) / 2<hi/\lo<=(lo+hi) / 2:=by omega
   generalize (lo+hi) / 2=mid at hm
   have hb:mid<xs.size:=by omega
   have eg:xs.getD mid j=xs[mid]:=by simp[Array.getD,hb]
   have em:xs[mid]?=some xs[mid]:=BL hb
   dsimp only
   rw[eg]
   by_cases d:xs[mid]<j
   ·rw[aM d]
    obtain⟨g1,g2,g3,g4⟩:=v_ R fuel (mid+1) hi (by omega) (by omega) hs (fun i x hi' e=>by
     rcases Nat.lt_or_ge i mid with z | z
     ·have:=R _ _ _ _ e em z; omega
     ·have:i=mid:=by omega
      subst this
      rw[em] at e; cases e; exact d) h3
    exact⟨by omega,g2,g3,g4⟩
   ·rw[aK d]
    obtain⟨g1,g2,g3,g4⟩:=v_ R fuel lo mid (by omega) (by omega) (by omega) h2 (fun i x hi' e=>by
     rcases Nat.lt_or_ge mid i with z | z
     ·have:=R _ _ _ _ em e z; omega
     ·have:i=mid:=by omega
      subst this
      rw[em] at e; cases e; omega)
    exact⟨g1,by omega,g3,g4⟩
  ·rw[aK c]
   have:lo=hi:=by omega
   subst this
   exact⟨cV _,cV _,h2,h3⟩
theorem DP {xs:Array Nat} (R:Aq xs) (j:Nat):SetTable.below xs j<=xs.size/\(∀i x,i<SetTable.below xs j->xs[i]?=some x->x<j)/\(∀i x,SetTable.below xs j<=i->xs[i]?=some x->j<=x):=by
 have:=v_ R (j:=j) xs.size 0 xs.size (by omega) (by omega) (cV _) (fun i x h=>by omega) (fun i x h e=>by
  have:=(wK.mp e).1; omega)
 exact⟨this.2.1,this.2.2.1,this.2.2.2⟩
theorem xq {t:SetTable} (R:Aq t.place) {i j:Nat} (h:t.place[i]?=some j):t.slot j=.live i:=by
 obtain⟨_,h2,h3⟩:=DP R j
 have e:SetTable.below t.place j=i:=by
  rcases Nat.lt_trichotomy (SetTable.below t.place j) i with z | z | z
  ·have hb:SetTable.below t.place j<t.place.size:=by have:=(wK.mp h).1; omega
   have:=R _ _ _ _ (BL hb) h z
   have:=h3 _ _ (cV _) (BL hb)
   omega
  ·exact z
  ·have:=h2 _ _ z h; omega
 unfold SetTable.slot
 dsimp only
 rw[e,h]
 simp
theorem uf {t:SetTable} (hd:t.dummies = #[]) {j:Nat} (h:∀i:Nat,t.place[i]?≠some j):t.slot j=.empty:=by
 unfold SetTable.slot
 dsimp only
 rw[aK (by simpa using h _),hd]
 rfl
theorem RZ {t:SetTable} (R:Aq t.place) (hd:t.dummies = #[]) (j:Nat):(∃i:Nat,t.place[i]?=some j/\t.slot j=.live i)\/((∀i:Nat,t.place[i]?≠some j)/\t.slot j=.empty):=by
 by_cases c:∃i:Nat,t.place[i]?=some j
 ·obtain⟨i,h⟩:=c
  exact .inl ⟨i,h,xq R h⟩
 ·have:∀i:Nat,t.place[i]?≠some j:=fun i e=>c ⟨i,e⟩
  exact .inr ⟨this,uf hd this⟩
theorem uO {t:SetTable} {hashAt:Nat->Int} {h:Int}:∀(n fuel:Nat) (p:Probe),n<fuel->(∀n',n'<n->∃i,t.slot (fJ t.mask n' p).j=.live i/\(hashAt i==h)=false) ->
  SetTable.probe.go t hashAt h fuel p=SetTable.probe.go t hashAt h (fuel-n) (fJ t.mask n p)
 | 0,fuel,p,_,_=>rfl
 | n+1,0,p,hf,_=>by omega
 | n+1,fuel+1,p,hf,hl=>by
  obtain⟨i,e1,e2⟩:=hl 0 (by omega)
  have e1:t.slot p.j=.live i:=e1
  have:=uO n fuel (yH t.mask p) (by omega) fun n' hn'=>hl (n'+1) (by omega)
  rw[show fuel+1-(n+1)=fuel-n by omega]
  show SetTable.probe.go t hashAt h (fuel+1) p=SetTable.probe.go t hashAt h (fuel-n) (fJ t.mask n (yH t.mask p))
  rw[<- this]
  conv=>lhs; unfold SetTable.probe.go
  rw[e1]
  dsimp only
  rw[e2]
  rfl
theorem Cm {t:SetTable} {hashAt:Nat->Int} {h:Int} {p:Probe} {n:Nat} (w:WP t.mask p) (hn:n<10*turns t.mask) (hl:∀n',n'<n->∃i,t.slot (fJ t.mask n' p).j=.live i/\(hashAt i==h)=false) (he:t.slot (fJ t.mask n p).j=.empty) :
  t.probe hashAt h p=some (.empty (fJ t.mask n p).j none):=by
 unfold SetTable.probe
 rw[uO n _ p hn hl]
 obtain⟨f,hf⟩:∃f,10*turns t.mask-n=f+1:=⟨10*turns t.mask-n-1,by omega⟩
 rw[hf]
 unfold SetTable.probe.go
 rw[he]
 dsimp only
 rw[(w.fJ n).d]
theorem Fo {t:SetTable} {hashAt:Nat->Int} {h:Int} {p:Probe} {n i:Nat} (hn:n<10*turns t.mask) (hl:∀n',n'<n->∃i,t.slot (fJ t.mask n' p).j=.live i/\(hashAt i==h)=false) (he:t.slot (fJ t.mask n p).j=.live i) (hh:hashAt i=h) :
  t.probe hashAt h p=some (.candidate (fJ t.mask n p).j i (fJ t.mask (n+1) p)):=by
 unfold SetTable.probe
 rw[uO n _ p hn hl]
 obtain⟨f,hf⟩:∃f,10*turns t.mask-n=f+1:=⟨10*turns t.mask-n-1,by omega⟩
 rw[hf]
 unfold SetTable.probe.go
 rw[he]
 dsimp only
 rw[hh,O4]
 simp[Wm]
end L2
namespace L2
open PySem PySem.Spec PyProof.Rows
open SetTable (Probe runEnd leap turns bits)
theorem Dd {P:Nat->Prop}:∀(n:Nat),P n->∃m,m<=n/\P m/\∀k,k<m->¬P k:=fun n h=>by
 induction n using Nat.strongRecOn with
 | _ n ih=>
  by_cases c:∃k,k<n/\P k
  ·obtain⟨k,hk,pk⟩:=c
   obtain⟨m,h1,h2,h3⟩:=ih k hk pk
   exact⟨m,by omega,h2,h3⟩
  ·exact⟨n,cV _,h,fun k hk pk=>c ⟨k,hk,pk⟩⟩
def way (m:Nat) (h:Int) (n:Nat):Nat:=(fJ m n (jmp m (bits h % (m+1)) (bits h))).j
theorem xn (t:SetTable) (h:Int):t.probeStart h=jmp t.mask (bits h % (t.mask+1)) (bits h):=rfl
def Path (m:Nat) (Kf:Nat->Prop) (h:Int) (j:Nat):Prop:=∃n,way m h n=j/\∀n',n'<n->Kf (way m h n')
theorem Path.mono {m:Nat} {Kf Yl:Nat->Prop} {h:Int} {j:Nat} (p:Path m Kf h j) (k:∀y,Kf y->Yl y):Path m Yl h j:=by
 obtain⟨n,e,z⟩:=p
 exact⟨n,e,fun n' hn=>k _ (z n' hn)⟩
structure Le (t:SetTable) (hs:List Int):Prop where
 dm:t.dummies = #[]
 ri:Aq t.place
 sz:t.place.size=hs.length
 le:∀i j:Nat,t.place[i]?=some j->j<=t.mask
 pw:∃k,3<=k/\k<=12/\t.mask+1=2 ^ k
 fl:5*hs.length<3*t.mask
 pa:∀(i:Nat) (h:Int) (j:Nat),hs[i]?=some h->t.place[i]?=some j->Path t.mask (fun y=>∃i:Nat,t.place[i]?=some y) h j
theorem Le.odd {t:SetTable} {hs:List Int} (T:Le t hs):t.gaveWay=false:=by
 obtain⟨k,h1,_,h2⟩:=T.pw
 unfold SetTable.gaveWay
 obtain⟨k',rfl⟩:∃k',k=k'+1:=⟨k-1,by omega⟩
 rw[BV] at h2
 have:t.mask % 2=1:=by omega
 rw[this]; rfl
theorem Le.fits {t:SetTable} {hs:List Int} (T:Le t hs):t.fits hs.length=true:=by
 have h1:=T.sz
 have h2:=T.fl
 simp only[SetTable.fits,SetTable.fill,T.dm,h1,Bw,beq_iff_eq,decide_eq_true_eq]
 refine⟨trivial,?_⟩
 show hs.length+0<=t.mask
 omega
theorem JG {xs:Array Nat} (R:Aq xs) {m:Nat} (h:xs.size<=m):∃y,y<=m/\∀i:Nat,xs[i]?≠some y:=by
 by_cases c:∃y,y<=m/\∀i:Nat,xs[i]?≠some y
 ·exact c
 ·exfalso
  have all:∀y,y<=m->∃i:Nat,xs[i]?=some y:=fun y hy=>by
   by_cases d:∃i:Nat,xs[i]?=some y
   ·exact d
   ·exact absurd ⟨y,hy,fun i e=>d ⟨i,e⟩⟩ c
  have up:∀y,y<=m->∃i:Nat,y<=i/\xs[i]?=some y:=by
   intro y
   induction y with
   | zero=>intro hy; obtain⟨i,hi⟩:=all 0 hy; exact⟨i,gr _,hi⟩
   | succ y ih=>
    intro hy
    obtain⟨i,h1,h2⟩:=ih (by omega)
    obtain⟨i',h3⟩:=all (y+1) hy
    refine⟨i',?_,h3⟩
    rcases Nat.lt_or_ge i i' with z | z
    ·omega
    ·rcases Nat.lt_or_eq_of_le z with z | z
     ·have:=R _ _ _ _ h3 h2 z; omega
     ·subst z; rw[h2] at h3; cases h3
  obtain⟨i,h1,h2⟩:=up m (cV _)
  have:=(wK.mp h2).1
  omega
theorem Le.first {t:SetTable} {hs:List Int} (T:Le t hs) {p:Probe} (w:WP t.mask p):∃M,M<10*turns t.mask/\(∀n,n<M->∃i:Nat,t.place[i]?=some (fJ t.mask n p).j/\t.slot (fJ t.mask n p).j=.live i)/\(∀i:Nat,t.place[i]?≠some (fJ t.mask M p).j)/\t.slot (fJ t.mask M p).j=.empty:=by
 obtain⟨k,_,_,hk⟩:=T.pw
 have h2:=T.fl
 obtain⟨y,hy,hn⟩:=JG T.ri (m:=t.mask) (by rw[T.sz]; omega)
 obtain⟨n,n1,n2⟩:=P0 hk w hy
 obtain⟨M,m1,m2,m3⟩:=Dd (P:=fun n=>∀i:Nat,t.place[i]?≠some (fJ t.mask n p).j) n (by rw[n2]; exact hn)
 refine⟨M,by unfold turns; omega,fun n hn'=>?_,m2,uf T.dm m2⟩
 rcases RZ T.ri T.dm (fJ t.mask n p).j with⟨i,z⟩ | ⟨z,_⟩
 ·exact⟨i,z⟩
 ·exact absurd z (m3 n hn')
theorem my {xs:Array Nat} {p x i:Nat} (hp:p<=xs.size):(SetTable.insertAt xs p x)[i]?=if i<p then xs[i]? else if i=p then some x else xs[i-1]?:=by
 rw[<- BJ,SetTable.toList_insertAt,<- BJ,<- BJ]
 have hl:(xs.toList.take p).length=p:=by rw[jC,k_]; omega
 by_cases c:i<p
 ·rw[aM c,BP (by omega),List.getElem?_take,aM c]
 ·rw[aK c,nj (by omega),hl]
  by_cases d:i=p
  ·rw[aM d,d,qI]; rfl
  ·rw[aK d]
   obtain⟨q,hq⟩:∃q,i-p=q+1:=⟨i-p-1,by omega⟩
   rw[hq,Nk,Ci]
   congr 1
   omega
theorem O5 {α:Type} {xs:List α} {p i:Nat} {x:α} (hp:p<=xs.length):(xs.take p++x::xs.drop p)[i]?=if i<p then xs[i]? else if i=p then some x else xs[i-1]?:=by
 have hl:(xs.take p).length=p:=by rw[jC]; omega
 by_cases c:i<p
 ·rw[aM c,BP (by omega),List.getElem?_take,aM c]
 ·rw[aK c,nj (by omega),hl]
  by_cases d:i=p
  ·rw[aM d,d,qI]; rfl
  ·rw[aK d]
   obtain⟨q,hq⟩:∃q,i-p=q+1:=⟨i-p-1,by omega⟩
   rw[hq,Nk,Ci]
   congr 1
   omega
structure WT (t:SetTable) (hs:List Int):Prop where
 dm:t.dummies = #[]
 ri:Aq t.place
 sz:t.place.size=hs.length
 le:∀i j:Nat,t.place[i]?=some j->j<=t.mask
 pw:∃k,3<=k/\k<=12/\t.mask+1=2 ^ k
 fl:hs.length<=t.mask
 pa:∀(i:Nat) (h:Int) (j:Nat),hs[i]?=some h->t.place[i]?=some j->Path t.mask (fun y=>∃i:Nat,t.place[i]?=some y) h j
theorem Vr {t:SetTable} {j:Nat} (hd:t.dummies = #[]):t.put j=({ t with place:=SetTable.insertAt t.place (SetTable.below t.place j) j,dummies:=#[] },SetTable.below t.place j):=by
 unfold SetTable.put
 rw[hd]; rfl
theorem Le.put {t:SetTable} {hs:List Int} (T:Le t hs) {h:Int} {j:Nat} (hj:j<=t.mask) (hn:∀i:Nat,t.place[i]?≠some j) (hp:Path t.mask (fun y=>∃i:Nat,t.place[i]?=some y) h j) :
  WT (t.put j).1 (hs.take (t.put j).2++h::hs.drop (t.put j).2)/\(t.put j).2<=hs.length/\(t.put j).1.mask=t.mask/\(t.put j).1.dummies = #[]:=by
 rw[Vr T.dm]
 dsimp only
 obtain⟨b1,b2,b3⟩:=DP T.ri j
 generalize SetTable.below t.place j=p at b1 b2 b3
 have hpl:p<=hs.length:=by rw[<- T.sz]; exact b1
 have fl:=T.fl
 have Kf:∀y,(∃i:Nat,t.place[i]?=some y)->∃i:Nat,(SetTable.insertAt t.place p j)[i]?=some y:=fun y ⟨i,e⟩=>by
  by_cases c:i<p
  ·exact⟨i,by rw[my b1,aM c]; exact e⟩
  ·exact⟨i+1,by rw[my b1,aK (by omega),aK (by omega)]; exact e⟩
 refine⟨⟨rfl,?_,?_,?_,T.pw,?_,?_⟩,hpl,rfl,rfl⟩
 ·intro a b x y ha hb hab
  rw[my b1] at ha hb
  by_cases c1:a<p
  ·rw[aM c1] at ha
   by_cases c2:b<p
   ·rw[aM c2] at hb; exact T.ri _ _ _ _ ha hb hab
   ·rw[aK c2] at hb
    have:=b2 _ _ c1 ha
    by_cases c3:b=p
    ·rw[aM c3] at hb; cases hb; exact this
    ·rw[aK c3] at hb
     have:=b3 _ _ (by omega) hb
     omega
  ·rw[aK c1] at ha
   rw[aK (by omega),aK (by omega)] at hb
   by_cases c3:a=p
   ·rw[aM c3] at ha; cases ha
    have h1:=b3 _ _ (by omega) hb
    rcases Nat.lt_or_eq_of_le h1 with z | z
    ·exact z
    ·subst z; exact absurd hb (hn _)
   ·rw[aK c3] at ha
    exact T.ri _ _ _ _ ha hb (by omega)
 ·rw[<- k_,SetTable.toList_insertAt]
  simp only[fj,jC,m8,uI,k_,T.sz]
 ·intro i y hy
  rw[my b1] at hy
  by_cases c1:i<p
  ·rw[aM c1] at hy; exact T.le _ _ hy
  ·rw[aK c1] at hy
   by_cases c3:i=p
   ·rw[aM c3] at hy; cases hy; exact hj
   ·rw[aK c3] at hy; exact T.le _ _ hy
 ·simp only[fj,jC,m8,uI]
  obtain⟨k,k1,_,k2⟩:=T.pw
  have:2 ^ 3<=2 ^ k:=JT (by decide) k1
  show min p hs.length+(hs.length-p+1)<=t.mask
  omega
 ·intro i g y hg hy
  rw[O5 hpl] at hg
  rw[my b1] at hy
  by_cases c1:i<p
  ·rw[aM c1] at hg hy; exact(T.pa _ _ _ hg hy).mono Kf
  ·rw[aK c1] at hg hy
   by_cases c3:i=p
   ·rw[aM c3] at hg hy; cases hg; cases hy; exact hp.mono Kf
   ·rw[aK c3] at hg hy; exact(T.pa _ _ _ hg hy).mono Kf
theorem WT.ti {t:SetTable} {hs:List Int} (T:WT t hs) (h:t.tooFull=false):Le t hs:=by
 refine⟨T.dm,T.ri,T.sz,T.le,T.pw,?_,T.pa⟩
 have:¬(t.fill*5≥t.mask*3):=by simpa[SetTable.tooFull] using h
 have e:t.fill=hs.length:=by
  show t.place.size+t.dummies.size=hs.length
  rw[T.dm,T.sz]; rfl
 rw[e] at this
 omega
end L2
namespace L2
open PySem PySem.Spec PyProof.Rows
open SetTable (Probe runEnd leap turns bits)
theorem vo {m:Nat}:∀(n:Nat) {p:Probe},n<=p.more->(fJ m n p).j=p.j+n
 | 0,p,_=>rfl
 | n+1,p,h=>by
  have e2:yH m p={ p with j:=p.j+1,more:=p.more-1 }:=by unfold yH; rw[aM (by omega)]
  have:=vo (m:=m) n (p:=yH m p) (by rw[e2]; show n<=p.more-1; omega)
  show(fJ m n (yH m p)).j=p.j+(n+1)
  rw[this,e2]
  show p.j+1+n=p.j+(n+1)
  omega
theorem Ou {k m:Nat} (hm:m+1=2 ^ k) {i q y:Nat} (hi:i<=m) (hq:q<2 ^ 64) (hy:y<=m):∃L,L<turns m/\(rQ m L i q).1=y:=by
 have hz:(rQ m 13 i q).2=0:=by rw[Ot]; exact Nat.div_eq_of_lt (by omega)
 have l13:=vg m 13 i q hi
 obtain⟨r,hr,er⟩:=Ab k (rQ m 13 i q).1 y
 rw[<- hm] at hr er
 have lr:=vg m r (rQ m 13 i q).1 0 l13
 have ey:(rQ m r (rQ m 13 i q).1 0).1=y:=by
  have:=vf m r (rQ m 13 i q).1
  rw[er,Hi (by omega),Hi (by omega)] at this
  exact this
 exact⟨13+r,by unfold turns; omega,by rw[zY,hz]; exact ey⟩
theorem Iw {m:Nat} {ow:Array (Option Nat)}:∀(fuel i q:Nat),i<=m->q<2 ^ 64->(∃L,L<fuel/\ow.getD (rQ m L i q).1 (some 0)=none) ->
  ∃n,SetTable.layClean.free m ow fuel i q=some (fJ m n (jmp m i q)).j/\ow.getD (fJ m n (jmp m i q)).j (some 0)=none/\∀n',n'<n->ow.getD (fJ m n' (jmp m i q)).j (some 0)≠none
 | 0,i,q,_,_,h=>by obtain⟨L,h,_⟩:=h; omega
 | fuel+1,i,q,hi,hq,h=>by
  unfold SetTable.layClean.free
  have r:=gq hi
  have hmo:(jmp m i q).more=runEnd m i-i:=rfl
  have hj:(jmp m i q).j=i:=rfl
  cases ef:(List.range (runEnd m i+1-i)).find? fun k=>(ow.getD (i+k) (some 0)).isNone with
  | some k=>
   obtain⟨k1,l1,l2,e1,e2⟩:=List.find?_eq_some_iff_append.mp ef
   have hk:k<runEnd m i+1-i:=zp.mp (by rw[e1]; simp)
   refine⟨k,?_,?_,fun n' hn'=>?_⟩
   ·rw[vo k (by omega)]; rfl
   ·rw[vo k (by omega),hj]; exact Option.isNone_iff_eq_none.mp k1
   ·rw[vo n' (by omega),hj]
    intro z
    have hm1:n'∈l1:=by
     have hmem:n'∈List.range (runEnd m i+1-i):=zp.mpr (by omega)
     have Zu:=List.pairwise_lt_range (n:=runEnd m i+1-i)
     rw[e1] at hmem Zu
     rcases m7.mp hmem with z | z
     ·exact z
     ·exfalso
      rcases b_.mp z with z | z
      ·omega
      ·have:=(List.pairwise_cons.mp (List.pairwise_append.mp Zu).2.1).1 _ z
       omega
    have:=e2 _ hm1
    rw[z] at this
    exact absurd this (by decide)
  | none=>
   have hno:∀n',n'<=(jmp m i q).more->ow.getD (fJ m n' (jmp m i q)).j (some 0)≠none:=fun n' hn' z=>by
    rw[vo n' hn',hj] at z
    have:=List.find?_eq_none.mp ef n' (zp.mpr (by omega))
    rw[z] at this
    exact absurd rfl this
   obtain⟨L,hL,eL⟩:=h
   have L0:L≠0:=fun z=>by
    subst z
    exact hno 0 (gr _) eL
   obtain⟨L',rfl⟩:∃L',L=L'+1:=⟨L-1,by omega⟩
   have hq':(leap m i q).2<2 ^ 64:=by show q / 32<2 ^ 64; omega
   obtain⟨n,h1,h2,h3⟩:=Iw fuel (leap m i q).1 (leap m i q).2 (pL m i q) hq' ⟨L',by omega,eL⟩
   have e:=pP _ (z_ hi hq) rfl
   have es:∀n',fJ m ((jmp m i q).more+1+n') (jmp m i q)=fJ m n' (jmp m (leap m i q).1 (leap m i q).2):=fun n'=>by rw[j8,e]; rfl
   refine⟨(jmp m i q).more+1+n,?_,?_,fun n' hn'=>?_⟩
   ·rw[es]; exact h1
   ·rw[es]; exact h2
   ·by_cases c:n'<=(jmp m i q).more
    ·exact hno n' c
    ·obtain⟨d,hd⟩:∃d,n'=(jmp m i q).more+1+d:=⟨n'-((jmp m i q).more+1),by omega⟩
     rw[hd,es]
     exact h3 d (by omega)
structure OW (m:Nat) (ow:Array (Option Nat)) (hs:List Int):Prop where
 sz:ow.size=m+1
 ct:ow.toList.countP Option.isSome=hs.length
 at_:∀(l:Nat) (h:Int),hs[l]?=some h->∃j,j<=m/\ow[j]?=some (some l)/\Path m (fun y=>∃l,ow[y]?=some (some l)) h j
 lt:∀j l:Nat,ow[j]?=some (some l)->l<hs.length
 inj:∀j j' l:Nat,ow[j]?=some (some l)->ow[j']?=some (some l)->j=j'
theorem getD_none {ow:Array (Option Nat)} {j:Nat} (h:ow.getD j (some 0)=none):ow[j]?=some none:=by
 rw[JZ] at h
 cases e:ow[j]? with
 | none=>rw[e] at h; cases h
 | some o=>rw[e] at h; exact gW some h
theorem OW.push {k m:Nat} (hm:m+1=2 ^ k) {ow:Array (Option Nat)} {hs:List Int} (W:OW m ow hs) (h:Int) (hl:hs.length<=m) :
  ∃j,SetTable.layClean.free m ow (turns m) (bits h % (m+1)) (bits h)=some j/\OW m (ow.setIfInBounds j (some hs.length)) (hs++[h]):=by
 have hb:bits h<2 ^ 64:=by
  unfold bits
  have:=Bx h (show(0:Int)<2 ^ 64 by decide)
  have:=Bv h (show(2:Int) ^ 64≠0 by decide)
  omega
 have hi:bits h % (m+1)<=m:=Nat.le_of_lt_succ (Nat.mod_lt _ (Nat.succ_pos m))
 obtain⟨y,hy,ey⟩:∃y,y<=m/\ow.getD y (some 0)=none:=by
  by_cases c:∃y,y<=m/\ow.getD y (some 0)=none
  ·exact c
  ·exfalso
   have:ow.toList.countP Option.isSome=ow.toList.length:=List.countP_eq_length.mpr fun o ho=>by
    obtain⟨i,hi⟩:=Ff.mp ho
    cases o with
    | some _=>rfl
    | none=>
     have hlt:i<ow.toList.length:=(nG.mp hi).1
     rw[k_,W.sz] at hlt
     rw[BJ] at hi
     exact absurd ⟨i,by omega,by rw[JZ,hi]; rfl⟩ c
   have h2:ow.toList.length=m+1:=by rw[k_,W.sz]
   have h3:=W.ct
   omega
 obtain⟨L,hL,eL⟩:=Ou hm hi hb hy
 obtain⟨n,f1,f2,f3⟩:=Iw (ow:=ow) (turns m) _ _ hi hb ⟨L,hL,by rw[eL]; exact ey⟩
 have wj:(fJ m n (jmp m (bits h % (m+1)) (bits h))).j<=m:=((z_ hi hb).fJ n).le
 have f3:∀n',n'<n->ow.getD (way m h n') (some 0)≠none:=f3
 have ej:(fJ m n (jmp m (bits h % (m+1)) (bits h))).j=way m h n:=rfl
 rw[ej] at f1 f2 wj
 have g2:=getD_none f2
 refine⟨_,f1,?_⟩
 generalize hj:way m h n=j at f1 f2 wj g2
 have hjs:j<ow.size:=by rw[W.sz]; omega
 have get:∀y:Nat,(ow.setIfInBounds j (some hs.length))[y]?=if y=j then some (some hs.length) else ow[y]?:=fun y=>by
  rw[Array.getElem?_setIfInBounds]
  by_cases c:j=y
  ·subst c; simp[hjs]
  ·rw[aK c,aK (fun z=>c z.symm)]
 have Kf:∀y:Nat,(∃l,ow[y]?=some (some l))->∃l,(ow.setIfInBounds j (some hs.length))[y]?=some (some l):=fun y ⟨l,e⟩=>by
  rw[get]
  by_cases c:y=j
  ·exact⟨_,aM c⟩
  ·exact⟨l,by rw[aK c]; exact e⟩
 refine⟨by rw[Array.size_setIfInBounds]; exact W.sz,?_,fun l h' hl'=>?_,fun y l hy'=>?_,fun y y' l h1 h2=>?_⟩
 ·rw[Array.toList_setIfInBounds,List.countP_set (by rw[k_]; exact hjs),W.ct,fj]
  have e0:ow.toList[j]'(by rw[k_]; exact hjs)=none:=by
   have:=BL hjs
   rw[g2] at this
   simpa using this.symm
  rw[e0]
  simp
 ·by_cases c:l<hs.length
  ·rw[BP c] at hl'
   obtain⟨y',h1,h2,h3⟩:=W.at_ _ _ hl'
   refine⟨y',h1,?_,h3.mono Kf⟩
   rw[get,aK (fun z=>by rw[z,g2] at h2; cases h2)]
   exact h2
  ·have hl2:l<(hs++[h]).length:=(nG.mp hl').1
   rw[fj] at hl2
   have e:l=hs.length:=by simp at hl2; omega
   subst e
   rw[nj (cV _),qI] at hl'
   cases hl'
   refine⟨j,wj,by rw[get,aM rfl],n,hj,fun n' hn'=>?_⟩
   refine Kf _ ?_
   have z:=f3 n' hn'
   cases e:ow[way m h n']? with
   | none=>
    exfalso
    have:way m h n'<=m:=((z_ hi hb).fJ n').le
    have:=Array.getElem?_eq_none_iff.mp e
    rw[W.sz] at this
    omega
   | some o=>
    cases o with
    | none=>exact absurd (by rw[JZ,e]; rfl) z
    | some l=>exact⟨l,rfl⟩
 ·rw[get] at hy'
  rw[fj]
  by_cases c:y=j
  ·rw[aM c] at hy'; cases hy'; simp
  ·rw[aK c] at hy'; have:=W.lt _ _ hy'; simp; omega
 ·rw[get] at h1 h2
  by_cases c1:y=j
  ·rw[aM c1] at h1; cases h1
   by_cases c2:y'=j
   ·rw[c1,c2]
   ·rw[aK c2] at h2; have:=W.lt _ _ h2; omega
  ·rw[aK c1] at h1
   by_cases c2:y'=j
   ·rw[aM c2] at h2; cases h2; have:=W.lt _ _ h1; omega
   ·rw[aK c2] at h2; exact W.inj _ _ _ h1 h2
def tQ (m:Nat) (acc:Option (Array (Option Nat)×Nat)) (h:Int):Option (Array (Option Nat)×Nat):=do
  let (owner,k) <- acc
  let j <- SetTable.layClean.free m owner (turns m) (bits h % (m+1)) (bits h)
  pure (owner.setIfInBounds j (some k),k+1)
theorem Df {k m:Nat} (hm:m+1=2 ^ k):∀(rest hs:List Int) (ow:Array (Option Nat)),OW m ow hs->(hs++rest).length<=m+1 ->
  ∃Zn,rest.foldl (tQ m) (some (ow,hs.length))=some (Zn,(hs++rest).length)/\OW m Zn (hs++rest)
 | [],hs,ow,W,_=>⟨ow,by rw[kZ]; rfl,by rw[kZ]; exact W⟩
 | h::rest,hs,ow,W,hl=>by
  rw[fj,m8] at hl
  obtain⟨j,f,W'⟩:=W.push hm h (by omega)
  obtain⟨Zn,e,W''⟩:=Df hm rest (hs++[h]) _ W' (by simp; omega)
  rw[zr] at e W''
  refine⟨Zn,?_,W''⟩
  rw[List.foldl_cons]
  have e1:tQ m (some (ow,hs.length)) h=some (ow.setIfInBounds j (some hs.length),(hs++[h]).length):=by
   show(do let j <- SetTable.layClean.free m ow (turns m) (bits h % (m+1)) (bits h); pure (ow.setIfInBounds j (some hs.length),hs.length+1))=_
   rw[f,fj]; rfl
  rw[e1]
  exact e
theorem OW.nil (m:Nat):OW m (Array.replicate (m+1) none) []:=by
 have get:∀(j:Nat) (o:Option Nat),(Array.replicate (m+1) (none:Option Nat))[j]?=some o->o=none:=fun j o h=>by
  rw[Array.getElem?_replicate] at h
  split at h
  ·cases h; rfl
  ·cases h
 exact⟨by simp,by simp,fun l h z=>by simp at z,fun j l h=>(by have:=get _ _ h; cases this),fun j j' l h _=>(by have:=get _ _ h; cases this)⟩
theorem Dg {k m:Nat} (hm:m+1=2 ^ k) (hs:Array Int) (hl:hs.size<=m+1):∃ow,SetTable.layClean m hs=some ow/\OW m ow hs.toList:=by
 obtain⟨ow,e,W⟩:=Df hm hs.toList [] _ (OW.nil m) (by simpa using hl)
 refine⟨ow,?_,by simpa using W⟩
 have e2:SetTable.layClean m hs=(hs.foldl (tQ m) (some (Array.replicate (m+1) none,0))).map (·.1):=rfl
 rw[e2,<- Array.foldl_toList]
 have e3:List.foldl (tQ m) (some (Array.replicate (m+1) none,0)) hs.toList=some (ow,([]++hs.toList).length):=e
 rw[e3]; rfl
theorem Px {α β:Type} {f:α->Option β}:∀{l:List α} (i:Nat),(∀x∈l,(f x).isSome=true)->(l.filterMap f)[i]?=l[i]?.bind f
 | [],i,_=>by simp
 | x::l,i,h=>by
  obtain⟨y,hy⟩:=Fg.mp (h x (by simp))
  rw[List.filterMap_cons_some hy]
  cases i with
  | zero=>simp[hy]
  | succ i=>rw[Nk,Nk]; exact Px i fun z hz=>h z (by simp[hz])
theorem Gf {α β:Type} {f:α->Option β}:∀{l:List α},(∀x∈l,(f x).isSome=true)->(l.filterMap f).length=l.length
 | [],_=>rfl
 | x::l,h=>by
  obtain⟨y,hy⟩:=Fg.mp (h x (by simp))
  rw[List.filterMap_cons_some hy,m8,m8,Gf fun z hz=>h z (by simp[hz])]
def dB (m:Nat) (ow:Array (Option Nat)):List (Nat×Nat):=(List.range (m+1)).filterMap fun j=>(ow.getD j none).map (j,·)
theorem iI {m:Nat} {ow:Array (Option Nat)} {j l:Nat} (hs:ow.size=m+1):(j,l)∈dB m ow↔ow[j]?=some (some l):=by
 unfold dB
 rw[List.mem_filterMap]
 constructor
 ·rintro⟨y,h1,h2⟩
  obtain⟨l',h3,h4⟩:=m_.mp h2
  cases h4
  rw[JZ] at h3
  cases e:ow[j]? with
  | none=>rw[e] at h3; cases h3
  | some o=>rw[e] at h3; exact gW some h3
 ·intro h
  have:=(wK.mp h).1
  exact⟨j,zp.mpr (by omega),by rw[JZ,h]; rfl⟩
theorem Ia {m:Nat} {ow:Array (Option Nat)}:(dB m ow).Pairwise fun p q=>p.1<q.1:=by
 unfold dB
 refine List.Pairwise.filterMap _ ?_ List.pairwise_lt_range
 intro a a' h b hb b' hb'
 obtain⟨_,_,rfl⟩:=m_.mp hb
 obtain⟨_,_,rfl⟩:=m_.mp hb'
 exact h
theorem Ox {m:Nat} {ow:Array (Option Nat)} {hs:List Int} (W:OW m ow hs):(dB m ow).length=hs.length:=by
 unfold dB
 rw[List.length_filterMap_eq_countP,<- W.ct]
 have e:ow.toList=(List.range (m+1)).map fun j=>ow.getD j none:=by
  apply List.ext_getElem?
  intro i
  rw[BJ,il]
  by_cases c:i<m+1
  ·rw[List.getElem?_range c]
   have hb:i<ow.size:=by rw[W.sz]; exact c
   rw[Option.map_some,JZ,BL hb]; rfl
  ·rw[Hq (by simp; omega),Array.getElem?_eq_none (by rw[W.sz]; omega)]; rfl
 rw[e,List.countP_map]
 congr 1
 funext j
 simp
theorem R5 {k m:Nat} (h3:3<=k) (h12:k<=12) (hm:m+1=2 ^ k) {fi mo:Nat} {le pl:Bool} (hs:Array Int) (hl:5*hs.size<3*m) :
  ∃t order,SetTable.laid m fi mo le pl hs=some (t,order)/\order.toList.length=hs.size/\(∀l∈order.toList,l<hs.size)/\(∀l,l<hs.size->l∈order.toList)/\order.toList.Nodup/\Le t (order.toList.filterMap (hs.toList[·]?)):=by
 obtain⟨ow,e,W⟩:=Dg hm hs (by omega)
 have e1:SetTable.laid m fi mo le pl hs=some ({ mask:=m,place:=((dB m ow).map (·.1)).toArray,dummies:=#[],finger:=fi,led:=le,moves:=mo,plain:=pl },((dB m ow).map (·.2)).toArray):=by
  unfold SetTable.laid
  rw[e]; rfl
 have hlen:=Ox W
 rw[k_] at hlen
 have lt:∀l∈(dB m ow).map (·.2),l<hs.size:=fun l hl=>by
  obtain⟨⟨j,l'⟩,h1,h2⟩:=iR.mp hl
  cases h2
  have:=W.lt _ _ ((iI W.sz).mp h1)
  simpa using this
 have all:∀l,l<hs.size->l∈(dB m ow).map (·.2):=fun l hl=>by
  obtain⟨j,h1,h2,_⟩:=W.at_ l hs[l] (by simp[hl])
  exact iR.mpr ⟨(j,l),(iI W.sz).mpr h2,rfl⟩
 have some_:∀l∈(dB m ow).map (·.2),(hs.toList[l]?).isSome=true:=fun l hl=>by
  have:=lt l hl
  rw[gP (by simpa using this)]; rfl
 have ndp:((dB m ow).map (·.2)).Nodup:=by
  rw[List.Nodup,List.pairwise_map,Nt]
  intro a b ha hb hab z
  have:=Nt.mp (Ia (m:=m) (ow:=ow)) a b ha hb hab
  have g1:ow[(dB m ow)[a].1]?=some (some (dB m ow)[a].2):=(iI W.sz).mp (JM ha)
  have g2:ow[(dB m ow)[b].1]?=some (some (dB m ow)[b].2):=(iI W.sz).mp (JM hb)
  rw[z] at g1
  have:=W.inj _ _ _ g1 g2
  omega
 refine⟨_,_,e1,?_,lt,all,ndp,?_⟩
 ·show((dB m ow).map (·.2)).length=hs.size
  rw[cg]; exact hlen
 ·have aap:((dB m ow).map (·.1)).length=hs.size:=by rw[cg]; exact hlen
  have Ye:(((dB m ow).map (·.2)).filterMap (hs.toList[·]?)).length=hs.size:=by rw[Gf some_,cg]; exact hlen
  have Rp:∀i j:Nat,(((dB m ow).map (·.1)).toArray)[i]?=some j->∃l,(dB m ow)[i]?=some (j,l):=fun i j h=>by
   rw[List.getElem?_toArray,il] at h
   obtain⟨⟨j',l⟩,h1,h2⟩:=m_.mp h
   cases h2
   exact⟨l,h1⟩
  have Kf:∀y,(∃l,ow[y]?=some (some l))->∃i:Nat,(((dB m ow).map (·.1)).toArray)[i]?=some y:=fun y ⟨l,h⟩=>by
   obtain⟨i,hi⟩:=Ff.mp ((iI W.sz).mpr h)
   exact⟨i,by rw[List.getElem?_toArray,il,hi]; rfl⟩
  refine⟨rfl,?_,?_,?_,⟨k,h3,h12,hm⟩,?_,?_⟩
  ·intro a b x y ha hb hab
   obtain⟨l,h1⟩:=Rp _ _ ha
   obtain⟨l',h2⟩:=Rp _ _ hb
   obtain⟨g1,g2⟩:=nG.mp h1
   obtain⟨g3,g4⟩:=nG.mp h2
   have:=Nt.mp (Ia (m:=m) (ow:=ow)) a b g1 g3 hab
   rw[g2,g4] at this
   exact this
  ·show((dB m ow).map (·.1)).toArray.size=_
   rw[e_,aap,Ye]
  ·intro i j h
   obtain⟨l,h1⟩:=Rp _ _ h
   have:=(iI W.sz).mp (lU h1)
   have:=(wK.mp this).1
   rw[W.sz] at this
   show j<=m
   omega
  ·show 5*(((dB m ow).map (·.2)).filterMap (hs.toList[·]?)).length<3*m
   rw[Ye]; exact hl
  ·intro i h j h1 h2
   obtain⟨l,g1⟩:=Rp _ _ h2
   have h1:(((dB m ow).map (·.2)).filterMap (hs.toList[·]?))[i]?=some h:=h1
   rw[Px i some_,il,g1] at h1
   have h1:hs.toList[l]?=some h:=h1
   obtain⟨j',f1,f2,f3⟩:=W.at_ _ _ h1
   have:=W.inj _ _ _ f2 ((iI W.sz).mp (lU g1))
   subst this
   exact f3.mono Kf
theorem DW (n:Nat):∀(fuel k:Nat),n<2 ^ (k+fuel)->3<=k->∃k',SetTable.sizeAbove.go n fuel (2 ^ k)=2 ^ k'/\k<=k'/\n<2 ^ k'/\(k'=k\/2 ^ (k'-1)<=n)
 | 0,k,h,_=>⟨k,rfl,cV _,h,.inl rfl⟩
 | fuel+1,k,h,h3=>by
  unfold SetTable.sizeAbove.go
  by_cases c:2 ^ k<=n
  ·rw[aM c,<- BV]
   obtain⟨k',h1,h2,h4,h5⟩:=DW n fuel (k+1) (by rw[show k+1+fuel=k+(fuel+1) by omega]; exact h) (by omega)
   refine⟨k',h1,by omega,h4,.inr ?_⟩
   rcases h5 with z | z
   ·rw[z]; exact c
   ·exact z
  ·rw[aK c]
   exact⟨k,rfl,cV _,by omega,.inl rfl⟩
theorem Qm {n:Nat} (h:n<2 ^ 12):∃k,SetTable.sizeAbove n=2 ^ k/\3<=k/\k<=12/\n<2 ^ k:=by
 obtain⟨k,h1,h2,h3,h4⟩:=DW n 64 3 (jU h (JT (by decide) (by decide))) (cV _)
 refine⟨k,h1,h2,?_,h3⟩
 rcases h4 with z | z
 ·omega
 ·have:¬12<k:=fun q=>by
   have:2 ^ 12<=2 ^ (k-1):=JT (by decide) (by omega)
   omega
  omega
theorem JH {t:SetTable} (hs:Array Int) (hn:1<=hs.size) (hl:hs.size<=1000):∃t' order,t.relaid hs (SetTable.grown hs.size)=some (t',order)/\order.toList.length=hs.size/\(∀l∈order.toList,l<hs.size)/\(∀l,l<hs.size->l∈order.toList)/\order.toList.Nodup/\Le t' (order.toList.filterMap (hs.toList[·]?))/\SetTable.sizeAbove (SetTable.grown hs.size)<=4096:=by
 have eg:SetTable.grown hs.size=hs.size*4:=by unfold SetTable.grown; rw[aK (by omega)]
 rw[eg]
 obtain⟨k,h1,h2,h3,h4⟩:=Qm (n:=hs.size*4) (by omega)
 unfold SetTable.relaid
 rw[h1]
 have hp:2 ^ k-1+1=2 ^ k:=by omega
 obtain⟨t',order,g1,g2,g3,g4,g6,g5⟩:=R5 (fi:=t.finger) (mo:=t.movedTo (2 ^ k-1)) (le:=t.led) (pl:=t.plain) h2 h3 hp hs (by omega)
 exact⟨t',order,g1,g2,g3,g4,g6,g5,(JT (n:=2) (j:=12) (by decide) h3)⟩
end L2
namespace L2
open PySem PySem.Spec PyProof.Rows
open SetTable (Probe runEnd leap turns bits)
def Jk (prog:Program) (w:World) (d:PyData):Prop:=∀(n:Nat) (A:Around) (E:Value->Shared->Prop) (s:Shared) (v:Value) (as:List Addr) (Q:Bool->Shared->Prop),Reads s.heap v d as->d.depth<=n->Q false s ->
 wpAny (model prog w) A (ofAClassStatement n v) Q E s
theorem SM {prog:Program} {w:World} {ds:List PyData} (ih:∀d∈ds,Jk prog w d):Jk prog w (.tuple ds):=by
 intro n A E s v as Q r hn h
 have hn:PyData.depthAll ds+1<=n:=hn
 obtain⟨m,rfl⟩:∃m,n=m+1:=⟨n-1,by omega⟩
 cases r with
 | @tuple a o items nn _ _ ho hc hd hi=>
 have hT:s.TypeIs (.ref a) "tuple" := ⟨o,ho,hc⟩
 unfold ofAClassStatement
 refine aN (wpAny_typeOf hT ?_)
 dsimp only
 refine aN ?_
 refine bH ?_
 simp only[zj,iU,if_false]
 refine aN (pG ho hd ?_)
 refine aN ?_
 show wpAny _ _ (forIn items _ _) _ _ s
 rw[<- Hl]
 refine Cd _ (fun rest r s'=>r.1=none/\s'=s/\∃left bs,(∀d∈left,d∈ds)/\ReadsAll s.heap rest left bs) _ ?_ ?_ _ _ ⟨rfl,rfl,ds,_,fun d h=>h,hi⟩
 ·rintro v rest r s' ⟨hr,rfl,left,bs,hall,hl⟩
  cases hl with
  | @cons _ _ k ks' as1 WM h1 hl'=>
  have hk:=hall k jl
  have:=jM hk
  refine aN (ih k hk m _ _ _ _ _ _ h1 (by omega) ?_)
  simp only[iU,if_false]
  exact bH ⟨rfl,rfl,ks',WM,fun d h=>hall d (iG _ h),hl'⟩
 ·rintro⟨r1,r2⟩ s' ⟨hr,rfl,_⟩
  simp only at hr
  subst hr
  exact bH h
mutual
theorem Du {prog:Program} {w:World}:∀d:PyData,nY d=true->Jk prog w d
 | .int i,_=>by
  intro n A E s v as Q r hu h
  cases r
  cases n <;> exact bH h
 | .tuple ds,h=>SM (yq ds (by simpa[nY] using h))
 | .none,h=>nomatch h
 | .bool _,h=>nomatch h
 | .str _,h=>nomatch h
 | .list _,h=>nomatch h
 | .dict _,h=>nomatch h
theorem yq {prog:Program} {w:World}:∀ds:List PyData,d9 ds=true->∀d∈ds,Jk prog w d
 | [],_,d,hd=>by cases hd
 | x::ds,h,d,hd=>by
  have h':nY x=true/\d9 ds=true:=by simpa[d9] using h
  rcases b_.mp hd with e | e
  ·rw[e]; exact Du x h'.1
  ·exact yq ds h'.2 d e
end
section
variable {prog:Program} {w:World} {A:Around} {E:Value->Shared->Prop} {s:Shared}
theorem nest_cls {d:PyData} {b:Addr} (h:(bD prog w).is s.heap d b) {Q:Bool->Shared->Prop} (q:Q false s):wpAny (model prog w) A (ofAClassStatement 8 (.ref b)) Q E s:=by
 obtain⟨g,dp,as,r⟩:=h
 exact Du d g 8 _ _ _ _ _ _ r dp q
theorem QJ {d:PyData} {b:Addr} (hb:(bD prog w).is s.heap d b) {ys:List Value} (hy:∀y∈ys,∃e c,y=Value.ref c/\(bD prog w).is s.heap e c) {Q:Bool->Shared->Prop} (q:Q false s) :
  wpAny (model prog w) A (searchCouldBeSeen (.ref b) ys) Q E s:=by
 unfold searchCouldBeSeen
 refine aN ?_
 refine Cd _ (fun rest r s'=>r.1=none/\s'=s/\∀y∈rest,y∈ys) _ ?_ ?_ _ _ ⟨rfl,rfl,fun y h=>h⟩
 ·rintro v rest r s' ⟨hr,rfl,hall⟩
  obtain⟨e,c,rfl,hc⟩:=hy v (hall v jl)
  dsimp only
  by_cases z:(b==c)=true
  ·rw[aM (by rw[z]; rfl)]
   exact bH ⟨rfl,rfl,fun y h=>hall y (iG _ h)⟩
  ·rw[aK (by simp only[Bool.not_eq_true] at z; rw[z]; exact jD)]
   try refine aN (bH ?_)
   refine aN ((bD prog w).quiet hb ?_)
   simp only[zj,iU,if_false]
   try refine aN (bH ?_)
   refine aN ((bD prog w).quiet hc ?_)
   simp only[zj,iU,if_false]
   try refine aN (bH ?_)
   refine aN (nest_cls hb ?_)
   simp only[iU,if_false]
   try refine aN (bH ?_)
   refine aN (nest_cls hc ?_)
   simp only[iU,if_false]
   try refine aN (bH ?_)
   exact bH ⟨rfl,rfl,fun y h=>hall y (iG _ h)⟩
 ·rintro⟨r1,r2⟩ s' ⟨hr,rfl,_⟩
  simp only at hr
  subst hr
  exact bH q
def Wv (x:PyData×Addr):Int×Value:=(bw x.1,.ref x.2)
structure Lr (h:Heap) (a:Addr) (o:Obj) (es:Array (Int×Value)) (ep:Nat) (t:SetTable) (xs:List (PyData×Addr)):Prop where
 get:h.get? a=some o
 ex:o.ExactSet
 dt:o.data=.set es ep t
 es:es.toList=xs.map Wv
 ti:Le t (xs.map fun x=>bw x.1)
 nd:(xs.map (·.1)).Nodup
theorem Lr.size {h:Heap} {a:Addr} {o:Obj} {es:Array (Int×Value)} {ep:Nat} {t:SetTable} {xs:List (PyData×Addr)} (S:Lr h a o es ep t xs):es.size=xs.length:=by
 rw[<- k_,S.es,cg]
theorem Lr.fits {h:Heap} {a:Addr} {o:Obj} {es:Array (Int×Value)} {ep:Nat} {t:SetTable} {xs:List (PyData×Addr)} (S:Lr h a o es ep t xs):t.fits es.size=true:=by
 have:=S.ti.fits
 rw[cg] at this
 rw[S.size]; exact this
theorem Lr.at {h:Heap} {a:Addr} {o:Obj} {es:Array (Int×Value)} {ep:Nat} {t:SetTable} {xs:List (PyData×Addr)} (S:Lr h a o es ep t xs) (i:Nat):es[i]?=xs[i]?.map Wv:=by
 rw[<- BJ,S.es,il]
theorem tR (m:Nat) (h:Int) (n n':Nat):(fJ m n' (fJ m n (jmp m (bits h % (m+1)) (bits h)))).j=way m h (n+n'):=by unfold way; rw[j8]
theorem xf {a:Addr} {o:Obj} {es:Array (Int×Value)} {ep:Nat} {t:SetTable} {xs:List (PyData×Addr)} {d:PyData} {b:Addr} {adding:Bool} (hr:(bD prog w).room A) (S:Lr s.heap a o es ep t xs) (hk:∀x∈xs,(bD prog w).is s.heap x.1 x.2) (hb:(bD prog w).is s.heap d b) {Q:SetFound->Shared->Prop}
  (h1:d∈xs.map (·.1)->∀r:Option Nat,(adding=false->r.isSome=true)->Q (.there r) s)
  (h2:d∉xs.map (·.1)->∀j,j<=t.mask->(∀i:Nat,t.place[i]?≠some j)->Path t.mask (fun y=>∃i:Nat,t.place[i]?=some y) (bw d) j->Q (.free j false) s) :
  wpAny (model prog w) A (setSearch a (.ref b) (bw d) adding) Q E s:=by
 have T:=S.ti
 obtain⟨M,m1,m2,m3,m4⟩:=T.first (t_ t (bw d))
 rw[xn] at m2 m3 m4
 have m2:∀n,n<M->∃i:Nat,t.place[i]?=some (way t.mask (bw d) n)/\t.slot (way t.mask (bw d) n)=.live i:=m2
 have m3:∀i:Nat,t.place[i]?≠some (way t.mask (bw d) M):=m3
 have m4:t.slot (way t.mask (bw d) M)=.empty:=m4
 have hM:M<50000:=by
  obtain⟨k,_,k2,k3⟩:=T.pw
  have:2 ^ k<=2 ^ 12:=JT (by decide) k2
  unfold turns at m1
  omega
 have key:∀(fuel n:Nat) (stand:Option Probe),n<=M->M-n<fuel->stand.getD (t.probeStart (bw d))=fJ t.mask n (jmp t.mask (bits (bw d) % (t.mask+1)) (bits (bw d))) ->
   (∀(n' i:Nat),n'<n->t.place[i]?=some (way t.mask (bw d) n')->∀x:PyData×Addr,xs[i]?=some x->x.1≠d)->wpAny (model prog w) A (setSearchFrom a (.ref b) (bw d) adding fuel stand) Q E s:=by
  intro fuel
  induction fuel with
  | zero=>intro n stand _ h; omega
  | succ fuel ih=>
   intro n stand hn hf est Uw
   unfold setSearchFrom
   refine aN (JP S.get S.dt S.fits ?_)
   dsimp only
   rw[T.odd]
   simp only[iU,if_false]
   rw[est]
   obtain⟨n1,q1,q2,q3⟩:=Dd (P:=fun c=>M<=n+c\/∃i:Nat,t.place[i]?=some (way t.mask (bw d) (n+c))/\∃x,xs[i]?=some x/\bw x.1=bw d) (M-n) (.inl (by omega))
   have wp:WP t.mask (fJ t.mask n (jmp t.mask (bits (bw d) % (t.mask+1)) (bits (bw d)))):=by rw[<- xn]; exact(t_ t (bw d)).fJ n
   have live:∀n',n'<n1->∃i,t.slot (fJ t.mask n' (fJ t.mask n (jmp t.mask (bits (bw d) % (t.mask+1)) (bits (bw d))))).j=.live i/\(((es[i]?.map (·.1)).getD 0)==bw d)=false:=fun n' hn'=>by
    have:=q3 n' hn'
    have hlt:n+n'<M:=by
     rcases Nat.lt_or_ge (n+n') M with z | z
     ·exact z
     ·exact absurd (.inl z) this
    obtain⟨i,i1,i2⟩:=m2 _ hlt
    refine⟨i,by rw[tR]; exact i2,?_⟩
    have hil:i<xs.length:=by
     have:=(wK.mp i1).1
     rw[T.sz,cg] at this
     exact this
    rw[S.at,gP hil]
    show(bw xs[i].1==bw d)=false
    rw[beq_eq_false_iff_ne]
    intro z
    exact this (.inr ⟨i,i1,xs[i],gP hil,z⟩)
   by_cases c:M<=n+n1
   ·have eM:n+n1=M:=by omega
    have he:t.slot (fJ t.mask n1 (fJ t.mask n (jmp t.mask (bits (bw d) % (t.mask+1)) (bits (bw d))))).j=.empty:=by rw[tR,eM]; exact m4
    erw [Cm (hashAt:=fun i=>(es[i]?.map (·.1)).getD 0) wp (by omega) live he]
    dsimp only
    rw[tR,eM]
    refine bH (h2 ?_ _ ?_ m3 ⟨M,rfl,fun n' hn'=>let ⟨i,z,_⟩:=m2 n' hn'; ⟨i,z⟩⟩)
    ·intro hd
     obtain⟨x,hx,rfl⟩:=iR.mp hd
     obtain⟨i,hi⟩:=Ff.mp hx
     have hil:i<xs.length:=(nG.mp hi).1
     have hip:i<t.place.size:=by rw[T.sz,cg]; exact hil
     have ep:=BL hip
     obtain⟨ni,e1,e2⟩:=T.pa i (bw x.1) _ (by rw[il,hi]; rfl) ep
     have hlt:ni<M:=by
      rcases Nat.lt_trichotomy ni M with z | z | z
      ·exact z
      ·exact absurd (by rw[<- z,e1]; exact ep) (m3 i)
      ·obtain⟨i',z'⟩:=e2 M z; exact absurd z' (m3 i')
     rw[<- e1] at ep
     by_cases d1:ni<n
     ·exact Uw ni i d1 ep x hi rfl
     ·refine q3 (ni-n) (by omega) (.inr ⟨i,by rw[show n+(ni-n)=ni by omega]; exact ep,x,hi,rfl⟩)
    ·have:=((t_ t (bw d)).fJ M).le
     exact this
   ·rcases q2 with z | ⟨i,i1,x,i2,i3⟩
    ·exact absurd z c
    ·have i4:=xq T.ri i1
     have hc:t.slot (fJ t.mask n1 (fJ t.mask n (jmp t.mask (bits (bw d) % (t.mask+1)) (bits (bw d))))).j=.live i:=by rw[tR]; exact i4
     have hh:(fun i=>(es[i]?.map (·.1)).getD 0) i=bw d:=by
      show(es[i]?.map (·.1)).getD 0=bw d
      rw[S.at,i2]; exact i3
     erw [Fo (hashAt:=fun i=>(es[i]?.map (·.1)).getD 0) (by omega) live hc hh]
     dsimp only
     have hx:=lU i2
     have ei:es[i]?=some (bw x.1,Value.ref x.2):=by rw[S.at,i2]; rfl
     have tail:wpAny (model prog w) A (do
       let some (_,y):=es[i]? | unsupported "internal:set-entry"
       let equal <- holding [y] (eqBool y (.ref b))
       let (es',_,t') <- setState a
       if adding&&equal then return .there none
       let some same:=t'.sameMemory t.moves t.mask | unsupported "set.changed-during-lookup:is-the-new-block-at-the-old-address"
       let still <- match (if same then t'.slot (fJ t.mask n1 (fJ t.mask n (jmp t.mask (bits (bw d) % (t.mask+1)) (bits (bw d))))).j else .empty) with
        | .live i'=>match es'[i']? with
         | some (_,y')=>do pure (if <- isSame y' y then some i' else none)
         | none=>pure none
        | _=>pure none
       match still with
       | none=>rule "set.search.anew"; setSearchFrom a (.ref b) (bw d) adding fuel none
       | some i'=>if equal then return .there (some i') else setSearchFrom a (.ref b) (bw d) adding fuel (some (fJ t.mask (n1+1) (fJ t.mask n (jmp t.mask (bits (bw d) % (t.mask+1)) (bits (bw d))))))) Q E s:=by
      rw[ei]
      dsimp only
      refine aN (qJ ((bD prog w).eqBool hr (hk x hx) hb ?_))
      refine aN (JP S.get S.dt S.fits ?_)
      dsimp only
      have sm:t.sameMemory t.moves t.mask=some true:=by unfold SetTable.sameMemory; simp
      rw[sm,hc]
      dsimp only
      simp only[if_true]
      rw[ei]
      dsimp only
      have isS:∀{Q':Bool->Shared->Prop},Q' true s->wpAny (model prog w) A (isSame (Value.ref x.2) (Value.ref x.2)) Q' E s:=fun h=>by
       unfold isSame
       simp only[beq_self_eq_true,if_true]
       exact bH h
      by_cases e:x.1=d
      ·rw[iT e]
       have hm:d∈xs.map (·.1):=e▸List.mem_map_of_mem hx
       cases adding with
       | true=>
        simp only[Bool.and_self,if_true]
        exact bH (h1 hm none (fun z=>nomatch z))
       | false=>
        simp only[Bool.false_and,iU,if_false]
        refine aN (isS (aN (bH ?_)))
        simp only[if_true]
        exact bH (h1 hm _ fun _=>rfl)
      ·rw[fX e]
       simp only[Bool.and_false,iU,if_false]
       refine aN (isS (aN (bH ?_)))
       simp only[if_true,iU,if_false]
       refine ih (n+n1+1) _ (by omega) (by omega) ?_ ?_
       ·show fJ t.mask (n1+1) _=_
        rw[<- j8,Bt]
       ·intro n' i' hn' hi' x' hx'
        by_cases c1:n'<n
        ·exact Uw n' i' c1 hi' x' hx'
        ·by_cases c2:n'=n+n1
         ·subst c2
          have:=T.ri.inj hi' i1
          subst this
          rw[i2] at hx'; cases hx'
          exact e
         ·intro z
          exact q3 (n'-n) (by omega) (.inr ⟨i',by rw[show n+(n'-n)=n' by omega]; exact hi',x',hx',by rw[z]⟩)
     by_cases V_:t.led=true
     ·rw[V_]
      simp only[zj,iU,if_false]
      exact tail
     ·simp only[Bool.not_eq_true] at V_
      rw[V_]
      simp only[Bool.not_false,if_true]
      refine aN (QJ hb (fun y hy=>?_) ?_)
      ·obtain⟨e,he,rfl⟩:=iR.mp hy
       rw[Array.mem_toList_iff] at he
       have he:=(Array.mem_filter.mp he).1
       rw[<- Array.mem_toList_iff,S.es] at he
       obtain⟨x',hx',rfl⟩:=iR.mp he
       exact⟨x'.1,x'.2,rfl,hk x' hx'⟩
      ·simp only[iU,if_false]
       first | exact tail | exact aN (bH tail)
 unfold setSearch
 exact key 100000 0 none (gr _) (by omega) rfl (fun n' i h=>by omega)
end
end L2
namespace L2
open PySem PySem.Spec PyProof.Rows
open SetTable (Probe runEnd leap turns bits)
section
variable {prog:Program} {w:World} {A:Around} {E:Value->Shared->Prop} {s:Shared}
theorem QK {a:Addr} {o:Obj} {es:Array (Int×Value)} {ep:Nat} {t:SetTable} {xs:List (PyData×Addr)} {d:PyData} {b:Addr} (hr:(bD prog w).room A) (S:Lr s.heap a o es ep t xs) (hk:∀x∈xs,(bD prog w).is s.heap x.1 x.2) (hb:(bD prog w).is s.heap d b) {Q:Option Nat->Shared->Prop}
  (h:∀r:Option Nat,(r.isSome=true↔d∈xs.map (·.1))->Q r s):wpAny (model prog w) A (setFind a (.ref b) (bw d)) Q E s:=by
 unfold setFind setFindIn
 refine aN (JP S.get S.dt S.fits ?_)
 dsimp only
 have bs:byScan (.ref b) es=false:=rfl
 rw[bs]
 simp only[iU,if_false]
 refine aN (xf hr S hk hb (fun hd r hr'=>?_) (fun hd j _ _ _=>?_))
 ·exact bH (h r ⟨fun _=>hd,fun _=>hr' rfl⟩)
 ·exact bH (h none ⟨fun z=>(nomatch z),fun z=>absurd z hd⟩)
def Jj (prog:Program) (w:World) (d:PyData):Prop:=∀(n:Nat) (A:Around) (E:Value->Shared->Prop) (s:Shared) (v:Value) (as:List Addr) (Q:Bool->Shared->Prop),Reads s.heap v d as->d.depth<=n->Q true s ->
 wpAny (model prog w) A (hashByValue n v) Q E s
theorem Sg {ds:List PyData} (ih:∀d∈ds,Jj prog w d):Jj prog w (.tuple ds):=by
 intro n A E s v as Q r hn h
 have hn:PyData.depthAll ds+1<=n:=hn
 obtain⟨m,rfl⟩:∃m,n=m+1:=⟨n-1,by omega⟩
 cases r with
 | @tuple a o items nn _ _ ho hc hd hi=>
 have hT:s.TypeIs (.ref a) "tuple" := ⟨o,ho,hc⟩
 unfold hashByValue
 refine aN (xT hT F.slot_tuple_hash.lookup ?_)
 show wpAny _ _ (seqItems? (.ref a) >>= _) _ _ s
 refine aN (pG ho hd ?_)
 refine aN ?_
 show wpAny _ _ (forIn items _ _) _ _ s
 rw[<- Hl]
 refine Cd _ (fun rest r s'=>r.1=none/\s'=s/\∃left bs,(∀d∈left,d∈ds)/\ReadsAll s.heap rest left bs) _ ?_ ?_ _ _ ⟨rfl,rfl,ds,_,fun d h=>h,hi⟩
 ·rintro v rest r s' ⟨hr,rfl,left,bs,hall,hl⟩
  cases hl with
  | @cons _ _ k ks' as1 WM h1 hl'=>
  have hk:=hall k jl
  have:=jM hk
  refine aN (ih k hk m _ _ _ _ _ _ h1 (by omega) ?_)
  simp only[zj,iU,if_false]
  exact bH ⟨rfl,rfl,ks',WM,fun d h=>hall d (iG _ h),hl'⟩
 ·rintro⟨r1,r2⟩ s' ⟨hr,rfl,_⟩
  simp only at hr
  subst hr
  exact bH h
mutual
theorem Dm:∀d:PyData,nY d=true->Jj prog w d
 | .int i,_=>by
  intro n A E s v as Q r hu h
  cases r
  cases n <;> exact bH h
 | .tuple ds,h=>Sg (ye ds (by simpa[nY] using h))
 | .none,h=>nomatch h
 | .bool _,h=>nomatch h
 | .str _,h=>nomatch h
 | .list _,h=>nomatch h
 | .dict _,h=>nomatch h
theorem ye:∀ds:List PyData,d9 ds=true->∀d∈ds,Jj prog w d
 | [],_,d,hd=>by cases hd
 | x::ds,h,d,hd=>by
  have h':nY x=true/\d9 ds=true:=by simpa[d9] using h
  rcases b_.mp hd with e | e
  ·rw[e]; exact Dm x h'.1
  ·exact ye ds h'.2 d e
end
theorem ins_map {α β:Type} (f:α->β) (xs:List α) (p:Nat) (x:α):(xs.take p++x::xs.drop p).map f=(xs.map f).take p++f x::(xs.map f).drop p:=by
 rw[gY,rZ,List.map_take,List.map_drop]
theorem Ky {α:Type} {xs:List α} {p:Nat} {x:α} (h:xs.Nodup) (hx:x∉xs):(xs.take p++x::xs.drop p).Nodup:=by
 have e:(xs.take p++x::xs.drop p).Perm (x::xs):=by
  refine List.perm_middle.trans ?_
  rw[List.take_append_drop]
 exact e.nodup_iff.mpr (BZ.mpr ⟨hx,h⟩)
theorem N_ {xs:List (PyData×Addr)} {order:List Nat} (nd:order.Nodup) (hl:order.length=xs.length) (lt:∀l∈order,l<xs.length) (all:∀l,l<xs.length->l∈order) :
  ∃ys:List (PyData×Addr),(∀f:(PyData×Addr)->Int×Value,order.filterMap ((xs.map f)[·]?)=ys.map f)/\(∀f:(PyData×Addr)->Int,order.filterMap ((xs.map f)[·]?)=ys.map f)/\ys.length=xs.length/\ys.Perm xs:=by
 have sm:∀l∈order,(xs[l]?).isSome=true:=fun l h=>by rw[gP (lt l h)]; rfl
 have e:∀{γ:Type} (f:(PyData×Addr)->γ),order.filterMap ((xs.map f)[·]?)=(order.filterMap (xs[·]?)).map f:=fun f=>by
  rw[List.map_filterMap]
  congr 1
  funext l
  rw[il]
 have hp:order.Perm (List.range xs.length):=by
  refine(List.perm_ext_iff_of_nodup nd List.nodup_range).mpr fun l=>?_
  rw[zp]
  exact⟨lt l,all l⟩
 refine⟨order.filterMap (xs[·]?),e,e,by rw[Gf sm,hl],?_⟩
 have:=hp.filterMap (xs[·]?)
 rw[List.filterMap_getElem?_range_length] at this
 exact this
theorem LC {a:Addr} {o:Obj} {es:Array (Int×Value)} {ep:Nat} {t:SetTable} {xs:List (PyData×Addr)} (ho:s.heap.get? a=some o) (hx:o.ExactSet) (hd:o.data=.set es ep t) (hes:es.toList=xs.map Wv) (hf:t.fits es.size=true) (nd:(xs.map (·.1)).Nodup) (h1:1<=xs.length) (h2:xs.length<=1000) {Q:Unit->Shared->Prop}
  (q:∀h' o' es' ep' t' ys,Heap.SameBut a s.heap h'->Lr h' a o' es' ep' t' ys->ys.Perm xs->Q () { s with heap:=h' }):wpAny (model prog w) A (setRelay a (SetTable.grown xs.length)) Q E s:=by
 have sz:es.size=xs.length:=by rw[<- k_,hes,cg]
 have hsz:(es.map (·.1)).size=xs.length:=by rw[Array.size_map,sz]
 have hl:(es.map (·.1)).toList=xs.map fun x=>bw x.1:=by rw[Array.toList_map,hes,List.map_map]; rfl
 obtain⟨t',order,g1,g2,g3,g4,g6,g5,g7⟩:=JH (t:=t) (es.map (·.1)) (by omega) (by omega)
 rw[hsz] at g1 g2 g3 g4 g7
 obtain⟨ys,y1,y2,y3,y4⟩:=N_ g6 g2 g3 g4
 unfold setRelay
 refine aN (JP ho hd hf ?_)
 dsimp only
 have zl:(4096:Nat)<=sizeLine:=by rw[sizeLine_eq]; decide
 rw[aK (by omega)]
 have e1:(order.filterMap (es[·]?)).toList=ys.map Wv:=by
  rw[Array.toList_filterMap,<- y1 Wv]
  congr 1
  funext l
  rw[<- hes,BJ]
 have tail:wpAny (model prog w) A (storeSet a (order.filterMap (es[·]?)) t') Q E s:=by
  have hz:(order.filterMap (es[·]?)).size<=sizeLine:=by
   rw[<- k_,e1,cg,y3]; omega
  refine wpAny_storeSet_of ho hd ?_ hz
  have hg:(s.heap.update a (Obj.putSet (order.filterMap (es[·]?)) t')).get? a=some { o with data:=.set (order.filterMap (es[·]?)) (ep+1) t' }:=by
   have:=wJ (Obj.putSet (order.filterMap (es[·]?)) t') ho (by rw[putSet_of _ t' hd]; rfl)
   rw[putSet_of _ t' hd] at this; exact this
  refine q _ _ _ _ t' ys (Hn s.heap a _) ⟨hg,hx,rfl,e1,?_,?_⟩ y4
  ·rw[hl,y2 fun x=>bw x.1] at g5
   exact g5
  ·exact(y4.map _).nodup_iff.mpr nd
 have es2:(order.filterMap (es[·]?)).size=es.size:=by rw[<- k_,e1,cg,y3,sz]
 rw[g1]
 refine aN ?_
 show wpAny _ _ (if((order.filterMap (es[·]?)).size != es.size)=true then(unsupported "internal:set-table-lost-an-element" >>= fun _=>pure (order.filterMap (es[·]?),t')) else pure (order.filterMap (es[·]?),t')) _ _ _
 rw[aK (by rw[es2]; simp)]
 exact bH tail
theorem WT.fits {t:SetTable} {hs:List Int} (T:WT t hs):t.fits hs.length=true:=by
 have h1:=T.sz
 have h2:=T.fl
 simp only[SetTable.fits,SetTable.fill,T.dm,h1,Bw,beq_iff_eq,decide_eq_true_eq]
 refine⟨trivial,?_⟩
 show hs.length+0<=t.mask
 omega
theorem U9 {a:Addr} {o:Obj} {es:Array (Int×Value)} {ep:Nat} {t:SetTable} {xs:List (PyData×Addr)} {d:PyData} {b:Addr} (hr:(bD prog w).room A) (S:Lr s.heap a o es ep t xs) (hk:∀x∈xs,(bD prog w).is s.heap x.1 x.2) (hb:(bD prog w).is s.heap d b) (hl:xs.length<1000) {Q:Bool->Shared->Prop}
  (q:∀r h' o' es' ep' t' ys,Heap.SameBut a s.heap h'->Lr h' a o' es' ep' t' ys->(d∈xs.map (·.1)/\ys=xs\/d∉xs.map (·.1)/\ys.Perm ((d,b)::xs))->Q r { s with heap:=h' }) :
  wpAny (model prog w) A (setAddHashed a (.ref b) (bw d)) Q E s:=by
 unfold setAddHashed setAddHashedIn
 refine qJ (aN (JP S.get S.dt S.fits ?_))
 dsimp only
 have bs:byScan (.ref b) es=false:=rfl
 rw[bs]
 simp only[iU,if_false]
 refine aN (xf hr S hk hb (fun hd r _=>?_) (fun hd j hj hn hp=>?_))
 ·have e:s={ s with heap:=s.heap }:=by cases s; rfl
  have:=q false s.heap o es ep t xs (Heap.SameBut.refl a s.heap) S (.inl ⟨hd,rfl⟩)
  exact bH (by rw[e]; exact this)
 ·dsimp only
  refine aN (JP S.get S.dt S.fits ?_)
  dsimp only
  obtain⟨J,p1,p2,p3⟩:=S.ti.put hj hn hp
  generalize (t.put j).1=t1 at J p2 p3 ⊢
  generalize (t.put j).2=pp at J p1 ⊢
  rw[cg] at p1
  have tail:wpAny (model prog w) A (storeSet a (SetTable.insertAt es pp (bw d,.ref b)) t1 >>= fun _=>if(!false&&t1.tooFull)=true then(setRelay a (SetTable.grown (es.size+1)) >>= fun _=>pure true) else pure true) Q E s:=by
   have eL:(SetTable.insertAt es pp (bw d,Value.ref b)).toList=(xs.take pp++(d,b)::xs.drop pp).map Wv:=by
    rw[SetTable.toList_insertAt,S.es,ins_map]; rfl
   have hn':(xs.take pp++(d,b)::xs.drop pp).length=xs.length+1:=by
    simp only[fj,jC,m8,uI]; omega
   have hz:(SetTable.insertAt es pp (bw d,Value.ref b)).size<=sizeLine:=by
    have zl:(4096:Nat)<=sizeLine:=by rw[sizeLine_eq]; decide
    rw[<- k_,eL,cg,hn']; omega
   refine aN (wpAny_storeSet_of S.get S.dt ?_ hz)
   have hg:(s.heap.update a (Obj.putSet (SetTable.insertAt es pp (bw d,Value.ref b)) t1)).get? a=some { o with data:=.set (SetTable.insertAt es pp (bw d,Value.ref b)) (ep+1) t1 }:=by
    have:=wJ (Obj.putSet (SetTable.insertAt es pp (bw d,Value.ref b)) t1) S.get (by rw[putSet_of _ t1 S.dt]; rfl)
    rw[putSet_of _ t1 S.dt] at this; exact this
   have sb:=Hn s.heap a (Obj.putSet (SetTable.insertAt es pp (bw d,Value.ref b)) t1)
   generalize s.heap.update a (Obj.putSet (SetTable.insertAt es pp (bw d,Value.ref b)) t1)=h1 at hg sb ⊢
   have J':WT t1 ((xs.take pp++(d,b)::xs.drop pp).map fun x=>bw x.1):=by rw[ins_map]; exact J
   have Yo:((xs.take pp++(d,b)::xs.drop pp).map (·.1)).Nodup:=by rw[ins_map]; exact Ky S.nd hd
   have pm:(xs.take pp++(d,b)::xs.drop pp).Perm ((d,b)::xs):=by
    refine List.perm_middle.trans ?_
    rw[List.take_append_drop]
   cases ef:t1.tooFull with
   | false=>
    simp only[Bool.not_false,Bool.and_false,iU,if_false]
    exact bH (q true h1 _ _ _ _ _ sb ⟨hg,S.ex,rfl,eL,J'.ti ef,Yo⟩ (.inr ⟨hd,pm⟩))
   | true=>
    simp only[Bool.not_false,Bool.and_self,if_true]
    have esz:es.size+1=(xs.take pp++(d,b)::xs.drop pp).length:=by rw[hn',S.size]
    rw[esz]
    refine aN (LC (s:={ s with heap:=h1 }) hg S.ex rfl eL ?_ Yo (by omega) (by omega) fun h' o' es' ep' t' ys sb' S' py=>?_)
    ·have:=J'.fits
     rw[cg] at this
     rw[<- k_,eL,cg]
     exact this
    ·exact bH (q true h' _ _ _ _ ys (sb.trans sb') S' (.inr ⟨hd,py.trans pm⟩))
  cases epl:t1.plain with
  | false=>
   simp only[iU,if_false]
   refine aN (bH ?_)
   simp only[if_true]
   exact tail
  | true=>
   simp only[if_true]
   obtain⟨g,dp,as,r⟩:=hb
   refine aN (Dm d g 8 _ _ _ _ _ _ r dp ?_)
   simp only[if_true]
   exact tail
end
def Y0 (a:Addr) (xs:List (PyData×Addr)) (h:Heap):Prop:=∃o es ep t,Lr h a o es ep t xs
def UJ (a:Addr) (xs:List (PyData×Addr)):HO:=.ext (Y0 a xs)
def fY (H:Hp) (a:Addr) (ks:List PyData):Prop:=∃xs,H a=some (UJ a xs)/\(∀d,d∈ks↔d∈xs.map (·.1))/\(∀x∈xs,wz x.1/\At H x.1 (.ref x.2))/\xs.length<=ks.length
theorem fY.keep {H H':Hp} {a:Addr} {ks:List PyData} (n:fY H a ks) (ha:H' a=H a) (k:∀b xs,H b=some (.tup xs)->H' b=some (.tup xs)):fY H' a ks:=by
 obtain⟨xs,e,m,r,l⟩:=n
 exact⟨xs,ha.trans e,m,fun x hx=>⟨(r x hx).1,At.tupS k _ _ (nW _ (r x hx).1.k).2.2 (r x hx).2⟩,l⟩
theorem fY.same {H H':Hp} {a:Addr} {ks:List PyData} (n:fY H a ks) (s:aD H H'):fY H' a ks:=by
 obtain⟨xs,e,r⟩:=id n
 exact n.keep ((s _ _ e).trans e.symm) fun b xs h=>s _ _ h
theorem fY.ext {H:Hp} {a:Addr} {ks:List PyData} (n:fY H a ks):∃φ,H a=some (.ext φ):=by
 obtain⟨xs,e,_⟩:=n
 exact⟨_,e⟩
theorem fY.Z5 {H:Hp} {a p:Addr} {ks:List PyData} {ys:List V} {o:HO} (n:fY H a ks) (hp:H p=some (.lst ys)):fY (upd H p o) a ks:=by
 obtain⟨φ,e⟩:=n.ext
 have na:a≠p:=fun z=>by rw[z,hp] at e; cases e
 refine n.keep (aL na) fun b xs h=>?_
 have nb:b≠p:=fun z=>by rw[z,hp] at h; cases h
 rw[aL nb]; exact h
section
variable {X:Cx} {pins:List (Addr×Obj)} {σ:St} {H:Hp} {s:Shared} {a:Addr} {ks:List PyData}
theorem T5 {P:Program} {w:World} {H:Hp} {h:Heap} {xs:List (PyData×Addr)} (n:Y0 a xs h):cB P w H h a (UJ a xs):=by
 obtain⟨o,es,ep,t,S⟩:=n
 exact⟨⟨o,es,ep,t,S⟩,⟨o,S.get⟩,fun h1' h2' ⟨o',es',ep',t',S'⟩ k=>⟨o',es',ep',t',k _ S'.get,S'.ex,S'.dt,S'.es,S'.ti,S'.nd⟩⟩
theorem MT (I:Inv X pins σ H s) (n:fY H a ks):∃xs,H a=some (UJ a xs)/\(∀d,d∈ks↔d∈xs.map (·.1))/\(∀x∈xs,wz x.1/\At H x.1 (.ref x.2))/\xs.length<=ks.length/\Y0 a xs s.heap/\∀x∈xs,(bD X.prog X.w).is s.heap x.1 x.2:=by
 obtain⟨xs,e,m,r,l⟩:=n
 obtain⟨p,_,_⟩:=(show cB X.prog X.w H s.heap a (UJ a xs) from I.hok a _ e)
 exact⟨xs,e,m,r,l,p,fun x hx=>CN I.hok (r x hx).1 (r x hx).2⟩
def fG (H:Hp) (a:Addr) (ks:List PyData) (d:PyData) (H':Hp):Prop:=(∃φ,H'=upd H a (.ext φ))/\fY H' a (ks++[d])
theorem fG.tup {H H':Hp} {a:Addr} {ks:List PyData} {d:PyData} (n:fY H a ks) (p:fG H a ks d H'):∀b xs,H b=some (.tup xs)->H' b=some (.tup xs):=fun b xs h=>by
 obtain⟨⟨φ,rfl⟩,_⟩:=p
 obtain⟨ψ,e⟩:=n.ext
 have nb:b≠a:=fun z=>by rw[z,e] at h; cases h
 rw[aL nb]; exact h
theorem fG.lst {H H':Hp} {a:Addr} {ks:List PyData} {d:PyData} (n:fY H a ks) (p:fG H a ks d H'):∀b xs,H b=some (.lst xs)->H' b=some (.lst xs):=fun b xs h=>by
 obtain⟨⟨φ,rfl⟩,_⟩:=p
 obtain⟨ψ,e⟩:=n.ext
 have nb:b≠a:=fun z=>by rw[z,e] at h; cases h
 rw[aL nb]; exact h
theorem fG.at {H H':Hp} {a:Addr} {ks:List PyData} {d e:PyData} {u:V} (n:fY H a ks) (p:fG H a ks d H') (h:uZ e=true) (x:At H e u):At H' e u:=At.tupS (fG.tup n p) _ _ h x
theorem fG.same {H H':Hp} {a:Addr} {ks:List PyData} {d:PyData} {H0:Hp} (p:fG H a ks d H') (s:aD H0 H) (f:H0 a=none):aD H0 H':=by
 obtain⟨⟨φ,rfl⟩,_⟩:=p
 exact s.dG f
theorem qu (I:Inv X pins σ H s) (n:fY H a ks):s.TypeIs (.ref a) "set" /\ ∀b,Value.ref a=.ref b->∃ob,s.heap.get? b=some ob/\ob.dict=none:=by
 obtain⟨xs,e,m,r,l,⟨o,es,ep,t,S⟩,_⟩:=MT I n
 exact⟨⟨o,S.get,S.ex.1⟩,fun b z=>by cases z; exact⟨o,S.get,S.ex.2.1⟩⟩
theorem QZ {A:Around} {E:Value->Shared->Prop} {b:Addr} {d:PyData} {Q:Option Nat->Shared->Prop} (hu:(bD X.prog X.w).room A) (I:Inv X pins σ H s) (n:fY H a ks) (ky:nM H d (.ref b)) (h:∀r:Option Nat,r.isSome=decide (d∈ks)->Q r s) :
  wpAny (model X.prog X.w) A (setFind a (.ref b) (bw d)) Q E s:=by
 obtain⟨xs,e,m,r,l,⟨o,es,ep,t,S⟩,hk⟩:=MT I n
 refine QK hu S hk (CN I.hok ky.1 ky.2) fun r hr=>h r ?_
 rw[<- m d] at hr
 by_cases z:d∈ks
 ·rw[iT z]; exact hr.mpr z
 ·rw[fX z,<- Bool.not_eq_true]; exact fun q=>z (hr.mp q)
end
end L2
namespace L2
open PySem PySem.Spec PyProof.Rows
section
variable {X:Cx} {pins:List (Addr×Obj)} {σ:St} {H:Hp} {s:Shared} {a:Addr} {ks:List PyData}
theorem M3 {A:Around} {E:Value->Shared->Prop} {Q:Value->Shared->Prop} {d:PyData} {y:V} {u:Value} (hu:A.units+64<cLine) (I:Inv X pins σ H s) (n:fY H a ks) (ky:nM H d y) (ry:RelV y u) (h:∀s',Inv X pins σ H s'->Q (.bool (!decide (d∈ks))) s') :
  wpAny (model X.prog X.w) A (compareOp .NotIn u (.ref a)) Q E s:=by
 obtain⟨b,rfl,rfl⟩:=ky.ref ry
 have hT:=(qu I n).1
 show wpAny _ _ (do return .bool (!(<- contains (.ref a) (.ref b)))) Q E s
 refine aN ?_
 unfold contains
 try with_reducible refine qJ ?_
 refine aN (xT hT F.slot_set_contains.lookup ?_)
 show wpAny _ _ (if(some (Value.builtin "set.__contains__")==some Value.none)=true then _ else _) _ E s
 rw[aK (by rw[beq_builtin_none]; exact jD)]
 refine aN (wpAny_callSpecialUnlessNone?_slot (name:=Str.ofString "__contains__") hT F.slot_set_contains
  (uJ F.slot_set_contains hT entry_set_contains ?_ (F.args_set_contains_2 _ _)))
 unfold Builtin.«frozenset.__contains__» Builtin.Frozenset.oneOther
 simp only[List.isEmpty_nil,bind_assoc]
 unfold Builtin.Frozenset.addrOf Builtin.Frozenset.withSetAsKey setContains
 refine aN (bH ?_)
 try dsimp only
 refine aN (bH ?_)
 try dsimp only
 refine aN (xO ?_)
 refine qJ ?_
 refine aN ((bD X.prog X.w).pyHash (tL hu) (CN I.hok ky.1 ky.2) ?_)
 have I':Inv X pins σ H { s with toks:=s.toks+(bD X.prog X.w).draws d }:=I.tok _
 refine aN (QZ (s:={ s with toks:=s.toks+(bD X.prog X.w).draws d }) (tL hu) I' n ky fun r hr=>?_)
 refine bH ?_
 show wpAny _ _ (ret (Value.bool r.isSome)) _ _ _
 rw[hr]
 exact bH ⟨_,rfl,Cg (bH (h _ I'))⟩
theorem MP {h':Heap} {t':Nat} {xs ys:List (PyData×Addr)} {ks':List PyData} (I:Inv X pins σ H s) (e:H a=some (UJ a xs)) (hs:Heap.SameBut a s.heap h') (n:Y0 a ys h') (m:∀d,d∈ks'↔d∈ys.map (·.1)) (r:∀x∈ys,wz x.1/\At H x.1 (.ref x.2)) (l:ys.length<=ks'.length) :
  Inv X pins σ (upd H a (UJ a ys)) { s with heap:=h',toks:=t' }/\fY (upd H a (UJ a ys)) a ks':=by
 obtain⟨o,es,ep,t,S⟩:=id n
 refine⟨I.write (x:=a) (e:=a) (by rw[e]; exact True.intro) (.inl rfl) (fun b q hb z=>(hs.2 b hb).trans z) ⟨o,S.get⟩ (T5 n),ys,aC,m,fun x hx=>⟨(r x hx).1,At.tupS (fun b xs hb=>?_) _ _ (nW _ (r x hx).1.k).2.2 (r x hx).2⟩,l⟩
 have nb:b≠a:=fun z=>by rw[z,e] at hb; cases hb
 rw[aL nb]; exact hb
theorem Vk {A:Around} {E:Value->Shared->Prop} {Q:Value->Shared->Prop} {d:PyData} {y:V} {u:Value} (hu:A.units+64<cLine) (I:Inv X pins σ H s) (n:fY H a ks) (hl:ks.length<1000) (ky:nM H d y) (ry:RelV y u) (h:∀H' s',fG H a ks d H'->Inv X pins σ H' s'->Q .none s') :
  wpAny (model X.prog X.w) A (call (.builtin "set.add") [.ref a,u]) Q E s:=by
 obtain⟨b,rfl,rfl⟩:=ky.ref ry
 have hT:=(qu I n).1
 refine uJ F.slot_set_add hT F.entry_set_add ?_ (F.args_set_add_2 _ _)
 unfold Builtin.«set.add» Builtin.Frozenset.oneOther
 simp only[List.isEmpty_nil,bind_assoc]
 unfold Builtin.Frozenset.addrOf setAdd
 refine aN (bH ?_)
 try dsimp only
 refine aN (bH ?_)
 try dsimp only
 refine aN ?_
 refine qJ ?_
 refine aN ((bD X.prog X.w).pyHash (tL hu) (CN I.hok ky.1 ky.2) ?_)
 have I':Inv X pins σ H { s with toks:=s.toks+(bD X.prog X.w).draws d }:=I.tok _
 obtain⟨xs,e,m,r,l,⟨o,es,ep,t,S⟩,hk⟩:=MT I' n
 refine U9 (s:={ s with toks:=s.toks+(bD X.prog X.w).draws d }) (tL hu) S hk (CN I'.hok ky.1 ky.2) (by omega) fun rr h' o' es' ep' t' ys sb S' hy=>?_
 have fin:(∀z,z∈ks++[d]↔z∈ys.map (·.1))/\(∀x∈ys,wz x.1/\At H x.1 (.ref x.2))/\ys.length<=(ks++[d]).length:=by
  rw[fj]
  rcases hy with⟨hd,rfl⟩ | ⟨hd,pm⟩
  ·refine⟨fun z=>?_,r,by omega⟩
   rw[<- m z,m7,d8]
   exact⟨fun q=>q.elim id fun q=>by rw[q]; exact(m d).mpr hd,.inl⟩
  ·refine⟨fun z=>?_,fun x hx=>?_,?_⟩
   ·rw[(pm.map (·.1)).mem_iff,rZ,b_,m7,d8,m z]
    exact⟨fun q=>q.elim .inr .inl,fun q=>q.elim .inr .inl⟩
   ·rcases b_.mp (pm.mem_iff.mp hx) with rfl | hx
    ·exact⟨ky.1,ky.2⟩
    ·exact r x hx
   ·rw[pm.length_eq,m8]; show xs.length+1<=ks.length+1; omega
 obtain⟨I2,n2⟩:=MP (t':=s.toks+(bD X.prog X.w).draws d) I' e sb ⟨o',es',ep',t',S'⟩ fin.1 fin.2.1 fin.2.2
 show wpAny _ _ (ret Value.none) _ _ _
 exact bH ⟨_,rfl,h _ _ ⟨⟨_,rfl⟩,n2⟩ I2⟩
end
section
variable {X:Cx}
theorem J5 (hu:X.A.units+64<cLine):oU X (compareOp .NotIn) (fun x y H Q=>∃a ks d,y=.ref a/\fY H a ks/\nM H d x/\Q (.bl (!decide (d∈ks))) H):=by
 refine .mk ?_
 intro pins s σ H x y v u Q I rx ry h
 obtain⟨a,ks,d,rfl,n,k,q⟩:=h
 cases ry
 exact M3 hu I n k rx fun s' I'=>⟨.bl _,H,I',rfl,q⟩
theorem Mi (led:Bool):Le (.fresh 0 0 led) []:=by
 refine⟨rfl,fun a b x y h=>?_,rfl,fun i j h=>?_,⟨3,by decide,by decide,rfl⟩,by show 5*0<3*7; decide,fun i h j z=>by simp at z⟩
 ·have h:(#[]:Array Nat)[a]?=some x:=h
  simp at h
 ·have h:(#[]:Array Nat)[i]?=some j:=h
  simp at h
def Uc:List V->Hp->VK->Prop:=fun vs H Q=>vs=[]/\∀p H',H p=none->aD H H'->fY H' p []->(∃φ,H'=upd H p (.ext φ))->Q (.ref p) H'
theorem K3:cX X (.type "set") Uc:=by
 refine .mk ?_
 intro pins s σ H vs us Q I r h
 obtain⟨rfl,q⟩:=h
 cases r
 refine call_set_0 fun led=>?_
 have hf:=I.hok.fresh (cV s.heap.objs.size)
 have n:Y0 s.heap.objs.size [] (s.heap.push { cls:=.type "set",dict:=none,data:=.set #[] 0 (.fresh 0 0 led) }):=⟨_,#[],0,_,dR _ rfl,⟨rfl,rfl,rfl⟩,rfl,rfl,Mi led,List.nodup_nil⟩
 exact⟨.ref s.heap.objs.size,_,I.laid (a:=s.heap.objs.size) (o:=UJ s.heap.objs.size []) (t':=s.toks) (fun _ _ q=>gf _ q) (cV _) (T5 n),rfl,q _ _ hf (aO hf _) ⟨[],aC,fun d=>by simp,fun x hx=>(nomatch hx),cV _⟩ ⟨_,rfl⟩⟩
def Tw (to:TE) (t:TA):TE:=fun σ H Q=>to σ H fun x H1=>(∃a ks,x=.ref a/\fY H1 a ks)/\t σ H1 fun vs H2=>∃a ks y d,x=.ref a/\vs=[y]/\fY H2 a ks/\ks.length<1000/\nM H2 d y/\∀H3,fG H2 a ks d H3->Q .non H3
theorem Hw (hu:X.A.units+64<cLine) {o e:Expr} {to:TE} {t:TA} {apos cpos:Pos} (ho:PE X o to) (ha:PA X [e] t)
  (hbase:attributeBase o "add" X.env (eval o X.env)=eval o X.env:=by rfl)
  (hfew:((backTo cpos (starEach [e] X.env)).all (fun x=>!x.1)&&(backToKw cpos (keywordEach [] X.env)).all (fun x=>x.1.isSome)
   && decide (([e]:List Expr).length+([]:List Keyword).length+(if([]:List Keyword).isEmpty then 0 else 1)<30))=true:=by rfl)
  (hline:(apos.endLine==cpos.line)=true:=by rfl) (hs:starEach [e] X.env=(false,eval e X.env)::starEach [] X.env:=by rfl) (hplain:(backTo cpos (starEach [] X.env)).any (·.1)=false:=by rfl) :
  PE X (.Call (.Attribute o "add" apos) [e] [] cpos) (Tw to t):=by
 refine .mk ?_
 intro pins s σ H Q I h
 refine wpAny_Call_method_late hbase hfew hline rfl (cF (ho pins s σ H _ I h) fun v s1 qx=>?_)
 obtain⟨x,H1,I1,r1,⟨a,ks,ex,n⟩,q1⟩:=qx
 subst ex
 cases r1
 obtain⟨h1,h2⟩:=qu I1 n
 refine⟨"set","set.add",F.plainAttrs_set,F.slot_set_add,F.type_set_add,h1,h2,?_⟩
 have hA:=ha cpos pins s1 σ H1 _ I1 q1
 rw[hs] at hA ⊢
 refine Calls.callWith_builtin (by show(false || (backTo cpos (starEach [] X.env)).any (·.1))=false; rw[hplain] <;> rfl) (Calls.evalArgs_plain ?_)
 refine cF hA fun us s2 qx=>?_
 obtain⟨vs,H2,I2,r2,a',ks',y,d,e1,e2,n2,hl,ky,q2⟩:=qx
 cases e1
 subst e2
 obtain⟨u,rfl,ru⟩:=r2.one
 exact Vk hu I2 n2 hl ky ru fun H' s' p I'=>⟨.non,H',I',rfl,q2 H' p⟩
end
section
variable {P:Program} {w:World} {K:PySem.W.Frag} {mg:Str->Option Value} {base:Heap} {N:List Str} {qual:Str} {scope:Scope} {f:Addr} {cd:Value} {A:Around} {outer:List Env} {s0:Shared} {H0:Hp} {E:XK}
theorem J4 {pins:List (Addr×Obj)} {σ:St} {H1:Hp} {s1 s':Shared} {e:Value} {E':XK} (I:Inv (fH (lA P w) P w K mg base N qual scope f cd A outer s0 H0 E) pins σ H1 s1) (c:lA P w (envOfC qual scope s0.heap.objs.size f cd::outer) H1 s1 E' e s')
  (hE:∀cls H2,E' cls none H2->∀H3,(aD H1 H2->aD H1 H3)->E cls none H3):(fH (lA P w) P w K mg base N qual scope f cd A outer s0 H0 E).xe e s':=by
 obtain⟨a,T0,cls,H2,rfl,os,bare,un,hok,ha,hT0,n0,⟨Zr,V0⟩,q⟩:=c
 have na:H1 a=none:=I.hok.none Zr
 have nT0:H1 T0=none:=I.hok.none V0
 have q:=hE cls H2 q
 have I2:Inv (fH (lA P w) P w K mg base N qual scope f cd A outer s0 H0 E) pins σ H2 s':=I.call' (ch:=[]) os un hok bare fun b z=>nomatch z
 have ff:s'.heap.FunFrames base (envOfC qual scope s0.heap.objs.size f cd::outer):=I2.stack
 have fr:(A.deeper (envOfC qual scope s0.heap.objs.size f cd)).frames=some (envOfC qual scope s0.heap.objs.size f cd::outer):=I2.ok.frames
 show wpAny _ _ (leaving (envOfC qual scope s0.heap.objs.size f cd) (.ref a)) _ _ _
 unfold leaving
 refine aN ?_
 refine noteE2 fr ff rfl (wB.at (hok a _ ha)) (wX.at (hok T0 _ hT0)) n0 fun h3 T nt=>?_
 have fT:s'.heap.get? T=none:=by
  cases z:s'.heap.get? T with
  | none=>rfl
  | some o=>exact absurd (bW z) (Nat.not_lt.mpr nt.fresh)
 have nT:H2 T=none:=hok.none fT
 have Ta:T≠a:=fun z=>by rw[z,ha] at nT; cases nT
 have TT:T≠T0:=fun z=>by rw[z,hT0] at nT; cases nT
 have I3:Inv (fH (lA P w) P w K mg base N qual scope f cd A outer s0 H0 E) pins σ (upd (upd (upd H2 T0 (QC T0)) a (wB a cls T)) T (wX T)) { s' with heap:=h3 }:=by
  refine I2.ext (fun b=>b=a\/b=T0\/b=T) (fun b o z y x=>nt.keep b o (fun w=>z (.inl w)) (fun w=>z (.inr (.inl w))) y x) (fun b o z x=>nt.slot b o (fun w=>z (.inl w)) (fun w=>z (.inr (.inl w))) x) (fun b o z x=>?_) (fun b z=>?_) (fun b z=>?_) (fun b u z y=>?_)
  ·rcases z with rfl | rfl | rfl
   ·obtain⟨oe,vs,e1,_⟩:=nt.ex; exact⟨_,e1⟩
   ·exact nt.old
   ·rw[fT] at x; cases x
  ·rcases z with rfl | rfl | rfl
   ·exact .inr ⟨_,ha⟩
   ·exact .inr ⟨_,hT0⟩
   ·exact .inl ⟨nT,fT⟩
  ·rw[aL fun w=>z (.inr (.inr w)),aL fun w=>z (.inl w),aL fun w=>z (.inr (.inl w))]
  ·rcases z with rfl | rfl | rfl
   ·rw[aL (Ne.symm Ta),aC] at y; cases y; exact Od nt.ex
   ·rw[aL (Ne.symm TT),aL n0,aC] at y; cases y; exact Uo nt.old
   ·rw[aC] at y; cases y; exact HH nt.tb
 have Uv:upd (upd (upd H2 T0 (QC T0)) a (wB a cls T)) T (wX T) a=some (wB a cls T):=by rw[aL (Ne.symm Ta),aC]
 have Zw:upd (upd (upd H2 T0 (QC T0)) a (wB a cls T)) T (wX T) T=some (wX T):=aC
 have sm:aD H1 H2->aD H1 (upd (upd (upd H2 T0 (QC T0)) a (wB a cls T)) T (wX T)):=fun y b o z=>by
  have g:=y b o z
  rw[aL (fun w=>by rw[w,nT] at g; cases g),aL (fun w=>by rw[w,na] at z; cases z),aL (fun w=>by rw[w,nT0] at z; cases z)]
  exact g
 refine⟨a,T,cls,_,rfl,I3.os,I3.bare,I3.base,I3.hok,Uv,Zw,Ta,⟨?_,?_⟩,q _ sm⟩
 ·cases z:s0.heap.get? a with
  | none=>rfl
  | some o=>
   obtain⟨o',g⟩:=(show Un (frs outer) [] H0 H1 s0.heap s1.heap from I.base).there a o z (by simp)
   rw[Zr] at g; cases g
 ·cases z:s0.heap.get? T with
  | none=>rfl
  | some o=>
   obtain⟨o',g⟩:=(show Un (frs outer) [] H0 H2 s0.heap s'.heap from I2.base).there T o z (by simp)
   rw[fT] at g; cases g
def Ms (sp:Sp) (Ln:List V) (E:XK) (t:TA):TE:=fun σ H Q=>t σ H fun vs H1=>sp (vs++Ln) H1 Q (fun cls _ H2=>∀H3,(aD H1 H2->aD H1 H3)->E cls none H3)
theorem Q3 {pins:List (Addr×Obj)} {σ:St} {H:Hp} {s:Shared} {Q:VK} {us:List Value} {vs:List V} {k:Nat} {x:Str} {ps:List Str} {sp:Sp} (c:Lj P w K mg base k x ps sp) (hr:gG k (A.deeper (envOfC qual scope s0.heap.objs.size f cd))) (I:Inv (fH (lA P w) P w K mg base N qual scope f cd A outer s0 H0 E) pins σ H s) (r:Vals vs us)
  (q:sp vs H Q (fun cls _ H2=>∀H3,(aD H H2->aD H H3)->E cls none H3)):wpAny (model P w) (A.deeper (envOfC qual scope s0.heap.objs.size f cd)) (call (.ref c.f) us) (EP (fH (lA P w) P w K mg base N qual scope f cd A outer s0 H0 E) pins σ Q) (fH (lA P w) P w K mg base N qual scope f cd A outer s0 H0 E).xe s:=by
 have hl2:us.length=ps.length:=by rw[<- r.length]; exact c.G.len _ _ _ _ q
 have hb:=c.b s us I.wC (by rw[kZ]; exact hl2)
 rw[kZ] at hb
 refine wpAny_call (codeAny_mono (c.G.run _ _ s H ⟨us,[]⟩ us vs _ _ hr I.env0 hb r q) fun r s' z=>?_)
 cases r with
 | error e'=>
  have z':lA P w (envOfC qual scope s0.heap.objs.size f cd::outer) H s (fun cls _ H2=>∀H3,(aD H H2->aD H H3)->E cls none H3) e' s':=z
  exact J4 I z' fun cls H2 y=>y
 | ok fl=>
  cases fl with
  | ret u=>
   obtain⟨v,H2,I2,rv2,q2⟩:=I.after z
   exact⟨v,H2,I2,rv2,q2⟩
  | next=>exact False.elim z
  | brk=>exact False.elim z
  | cont=>exact False.elim z
theorem Yg {k:Nat} {x:Str} {p pos:Pos} {e:Expr} {es:List Expr} {ps:List Str} {sp:Sp} {t:TA} (c:Lj P w K mg base k x ps sp) (hr:gG k (A.deeper (envOfC qual scope s0.heap.objs.size f cd))) (ha:PA (fH (lA P w) P w K mg base N qual scope f cd A outer s0 H0 E) (e::es) t)
  (hg:Gl (fH (lA P w) P w K mg base N qual scope f cd A outer s0 H0 E) x:=by rfl) (hdb:(x==("__debug__" : Str))=false:=by decide) (h1:cG e=true:=by rfl) (h2:es.all cG=true:=by rfl) :
  PE (fH (lA P w) P w K mg base N qual scope f cd A outer s0 H0 E) (.Call (.Name x p) (e::es) [] pos) (Ms sp [] E t):=by
 refine .mk ?_
 intro pins s σ H Q I h
 refine sG (pN I hg c.m ?_ hdb)
 refine PySem.W.callWith_K (h₀:=base) I.ok.mod.Ur c.kp (cF (ha pos pins s σ H _ I h) fun us s1 ⟨vs,H1,I1,r,q⟩=>⟨I1.wC,?_⟩) (cJ h1) (cI h2)
 dsimp only at q
 rw[kZ] at q
 exact Q3 c hr I1 r q
end
abbrev TX:=St->Hp->VK->(Value->Hp->Hp->Prop)->Prop
abbrev Lq:=Ends->(Value->St->Hp->Hp->Prop)->St->Hp->Prop
def XL (X:Cx) (pins:List (Addr×Obj)) (σ:St) (EE:Value->Hp->Hp->Prop):Value->Shared->Prop:=fun e s'=>∃H1 s1 E',Inv X pins σ H1 s1/\lA X.prog X.w X.stack H1 s1 E' e s'/\∀cls H2,E' cls none H2->EE cls H1 H2
def XLs (X:Cx) (pins:List (Addr×Obj)) (EE:Value->St->Hp->Hp->Prop):Value->Shared->Prop:=fun e s'=>∃σ1 H1 s1 E',Inv X pins σ1 H1 s1/\lA X.prog X.w X.stack H1 s1 E' e s'/\∀cls H2,E' cls none H2->EE cls σ1 H1 H2
structure PX (X:Cx) (e:Expr) (t:TX):Prop where
 mk ::
 go:∀(pins:List (Addr×Obj)) (s:Shared) (σ:St) (H:Hp) (Q:VK) (EE:Value->Hp->Hp->Prop),Inv X pins σ H s->t σ H Q EE->wpAny (model X.prog X.w) X.A (eval e X.env) (EP X pins σ Q) (XL X pins σ EE) s
structure PSX (X:Cx) (st:Stmt) (t:Lq):Prop where
 mk ::
 go:∀(pins:List (Addr×Obj)) (s:Shared) (σ:St) (H:Hp) (D:Ends) (EE:Value->St->Hp->Hp->Prop),Inv X pins σ H s->t D EE σ H->wpAny (model X.prog X.w) X.A (exec st X.env) (SP X pins D) (XLs X pins EE) s
structure Y5 (X:Cx) (st:List Stmt) (t:Lq):Prop where
 mk ::
 go:∀(pins:List (Addr×Obj)) (s:Shared) (σ:St) (H:Hp) (D:Ends) (EE:Value->St->Hp->Hp->Prop),Inv X pins σ H s->t D EE σ H->wpAny (model X.prog X.w) X.A (execs st X.env) (SP X pins D) (XLs X pins EE) s
def xPe (te:TE):TX:=fun σ H Q _=>te σ H Q
def Ti (sp:Sp) (Ln:List V) (ta:TA):TX:=fun σ H Q EE=>ta σ H fun vs H1=>sp (vs++Ln) H1 Q (fun cls _ H2=>EE cls H1 H2)
def xIf (tc:TT) (a b:TX):TX:=fun σ H Q EE=>tc σ H fun d H1=>if d=true then a σ H1 Q EE else b σ H1 Q EE
def Xd (i:Nat) (t:TX):Lq:=fun D EE σ H=>t σ H (fun v H'=>D.nx (σ.set i (some v)) H') (fun cls H1 H2=>EE cls σ H1 H2)
def Xe (t:TX):Lq:=fun D EE σ H=>t σ H (fun _ H'=>D.nx σ H') (fun cls H1 H2=>EE cls σ H1 H2)
def Z4 (tc:TT) (a b:Lq):Lq:=fun D EE σ H=>tc σ H fun d H1=>if d=true then a D EE σ H1 else b D EE σ H1
def xPs (t:TS):Lq:=fun D _ σ H=>t D σ H
def Z3 (a b:Lq):Lq:=fun D EE σ H=>a { D with nx:=fun σ' H'=>b D EE σ' H' } EE σ H
section
variable {X:Cx}
theorem Rh {k:Nat} {x:Str} {p pos:Pos} {e:Expr} {es:List Expr} {ps:List Str} {sp:Sp} {t:TA} (c:Lj X.prog X.w X.K X.mg X.base k x ps sp) (hr:gG k X.A) (ha:PA X (e::es) t)
  (hn:∀e s,X.xe e s->False:=by exact fun _ _ z=>z) (hg:Gl X x:=by rfl) (hdb:(x==("__debug__" : Str))=false:=by decide) (h1:cG e=true:=by rfl) (h2:es.all cG=true:=by rfl) :
  PX X (.Call (.Name x p) (e::es) [] pos) (Ti sp [] t):=by
 refine .mk ?_
 intro pins s σ H Q EE I h
 refine sG (pN I hg c.m ?_ hdb)
 refine PySem.W.callWith_K (h₀:=X.base) I.ok.mod.Ur c.kp (fM (ha pos pins s σ H _ I h) (fun us s1 ⟨vs,H1,I1,r,q⟩=>⟨I1.wC,?_⟩) fun _ _ z=>(hn _ _ z).elim) (cJ h1) (cI h2)
 dsimp only at q
 rw[kZ] at q
 have hl2:us.length=ps.length:=by rw[<- r.length]; exact c.G.len _ _ _ _ q
 have hb:=c.b s1 us I1.wC (by rw[kZ]; exact hl2)
 rw[kZ] at hb
 refine wpAny_call (codeAny_mono (c.G.run _ _ s1 H1 ⟨us,[]⟩ us vs _ _ hr I1.env0 hb r q) fun r s' z=>?_)
 cases r with
 | error e'=>exact⟨H1,s1,fun cls _ H2=>EE cls H1 H2,I1,z,fun cls H2 y=>y⟩
 | ok fl=>
  cases fl with
  | ret u=>
   obtain⟨v,H2,I2,rv2,q2⟩:=I1.after z
   exact⟨v,H2,I2,rv2,q2⟩
  | next=>exact False.elim z
  | brk=>exact False.elim z
  | cont=>exact False.elim z
theorem Ri {i:Nat} {x:Str} {e:Expr} {te:TX} {pos pos':Pos} (hN:X.N.Nodup) (he:PX X e te) (hi:X.N[i]?=some x:=by rfl) (hx:Loc X.env.scope x:=by first | exact Or.inl rfl | exact Or.inr rfl) (hs:swapsWith e (some (.Name x pos')) pos.line X.env=pure false:=by rfl) (hf:X.fn x=true\/X.env.scope.names.lookup x=some .local:=by first | exact .inl rfl | exact .inr rfl) (hn:∀e s,X.xe e s->False:=by exact fun _ _ z=>z) :
  PSX X (.Assign [.Name x pos'] e pos) (Xd i te):=by
 refine .mk ?_
 intro pins s σ H D EE I h
 refine wpAny_Assign_Name (fM (he.go pins s σ H _ _ I h) (fun v s1 ⟨y,H1,I1,r1,q1⟩=>?_) fun e s z=>?_) hs
 ·exact jz I1 hN hi hx r1 (fun s2 I2=>⟨_,H1,I2,q1⟩) hf
 ·obtain⟨H1,s1,E',I1,c,q⟩:=z
  exact⟨σ,H1,s1,E',I1,c,q⟩
theorem Nu {st:Stmt} {a:Lq} (ha:PSX X st a):Y5 X [st] a:=by
 refine .mk ?_
 intro pins s σ H D EE I h
 refine wpAny_execs_cons (fM (ha.go pins s σ H _ EE I h) (fun fl s1 z=>?_) fun _ _ z=>z)
 cases fl with
 | next=>exact xR z
 | ret u=>exact z
 | brk=>exact z
 | cont=>exact z
end
section
variable {X:Cx}
end
abbrev jx (K:PySem.W.Frag) (x:Str) (st:Stmt) (f:Addr):Prop:=∃(oc:Value) (od an:Option Addr) (sl:Array (Option Value)) (kV dc pm cd ct:Value),PySem.W.nsIn K mainGlobals x=some (some (.ref f))/\K.lookup f=some ⟨oc,od,.func (PySem.W.fnOf x x (dF st) (cN st) (aH st) .none kV dc pm an cd ct),sl⟩/\PySem.W.codeIn K cd x=true/\PySem.W.keepIn K (.ref f)=true
abbrev Tf (K:PySem.W.Frag) (x:Str) (st:Stmt) (f:Addr) (T:Addr) (i:Int):Prop:=∃(oc oT:Value) (od an dT:Option Addr) (sl sT:Array (Option Value)) (kV dc pm cd ct:Value) (t:Tok) (nT:Nat),PySem.W.nsIn K mainGlobals x=some (some (.ref f))/\K.lookup f=some ⟨oc,od,.func (PySem.W.fnOf x x (dF st) (cN st) (aH st) (.ref T) kV dc pm an cd ct),sl⟩/\PySem.W.codeIn K cd x=true/\PySem.W.keepIn K (.ref f)=true/\K.lookup T=some ⟨oT,dT,.seq #[.int i t] nT,sT⟩
structure Za (K:PySem.W.Frag) (mg:Str->Option Value) (x:Str) (st:Stmt) (ps:List Str) where
 f:Addr
 fd:FuncData
 F:iV K x x st f fd
 b:Binds K fd ps []
 m:mg x=some (.ref f)
structure Qt (K:PySem.W.Frag) (mg:Str->Option Value) (x:Str) (st:Stmt) (ps:List Str) (i:Int) where
 f:Addr
 fd:FuncData
 T:Addr
 t:Tok
 F:sY K x x st f fd T i t
 b:Binds K fd ps []
 bd:Binds K fd ps [.int i t]
 m:mg x=some (.ref f)
section
variable {K:PySem.W.Frag} {h:Heap} {mg:Str->Option Value}
theorem jx.mk {x:Str} {st:Stmt} {f:Addr} {oc:Value} {od an:Option Addr} {sl:Array (Option Value)} {kV dc pm cd ct:Value} (a:PySem.W.nsIn K mainGlobals x=some (some (.ref f))) (l:K.lookup f=some ⟨oc,od,.func (PySem.W.fnOf x x (dF st) (cN st) (aH st) .none kV dc pm an cd ct),sl⟩) (c:PySem.W.codeIn K cd x=true) (k:PySem.W.keepIn K (.ref f)=true):jx K x st f:=⟨oc,od,an,sl,kV,dc,pm,cd,ct,a,l,c,k⟩
theorem Tf.mk {x:Str} {st:Stmt} {f T:Addr} {i:Int} {oc oT:Value} {od an dT:Option Addr} {sl sT:Array (Option Value)} {kV dc pm cd ct:Value} {t:Tok} {nT:Nat} (a:PySem.W.nsIn K mainGlobals x=some (some (.ref f))) (l:K.lookup f=some ⟨oc,od,.func (PySem.W.fnOf x x (dF st) (cN st) (aH st) (.ref T) kV dc pm an cd ct),sl⟩) (c:PySem.W.codeIn K cd x=true) (k:PySem.W.keepIn K (.ref f)=true) (e:K.lookup T=some ⟨oT,dT,.seq #[.int i t] nT,sT⟩):Tf K x st f T i:=⟨oc,oT,od,an,dT,sl,sT,kV,dc,pm,cd,ct,t,nT,a,l,c,k,e⟩
theorem jx.has {x:Str} {st:Stmt} {f:Addr} (e:jx K x st f) (X:K.In h) (G:h.Ns mainGlobals mg) {ps:List Str} (H:∀(kV doc pm:Value) (an:Option Addr) (cdv ct:Value) (us:List Value),us.length=ps.length->bindArgs (PySem.W.fnOf x x (dF st) (cN st) (aH st) .none kV doc pm an cdv ct) ⟨us,[]⟩=pure (ps.zip us)):Nonempty (Za K mg x st ps):=by
 obtain⟨oc,od,an,sl,kV,dc,pm,cd,ct,a,l,c,k⟩:=e
 have F:=Pk (st:=st) l c k
 exact⟨⟨_,_,F,F.binds H,PySem.W.mg_of X G a⟩⟩
theorem Tf.has {x:Str} {st:Stmt} {f T:Addr} {i:Int} (e:Tf K x st f T i) (X:K.In h) (G:h.Ns mainGlobals mg) {ps:List Str}
  (H:∀(t:Tok) (kV doc pm:Value) (an:Option Addr) (cdv ct:Value) (us:List Value),(us++[]).length=ps.length->∃k,bindArgs (PySem.W.fnOf x x (dF st) (cN st) (aH st) (.ref T) kV doc pm an cdv ct) ⟨us,[]⟩=seqItems? (.ref T) >>= k/\k (some #[.int i t])=pure (ps.zip (us++[])))
  (H':∀(t:Tok) (kV doc pm:Value) (an:Option Addr) (cdv ct:Value) (us:List Value),(us++[Value.int i t]).length=ps.length->∃k,bindArgs (PySem.W.fnOf x x (dF st) (cN st) (aH st) (.ref T) kV doc pm an cdv ct) ⟨us,[]⟩=seqItems? (.ref T) >>= k/\k (some #[.int i t])=pure (ps.zip (us++[.int i t]))):Nonempty (Qt K mg x st ps i):=by
 obtain⟨oc,oT,od,an,dT,sl,sT,kV,dc,pm,cd,ct,t,nT,a,l,c,k,e⟩:=e
 have F:sY K x x st f _ T i t:=⟨⟨_,_,_,_,_,_,_,_,_,rfl,l,c⟩,k,⟨_,_,e,rfl⟩⟩
 exact⟨⟨_,_,_,_,F,F.binds (H t),F.binds (H' t),PySem.W.mg_of X G a⟩⟩
def Za.ct {x:Str} {st:Stmt} {ps:List Str} {k:Nat} {sp:Sp} (h:Za K mg x st ps) (P:Program) (w:World) (base:Heap) (G:bM P w K mg base iz k h.f h.fd ps sp):Ct P w K mg base k x ps sp:=⟨h.f,h.fd,G,h.F.kp,h.b,h.m⟩
def Za.ctE {x:Str} {st:Stmt} {ps:List Str} {k:Nat} {sp:Sp} (h:Za K mg x st ps) (P:Program) (w:World) (base:Heap) (G:bM P w K mg base (lA P w) k h.f h.fd ps sp):Lj P w K mg base k x ps sp:=⟨h.f,h.fd,G,h.F.kp,h.b,h.m⟩
def Qt.ct {x:Str} {st:Stmt} {ps:List Str} {i:Int} {k:Nat} {sp:Sp} (h:Qt K mg x st ps i) (P:Program) (w:World) (base:Heap) (G:bM P w K mg base iz k h.f h.fd ps sp):U5 P w K mg base k x ps i sp:=⟨h.f,h.fd,h.t,G,h.F.kp,h.b,h.bd,h.m⟩
abbrev Nb (K:PySem.W.Frag) (x:Str):Prop:=PySem.W.nsIn K mainGlobals x=some none
abbrev Ni (K:PySem.W.Frag) (x:Str) (i:Int):Prop:=∃t,PySem.W.nsIn K mainGlobals x=some (some (.int i t))
abbrev wZ (K:PySem.W.Frag) (x s:Str):Prop:=∃t,PySem.W.nsIn K mainGlobals x=some (some (.str s t))
theorem Ni.mk {x:Str} {i:Int} {t:Tok} (a:PySem.W.nsIn K mainGlobals x=some (some (.int i t))):Ni K x i:=⟨t,a⟩
theorem wZ.mk {x s:Str} {t:Tok} (a:PySem.W.nsIn K mainGlobals x=some (some (.str s t))):wZ K x s:=⟨t,a⟩
theorem Ni.gi {x:Str} {i:Int} (e:Ni K x i) (X:K.In h) (G:h.Ns mainGlobals mg):Gi mg x i:=let ⟨t,z⟩:=e; ⟨t,PySem.W.mg_of X G z⟩
theorem wZ.gs {x s:Str} (e:wZ K x s) (X:K.In h) (G:h.Ns mainGlobals mg):Gs mg x s:=let ⟨t,z⟩:=e; ⟨t,PySem.W.mg_of X G z⟩
abbrev NT (K:PySem.W.Frag) (x:Str) (vs:List Value):Prop:=∃(a:Addr) (n:Nat) (sl:Array (Option Value)),PySem.W.nsIn K mainGlobals x=some (some (.ref a))/\K.lookup a=some ⟨.type "tuple",none,.seq vs.toArray n,sl⟩
theorem NT.mk {x:Str} {vs:List Value} {a:Addr} {n:Nat} {sl:Array (Option Value)} (b:PySem.W.nsIn K mainGlobals x=some (some (.ref a))) (l:K.lookup a=some ⟨.type "tuple",none,.seq vs.toArray n,sl⟩):NT K x vs:=⟨a,n,sl,b,l⟩
end
theorem Wk:bootBuiltins "set" = some (.type "set"):=by decide +kernel
section
variable {X:Cx} {pins:List (Addr×Obj)} {σ:St} {H1:Hp} {s1 s':Shared}
theorem KR {e:Value} {E:XK} {D:Ends} {hx:Str} {CH:Addr} {hp pos:Pos} {b0:Stmt} {body:List Stmt} {ts:TS} (I:Inv X pins σ H1 s1) (c:lA X.prog X.w X.stack H1 s1 E e s')
  (hE:∀cls H2,E cls none H2->PySem.W.exmOne X.K cls (.ref CH)=some true/\∀a H3,(aD H1 H2->aD H1 H3)->Y9 H3 a cls->ts D σ H3)
  (hg:Gl X hx) (hm:X.mg hx=some (.ref CH)) (hs:∀e,wY (X.in' e) (b0::body) ts) (hn:∀e s,X.xe e s->False) (st:X.stack=X.env::X.outer) (fL:X.env.frame=some X.env.locals) (hd:(hx==("__debug__" : Str))=false) :
  wpAny (model X.prog X.w) X.A (noteFrame e X.env) (fun _ s2=>wpAny (model X.prog X.w) X.A (setFlight e none) (fun _ s3=>wpAny (model X.prog X.w) X.A (handleBy e X.env [.ExceptHandler (some (.Name hx hp)) none (b0::body) pos]) (SP X pins D) X.xe s3) X.xe s2) X.xe s':=by
 obtain⟨a,T0,cls,H2,rfl,os,bare,un,hok,ha,hT0,n0,⟨Zr,V0⟩,q⟩:=c
 have na:H1 a=none:=I.hok.none Zr
 have nT0:H1 T0=none:=I.hok.none V0
 obtain⟨ex,q⟩:=hE cls H2 q
 have I2:Inv X pins σ H2 s':=I.call' (ch:=[]) os un hok bare fun b z=>nomatch z
 have ff:s'.heap.FunFrames X.base (X.env::X.outer):=by rw[<- st]; exact I2.stack
 have fr:X.A.frames=some (X.env::X.outer):=by rw[<- st]; exact I2.ok.frames
 refine noteE2 fr ff fL (wB.at (hok a _ ha)) (wX.at (hok T0 _ hT0)) n0 fun h3 T nt=>?_
 have fT:s'.heap.get? T=none:=by
  cases z:s'.heap.get? T with
  | none=>rfl
  | some o=>exact absurd (bW z) (Nat.not_lt.mpr nt.fresh)
 have nT:H2 T=none:=hok.none fT
 have Ta:T≠a:=fun z=>by rw[z,ha] at nT; cases nT
 have TT:T≠T0:=fun z=>by rw[z,hT0] at nT; cases nT
 have I3:Inv X pins σ (upd (upd (upd H2 T0 (QC T0)) a (wB a cls T)) T (wX T)) { s' with heap:=h3 }:=by
  refine I2.ext (fun b=>b=a\/b=T0\/b=T) (fun b o z y x=>nt.keep b o (fun w=>z (.inl w)) (fun w=>z (.inr (.inl w))) (by rw[<- st]; exact y) x) (fun b o z x=>nt.slot b o (fun w=>z (.inl w)) (fun w=>z (.inr (.inl w))) x) (fun b o z x=>?_) (fun b z=>?_) (fun b z=>?_) (fun b u z y=>?_)
  ·rcases z with rfl | rfl | rfl
   ·obtain⟨oe,vs,e1,_⟩:=nt.ex; exact⟨_,e1⟩
   ·exact nt.old
   ·rw[fT] at x; cases x
  ·rcases z with rfl | rfl | rfl
   ·exact .inr ⟨_,ha⟩
   ·exact .inr ⟨_,hT0⟩
   ·exact .inl ⟨nT,fT⟩
  ·rw[aL fun w=>z (.inr (.inr w)),aL fun w=>z (.inl w),aL fun w=>z (.inr (.inl w))]
  ·rcases z with rfl | rfl | rfl
   ·rw[aL (Ne.symm Ta),aC] at y; cases y; exact Od nt.ex
   ·rw[aL (Ne.symm TT),aL n0,aC] at y; cases y; exact Uo nt.old
   ·rw[aC] at y; cases y; exact HH nt.tb
 have Uv:upd (upd (upd H2 T0 (QC T0)) a (wB a cls T)) T (wX T) a=some (wB a cls T):=by rw[aL (Ne.symm Ta),aC]
 have Zw:upd (upd (upd H2 T0 (QC T0)) a (wB a cls T)) T (wX T) T=some (wX T):=aC
 have sm:aD H1 H2->aD H1 (upd (upd (upd H2 T0 (QC T0)) a (wB a cls T)) T (wX T)):=fun y b o z=>by
  have g:=y b o z
  rw[aL (fun w=>by rw[w,nT] at g; cases g),aL (fun w=>by rw[w,na] at z; cases z),aL (fun w=>by rw[w,nT0] at z; cases z)]
  exact g
 have q3:=q a _ sm ⟨T,Uv⟩
 generalize upd (upd (upd H2 T0 (QC T0)) a (wB a cls T)) T (wX T)=H3 at I3 Uv Zw q3
 generalize ({ s' with heap:=h3 }:Shared)=s3 at I3
 refine wpAny_handleBy_cons (codeAny_handlers_test ?_) (by intro z; cases z)
 refine Calls.Name_function_global I3.ok.kind hg (Calls.loadGlobal_global (by rw[I3.ok.glob]; exact I3.mod.glob.keeps I3.bk) hm ?_) hd
 obtain⟨oe,vs,e1,⟨ec,_⟩,ed,ev⟩:=wB.at (I3.hok a _ Uv)
 have LT:PySem.W.Looks (model X.prog X.w) s3.heap (typeOf (.ref a)) cls:=ec▸(PySem.W.Looks.ld e1).andThen .now
 refine(PySem.W.exm_one I3.wC LT ex).here ?_
 refine codeAny_handlers_suite (KD I3 Uv Zw fun s4 I4=>?_)
 refine fM (hs (.ref a) pins s4 _ _ _ (I4.inE (.ref a)) q3) (fun fl s6 z=>?_) fun e6 s6 z=>(hn _ _ z).elim
 cases fl with
 | next=>
  obtain⟨σ6,H6,I6,q6⟩:=z
  exact⟨σ6,H6,I6.Rv I4.ok,q6⟩
 | ret u=>
  obtain⟨v,σ6,H6,I6,rv,q6⟩:=z
  exact⟨v,σ6,H6,I6.Rv I4.ok,rv,q6⟩
 | brk=>
  obtain⟨σ6,H6,I6,q6⟩:=z
  exact⟨σ6,H6,I6.Rv I4.ok,q6⟩
 | cont=>
  obtain⟨σ6,H6,I6,q6⟩:=z
  exact⟨σ6,H6,I6.Rv I4.ok,q6⟩
def Tu (ok:Value->Prop) (tb:Lq) (ts:TS):TS:=fun D σ H=>tb D (fun cls σ1 H1 H2=>ok cls/\∀a H3,(aD H1 H2->aD H1 H3)->Y9 H3 a cls->ts D σ1 H3) σ H
theorem Rj {K:PySem.W.Frag} {hx:Str} {CH:Addr} {hp pos tp:Pos} {body:List Stmt} {b0:Stmt} {suite:List Stmt} {tb:Lq} {ts:TS} (hK:X.K=K)
  (hb:Y5 X body tb) (hs:∀e,wY (X.in' e) (b0::suite) ts) (hm:X.mg hx=some (.ref CH)) (hgx:Gl X hx:=by rfl)
  (hn:∀e s,X.xe e s->False:=by exact fun _ _ z=>z) (st:X.stack=X.env::X.outer:=by rfl) (fL:X.env.frame=some X.env.locals:=by rfl) (hd:(hx==("__debug__" : Str))=false:=by decide) :
  PS X (.Try body [.ExceptHandler (some (.Name hx hp)) none (b0::suite) pos] [] [] tp) (Tu (fun cls=>PySem.W.exmOne K cls (.ref CH)=some true) tb ts):=by
 subst hK
 refine .mk ?_
 intro pins s σ H D I h
 refine wpAny_Try_except (fM (hb.go pins s σ H D _ I h) (fun fl s1 z=>?_) fun e s' z=>?_)
 ·cases fl with
  | next=>exact xR z
  | ret u=>exact z
  | brk=>exact z
  | cont=>exact z
 ·obtain⟨σ1,H1,s1,E',I1,c,q⟩:=z
  exact KR I1 c q hgx hm hs hn st fL hd
end
section
variable {P:Program} {w:World} {K:PySem.W.Frag} {mg:Str->Option Value} {base:Heap}
theorem sY.Wx {x qual:Str} {st:Stmt} {f T:Addr} {i:Int} {t:Tok} {fd:FuncData} {N ps:List Str} {k:Nat} {sp:Sp} (F:sY K x qual st f fd T i t) (S:aU N ps (aH st)) (len:∀vs H Q E,sp vs H Q E->vs.length=ps.length)
  (hbody:∀(cdv:Value) (A:Around) (outer:List Env) (s:Shared) (H:Hp) (vs:List V) (Q:VK) (E:XK),kI P w H s.heap->gG k (A.deeper (envOfC qual (aH st) s.heap.objs.size f cdv))->sp vs H Q E ->
   ∃t,wY (fH (lA P w) P w K mg base N qual (aH st) f cdv A outer s H E) (cN st) t/\t { nx:=fun _ H'=>Q .non H',rt:=Q } (start N vs) H):bM P w K mg base (lA P w) (k+1) f fd ps sp:=by
 obtain⟨oc,od,kV,doc,pm,an,cdv,ct,osl,rfl,lk,hcd⟩:=F.ex
 exact Pq lk hcd S len fun A outer s H vs Q E KC hr hsp=>hbody cdv A outer s H vs Q E KC hr hsp
structure Qu (P:Program) (w:World) (K:PySem.W.Frag) (mg:Str->Option Value) (base:Heap) (k:Nat) (x:Str) (ps:List Str) (i:Int) (sp:Sp) where
 f:Addr
 fd:FuncData
 t:Tok
 G:bM P w K mg base (lA P w) k f fd ps sp
 kp:PySem.W.keepIn K (.ref f)=true
 b:Binds K fd ps []
 bd:Binds K fd ps [.int i t]
 m:mg x=some (.ref f)
def Qu.mono {j k:Nat} {x:Str} {ps:List Str} {i:Int} {sp:Sp} (c:Qu P w K mg base j x ps i sp) (h:j<=k):Qu P w K mg base k x ps i sp:={ c with G:=c.G.mono h }
def Qu.all {k:Nat} {x:Str} {ps:List Str} {i:Int} {sp:Sp} (c:Qu P w K mg base k x ps i sp):Lj P w K mg base k x ps sp:=⟨c.f,c.fd,c.G,c.kp,c.b,c.m⟩
def Qt.ctF {x:Str} {st:Stmt} {ps:List Str} {i:Int} {k:Nat} {sp:Sp} (h:Qt K mg x st ps i) (P:Program) (w:World) (base:Heap) (G:bM P w K mg base (lA P w) k h.f h.fd ps sp):Qu P w K mg base k x ps i sp:=⟨h.f,h.fd,h.t,G,h.F.kp,h.b,h.bd,h.m⟩
end
section
variable {X:Cx}
end
section
variable {X:Cx}
def Ub:List V->Hp->VK->Prop:=fun vs H Q=>∃j:Int,vs=[.int j]/\-(2 ^ 62)<=j/\j<2 ^ 62/\∀p H',H p=none->aD H H'->H' p=some (.Q5 0 j)->Q (.ref p) H'
theorem KZ:cX X (.type "range") Ub:=by
 refine .mk ?_
 intro pins s σ H vs us Q I r h
 obtain⟨j,rfl,h1,h2,q⟩:=h
 obtain⟨u,rfl,t,rfl⟩:=r.one
 refine call_range_1 ?_
 have hf:=I.hok.fresh (cV s.heap.objs.size)
 exact⟨.ref s.heap.objs.size,_,I.laid (a:=s.heap.objs.size) (o:=.Q5 0 j) (fun _ _ q=>gf _ q) (cV _) (show cB X.prog X.w _ _ _ (.Q5 0 j) from⟨_,_,_,dR _ rfl⟩),rfl,q _ _ hf (aO hf _) aC⟩
def Ud:List V->Hp->VK->Prop:=fun vs H Q=>∃(p:Addr) (j:Int),vs=[.ref p]/\H p=some (.Q5 0 j)/\-(2 ^ 62)<=j/\j<2 ^ 62/\j.toNat<=1000/\∀l H',H l=none->aD H H'->H' l=some (.lst ((List.range j.toNat).map fun i:Nat=>V.int i))->Q (.ref l) H'
theorem K8 (hd:X.A.handled=none):cX X (.type "list") Ud:=by
 refine .mk ?_
 intro pins s σ H vs us Q I r h
 obtain⟨p,j,rfl,hp,h1,h2,h3,q⟩:=h
 obtain⟨u,rfl,ru⟩:=r.one
 cases ru
 obtain⟨t,u,v,e⟩:=(show cB X.prog X.w H s.heap p (.Q5 0 j) from I.hok p _ hp)
 have e2:Builtin.Range.rangeSize 0 j 1=(j.toNat:Nat):=by rw[rangeSize_one]; split <;> omega
 refine call_list_range (n:=j.toNat) hd (show IsRange s.heap p 0 j 1 t u v from e) (small_one (by omega) (by omega) h1 h2) e2 (by omega) fun h' tk acc c' kp el it=>?_
 have hf:=I.hok.fresh (cV s.heap.objs.size)
 have hz:((List.range j.toNat).map fun i:Nat=>V.int i).length<=sizeLine:=by
  rw[cg,Hj,sizeLine_eq]; omega
 have vl:Vals ((List.range j.toNat).map fun i:Nat=>V.int i) acc.toList:=by
  have key:∀(n k:Nat) (l:List Value),l.length=n->(∀(i:Nat) (v:Value),l[i]?=some v->∃t,v=Value.int ((k+i:Nat):Int) t)->Vals ((List.range' k n).map fun i:Nat=>V.int i) l:=by
   intro n
   induction n with
   | zero=>
    intro k l hl _
    rw[Hs.mp hl]
    exact .nil
   | succ n ih=>
    intro k l hl hv
    match l,hl with
    | x::l,hl=>
     obtain⟨t,rfl⟩:=hv 0 x rfl
     rw[List.range'_succ]
     refine .cons ⟨t,rfl⟩ (ih (k+1) l (by simpa using hl) fun i v h=>?_)
     obtain⟨t,rfl⟩:=hv (i+1) v h
     exact⟨t,by rw[show k+(i+1)=k+1+i by omega]⟩
  rw[List.range_eq_range']
  refine key _ 0 _ (by rw[k_]; exact it.1) fun i v h=>?_
  rw[BJ] at h
  obtain⟨t,rfl⟩:=it.2 i v h
  exact⟨t,by simp⟩
 exact⟨.ref s.heap.objs.size,_,I.laid (a:=s.heap.objs.size) (o:=.lst ((List.range j.toNat).map fun i:Nat=>V.int i)) (t':=tk) kp (cV _) (show cB X.prog X.w _ h' _ (.lst _) from⟨hz,acc.toList,c',vl,el⟩),rfl,q _ _ hf (aO hf _) aC⟩
end
def oA (ns:List Int) (i:Int) (j:Nat):Prop:=ns[j]?=some i/\∀m,m<j->ns[m]?≠some i
def X_:V->List V->Hp->VK->Prop:=fun x xs H Q=>∃(p:Addr) (ns:List Int) (i:Int) (j:Nat),x=.ref p/\H p=some (.lst (ns.map V.int))/\xs=[.int i]/\ns.length<=1000/\oA ns i j/\Q (.int (j:Nat)) H
section
variable {X:Cx}
theorem LQ {xs:List V}:∀{us:List Value},Vals xs us->∀{j:Nat} {x:V},xs[j]?=some x->∃u,us[j]?=some u/\RelV x u:=by
 induction xs with
 | nil=>intro us _ j x h; simp at h
 | cons y ys ih=>
  intro us r j x h
  cases r with
  | cons r1 r2=>
   cases j with
   | zero=>simp at h; subst h; exact⟨_,rfl,r1⟩
   | succ j=>simp at h; obtain⟨u,h1,h2⟩:=ih r2 h; exact⟨u,by simpa using h1,h2⟩
def Im (i:Int):Value->Bool
 | .int a _=>a==i
 | _=>false
theorem Jq {xs:List V}:∀{us:List Value},Vals xs us->∀{j:Nat} {u:Value},us[j]?=some u->∃x,xs[j]?=some x/\RelV x u:=by
 induction xs with
 | nil=>intro us r j u h; cases r; simp at h
 | cons y ys ih=>
  intro us r j x h
  cases r with
  | cons r1 r2=>
   cases j with
   | zero=>simp at h; subst h; exact⟨_,rfl,r1⟩
   | succ j=>simp at h; obtain⟨u,h1,h2⟩:=ih r2 h; exact⟨u,by simpa using h1,h2⟩
theorem FW:ZQ X "list.index" X_:=by
 intro pins s σ H x xs v us Q I rx rv h
 obtain⟨p,ns,i,j,rfl,hp,rfl,hl,⟨hj,hno⟩,q⟩:=h
 cases rx
 obtain⟨u,rfl,tk,rfl⟩:=rv.one
 obtain⟨_,its,n,r,e⟩:=I.hok p _ hp
 have back:∀{m:Nat} {u:Value},its[m]?=some u->∃a k,ns[m]?=some a/\u=.int a k:=fun {m u} hm=>by
  obtain⟨x,h1,h2⟩:=Jq r hm
  rw[il] at h1
  cases ha:ns[m]? with
  | none=>rw[ha] at h1; cases h1
  | some a=>
   rw[ha] at h1
   cases h1
   obtain⟨k,rfl⟩:=(h2:∃tk,u=Value.int a tk)
   exact⟨a,k,rfl,rfl⟩
 have ee:∀y,y∈its.toArray->SeqAt.EqAt X.A.in1 s y (.int i tk) (Im i y):=fun y hy=>by
  obtain⟨m,hm⟩:=Ff.mp (List.mem_toArray.mp hy)
  obtain⟨a,k,_,rfl⟩:=back hm
  exact SeqAt.EqAt.int_int _ _ _ _
 obtain⟨u,hu,k,rfl⟩:=LQ r (x:=.int i) (by rw[il,hj]; rfl)
 have hlt:j<its.length:=(nG.mp hu).1
 have hlen:its.length=ns.length:=by rw[<- r.length,cg]
 refine call_meets PySem.F.slot_list_index ⟨_,e,rfl⟩ PySem.F.entry_list_index (PySem.F.args_list_index_2 _ _) (SeqAt.list_indexAt p its.toArray n none #[] (.int i tk) (Im i) j (by simpa using hlt) (by omega) ?_ ?_) ⟨e,ee,?_⟩
 ·have:=(nG.mp hu).2
  show Im i its[j]=true
  rw[this]
  show(i==i)=true
  simp
 ·intro m hm h
  have hm':m<its.length:=by simpa using hm
  obtain⟨a,k2,h1,h2⟩:=back (gP hm')
  show Im i its[m]=false
  rw[h2]
  show(a==i)=false
  have:=hno m h
  rw[h1] at this
  simp at this ⊢
  exact this
 ·exact⟨.int (j:Nat),H,I.tok _,⟨_,rfl⟩,q⟩
end
section
variable {X:Cx}
end
section
variable {X:Cx}
end
section
variable {X:Cx}
end
theorem X4 {prog:Program} {w:World} {A:Around} {E:Value->Shared->Prop} {s:Shared} {a b:Int} {t u:Tok} {Q:Value->Shared->Prop} (h:Q (.bool (decide (a<b))) s):wpAny (model prog w) A (richCompare .Lt (.int a t) (.int b u)) Q E s:=lt_int h
section
variable {X:Cx}
end
end L2
namespace L2
open PySem PySem.Spec PyProof.Rows PySem.MeetsSeq3
def lq:List Int->List Int->Bool
 | [],[]=>false
 | [],_::_=>true
 | _::_,[]=>false
 | a::as,b::bs=>if a=b then lq as bs else decide (a<b)
def wA (as:List Int) (its:Array Value):Prop:=its.size=as.length/\∀(j:Nat) (a:Int),as[j]?=some a->∃t,its[j]?=some (Value.int a t)
theorem RT (l b:Addr) (as bs:List Int) (items items2:Array Value) (n n2:Nat) (dd dd2:Option Addr) (sl sl2:Array (Option Value)) (h1:wA as items) (h2:wA bs items2) (k:Nat) :
  ∀i:Nat,as.length-i=k->i<=as.length->i<=bs.length->Meets (Builtin.«list.__eq__.loop» ⟨[.ref l,.ref b,rawInt i,rawInt 0],[]⟩)
   (fun A R s=>s.heap.get? l=some { cls:=.type "list",dict:=dd,data:=.seq items n,slots:=sl }/\s.heap.get? b=some { cls:=.type "list",dict:=dd2,data:=.seq items2 n2,slots:=sl2 } /\
    R (.ok (.ret (.bool (lq (as.drop i) (bs.drop i))))) s):=by
 have end':∀i:Nat,i<=as.length->i<=bs.length->(i=as.length\/i=bs.length)->Meets (Builtin.«list.__eq__.loop» ⟨[.ref l,.ref b,rawInt i,rawInt 0],[]⟩)
   (fun A R s=>s.heap.get? l=some { cls:=.type "list",dict:=dd,data:=.seq items n,slots:=sl }/\s.heap.get? b=some { cls:=.type "list",dict:=dd2,data:=.seq items2 n2,slots:=sl2 } /\
    R (.ok (.ret (.bool (lq (as.drop i) (bs.drop i))))) s):=by
  intro i l1 l2 hi prog w A R s h
  obtain⟨hp,g,d,tk,os⟩:=s; obtain⟨hl,hb,h⟩:=h
  wp_walk using wpAny_loadPart' hl,wpAny_loadPart' hb
  have key:lq (as.drop i) (bs.drop i)=decide (items.size<items2.size):=by
   rw[h1.1,h2.1]
   rcases hi with e | e
   ·rw[JV (show as.length<=i by omega)]
    by_cases z:i<bs.length
    ·rw[JX z,iT (by omega)]; rfl
    ·rw[JV (show bs.length<=i by omega),fX (by omega)]; rfl
   ·rw[JV (show bs.length<=i by omega)]
    rw[fX (by omega)]
    cases as.drop i <;> rfl
  rw[key] at h
  by_cases z:i<as.length
  ·have hi2:items2[((i:Nat):Int).toNat]?=none:=by simp; rw[h2.1]; omega
   have hz:∃v,items[((i:Nat):Int).toNat]?=some v:=⟨items[i]'(by have:=h1.1; omega),by simp[h1.1,z]⟩
   obtain⟨v,hi1⟩:=hz
   rw[hi1,hi2]
   wp_walk using wpAny_loadPart' hl,wpAny_loadPart' hb
   exact h
  ·have hi1:items[((i:Nat):Int).toNat]?=none:=by simp; rw[h1.1]; omega
   rw[hi1]
   wp_walk using wpAny_loadPart' hl,wpAny_loadPart' hb
   exact h
 induction k with
 | zero=>intro i hk l1 l2; exact end' i l1 l2 (.inl (by omega))
 | succ k ih=>
  intro i hk l1 l2
  by_cases hz:i=bs.length
  ·exact end' i l1 l2 (.inr hz)
  intro prog w A R s h
  obtain⟨hp,g,d,tk,os⟩:=s; obtain⟨hl,hb,h⟩:=h
  wp_walk using wpAny_loadPart' hl,wpAny_loadPart' hb
  have hlt:i<as.length:=by omega
  have hlt2:i<bs.length:=by omega
  obtain⟨t1,e1⟩:=h1.2 i _ (gP hlt)
  obtain⟨t2,e2⟩:=h2.2 i _ (gP hlt2)
  have hi1:items[((i:Nat):Int).toNat]?=some (.int as[i] t1):=e1
  have hi2:items2[((i:Nat):Int).toNat]?=some (.int bs[i] t2):=e2
  have hc:((i:Int)+1)=((i+1:Nat):Int):=by push_cast; rfl
  rw[JX hlt,JX hlt2] at h
  rw[hi1,hi2]
  refine aN (SeqAt.EqAt.int_int (A:=A.in1) (s:=⟨hp,g,d,tk,os⟩) as[i] t1 bs[i] t2 prog w _ _ ?_)
  by_cases e0:as[i]=bs[i]
  ·have eb:(as[i]==bs[i])=true:=by simpa using e0
   rw[eb]
   unfold lq at h
   rw[aM e0] at h
   wp_walk
   rw[hc]
   exact⟨plainId_quiet plain_eq_loop _,codeAny_builtin entry_eq_loop (by
    rw[Around.under_plainId plain_eq_loop _]
    exact ih (i+1) (by omega) (by omega) (by omega) prog w A R _ ⟨hl,hb,h⟩)⟩
  ·have eb:(as[i]==bs[i])=false:=by simpa using e0
   rw[eb]
   unfold lq at h
   rw[aK e0] at h
   wp_walk using wpAny_loadPart' hl,wpAny_loadPart' hb
   rw[hi1,hi2]
   wp_walk using X4
   exact h
theorem Kq (l b:Addr) (as bs:List Int) (items items2:Array Value) (n n2:Nat) (dd dd2:Option Addr) (sl sl2:Array (Option Value)) (h1:wA as items) (h2:wA bs items2) :
  Meets (Builtin.«list.__lt__» ⟨[.ref l,.ref b],[]⟩)
   (fun A R s=>s.heap.get? l=some { cls:=.type "list",dict:=dd,data:=.seq items n,slots:=sl }/\s.heap.get? b=some { cls:=.type "list",dict:=dd2,data:=.seq items2 n2,slots:=sl2 } /\
    R (.ok (.ret (.bool (lq as bs)))) s):=by
 intro prog w A R s h
 obtain⟨hp,g,d,tk,os⟩:=s; obtain⟨hl,hb,h⟩:=h
 have f3:=AutoSeq1.sub_list_list
 wp_walk using wpAny_loadPart' hl,wpAny_loadPart' hb
 exact⟨plainId_quiet plain_eq_loop _,codeAny_builtin entry_eq_loop (by
  rw[Around.under_plainId plain_eq_loop _]
  exact RT l b as bs items items2 n n2 dd dd2 sl sl2 h1 h2 _ 0 rfl (gr _) (gr _) prog w A R _ ⟨hl,hb,h⟩)⟩
theorem X3 {prog:Program} {w:World} {A:Around} {E:Value->Shared->Prop} {s:Shared} {l b:Addr} {as bs:List Int} {items items2:Array Value} {Q:Value->Shared->Prop} (hl:s.heap.IsList l items) (hb:s.heap.IsList b items2) (h1:wA as items) (h2:wA bs items2) (hu:A.units<cLine) (h:Q (.bool (lq as bs)) s):wpAny (model prog w) A (richCompare .Lt (.ref l) (.ref b)) Q E s:=by
 obtain⟨⟨cls,dd,data,sl⟩,ho,hc,n,hd⟩:=id hl
 obtain⟨⟨cls2,dd2,data2,sl2⟩,ho2,hc2,n2,hd2⟩:=id hb
 simp only at hc hd hc2 hd2
 subst hc hd hc2 hd2
 exact richCompare_meets_room (op:=.Lt) ⟨_,ho,rfl⟩ ⟨_,ho2,rfl⟩ F.slot_list_lt F.entry_list_lt (F.args_list_lt_2 _ _) (Kq l b as bs items items2 n n2 dd dd2 sl sl2 h1 h2)
  ⟨ho,ho2,show Value.bool (lq as bs)≠Value.notImplemented/\Q (.bool (lq as bs)) s from⟨(fun x=>nomatch x),h⟩⟩ hu
theorem Ju (l b la lb:Addr) (a0 b0:Int) (k0 k2:Tok) (e r:Bool) (n n2:Nat) (dd dd2:Option Addr) (sl sl2:Array (Option Value)) :
  Meets (Builtin.«tuple.__lt__» ⟨[.ref l,.ref b],[]⟩)
   (fun A R s=>s.heap.get? l=some { cls:=.type "tuple",dict:=dd,data:=.seq #[.int a0 k0,.ref la] n,slots:=sl }/\s.heap.get? b=some { cls:=.type "tuple",dict:=dd2,data:=.seq #[.int b0 k2,.ref lb] n2,slots:=sl2 } /\
    SeqAt.EqAt A.in1 s (.ref la) (.ref lb) e/\(∀prog w E Q,Q (.bool r) s->wpAny (model prog w) A.in1 (richCompare .Lt (.ref la) (.ref lb)) Q E s) /\
    R (.ok (.ret (.bool (if a0=b0 then(if e=true then false else r) else decide (a0<b0))))) s):=by
 intro prog w A R s h
 obtain⟨hp,g,d,tk,os⟩:=s; obtain⟨hl,hb,he,hr,h⟩:=h
 have f2:=AutoSeq1.sub_tuple_tuple
 wp_walk using wpAny_loadPart' hl,wpAny_loadPart' hb
 refine SeqAt.EqAt.int_int (A:=A.in1) (s:=⟨hp,g,d,tk,os⟩) a0 k0 b0 k2 prog w _ _ ?_
 by_cases e0:a0=b0
 ·have eb:(a0==b0)=true:=by simpa using e0
  rw[eb]
  rw[aM e0] at h
  have he':∀{E:Value->Shared->Prop} {Q:Bool->Shared->Prop},Q e ⟨hp,g,d,tk,os⟩->wpAny (model prog w) A.in1 (eqBool (Value.ref la) (Value.ref lb)) Q E ⟨hp,g,d,tk,os⟩:=fun {E Q} q=>he prog w E Q q
  clear he
  wp_walk using he'
  cases e with
  | true=>
   rw[aM rfl] at h
   wp_walk
   exact h
  | false=>
   rw[aK (by decide)] at h
   have hr':∀{E:Value->Shared->Prop} {Q:Value->Shared->Prop},Q (.bool r) ⟨hp,g,d,tk,os⟩->wpAny (model prog w) A.in1 (richCompare .Lt (Value.ref la) (Value.ref lb)) Q E ⟨hp,g,d,tk,os⟩:=fun {E Q} q=>hr prog w E Q q
   clear hr
   wp_walk using hr'
   exact h
 ·have eb:(a0==b0)=false:=by simpa using e0
  rw[eb]
  rw[aK e0] at h
  wp_walk using X4
  exact h
theorem HW:∀a:List Int,lq a a=false
 | []=>rfl
 | a::as=>by unfold lq; rw[aM rfl]; exact HW as
def Cr (a0 b0:Int) (as bs:List Int):Bool:=if a0=b0 then lq as bs else decide (a0<b0)
def aak:R2:=fun x y H Q=>∃(a b la lb:Addr) (a0 b0:Int) (as bs:List Int),x=.ref a/\y=.ref b/\H a=some (.tup [.int a0,.ref la])/\H b=some (.tup [.int b0,.ref lb])/\H la=some (.lst (as.map V.int))/\H lb=some (.lst (bs.map V.int))/\Q (.bl (Cr a0 b0 as bs)) H
theorem Dj {as:List Int} {its:List Value} (h:Vals (as.map V.int) its):wA as its.toArray:=by
 refine⟨by have:=h.length; simpa using this.symm,fun j a e=>?_⟩
 obtain⟨u,h1,h2⟩:=h.get (i:=j) (x:=.int a) (by rw[il,e]; rfl)
 obtain⟨t,rfl⟩:=h2
 exact⟨t,by simpa using h1⟩
theorem yj:∀ns ms:List Int,PyData.eqvAll (ns.map PyData.int) (ms.map PyData.int)=decide (ns=ms)
 | [],[]=>by simp[PyData.eqvAll]
 | [],_::_=>by simp[PyData.eqvAll]
 | _::_,[]=>by simp[PyData.eqvAll]
 | a::r,b::t=>by
  have ih:=yj r t
  simp only[rZ,PyData.eqvAll,PyData.eqv,ih]
  by_cases h1:a=b
  ·by_cases h2:r=t
   ·simp[h1,h2]
   ·simp[h1,h2]
  ·simp[h1]
theorem rB {H:Hp}:∀ns:List Int,aa H (ns.map PyData.int) (ns.map V.int)
 | []=>aa.nil
 | n::ns=>aa.cons (At.int n) (rB ns)
section
variable {X:Cx}
theorem Oa (hu:X.A.units+64<cLine):oU X (compareOp .Lt) aak:=by
 refine .mk ?_
 intro pins s σ H x y v u Q I rx ry h
 obtain⟨a,b,la,lb,a0,b0,as,bs,rfl,rfl,ha,hb,hla,hlb,q⟩:=h
 cases rx
 cases ry
 obtain⟨_,its,r,⟨cls,dd,data,sl⟩,e,hc,n,hd⟩:=I.hok a _ ha
 obtain⟨_,its2,r2,⟨cls2,dd2,data2,sl2⟩,e2,hc2,n2,hd2⟩:=I.hok b _ hb
 simp only at hc hd hc2 hd2
 subst hc hd hc2 hd2
 obtain⟨u0,u1,rfl,⟨k0,rfl⟩,e5⟩:=r.two
 obtain⟨w0,w1,rfl,⟨k2,rfl⟩,e6⟩:=r2.two
 cases e5
 cases e6
 obtain⟨_,i3,n3,r3,e3⟩:=I.hok la _ hla
 obtain⟨_,i4,n4,r4,e4⟩:=I.hok lb _ hlb
 have d1:=iw as
 have d2:=iw bs
 have A1:At H (.list (as.map .int)) (.ref la):=At.lst hla (rB as)
 have A2:At H (.list (bs.map .int)) (.ref lb):=At.lst hlb (rB bs)
 obtain⟨p1,q1⟩:=gO I.hok _ _ _ A1 (show RelV (.ref la) (.ref la) from rfl) (by simpa[PyData.hasDict] using d1.1)
 obtain⟨p2,q2⟩:=gO I.hok _ _ _ A2 (show RelV (.ref lb) (.ref lb) from rfl) (by simpa[PyData.hasDict] using d2.1)
 have E:=SeqAt.eqAt_reads _ _ X.A.in1 s _ _ _ _ q1 q2 (by simpa[PyData.canLay0] using d1.2.1) (by simpa[PyData.canLay0] using d2.2.1) (by
  have z:PyData.depth (.list (as.map .int))<=60:=by show PyData.depthAll _+1<=60; rw[d1.2.2]; decide
  have:=B_ (PyData.depth (.list (as.map .int))) (PyData.depth (.list (bs.map .int)))
  rw[Around.in1_units]
  omega)
 have eE:PyData.eqv (.list (as.map .int)) (.list (bs.map .int))=decide (as=bs):=by show PyData.eqvAll _ _=_; exact yj as bs
 rw[eE] at E
 have L:∀prog w (E':Value->Shared->Prop) Q',Q' (.bool (lq as bs)) s->wpAny (model prog w) X.A.in1 (richCompare .Lt (.ref la) (.ref lb)) Q' E' s:=fun prog w E' Q' h=>X3 (show s.heap.IsList la i3.toArray from⟨_,e3,rfl,n3,rfl⟩) (show s.heap.IsList lb i4.toArray from⟨_,e4,rfl,n4,rfl⟩) (Dj r3) (Dj r4) (by rw[Around.in1_units]; omega) h
 have eq:(if a0=b0 then(if decide (as=bs)=true then false else lq as bs) else decide (a0<b0))=Cr a0 b0 as bs:=by
  unfold Cr
  by_cases z:as=bs
  ·subst z; simp[HW]
  ·simp[z]
 have q':Q (.bl (if a0=b0 then(if decide (as=bs)=true then false else lq as bs) else decide (a0<b0))) H:=by rw[eq]; exact q
 exact richCompare_meets_room (op:=.Lt) ⟨_,e,rfl⟩ ⟨_,e2,rfl⟩ F.slot_tuple_lt F.entry_tuple_lt (F.args_tuple_lt_2 _ _) (Ju a b la lb a0 b0 k0 k2 _ _ n n2 dd dd2 sl sl2) ⟨e,e2,E,L,show Value.bool (if a0=b0 then(if decide (as=bs)=true then false else lq as bs) else decide (a0<b0))≠Value.notImplemented/\_ from⟨(fun x=>nomatch x),bG I q' rfl⟩⟩ (by omega)
end
end L2
namespace K47
open PySem L2
def top (i:Nat):Stmt:=PySem.Challenge.pw_waithands_k47_loads_that_break_rise.main.body.getD i (.Pass ⟨0,0,0,0⟩)
abbrev uy:Stmt:=top 6
abbrev jQ:Stmt:=top 7
abbrev Ew:Stmt:=top 8
abbrev ji:Stmt:=top 9
abbrev Eu:Stmt:=top 11
abbrev lL:Stmt:=top 12
abbrev nP:Stmt:=top 13
abbrev nR:Stmt:=top 16
abbrev Ex:Stmt:=top 18
abbrev gm:Stmt:=top 19
abbrev lN:Stmt:=top 20
abbrev jf:Stmt:=top 21
abbrev lK:Stmt:=top 22
abbrev lO:Stmt:=top 28
abbrev lM:Stmt:=top 29
abbrev jg:Stmt:=top 30
abbrev M7:Stmt:=top 36
abbrev ux:Stmt:=top 37
abbrev jh:Stmt:=top 38
abbrev uv:Stmt:=top 39
abbrev jj:Stmt:=top 40
abbrev jk:Stmt:=top 41
abbrev jR:Stmt:=top 42
abbrev uz:Stmt:=top 43
abbrev uF:Stmt:=top 44
abbrev jT:Stmt:=top 45
abbrev qw:Stmt:=top 46
abbrev uw:Stmt:=top 48
abbrev zg:Stmt:=top 49
abbrev uD:Stmt:=top 51
abbrev uE:Stmt:=top 52
abbrev nQ:Stmt:=top 53
abbrev zf:Stmt:=top 54
abbrev iB:Stmt:=top 55
abbrev gU:Stmt:=top 56
abbrev qF:Stmt:=top 57
abbrev qC:Stmt:=top 58
abbrev iC:Stmt:=top 59
abbrev qz:Stmt:=top 60
abbrev qy:Stmt:=top 61
abbrev uA:Stmt:=top 62
structure Bi (mg:Str->Option Value):Prop where
 tuple:mg "tuple" = none
 max:mg "max" = none
 min:mg "min" = none
 enumerate:mg "enumerate" = none
 zip:mg "zip" = none
 sum:mg "sum" = none
 list:mg "list" = none
 reversed:mg "reversed" = none
 range:mg "range" = none
 len:mg "len" = none
 set:mg "set" = none
 abs:mg "abs" = none
 int:mg "int" = none
 isinstance:mg "isinstance" = none
structure Co (K:PySem.W.Frag) (mg:Str->Option Value):Prop where
 Uz:GT2 K mg "WHATS" Tj
 OVER:Gs mg "OVER" "over"
 UNDER:Gs mg "UNDER" "under"
 EACH:Gs mg "EACH" "each"
 Wt:Gi mg "MOST_HANDS" 12
 Ao:Gi mg "TRIPLES_SEEN" 3
 LIMIT:Gi mg "LIMIT" 300
 yJ:Gi mg "MOST_COME" 23
 KEPT:Gs mg "KEPT" "kept"
 BROKEN:Gs mg "BROKEN" "broken"
local macro_rules | `(tactic| walk_at "o")=>`(tactic| first | exact Or.inl rfl | exact Or.inr rfl)
local macro_rules | `(tactic| walk_at "c")=>`(tactic| exact⟨rfl,rfl,rfl,by decide +kernel,rfl,by decide +kernel,by decide +kernel⟩)
local macro_rules | `(tactic| walk_at "rd")=>`(tactic| simp only[L2.start,rZ,List.map_nil,m8,List.length_nil,Nat.reduceAdd,Nat.reduceSub,List.replicate,List.cons_append,xQ,kZ,
 Ml,QV,Xj,Xi,TF,Bf,eQ,TY,Q7,Q6,M_,Ra,if_true,if_false,iU,zj,Bool.not_false,Q_,Q9,Vp,EY,Nf,M9,Rb,Rc,Ng,Q8,Vo,XX,tC,Vc,tUn,Ue,rI,rU,Tv,Xu,tOr,Xo,Xr,Xm,Xn,tIf,rD,Vf,GK,QT,tB,Ve,tSl,GJ,Tz,YB,Xl,Xp,Z7,TV,Mj,Z9,Xq,Xk,T3,ipI,TQ,Vd,tFv,tJs,tJ1,tJ0,Z8,Ms,Mm,xPe,Ti,xIf,Xd,Xe,Z4,xPs,Z3,Tw,Uc,Ub,Ud])
section
variable {P:Program} {w:World} {K:PySem.W.Frag} {mg:Str->Option Value} {base:Heap} {f:Addr} {fd:FuncData} {k:Nat}
theorem Cw {X:Cx}:oU X (binaryOp .FloorDiv) (rI (fun _ j=>0<j/\j<10 ^ 60) fun i j=>.int (i / j)):=Yk fun i j _ _ _ _ _ hc q=>by
 have h1:(0:Int)<j:=hc.1
 have h2:j<10 ^ 60:=hc.2
 refine PyProof.Rows.floordiv_int (by omega) (by rw[Int.fdiv_eq_ediv_of_nonneg i (by omega)]; exact q) (.inl (PyProof.noPylong_of_log2 ?_))
 have:j.natAbs<10 ^ 60:=by omega
 by_cases z:j.natAbs=0
 ·omega
 ·have h3:j.natAbs<2 ^ 1000:=Nat.lt_trans this (by decide +kernel)
  have:=(Nat.log2_lt z).mpr h3
  omega
structure fV where
 w:Str
 s:Nat
 g:Str
 n:Int
 t:Int
def pq (r:fV):PyData:=.tuple [.str r.w,.int r.s,.str r.g,.int r.n,.int r.t]
def ph (rs:List fV):PyData:=.tuple (rs.map pq)
def Ez (eO:List (List fV)):PyData:=.tuple (eO.map ph)
structure nJ (r:fV):Prop where
 w:r.w∈(["come","done","wait"]:List Str)
 s:1<=r.s/\r.s<=4
 n:0<=r.n/\r.n<=1000000000000000000000000000000
 e:r.g = "each" -> 1<=r.n
def jO (l:List Int):PyData:=.tuple (l.map .int)
def Ei (dH:List (List Int)):PyData:=.tuple (dH.map jO)
structure oO (dH:List (List Int)):Prop where
 n:dH.length=4
 l:∀x∈dH,x.length=3
def lC (w:Str) (s:Nat) (dH:List (List Int)):Int:=((dH.take s).map fun l=>l.getD (eY w) 0).sum
def says (r:fV) (h:Int) (dH:List (List Int)):Option Int:=
 if r.g = "each" then some ((lC r.w r.s dH+r.n*r.s-1) / (r.n*r.s))
 else if(r.g = "over" /\ lC r.w r.s dH>r.n*r.s)\/(r.g = "under" /\ lC r.w r.s dH<r.n*r.s) then some (h+r.t) else none
def T7:Option Int->V
 | none=>.non
 | some i=>.int i
def gb (h:Int) (dH:List (List Int)):List fV->Int
 | []=>h
 | r::rs=>match says r h dH with
  | some i=>i
  | none=>gb h dH rs
def topOf (h:Int):List Int->Int
 | []=>h
 | b::r=>dJ b r
def kJ (eO:List (List fV)) (l m h:Int) (dH:List (List Int)):Int:=
 let x:=topOf h (eO.map (gb h dH))
 let y:=if l>x then l else x
 if m<y then m else y
theorem xg (w:Str):eY w<3:=by
 unfold eY
 split
 ·decide
 ·split <;> decide
theorem bA {H:Hp} {ds:List PyData} {v:V} (h:At H (.tuple ds) v):∃a xs,v=.ref a/\H a=some (.tup xs)/\aa H ds xs:=by unfold At at h; exact h
theorem aa.aZ {H:Hp} {d:PyData} {ds:List PyData} {xs:List V} (h:aa H (d::ds) xs):∃x r,xs=x::r/\At H d x/\aa H ds r:=by unfold aa at h; exact h
theorem aa.nA {H:Hp} {xs:List V} (h:aa H [] xs):xs=[]:=by unfold aa at h; exact h
theorem cz {G:Hp}:∀{cs:List Int} {xs:List V},aa G (cs.map PyData.int) xs->xs=cs.map V.int
 | [],xs,h=>by unfold aa at h; exact h
 | c::cs,xs,h=>by
  obtain⟨x,r,rfl,h1,h2⟩:=aa.aZ h
  unfold At at h1
  rw[h1,cz h2]; rfl
theorem bu {H:Hp}:∀cs:List Int,aa H (cs.map .int) (cs.map V.int)
 | []=>aa.nil
 | c::cs=>aa.cons (At.int c) (bu cs)
theorem row_shape {H:Hp} {r:fV} {v:V} (h:At H (pq r) v):∃a,v=.ref a/\H a=some (.tup [.str r.w,.int r.s,.str r.g,.int r.n,.int r.t]):=by
 obtain⟨a,xs,rfl,h1,h2⟩:=bA h
 obtain⟨x1,_,rfl,a1,h2⟩:=aa.aZ h2
 obtain⟨x2,_,rfl,a2,h2⟩:=aa.aZ h2
 obtain⟨x3,_,rfl,a3,h2⟩:=aa.aZ h2
 obtain⟨x4,_,rfl,a4,h2⟩:=aa.aZ h2
 obtain⟨x5,_,rfl,a5,h2⟩:=aa.aZ h2
 cases aa.nA h2
 unfold At at a1 a2 a3 a4 a5
 subst a1 a2 a3 a4 a5
 exact⟨a,rfl,h1⟩
theorem Ja {K:PySem.W.Frag} {js:List Nat} {a:Addr} {xs:List V} {ds:List PyData} {f:Nat->Int} {tl te:TE} {σ:St} {H:Hp} {Q:VK} (hl:∀R:VK,R (.ref a) H->tl σ H R) (ha:H a=some (.tup xs)) (hd:aa H ds xs) (hz:ds.length<=sizeLine)
  (step:∀(i:Nat) x d H',aD H H'->ds[i]?=some d->At H' d x->∀R:VK,(∀du,aD H' du->R (.int (f i)) du)->te (some x::bU js σ) H' R)
  (fin:∀acc H',aD H H'->H' acc=some (.lst (((List.range ds.length).map f).map V.int))->Q (.ref acc) H'):iW js (wO K tl) te σ H Q:=by
 refine hl _ ⟨a,rfl,⟨xs,cD.of ha⟩,fun acc hacc=>?_⟩
 have hlen:=hd.length
 refine⟨fun i m ys H2=>m=ds.length-i/\i<=ds.length/\ys=((List.range i).map f).map V.int/\aD H H2/\H2 acc=some (.lst ys),⟨_,rfl,gr _,rfl,aO hacc _,aC⟩,?_⟩
 rintro i m ys H2 ⟨rfl,hi,rfl,sm,hy⟩
 have ht:cD K H2 a xs:=cD.of (sm _ _ ha)
 by_cases hlt:i<ds.length
 ·refine .inr ⟨⟨xs,xs[i]'(by omega),ht,gP (by omega)⟩,fun x H3 y=>?_⟩
  obtain⟨e,y⟩:=y
  subst e
  obtain⟨d,e1,e2⟩:=hd.get (y xs ht)
  refine step i x d _ sm e1 (e2.mono sm) _ fun H4 s4=>⟨s4 _ _ hy,?_,ds.length-(i+1),by omega,rfl,hlt,?_,?_,aC⟩
  ·rw[cg,cg,Hj]; omega
  ·rw[List.range_succ]; simp
  ·refine fun b o q=>?_
   have nb:b≠acc:=bN q hacc
   rw[aL nb]
   exact s4 _ _ (sm _ _ q)
 ·have e:i=ds.length:=by omega
  subst e
  exact .inl ⟨⟨xs,ht,by omega⟩,fin _ _ sm hy⟩
def CT (K:PySem.W.Frag) (js:List Nat) (te:TE) (σ:St) (Q:VK) (x:V) (H1:Hp):Prop:=iW js (wO K (fun _ H R=>R x H)) te σ H1 Q
theorem xm {K:PySem.W.Frag} {js:List Nat} {tl te:TE} {σ:St} {H:Hp} {Q:VK}:iW js (wO K tl) te σ H Q=tl σ H (CT K js te σ Q):=rfl
def Ep:Sp:=fun vs H Q _=>∃(v u:V) (h:Int) (r:fV) (dH:List (List Int)),vs=[v,.int h,u]/\At H (pq r) v/\At H (Ei dH) u/\nJ r/\oO dH/\∀H',aD H H'->Q (T7 (says r h dH)) H'
theorem abv.of {v u:V} {h:Int} {r:fV} {dH:List (List Int)} {H:Hp} {Q:VK} {E:XK} (a1:At H (pq r) v) (a2:At H (Ei dH) u) (h1:nJ r) (h2:oO dH) (q:∀H',aD H H'->Q (T7 (says r h dH)) H'):Ep ([v,.int h,u]++[]) H Q E:=⟨v,u,h,r,dH,rfl,a1,a2,h1,h2,q⟩
theorem wG {dH:List (List Int)} {w:Str} {s:Nat}:((List.range (dH.take s).length).map fun i=>((dH.take s).getD i []).getD (eY w) 0).sum=lC w s dH:=by
 unfold lC
 congr 1
 generalize dH.take s=l
 apply Hg
 ·simp
 ·intro i h1 h2
  simp at h1 h2
  simp[iZ,h2]
theorem rE:aU ["row","hands","newest","what","span","sign","number","step","place","total","mark"] ["row","hands","newest"] (aH nP):=(by walk_at "c")
theorem Cy (F:iV K "row_says" "row_says" nP f fd) (B:Bi mg) (O:Co K mg):bM P w K mg base iz (k+1) f fd ["row","hands","newest"] Ep:=by
 refine F.ok rE (by rintro vs H Q E ⟨v,u,h,r,dH,rfl,_⟩; rfl) (fun cdv A outer s H vs Q E hr h=>?_)
 obtain⟨v,u,h,r,dH,rfl,a1,a2,hR,hN,q⟩:=h
 have ND:=rE.nd
 refine⟨_,(aq (cU (pv 0) (bL (K:=K) (n:=5) rfl rfl (aF (aG (i:=3) ND rfl (by walk_at "o")) (aF (aG (i:=4) ND rfl (by walk_at "o")) (aF (aG (i:=5) ND rfl (by walk_at "o")) (aF (aG (i:=6) ND rfl (by walk_at "o")) (aF (aG (i:=7) ND rfl (by walk_at "o")) bK))))))) (aq (bf (i:=8) ND rfl (by walk_at "o") (nU (K:=K) rfl PySem.F.plainAttrs_tuple PySem.F.slot_tuple_index PySem.F.type_tuple_index (Kh (K:=K) rfl) (Hv (K:=K) rfl O.Uz) (aj (pv 3) ak))) (aq (bf (i:=9) ND rfl (by walk_at "o") (pb (yr rfl) B.sum Qf (aj (jZ (N':=["triple","place"]) (js:=[8]) rfl (jY (K:=K) rfl (dI ik (pv 2) gJ (dW (pv 4)))) Ax.mk1 rfl (by decide) rfl (fun fp s' H'=>(bh aP (pv 0) (pv 1) (fun _ _=>rfl)))) ak))) (aq (bf (i:=10) ND rfl (by walk_at "o") (aY j0 (pv 6) (pv 4))) (aq (dz (aW kY (pv 5) (qO O.EACH) (a_ _)) (aJ (aR (aY Cw (aY jm (aY bI (pv 9) (pv 10)) ao) (pv 10)))) bO) (aq (dz (PW.pt (rO (PW.pt (jV (aW kY (pv 5) (qO O.OVER) (a_ _)) (i_ (aW lX (pv 9) (pv 10) (a_ _))))) (qL (PW.pt (jV (aW kY (pv 5) (qO O.UNDER) (a_ _)) (i_ (aW Cu (pv 9) (pv 10) (a_ _)))))))) (aJ (aR (aY bI (pv 1) (pv 7)))) bO) (aJ (aR cY)))))))),?_⟩
 obtain⟨a,rfl,h1⟩:=row_shape a1
 obtain⟨b,xs,rfl,h2,h3⟩:=bA a2
 walk_at "rd"
 refine⟨a,_,rfl,cD.of h1,rfl,?_⟩
 walk_at "rd"
 intro aw ho hw
 refine⟨.inr (.inl ⟨rfl,ho⟩),aw,r.w,rfl,hw _,rfl,hR.w,?_⟩
 show iW _ _ _ _ _ _
 rw[xm]
 walk_at "rd"
 refine⟨b,xs,rfl,h2,fun p H1 s1 e1=>?_⟩
 rw[qY (by omega),uK] at e1
 have h3':aa H1 ((dH.take r.s).map jO) (xs.take r.s):=by rw[List.map_take]; exact(h3.take r.s).mono s1
 have hs4:=hR.s
 have htl:(dH.take r.s).length<=4:=by rw[jC]; omega
 refine Ja (a:=p) (f:=fun i=>((dH.take r.s).getD i []).getD (eY r.w) 0) (fun R hR=>hR) e1 h3' (lQ (bB (by rw[cg]; omega))) (fun i x d H' s' ed hx R hR'=>?_) (fun acc H' s' hl=>?_)
 ·rw[il] at ed
  obtain⟨l,el,rfl⟩:=m_.mp ed
  have l3:l.length=3:=hN.l l (List.mem_of_mem_take (lU el))
  obtain⟨c,ys,rfl,g1,g2⟩:=bA hx
  cases cz g2
  show Vc _ _ _ [some _,some (.int (eY r.w:Nat))] H' R
  walk_at "rd"
  have hw:=xg r.w
  refine Ix.tup g1 (v:=.int (l.getD (eY r.w) 0)) (bx (by rw[il,gP (by omega),iZ,gP (by omega)]; rfl)) ?_
  have:=hR' H' (aD.refl H')
  have eg:(dH.take r.s).getD i []=l:=by rw[iZ,el]; rfl
  rw[eg] at this
  exact this
 ·have sm:=s1.trans s'
  rw[cg] at hl
  refine⟨acc,_,rfl,.inl hl,.inr (by have:=hR.s; omega),?_⟩
  rw[wG]
  have q1:=q H' sm
  unfold says at q1
  refine iM (fun c1=>?_) (fun c1=>?_)
  ·have c1':=Fd c1
   rw[aM c1'] at q1
   have h1n:=hR.e c1'
   have hpos:0<r.n*(r.s:Int):=Int.mul_pos (by omega) (by omega)
   have hup:r.n*(r.s:Int)<=1000000000000000000000000000000*4:=Int.mul_le_mul hR.n.2 (by omega) (by omega) (by decide)
   exact⟨⟨hpos,Int.lt_of_le_of_lt hup (by decide)⟩,q1⟩
  ·have c1':=JQ c1
   rw[aK c1'] at q1
   generalize lC r.w r.s dH=tot at q1 ⊢
   generalize r.n*(r.s:Int)=mark at q1 ⊢
   by_cases o1:r.g = "over"
   ·have u1:¬r.g = "under" := by rw[o1]; decide +kernel
    rw[iT o1,aM rfl]
    by_cases o2:mark<tot
    ·rw[iT o2,aM rfl]
     rw[aM (.inl ⟨o1,o2⟩)] at q1; exact q1
    ·rw[fX o2,aK (by decide),fX u1,aK (by decide)]
     rw[aK (fun z=>by rcases z with z | z; exact o2 z.2; exact u1 z.1)] at q1; exact q1
   ·rw[fX o1,aK (by decide)]
    by_cases u1:r.g = "under"
    ·rw[iT u1,aM rfl]
     by_cases o2:tot<mark
     ·rw[iT o2,aM rfl]
      rw[aM (.inr ⟨u1,o2⟩)] at q1; exact q1
     ·rw[fX o2,aK (by decide)]
      rw[aK (fun z=>by rcases z with z | z; exact o1 z.1; exact o2 z.2)] at q1; exact q1
    ·rw[fX u1,aK (by decide)]
     rw[aK (fun z=>by rcases z with z | z; exact o1 z.1; exact u1 z.1)] at q1; exact q1
def Vi:Sp:=fun vs H Q _=>∃(v u:V) (h:Int) (rs:List fV) (dH:List (List Int)),vs=[v,.int h,u]/\At H (ph rs) v/\At H (Ei dH) u/\(∀r∈rs,nJ r)/\oO dH/\∀H',aD H H'->Q (.int (gb h dH rs)) H'
theorem Rw.of {v u:V} {h:Int} {rs:List fV} {dH:List (List Int)} {H:Hp} {Q:VK} {E:XK} (a1:At H (ph rs) v) (a2:At H (Ei dH) u) (h1:∀r∈rs,nJ r) (h2:oO dH) (q:∀H',aD H H'->Q (.int (gb h dH rs)) H'):Vi ([v,.int h,u]++[]) H Q E:=⟨v,u,h,rs,dH,rfl,a1,a2,h1,h2,q⟩
theorem oX:aU ["rule","hands","newest","row","said"] ["rule","hands","newest"] (aH lL):=(by walk_at "c")
theorem zP (F:iV K "rule_wish" "rule_wish" lL f fd) (oK:Ct P w K mg base k "row_says" ["row","hands","newest"] Ep):bM P w K mg base iz (k+1) f fd ["rule","hands","newest"] Vi:=by
 refine F.ok oX (by rintro vs H Q E ⟨v,u,h,r,dH,rfl,_⟩; rfl) (fun cdv A outer s H vs Q E hr h=>?_)
 obtain⟨v,u,h,rs,dH,rfl,a1,a2,hR,hN,q⟩:=h
 have ND:=oX.nd
 refine⟨_,(aq (jW PassesOwn.never rfl (jY (K:=K) rfl (pv 0)) (aG (i:=3) ND rfl (by walk_at "o")) (aq (bf (i:=4) ND rfl (by walk_at "o") (pf oK hr (aj (pv 3) (aj (pv 1) (aj (pv 2) ak))))) (aJ (dz (aW tG (pv 4) cY (a_ _)) (aJ (aR (pv 4))) bO)))) (aJ (aR (pv 1)))),?_⟩
 obtain⟨a,xs,rfl,h1,h2⟩:=bA a1
 have hlen:=h2.length
 rw[cg] at hlen
 walk_at "rd"
 rw[Mp]
 walk_at "rd"
 refine TK.of h1 (fun n σ H'=>∃o1 o2,σ=[some (.ref a),some (.int h),some u,o1,o2]/\aD H H'/\gb h dH (rs.drop n)=gb h dH rs) ⟨_,_,rfl,aD.refl H,rfl⟩ (fun n σ H' _ ⟨o1,o2,_,sm,_⟩=>sm _ _ h1) ?_ ?_
 ·rintro n x σ H1 hx ⟨o1,o2,rfl,sm,e⟩
  obtain⟨d,e1,e2⟩:=h2.get hx
  rw[il] at e1
  obtain⟨r,er,rfl⟩:=m_.mp e1
  have hn:n<rs.length:=by
   obtain⟨z,_⟩:=nG.mp er; exact z
  have ed:rs.drop n=r::rs.drop (n+1):=by
   rw[JX hn]
   obtain⟨z,ez⟩:=nG.mp er
   rw[ez]
  rw[ed,gb] at e
  walk_at "rd"
  refine abv.of (e2.mono sm) (a2.mono sm) (hR r (lU er)) hN fun H2 s2=>?_
  have s2:=sm.trans s2
  cases es:says r h dH with
  | none=>
   rw[es] at e
   refine⟨trivial,?_⟩
   exact⟨_,_,rfl,s2,e⟩
  | some i=>
   rw[es] at e
   refine⟨trivial,?_⟩
   have e:i=gb h dH rs:=e
   show Q (.int i) H2
   rw[e]; exact q H2 s2
 ·rintro σ H1 ⟨o1,o2,rfl,sm,e⟩
  walk_at "rd"
  rw[hlen,JL] at e
  have e:h=gb h dH rs:=e
  rw[e]
  have:=q H1 sm
  rw[<- e] at this ⊢
  exact this
def Ug (d0 d1 d3 d4 d5:PyData) (l m:Int) (eO:List (List fV)):PyData:=.tuple [d0,d1,.tuple [.int l,.int m],d3,d4,d5,Ez eO]
def Mv:Sp:=fun vs H Q _=>∃(v u:V) (h l m:Int) (d0 d1 d3 d4 d5:PyData) (eO:List (List fV)) (dH:List (List Int)),vs=[v,.int h,u]/\At H (Ug d0 d1 d3 d4 d5 l m eO) v/\At H (Ei dH) u/\(∀rs∈eO,∀r∈rs,nJ r)/\eO.length<=100/\oO dH /\
 ∀H',aD H H'->Q (.int (kJ eO l m h dH)) H'
theorem Hc:aU ["post","hands","newest","least","most","wishes","wished"] ["post","hands","newest"] (aH Eu):=(by walk_at "c")
theorem Rz (F:iV K "wish" "wish" Eu f fd) (B:Bi mg) (mJ:Ct P w K mg base k "rule_wish" ["rule","hands","newest"] Vi):bM P w K mg base iz (k+1) f fd ["post","hands","newest"] Mv:=by
 refine F.ok Hc (by rintro vs H Q E ⟨v,u,h,l,m,d0,d1,d3,d4,d5,eO,dH,rfl,_⟩; rfl) (fun cdv A outer s H vs Q E hr h=>?_)
 obtain⟨v,u,h,l,m,d0,d1,d3,d4,d5,eO,dH,rfl,a1,a2,hR,hn,hN,q⟩:=h
 have ND:=Hc.nd
 refine⟨_,(aq (cU (bh aP (pv 0) ao (fun _ _=>rfl)) (bL (K:=K) (n:=2) rfl rfl (aF (aG (i:=3) ND rfl (by walk_at "o")) (aF (aG (i:=4) ND rfl (by walk_at "o")) bK)))) (aq (Ht (i:=5) ND rfl (by walk_at "o") (N':=["rule","hands","newest"]) (js:=[1,2]) rfl (jY (K:=K) rfl (bh aP (pv 0) ao (fun _ _=>rfl))) Ax.mk2 rfl (by decide) rfl (fun fp s' H'=>(pf mJ hr (aj (pv 0) (aj (pv 1) (aj (pv 2) ak)))))) (aq (bf (i:=6) ND rfl (by walk_at "o") (Hx rfl B.max (aj (pv 5) ak) (pv 1))) (aJ (aR (pb (gD rfl) B.min mL (aj (pb (mX rfl) B.max rn (aj (pv 6) (aj (pv 3) ak))) (aj (pv 4) ak)))))))),?_⟩
 obtain⟨a,xs,rfl,h1,h2⟩:=bA a1
 obtain⟨x0,_,rfl,b0,h2⟩:=aa.aZ h2
 obtain⟨x1,_,rfl,b1,h2⟩:=aa.aZ h2
 obtain⟨x2,_,rfl,b2,h2⟩:=aa.aZ h2
 obtain⟨x3,_,rfl,b3,h2⟩:=aa.aZ h2
 obtain⟨x4,_,rfl,b4,h2⟩:=aa.aZ h2
 obtain⟨x5,_,rfl,b5,h2⟩:=aa.aZ h2
 obtain⟨x6,_,rfl,b6,h2⟩:=aa.aZ h2
 cases aa.nA h2
 obtain⟨c,ys,rfl,g1,g2⟩:=bA b2
 obtain⟨y0,_,rfl,k0,g2⟩:=aa.aZ g2
 obtain⟨y1,_,rfl,k1,g2⟩:=aa.aZ g2
 cases aa.nA g2
 unfold At at k0 k1
 subst k0 k1
 obtain⟨e,zs,rfl,m1,m2⟩:=bA b6
 walk_at "rd"
 refine Ix.tup h1 (bx (j:=2) rfl) ⟨c,_,rfl,cD.of g1,rfl,?_⟩
 walk_at "rd"
 rw[xm]
 walk_at "rd"
 refine Ix.tup h1 (bx (j:=6) rfl) ?_
 refine Ja (a:=e) (f:=fun i=>gb h dH (eO.getD i [])) (fun R hR=>hR) m1 m2 (lQ (bB (by rw[cg]; omega))) (fun i x d H' s' ed hx R hR'=>?_) (fun acc H' s' hl=>?_)
 ·rw[il] at ed
  obtain⟨rs,el,rfl⟩:=m_.mp ed
  show rD _ _ _ _ [some x,some (.int h),some u] H' R
  walk_at "rd"
  refine Rw.of hx (a2.mono s') (hR rs (lU el)) hN fun H2 s2=>?_
  have:=hR' H2 s2
  have eg:eO.getD i []=rs:=by rw[iZ,el]; rfl
  rw[eg] at this
  exact this
 ·rw[cg] at hl
  have el:(List.range eO.length).map (fun i=>gb h dH (eO.getD i []))=eO.map (gb h dH):=by
   apply Hg
   ·simp
   ·intro i h1 h2
    simp at h1 h2
    simp[iZ,h2]
  rw[el] at hl
  have q1:=q H' s'
  unfold kJ topOf at q1
  refine⟨acc,_,rfl,hl,fun en=>?_,fun b r er=>?_⟩
  ·rw[en] at q1
   exact q1
  ·rw[er] at q1
   exact q1
def G9:Sp:=fun vs H Q _=>∃(v x:V) (a:Addr) (r:Int) (b:Addr) (ns:List Int) (u:List V),v=.ref a/\vs=[v]/\H a=some (.tup (x::.int r::.ref b::u))/\H b=some (.tup (ns.map V.int))/\Q (.int (r+ns.sum)) H
theorem rG:aU ["stand"] ["stand"] (aH nR):=(by walk_at "c")
theorem CG (F:iV K "hands_of" "hands_of" nR f fd) (B:Bi mg):bM P w K mg base iz (k+1) f fd ["stand"] G9:=by
 refine F.ok rG (by rintro vs H Q E ⟨v,x,a,r,b,ns,u,_,rfl,_⟩; rfl) (fun cdv A outer s H vs Q E hr h=>?_)
 obtain⟨v,x,a,r,b,ns,u,rfl,rfl,h1,h2,q⟩:=h
 have ND:=rG.nd
 refine⟨_,(aJ (aR (aY bI (bh aP (pv 0) ao (fun _ _=>rfl)) (pb (yr rfl) B.sum Qf (aj (bh aP (pv 0) ao (fun _ _=>rfl)) ak))))),?_⟩
 walk_at "rd"
 refine⟨a,_,1,_,rfl,rfl,.inr h1,bx (j:=1) rfl,?_⟩
 refine⟨a,_,2,_,rfl,rfl,.inr h1,bx (j:=2) rfl,?_⟩
 refine⟨b,ns,rfl,.inr h2,?_⟩
 exact⟨_,_,rfl,rfl,q⟩
theorem Pb {X:Cx}:Y6 X (fun o i H Q=>∃(p:Addr) (xs:List V) (j:Nat) (v:V),o=.ref p/\i=.int j/\H p=some (.lst xs)/\xs[j]?=some v/\Q v H):=by
 intro pins s σ H o i ov iv Q I ro ri h
 obtain⟨p,xs,j,v,rfl,rfl,hp,hv,q⟩:=h
 cases ro
 obtain⟨t,rfl⟩:=ri
 obtain⟨its,r,pl,hz⟩:=I.list (eV.of (K:=X.K) hp)
 obtain⟨w,ew,Vm⟩:=r.get hv
 have hl:=r.length
 have hn:=vh
 have hj:j<xs.length:=by obtain⟨z,_⟩:=nG.mp hv; exact z
 exact wpAny_getItem_list pl.isList (by omega) (by omega) (by simpa using ew) ⟨v,H,I,Vm,q⟩
theorem Ij {n j:Nat} (h:j<n):O3 n (j:Int)=some j:=by
 unfold O3
 rw[aM (by omega),aM (by omega),uK]
structure bZ where
 w:Int
 r:Int
 cs:List Int
 s:Int
 t:Int
 us:List (List Int)
def jP (x:bZ):PyData:=.tuple [.int x.w,.int x.r,.tuple (x.cs.map .int),.int x.s,.int x.t,.tuple (x.us.map jO)]
structure dY (x:bZ):Prop where
 c:x.cs.length=5
 u:x.us.length=3
 l:∀y∈x.us,y.length=3
structure b8 where
 p:Int
 m:Int
 lo:Int
 hi:Int
 a:Nat
 e:Int
 u:Int
 d:Int
 eO:List (List fV)
def g8 (x:b8):PyData:=Ug (.int x.p) (.int x.m) (.int x.a) (.int x.e) (.tuple [.int x.u,.int x.d]) x.lo x.hi x.eO
structure h_ (x:b8):Prop where
 a:x.a<=4
 p:0<=x.p/\x.p<=1000000000000000000
 n:x.eO.length<=100
 g:∀rs∈x.eO,∀r∈rs,nJ r
theorem jE {H:Hp} {x:b8} {v:V} (h:At H (g8 x) v):∃a b c d,v=.ref a/\H a=some (.tup [.int x.p,.int x.m,.ref b,.int x.a,.int x.e,.ref c,.ref d])/\H c=some (.tup [.int x.u,.int x.d]):=by
 obtain⟨a,xs,rfl,h1,h2⟩:=bA h
 obtain⟨x0,_,rfl,b0,h2⟩:=aa.aZ h2
 obtain⟨x1,_,rfl,b1,h2⟩:=aa.aZ h2
 obtain⟨x2,_,rfl,b2,h2⟩:=aa.aZ h2
 obtain⟨x3,_,rfl,b3,h2⟩:=aa.aZ h2
 obtain⟨x4,_,rfl,b4,h2⟩:=aa.aZ h2
 obtain⟨x5,_,rfl,b5,h2⟩:=aa.aZ h2
 obtain⟨x6,_,rfl,b6,h2⟩:=aa.aZ h2
 cases aa.nA h2
 unfold At at b0 b1 b3 b4
 subst b0 b1 b3 b4
 obtain⟨b,ys,rfl,_,_⟩:=bA b2
 obtain⟨c,zs,rfl,g1,g2⟩:=bA b5
 obtain⟨d,ws,rfl,_,_⟩:=bA b6
 obtain⟨y0,_,rfl,k0,g2⟩:=aa.aZ g2
 obtain⟨y1,_,rfl,k1,g2⟩:=aa.aZ g2
 cases aa.nA g2
 unfold At at k0 k1
 subst k0 k1
 exact⟨a,b,c,d,rfl,h1,g1⟩
theorem gk {H:Hp} {x:bZ} {v:V} (h:At H (jP x) v):∃a b c,v=.ref a/\H a=some (.tup [.int x.w,.int x.r,.ref b,.int x.s,.int x.t,.ref c])/\H b=some (.tup (x.cs.map V.int))/\At H (.tuple (x.us.map jO)) (.ref c):=by
 obtain⟨a,xs,rfl,h1,h2⟩:=bA h
 obtain⟨x0,_,rfl,b0,h2⟩:=aa.aZ h2
 obtain⟨x1,_,rfl,b1,h2⟩:=aa.aZ h2
 obtain⟨x2,_,rfl,b2,h2⟩:=aa.aZ h2
 obtain⟨x3,_,rfl,b3,h2⟩:=aa.aZ h2
 obtain⟨x4,_,rfl,b4,h2⟩:=aa.aZ h2
 obtain⟨x5,_,rfl,b5,h2⟩:=aa.aZ h2
 cases aa.nA h2
 unfold At at b0 b1 b3 b4
 subst b0 b1 b3 b4
 obtain⟨b,ys,rfl,g1,g2⟩:=bA b2
 cases cz g2
 obtain⟨c,zs,rfl,_,_⟩:=bA b5
 exact⟨a,b,c,rfl,h1,g1,b5⟩
def nO (e s:Int):Int:=if s+1<e then s+1 else 0
def j6 (e s t:Int):Bool:=if s+1<e then false else decide (t=0)
def GR:Sp:=fun vs H Q _=>∃(v:V) (x:b8) (s t:Int),vs=[v,.int s,.int t]/\At H (g8 x) v/\∀p H',aD H H'->H' p=some (.tup [.int (nO x.e s),.bl (j6 x.e s t)])->Q (.ref p) H'
theorem iY:aU ["post","since","rest","every"] ["post","since","rest"] (aH gm):=(by walk_at "c")
theorem pJ (F:iV K "since_and_look" "since_and_look" gm f fd):bM P w K mg base iz (k+1) f fd ["post","since","rest"] GR:=by
 refine F.ok iY (by rintro vs H Q E ⟨v,x,s,t,rfl,_⟩; rfl) (fun cdv A outer s H vs Q E hr h=>?_)
 obtain⟨v,x,sn,t,rfl,a1,q⟩:=h
 have ND:=iY.nd
 refine⟨_,(aq (bf (i:=3) ND rfl (by walk_at "o") (bh aP (pv 0) ao (fun _ _=>rfl))) (aq (dz (aW Cu (aY bI (pv 1) ao) (pv 3) (a_ _)) (aJ (aR (aX (aj (aY bI (pv 1) ao) (aj rP ak))))) bO) (aJ (aR (aX (aj ao (aj (fO kY (pv 2) ao (a_ _)) ak))))))),?_⟩
 obtain⟨a,b,c,d,rfl,h1,h2⟩:=jE a1
 walk_at "rd"
 refine Ix.tup h1 (bx (j:=4) rfl) ?_
 walk_at "rd"
 refine iM (fun c1=>?_) (fun c1=>?_)
 ·have c1':=Fd c1
  refine⟨(by decide),fun p H1 f1 s1 e1=>q p H1 s1 ?_⟩
  unfold nO j6
  rw[aM c1',aM c1']; exact e1
 ·have c1':=JQ c1
  refine⟨(by decide),fun p H1 f1 s1 e1=>q p H1 s1 ?_⟩
  unfold nO j6
  rw[aK c1',aK c1']; exact e1
def tU (x:b8) (h fr:Int) (dH:List (List Int)):Int:=if fr<kJ x.eO x.lo x.hi h dH-h then fr else kJ x.eO x.lo x.hi h dH-h
def Bm:Sp:=fun vs H Q _=>∃(v u:V) (x:b8) (h fr:Int) (dH:List (List Int)),vs=[v,.int h,u,.int fr]/\At H (g8 x) v/\At H (Ei dH) u/\h_ x/\oO dH/\∀H',aD H H'->Q (.int (tU x h fr dH)) H'
theorem oZ:aU ["post","hands","newest","free"] ["post","hands","newest","free"] (aH lN):=(by walk_at "c")
theorem zR (F:iV K "change_of" "change_of" lN f fd) (B:Bi mg) (Gx:Ct P w K mg base k "wish" ["post","hands","newest"] Mv):bM P w K mg base iz (k+1) f fd ["post","hands","newest","free"] Bm:=by
 refine F.ok oZ (by rintro vs H Q E ⟨v,u,x,h,fr,dH,rfl,_⟩; rfl) (fun cdv A outer s H vs Q E hr h=>?_)
 obtain⟨v,u,x,h,fr,dH,rfl,a1,a2,hP,hN,q⟩:=h
 have ND:=oZ.nd
 refine⟨_,(aJ (aR (pb (gD rfl) B.min mL (aj (aY jm (pf Gx hr (aj (pv 0) (aj (pv 1) (aj (pv 2) ak)))) (pv 1)) (aj (pv 3) ak))))),?_⟩
 walk_at "rd"
 refine⟨v,u,h,x.lo,x.hi,_,_,_,_,_,x.eO,dH,rfl,a1,a2,hP.g,hP.n,hN,fun H1 s1=>?_⟩
 walk_at "rd"
 exact q H1 s1
def bz:List Int->Int->List Int×Int
 | [],n=>([],n)
 | c::cs,n=>((c-(if(bz cs n).2<c then(bz cs n).2 else c))::(bz cs n).1,(bz cs n).2-(if(bz cs n).2<c then(bz cs n).2 else c))
theorem ou:∀(cs:List Int) (n:Int),(bz cs n).1.length=cs.length
 | [],_=>rfl
 | c::cs,n=>by rw[bz,m8,m8,ou cs n]
def My:Sp:=fun vs H Q _=>∃(r n:Int) (b:Addr) (cs:List Int),vs=[.int r,.ref b,.int n]/\H b=some (.tup (cs.map V.int))/\cs.length<=100/\∀p b' H',aD H H'->H' p=some (.tup [.int (r-(bz cs n).2),.ref b'])->H' b'=some (.tup ((bz cs n).1.map V.int))->Q (.ref p) H'
theorem oW:aU ["ready","called","many","left","place","gone"] ["ready","called","many"] (aH lK):=(by walk_at "c")
theorem zO (F:iV K "sent_home" "sent_home" lK f fd) (B:Bi mg):bM P w K mg base iz (k+1) f fd ["ready","called","many"] My:=by
 refine F.ok oW (by rintro vs H Q E ⟨r,n,b,cs,rfl,_⟩; rfl) (fun cdv A outer s H vs Q E hr h=>?_)
 obtain⟨r,n,b,cs,rfl,h1,hlen,q⟩:=h
 have ND:=oW.nd
 refine⟨_,(aq (bf (i:=3) ND rfl (by walk_at "o") (pt (K7) B.list tV (aj (pv 1) ak))) (aq (jW PassesOwn.never rfl (Vx B.reversed B.range (aj (pb (cQ (K:=K) rfl) B.len g_ (aj (pv 3) ak)) ak)) (aG (i:=4) ND rfl (by walk_at "o")) (aq (bf (i:=5) ND rfl (by walk_at "o") (pb (gD rfl) B.min mL (aj (bh aP (pv 3) (pv 4) (fun _ _=>rfl)) (aj (pv 2) ak)))) (aq (Rk (pv 3) (pv 4) Pb (pv 5) Gb set_list) (aJ (uN (i:=2) ND rfl (by walk_at "o") (pv 5) Gb))))) (aJ (aR (aX (aj (aY jm (pv 0) (pv 2)) (aj (pt (cP) B.tuple dC (aj (pv 3) ak)) ak))))))),?_⟩
 walk_at "rd"
 refine⟨b,_,rfl,h1,fun p1 f1=>?_⟩
 have s1:=aO f1 (HO.lst (cs.map V.int))
 have e1:upd H p1 (HO.lst (cs.map V.int)) p1=some (.lst (cs.map V.int)):=aC
 generalize upd H p1 (HO.lst (cs.map V.int))=H1 at s1 e1 ⊢
 rw[Mr]
 walk_at "rd"
 refine⟨p1,_,rfl,.inl (eV.of e1),?_⟩
 rw[cg]
 refine ZJ.of (n:=cs.length) rfl (by omega) (fun i σ H'=>∃o4 o5:Option V,σ=[some (.int r),some (.ref b),some (.int (bz (cs.drop (cs.length-i)) n).2),some (.ref p1),o4,o5]/\H' p1=some (.lst ((cs.take (cs.length-i)++(bz (cs.drop (cs.length-i)) n).1).map V.int))/\aD H H')
  ⟨_,_,by rw[Nat.sub_zero,JL]; rfl,by rw[Nat.sub_zero,JL,su]; simpa[bz] using e1,s1⟩ ?_ ?_
 ·rintro i σ H2 hi ⟨o4,o5,rfl,h2,s2⟩
  obtain⟨j,ej⟩:∃j:Nat,cs.length-i=j+1:=⟨cs.length-i-1,by omega⟩
  have ej2:cs.length-(i+1)=j:=by omega
  have ei:(cs.length:Int)-1-(i:Nat)=(j:Nat):=by omega
  rw[ej] at h2
  rw[ei,ej,ej2]
  have hj:j<cs.length:=by omega
  have dj:cs.drop j=cs[j]::cs.drop (j+1):=JX hj
  have tj:cs.take (j+1)=cs.take j++[cs[j]]:=by rw[Bu,gP hj]; rfl
  rw[dj,bz]
  generalize bz (cs.drop (j+1)) n=gh at h2 ⊢
  rw[tj] at h2
  generalize cs[j]=cj at h2 ⊢
  have lt:(cs.take j).length=j:=by rw[jC]; omega
  have gj:((cs.take j++[cj]++gh.1).map V.int)[j]?=some (.int cj):=by
   rw[il,zr,nj (by omega),lt,qI]; rfl
  walk_at "rd"
  refine Ix.lst h2 (bx gj) ?_
  walk_at "rd"
  refine⟨p1,_,j,_,rfl,rfl,h2,gj,?_⟩
  walk_at "rd"
  refine⟨p1,_,_,j,rfl,rfl,h2,Ij (by rw[cg,fj,fj,lt]; show j<j+1+_; omega),?_⟩
  refine⟨_,rfl,_,_,rfl,rfl,_,_,rfl,?_,fun z o w=>?_⟩
  ·rw[aC]
   congr 2
   have e:cs.take j++[cj]++gh.1=cs.take j++(cj::gh.1):=by simp
   rw[e,gY,gY,List.set_append_right _ _ (by rw[cg]; omega),cg,lt,qI]
   rfl
  ·rw[aL (bN w f1)]
   exact s2 _ _ w
 ·rintro σ H2 ⟨o4,o5,rfl,h2,s2⟩
  rw[qI,List.drop_zero,List.take_zero,xQ] at h2
  rw[qI,List.drop_zero]
  walk_at "rd"
  refine⟨p1,_,rfl,h2,fun p3 f3=>?_⟩
  have s3:=aO f3 (HO.tup ((bz cs n).1.map V.int))
  have e3:upd H2 p3 (HO.tup ((bz cs n).1.map V.int)) p3=some (.tup ((bz cs n).1.map V.int)):=aC
  generalize upd H2 p3 (HO.tup ((bz cs n).1.map V.int))=H3 at s3 e3 ⊢
  refine⟨(by decide),fun p4 H4 f4 s4 e4=>?_⟩
  exact q p4 p3 H4 (s2.trans (s3.trans s4)) e4 (s4 _ _ e3)
def dw (x:b8) (st:bZ) (ch:Int):bZ:=
 if ch=0 then st else if 0<ch then { st with cs:=st.cs.take x.a++[st.cs.getD x.a 0+ch]++st.cs.drop (x.a+1),t:=x.u }
 else { st with r:=st.r-(bz st.cs (-ch)).2,cs:=(bz st.cs (-ch)).1,t:=x.d }
def Eo:Sp:=fun vs H Q _=>∃(v u:V) (x:b8) (st:bZ) (ch:Int),vs=[v,u,.int ch]/\At H (g8 x) v/\At H (jP st) u/\h_ x/\dY st/\∀u' H',aD H H'->At H' (jP (dw x st ch)) u'->Q u' H'
theorem lD:aU ["post","stand","change","late","rests","wait","ready","called","since","rest","seen"] ["post","stand","change"] (aH jf):=(by walk_at "c")
theorem uR (F:iV K "with_change" "with_change" jf f fd) (B:Bi mg) (mH:Ct P w K mg base k "sent_home" ["ready","called","many"] My):bM P w K mg base iz (k+1) f fd ["post","stand","change"] Eo:=by
 refine F.ok lD (by rintro vs H Q E ⟨v,u,x,st,ch,rfl,_⟩; rfl) (fun cdv A outer s H vs Q E hr h=>?_)
 obtain⟨v,u,x,st,ch,rfl,a1,a2,hP,hS,q⟩:=h
 have ND:=lD.nd
 refine⟨_,(aq (dz (aW kY (pv 2) ao (a_ _)) (aJ (aR (pv 1))) bO) (aq (zu (i:=3) (j:=4) rfl ND rfl rfl (by decide) rfl rfl (aj (bh aP (pv 0) ao (fun _ _=>rfl)) (aj (bh aP (pv 0) ao (fun _ _=>rfl)) ak)) (by rfl)) (aq (cU (pv 1) (bL (K:=K) (n:=6) rfl rfl (aF (aG (i:=5) ND rfl (by walk_at "o")) (aF (aG (i:=6) ND rfl (by walk_at "o")) (aF (aG (i:=7) ND rfl (by walk_at "o")) (aF (aG (i:=8) ND rfl (by walk_at "o")) (aF (aG (i:=9) ND rfl (by walk_at "o")) (aF (aG (i:=10) ND rfl (by walk_at "o")) bK)))))))) (aq (dz (aW lX (pv 2) ao (a_ _)) (aq (bf (i:=7) ND rfl (by walk_at "o") (aY tH (aY tH (dI ik (pv 7) gJ (dW (pv 3))) (aX (aj (aY bI (bh aP (pv 7) (pv 3) (fun _ _=>rfl)) (pv 2)) ak))) (dI ik (pv 7) (dW (aY bI (pv 3) ao)) gJ))) (aJ (bf (i:=9) ND rfl (by walk_at "o") (bh aP (pv 4) ao (fun _ _=>rfl))))) (aq (cU (pf mH hr (aj (pv 6) (aj (pv 7) (aj (nH je (pv 2)) ak)))) (bL (K:=K) (n:=2) rfl rfl (aF (aG (i:=6) ND rfl (by walk_at "o")) (aF (aG (i:=7) ND rfl (by walk_at "o")) bK)))) (aJ (bf (i:=9) ND rfl (by walk_at "o") (bh aP (pv 4) ao (fun _ _=>rfl)))))) (aJ (aR (aX (aj (pv 5) (aj (pv 6) (aj (pv 7) (aj (pv 8) (aj (pv 9) (aj (pv 10) ak))))))))))))),?_⟩
 walk_at "rd"
 refine iM (fun c1=>?_) (fun c1=>?_)
 ·have:=q u H (aD.refl H)
  unfold dw at this
  rw[aM (Fd c1)] at this
  exact this a2
 have c1':=JQ c1
 obtain⟨pa,pb,pc,pd,rfl,p1,p2⟩:=jE a1
 obtain⟨sa,sb,sc,rfl,g1,g2,g3⟩:=gk a2
 have ha4:=hP.a
 have hc5:=hS.c
 refine Ix.tup p1 (bx (j:=3) rfl) (Ix.tup p1 (bx (j:=5) rfl) ⟨_,_,rfl,?_⟩)
 refine⟨sa,_,rfl,cD.of g1,rfl,?_⟩
 walk_at "rd"
 refine iM (fun c2=>?_) (fun c2=>?_)
 ·have c2':=Fd c2
  have ga:(st.cs.map V.int)[x.a]?=some (.int (st.cs.getD x.a 0)):=by
   rw[il,gP (by omega),iZ,gP (by omega)]; rfl
  refine⟨sb,_,rfl,g2,fun p3 H3 s3 e3=>?_⟩
  rw[qY (by omega),uK] at e3
  refine Ix.tup (s3 _ _ g2) (bx ga) ?_
  walk_at "rd"
  refine⟨(by decide),fun p4 H4 f4 s4 e4=>?_⟩
  refine⟨p3,p4,_,_,rfl,rfl,s4 _ _ e3,e4,lQ (bB (by simp; omega)),fun p5 H5 s5 e5=>?_⟩
  walk_at "rd"
  have XN:=s3.trans (s4.trans s5)
  refine⟨sb,_,rfl,XN _ _ g2,fun p6 H6 s6 e6=>?_⟩
  rw[pW (by omega)] at e6
  refine⟨p5,p6,_,_,rfl,rfl,s6 _ _ e5,e6,lQ (bB (by simp; omega)),fun p7 H7 s7 e7=>?_⟩
  have s37:=XN.trans (s6.trans s7)
  walk_at "rd"
  refine Ix.tup (s37 _ _ p2) (bx (j:=0) rfl) ⟨(by decide),fun p8 H8 f8 s8 e8=>?_⟩
  have XM:=s37.trans s8
  refine q (.ref p8) H8 XM ?_
  unfold dw
  rw[aK c1',aM c2']
  refine At.tup e8 (aa.cons (At.int _) (aa.cons (At.int _) (aa.cons (At.tup (s8 _ _ e7) ?_) (aa.cons (At.int _) (aa.cons (At.int _) (aa.cons (g3.mono XM) aa.nil))))))
  have e:(((x.a:Int)+1).toNat)=x.a+1:=by omega
  rw[e]
  have:=bu (H:=H8) (st.cs.take x.a++[st.cs.getD x.a 0+ch]++st.cs.drop (x.a+1))
  simpa using this
 ·have c2':=JQ c2
  refine⟨st.r,-ch,sb,st.cs,rfl,g2,by omega,fun p3 b3 H3 s3 e3 e4=>?_⟩
  refine⟨p3,_,rfl,cD.of e3,rfl,?_⟩
  walk_at "rd"
  refine Ix.tup (s3 _ _ p2) (bx (j:=1) rfl) ⟨(by decide),fun p8 H8 f8 s8 e8=>?_⟩
  have XM:=s3.trans s8
  refine q (.ref p8) H8 XM ?_
  unfold dw
  rw[aK c1',aK (by omega)]
  exact At.tup e8 (aa.cons (At.int _) (aa.cons (At.int _) (aa.cons (At.tup (s8 _ _ e4) (bu _)) (aa.cons (At.int _) (aa.cons (At.int _) (aa.cons (g3.mono XM) aa.nil))))))
def cO (x:b8) (st:bZ) (come:Int):Int:=if(if 0>x.m-st.w then 0 else x.m-st.w)<come then(if 0>x.m-st.w then 0 else x.m-st.w) else come
def fK (st:bZ):Int:=st.r+st.cs.getD 0 0
def ig (x:b8) (st:bZ) (come:Int):Int:=if fK st*x.p<st.w+cO x st come then fK st*x.p else st.w+cO x st come
def c7 (x:b8) (st:bZ) (come:Int):List (List Int):=[come,ig x st come,st.w+cO x st come-ig x st come]::st.us
def d_ (x:b8) (st:bZ) (come:Int):bZ:=⟨st.w+cO x st come-ig x st come,fK st,st.cs.drop 1++[0],nO x.e st.s,if 0>st.t-1 then 0 else st.t-1,(c7 x st come).take 3⟩
def pX (x:b8) (st:bZ) (come fr:Int):Int:=if j6 x.e st.s st.t=true then tU x (fK st+(st.cs.drop 1++[0]).sum) fr (c7 x st come) else 0
def yZ:Sp:=fun vs H Q _=>∃(v u:V) (x:b8) (st:bZ) (come fr:Int),vs=[v,u,.int come,.int fr]/\At H (g8 x) v/\At H (jP st) u/\h_ x/\dY st /\
 ∀p u' H',aD H H'->At H' (jP (dw x (d_ x st come) (pX x st come fr))) u'->H' p=some (.tup [u',.int (ig x st come),.int (come-cO x st come),.int (pX x st come fr)])->Q (.ref p) H'
theorem Hf:aU ["post","stand","come","free","pace","room","wait","ready","called","since","rest","seen","taken","done","newest","looks","moved","change"] ["post","stand","come","free"] (aH Ex):=(by walk_at "c")
theorem CV {x:b8} {st:bZ} {come:Int} (h:dY st):dY (d_ x st come):=by
 refine⟨?_,?_,fun y hy=>?_⟩
 ·show(st.cs.drop 1++[0]).length=5
  have:=h.c
  simp; omega
 ·show((c7 x st come).take 3).length=3
  have:=h.u
  unfold c7
  simp; omega
 ·have hy:=List.mem_of_mem_take hy
  unfold c7 at hy
  rcases b_.mp hy with z | z
  ·rw[z]; rfl
  ·exact h.l y z
theorem RC {T:Addr} {tk:Tok} (F:sY K "beat" "beat" Ex f fd T 12 tk) (B:Bi mg) (O:Co K mg) (gF:Ct P w K mg base k "since_and_look" ["post","since","rest"] GR) (mK:Ct P w K mg base k "change_of" ["post","hands","newest","free"] Bm) (oM:Ct P w K mg base k "hands_of" ["stand"] G9)
  (jo:Ct P w K mg base k "with_change" ["post","stand","change"] Eo):bM P w K mg base iz (k+1) f fd ["post","stand","come","free"] yZ:=by
 refine F.ok Hf (by rintro vs H Q E ⟨v,u,x,st,come,fr,rfl,_⟩; rfl) (fun cdv A outer s H vs Q E hr h=>?_)
 obtain⟨v,u,x,st,come,fr,rfl,a1,a2,hP,hS,q⟩:=h
 have ND:=Hf.nd
 refine⟨_,(aq (cU (dI ik (pv 0) gJ (dW ao)) (bL (K:=K) (n:=2) rfl rfl (aF (aG (i:=4) ND rfl (by walk_at "o")) (aF (aG (i:=5) ND rfl (by walk_at "o")) bK)))) (aq (cU (pv 1) (bL (K:=K) (n:=6) rfl rfl (aF (aG (i:=6) ND rfl (by walk_at "o")) (aF (aG (i:=7) ND rfl (by walk_at "o")) (aF (aG (i:=8) ND rfl (by walk_at "o")) (aF (aG (i:=9) ND rfl (by walk_at "o")) (aF (aG (i:=10) ND rfl (by walk_at "o")) (aF (aG (i:=11) ND rfl (by walk_at "o")) bK)))))))) (aq (uN (i:=7) ND rfl (by walk_at "o") (bh aP (pv 8) ao (fun _ _=>rfl)) Gd) (aq (bf (i:=8) ND rfl (by walk_at "o") (aY tH (dI ik (pv 8) (dW ao) gJ) (aX (aj ao ak)))) (aq (bf (i:=12) ND rfl (by walk_at "o") (pb (gD rfl) B.min mL (aj (pv 2) (aj (pb (mX rfl) B.max rn (aj (aY jm (pv 5) (pv 6)) (aj ao ak))) ak)))) (aq (uN (i:=6) ND rfl (by walk_at "o") (pv 12) Gd) (aq (bf (i:=13) ND rfl (by walk_at "o") (pb (gD rfl) B.min mL (aj (pv 6) (aj (aY j0 (pv 7) (pv 4)) ak)))) (aq (uN (i:=6) ND rfl (by walk_at "o") (pv 13) Gb) (aq (bf (i:=14) ND rfl (by walk_at "o") (aY tH (aX (aj (aX (aj (pv 2) (aj (pv 13) (aj (pv 6) ak)))) ak)) (pv 11))) (aq (cU (pf gF hr (aj (pv 0) (aj (pv 9) (aj (pv 10) ak)))) (bL (K:=K) (n:=2) rfl rfl (aF (aG (i:=9) ND rfl (by walk_at "o")) (aF (aG (i:=15) ND rfl (by walk_at "o")) bK)))) (aq (bf (i:=16) ND rfl (by walk_at "o") (aX (aj (pv 6) (aj (pv 7) (aj (pv 8) (aj (pv 9) (aj (pb (mX rfl) B.max rn (aj (aY jm (pv 10) ao) (aj ao ak))) (aj (dI ik (pv 14) gJ (dW (Fq O.Ao))) ak)))))))) (aq (bf (i:=17) ND rfl (by walk_at "o") (lW (qN (pv 15)) (pf mK hr (aj (pv 0) (aj (pf oM hr (aj (pv 16) ak)) (aj (pv 14) (aj (pv 3) ak))))) ao)) (aJ (aR (aX (aj (pf jo hr (aj (pv 0) (aj (pv 16) (aj (pv 17) ak)))) (aj (pv 13) (aj (aY jm (pv 2) (pv 12)) (aj (pv 17) ak))))))))))))))))))),?_⟩
 obtain⟨pa,pb,pc,pd,rfl,p1,p2⟩:=jE a1
 obtain⟨sa,sb,sc,rfl,g1,g2,g3⟩:=gk a2
 have hc5:=hS.c
 have hpp:=hP.p
 have gc0:(st.cs.map V.int)[0]?=some (.int (st.cs.getD 0 0)):=by
  rw[il,gP (by omega),iZ,gP (by omega)]; rfl
 walk_at "rd"
 refine⟨pa,_,rfl,p1,fun q1 H1 s1 e1=>?_⟩
 rw[qY (by decide)] at e1
 replace e1:H1 q1=some (.tup [.int x.p,.int x.m]):=e1
 refine⟨q1,_,rfl,cD.of e1,rfl,?_⟩
 walk_at "rd"
 refine⟨sa,_,rfl,cD.of (s1 _ _ g1),rfl,?_⟩
 walk_at "rd"
 refine⟨_,rfl,Ix.tup (s1 _ _ g2) (bx gc0) ⟨_,_,rfl,rfl,?_⟩⟩
 refine⟨sb,_,rfl,s1 _ _ g2,fun q2 H2 s2 e2=>?_⟩
 rw[pW (by decide)] at e2
 have s12:=s1.trans s2
 refine⟨(by decide),fun q3 H3 f3 s3 e3=>?_⟩
 refine⟨q2,q3,_,_,rfl,rfl,s3 _ _ e2,e3,lQ (bB (by simp; omega)),fun q4 H4 s4 e4=>?_⟩
 have Ua:=s12.trans (s3.trans s4)
 walk_at "rd"
 refine⟨_,rfl,_,_,rfl,rfl,.inr (by omega),_,rfl,_,_,rfl,rfl,(by decide),fun q5 H5 f5 s5 e5=>⟨(by decide),fun q6 H6 f6 s6 e6=>?_⟩⟩
 replace e5:H5 q5=some (.tup [.int come,.int (ig x st come),.int (st.w+cO x st come-ig x st come)]):=e5
 obtain⟨sc',us',ec,gu,au⟩:=bA g3
 cases ec
 have Lk:=Ua.trans (s5.trans s6)
 have lus:us'.length=3:=by have:=au.length; rw[cg,hS.u] at this; exact this
 refine⟨q6,sc,_,_,rfl,rfl,e6,Lk _ _ gu,lQ (bB (by simp; omega)),fun q7 H7 s7 e7=>?_⟩
 have s17:=Lk.trans s7
 have a7:At H7 (Ei (c7 x st come)) (.ref q7):=At.tup e7 (aa.cons (At.tup ((s6.trans s7) _ _ e5) (bu [come,ig x st come,st.w+cO x st come-ig x st come])) (au.mono s17))
 have hN:oO (c7 x st come):=⟨by show st.us.length+1=4; rw[hS.u],fun y hy=>by
  rcases b_.mp hy with z | z
  ·rw[z]; rfl
  ·exact hS.l y z⟩
 refine⟨.ref pa,x,st.s,st.t,rfl,a1.mono s17,fun q8 H8 s8 e8=>?_⟩
 refine⟨q8,_,rfl,cD.of e8,rfl,?_⟩
 walk_at "rd"
 have s18:=s17.trans s8
 obtain⟨q7',nws,en,gn,an⟩:=bA (a7.mono s8)
 cases en
 refine⟨q7,_,rfl,gn,fun q9 H9 s9 e9=>?_⟩
 rw[qY (by decide)] at e9
 have s19:=s18.trans s9
 refine⟨(by decide),fun Vq Aw YH rH e10=>?_⟩
 have XS:=s19.trans rH
 have e4':H4 q4=some (.tup ((st.cs.drop 1++[0]).map V.int)):=by rw[e4]; simp
 have XJ:aD H4 Aw:=s5.trans (s6.trans (s7.trans (s8.trans (s9.trans rH))))
 have am:At Aw (jP (d_ x st come)) (.ref Vq):=by
  refine At.tup e10 (aa.cons (At.int _) (aa.cons (At.int _) (aa.cons (At.tup (XJ _ _ e4') (bu _)) (aa.cons (At.int _) (aa.cons (At.int _) (aa.cons (At.tup (rH _ _ e9) ?_) aa.nil))))))
  show aa Aw (((c7 x st come).take 3).map jO) _
  rw[List.map_take]
  exact(an.take 3).mono (s9.trans rH)
 have fin:∀(c:Int) (Lh:Hp),pX x st come fr=c->aD Aw Lh->Eo [.ref pa,.ref Vq,.int c] Lh (fun y H1=>4<=sizeLine/\∀p H',H1 p=none->aD H1 H'->H' p=some (.tup [y,.int (ig x st come),.int (come-cO x st come),.int c])->Q (.ref p) H') E0:=fun c Lh ec DX=>by
  subst ec
  have XR:=XS.trans DX
  exact⟨.ref pa,.ref Vq,x,d_ x st come,_,rfl,a1.mono XR,am.mono DX,hP,CV hS,fun u' ZW aae a12=>⟨(by decide),fun q13 U4 YG Az Sw=>q q13 u' U4 (XR.trans (aae.trans Az)) (a12.mono Az) Sw⟩⟩
 refine iM (fun c1=>?_) (fun c1=>?_)
 ·refine⟨.ref Vq,_,Vq,fK st,q4,st.cs.drop 1++[0],_,rfl,rfl,e10,XJ _ _ e4',?_⟩
  refine⟨.ref pa,.ref q7,x,_,fr,c7 x st come,rfl,a1.mono XS,a7.mono (s8.trans (s9.trans rH)),hP,hN,fun Lh DX=>?_⟩
  exact fin _ Lh (by unfold pX; rw[aM c1]) DX
 ·exact fin 0 Aw (by unfold pX; rw[aK (by rw[c1]; decide)]) (aD.refl _)
local macro_rules | `(tactic| walk_at "cap")=>`(tactic| simp only[bU,rZ,List.map_nil,List.getElem?_cons_zero,Nk,Option.join_some])
def eG:List fV->Str->Int
 | [],_=>0
 | r::rs,w=>if r.w=w/\eG rs w<(r.s:Int)-1 then(r.s:Int)-1 else eG rs w
structure yK (rs:List fV) (w:Str) (v:Int):Prop where
 z:0<=v
 le:∀r∈rs,r.w=w->(r.s:Int)-1<=v
 at':v=0\/∃r∈rs,r.w=w/\(r.s:Int)-1=v
theorem yK.one {rs:List fV} {w:Str} {v u:Int} (h:yK rs w v) (k:yK rs w u):v=u:=by
 have h1:v<=u:=by
  rcases h.at' with z | ⟨r,hr,e,z⟩
  ·have:=k.z; omega
  ·have:=k.le r hr e; omega
 have h2:u<=v:=by
  rcases k.at' with z | ⟨r,hr,e,z⟩
  ·have:=h.z; omega
  ·have:=h.le r hr e; omega
 omega
theorem ql:∀(rs:List fV) (w:Str),yK rs w (eG rs w)
 | [],w=>⟨qH 0,by simp,.inl rfl⟩
 | r::rs,w=>by
  have ih:=ql rs w
  have e:eG (r::rs) w=if r.w=w/\eG rs w<(r.s:Int)-1 then(r.s:Int)-1 else eG rs w:=rfl
  rw[e]
  have z:=ih.z
  by_cases c:r.w=w/\eG rs w<(r.s:Int)-1
  ·rw[aM c]
   refine⟨by omega,fun x hx hw=>?_,.inr ⟨r,jl,c.1,rfl⟩⟩
   rcases b_.mp hx with y | y
   ·rw[y]; exact qH _
   ·have:=ih.le x y hw; omega
  ·rw[aK c]
   refine⟨z,fun x hx hw=>?_,?_⟩
   ·rcases b_.mp hx with y | y
    ·subst y
     have:¬eG rs w<(x.s:Int)-1:=fun q=>c ⟨hw,q⟩
     omega
    ·exact ih.le x y hw
   ·rcases ih.at' with y | ⟨x,hx,e1,e2⟩
    ·exact .inl y
    ·exact .inr ⟨x,iG _ hx,e1,e2⟩
def fB (x:b8):List Int:=[eG x.eO.flatten "come",eG x.eO.flatten "done",eG x.eO.flatten "wait"]
theorem tM:∀(r:List Int) (b:Int),(∀y∈b::r,y<=dJ b r)/\dJ b r∈b::r
 | [],b=>⟨fun y hy=>by rw[d8.mp hy]; exact qH _,d8.mpr rfl⟩
 | c::r,b=>by
  have ih:=tM r (if c>b then c else b)
  have e:dJ b (c::r)=dJ (if c>b then c else b) r:=rfl
  rw[e]
  obtain⟨h1,h2⟩:=ih
  have hb:=h1 _ jl
  have hb2:b<=dJ (if c>b then c else b) r/\c<=dJ (if c>b then c else b) r:=by
   generalize dJ (if c>b then c else b) r=M at hb
   by_cases z:c>b
   ·rw[aM z] at hb; omega
   ·rw[aK z] at hb; omega
  refine⟨fun y hy=>?_,?_⟩
  ·rcases b_.mp hy with z | z
   ·subst z; exact hb2.1
   ·rcases b_.mp z with z | z
    ·subst z; exact hb2.2
    ·exact h1 y (iG _ z)
  ·rcases b_.mp h2 with z | z
   ·rw[z]
    split
    ·exact iG _ jl
    ·exact jl
   ·exact iG _ (iG _ z)
def yW:Sp:=fun vs H Q _=>∃(p:Addr) (t:Str) (rs:List fV) (xs:List V),vs=[.ref p,.str t]/\H p=some (.lst xs)/\aa H (rs.map pq) xs/\rs.length<=1000/\(∀r∈rs,nJ r)/\∀H',aD H H'->Q (.int (eG rs t)) H'
theorem nC:aU ["rows","what"] ["rows","what"] (aH jQ):=(by walk_at "c")
theorem wL (F:iV K "most_ahead" "most_ahead" jQ f fd) (B:Bi mg):bM P w K mg base iz (k+1) f fd ["rows","what"] yW:=by
 refine F.ok nC (by rintro vs H Q E ⟨p,t,rs,xs,rfl,_⟩; rfl) (fun cdv A outer s H vs Q E hr h=>?_)
 obtain⟨p,t,rs,xs,rfl,hp,hA,hn,hR,q⟩:=h
 have ND:=nC.nd
 refine⟨_,(aJ (aR (Hx rfl B.max (aj (iH (nt:=1) (N':=["row","what"]) (js:=[1]) rfl (lV (K:=K) rfl (pv 0)) mQ.of (fun fp s' H'=>(aG (i:=0) (by show List.Nodup (["row","what"]:List Str); decide) rfl (.inl (dU rfl)) (.inr (dU rfl)))) (fun fp s' H'=>Sd (aW kY (bh aP (pv 0) ao (fun _ _=>rfl)) (pv 1) (a_ _))) (fun fp s' H'=>(aY jm (bh aP (pv 0) ao (fun _ _=>rfl)) ao))) ak) ao))),?_⟩
 walk_at "rd"
 have hlen:xs.length=rs.length:=by rw[hA.length,cg]
 have row:∀(i:Nat) x,xs[i]?=some x->∃r,rs[i]?=some r/\At H (pq r) x:=fun i x hx=>by
  obtain⟨d,hd,a⟩:=hA.get hx
  rw[il] at hd
  cases e:rs[i]? with
  | none=>rw[e] at hd; simp at hd
  | some r=>rw[e] at hd; simp at hd; exact⟨r,rfl,by rw[hd]; exact a⟩
 refine SJ (fun i=>decide ((rs.getD i ⟨"",0,"",0,0⟩).w=t)) (fun i=>.int (((rs.getD i ⟨"",0,"",0,0⟩).s:Nat)-1)) (fun R hR=>?_) hp (by omega) (fun i x H' hx s' R hR=>?_) (fun i x H' hx hk s' R hR=>?_) (fun acc H' s' hacc hl=>?_)
 ·walk_at "rd"; exact hR
 ·obtain⟨r,er,ax⟩:=row i x hx
  obtain⟨b,rfl,hb⟩:=row_shape ax
  have eg:rs.getD i ⟨"",0,"",0,0⟩=r:=by rw[iZ,er]; rfl
  rw[eg] at hR
  walk_at "rd"
  refine Ix.tup (s' _ _ hb) (bx (j:=0) rfl) ?_
  walk_at "cap"
  walk_at "rd"
  exact hR
 ·obtain⟨r,er,ax⟩:=row i x hx
  obtain⟨b,rfl,hb⟩:=row_shape ax
  have eg:rs.getD i ⟨"",0,"",0,0⟩=r:=by rw[iZ,er]; rfl
  rw[eg] at hR
  walk_at "rd"
  refine Ix.tup (s' _ _ hb) (bx (j:=1) rfl) ?_
  walk_at "rd"
  exact hR
 ·have hl':H' acc=some (.lst ((((List.range xs.length).filter fun i=>decide ((rs.getD i ⟨"",0,"",0,0⟩).w=t)).map fun i=>(((rs.getD i ⟨"",0,"",0,0⟩).s:Nat):Int)-1).map V.int)):=by rw[hl,List.map_map]; rfl
  have mem:∀y,y∈(((List.range xs.length).filter fun i=>decide ((rs.getD i ⟨"",0,"",0,0⟩).w=t)).map fun i=>(((rs.getD i ⟨"",0,"",0,0⟩).s:Nat):Int)-1)↔∃r∈rs,r.w=t/\(r.s:Int)-1=y:=fun y=>by
   simp only[iR,List.mem_filter,zp,decide_eq_true_eq]
   constructor
   ·rintro⟨i,⟨hi,hw⟩,rfl⟩
    have e:rs.getD i ⟨"",0,"",0,0⟩=rs[i]'(by omega):=by rw[iZ,gP (by omega)]; rfl
    rw[e] at hw ⊢
    exact⟨_,JM _,hw,rfl⟩
   ·rintro⟨r,hr',hw,rfl⟩
    obtain⟨i,hi,e⟩:=List.mem_iff_getElem.mp hr'
    have e':rs.getD i ⟨"",0,"",0,0⟩=r:=by rw[iZ,gP hi,<- e]; rfl
    exact⟨i,⟨by omega,by rw[e']; exact hw⟩,by rw[e']⟩
  generalize (((List.range xs.length).filter fun i=>decide ((rs.getD i ⟨"",0,"",0,0⟩).w=t)).map fun i=>(((rs.getD i ⟨"",0,"",0,0⟩).s:Nat):Int)-1)=ns at hl' mem
  refine⟨acc,ns,rfl,hl',fun e=>?_,fun b r e=>?_⟩
  ·have:(0:Int)=eG rs t:=by
    refine yK.one (rs:=rs) (w:=t) ⟨qH 0,fun r hr' hw=>?_,.inl rfl⟩ (ql rs t)
    have:=(mem ((r.s:Int)-1)).mpr ⟨r,hr',hw,rfl⟩
    rw[e] at this
    simp at this
   rw[this]
   exact q H' s'
  ·have:dJ b r=eG rs t:=by
    obtain⟨m1,m2⟩:=tM r b
    rw[<- e] at m1 m2
    obtain⟨r',h1,h2,h3⟩:=(mem _).mp m2
    refine yK.one (rs:=rs) (w:=t) ⟨?_,fun x hx hw=>m1 _ ((mem _).mpr ⟨x,hx,hw,rfl⟩),.inr ⟨r',h1,h2,h3⟩⟩ (ql rs t)
    have:=(hR r' h1).s
    omega
   rw[this]
   exact q H' s'
theorem Fl {H:Hp} {x:b8} {v:V} (h:At H (g8 x) v):∃a b c d ws,v=.ref a/\H a=some (.tup [.int x.p,.int x.m,.ref b,.int x.a,.int x.e,.ref c,.ref d])/\H d=some (.tup ws)/\aa H (x.eO.map ph) ws:=by
 obtain⟨a,b,c,d,rfl,h1,_⟩:=jE h
 obtain⟨a',xs,e,h2,h3⟩:=bA h
 cases e
 rw[h1] at h2
 cases h2
 obtain⟨_,_,e,b0,h3⟩:=aa.aZ h3
 cases e
 obtain⟨_,_,e,b0,h3⟩:=aa.aZ h3
 cases e
 obtain⟨_,_,e,b0,h3⟩:=aa.aZ h3
 cases e
 obtain⟨_,_,e,b0,h3⟩:=aa.aZ h3
 cases e
 obtain⟨_,_,e,b0,h3⟩:=aa.aZ h3
 cases e
 obtain⟨_,_,e,b0,h3⟩:=aa.aZ h3
 cases e
 obtain⟨_,_,e,b6,h3⟩:=aa.aZ h3
 cases e
 obtain⟨d',ws,e,g1,g2⟩:=bA b6
 cases e
 exact⟨a,b,c,d,ws,rfl,h1,g1,g2⟩
structure A_ (x:b8):Prop where
 n:x.eO.flatten.length<=900
 r:∀r∈x.eO.flatten,nJ r
def Bj:Sp:=fun vs H Q _=>∃(v:V) (x:b8),vs=[v]/\At H (g8 x) v/\A_ x/\∀p H',aD H H'->H' p=some (.tup ((fB x).map V.int))->Q (.ref p) H'
theorem xG:aU ["post","rows"] ["post"] (aH uy):=(by walk_at "c")
theorem J9 (F:iV K "needed" "needed" uy f fd) (B:Bi mg) (O:Co K mg) (kh:Ct P w K mg base k "most_ahead" ["rows","what"] yW):bM P w K mg base iz (k+1) f fd ["post"] Bj:=by
 refine F.ok xG (by rintro vs H Q E ⟨v,x,rfl,_⟩; rfl) (fun cdv A outer s H vs Q E hr h=>?_)
 obtain⟨v,x,rfl,hv,hN,q⟩:=h
 have ND:=xG.nd
 refine⟨_,(aq (bf (i:=1) ND rfl (by walk_at "o") (NZ (N':=["rule","row"]) (js:=[]) rfl (jY (K:=K) rfl (bh aP (pv 0) ao (fun _ _=>rfl))) mQ.of rfl rfl (by decide) rfl rfl (fun fp s' H'=>(jY (K:=K) rfl (pv 0))) (fun fp s' H'=>(pv 1)))) (aJ (aR (pt (cP) B.tuple dC (aj (jZ (N':=["what","rows"]) (js:=[1]) rfl (jY (K:=K) rfl (Hv (K:=K) rfl O.Uz)) Ax.mk1 rfl (by decide) rfl (fun fp s' H'=>(pf kh hr (aj (pv 1) (aj (pv 0) ak))))) ak))))),?_⟩
 obtain⟨a,b,c,d,ws,rfl,h1,h2,h3⟩:=Fl hv
 walk_at "rd"
 have eD:x.eO.map ph=(x.eO.map fun rs=>rs.map pq).map PyData.tuple:=by rw[List.map_map]; rfl
 have eF:(x.eO.map fun rs=>rs.map pq).flatten=x.eO.flatten.map pq:=by rw[List.map_flatten]
 rw[eD] at h3
 refine PQ _ (fun R hR=>?_) h2 h3 (by rw[eF,cg]; have:=hN.n; omega) (fun y H' R hR=>?_) (fun y z H' R hR=>?_) (fun acc ys H' s' hacc hl hA=>?_)
 ·walk_at "rd"
  exact Ix.tup h1 (bx (j:=6) rfl) hR
 ·walk_at "rd"; exact hR
 ·walk_at "rd"; exact hR
 rw[eF] at hA
 refine PN (es:=(fB x).map PyData.int) rfl (by show 3<=sizeLine; decide) rfl (fun i u e H2 hu he s2 R hR=>?_) (fun Ql ys2 H2 s2 Ir hl2 Yz=>?_)
 ·walk_at "cap"
  walk_at "rd"
  have hi:i<3:=by
   by_cases z:i<3
   ·exact z
   ·rw[Hq (by show 3<=i; omega)] at hu; cases hu
  have go:∀(E2:XK) t,u=.str t->e=.int (eG x.eO.flatten t)->yW ([V.ref acc,u]++[]) H2 R E2:=fun E2 t e1 e2=>by
   rw[e1]
   exact⟨acc,t,x.eO.flatten,ys,rfl,s2 _ _ hl,(hA.mono s').mono s2,(by have:=hN.n; omega),hN.r,fun H3 s3=>hR _ _ s3 (by rw[e2]; exact At.int _)⟩
  match i,hi,hu,he with
  | 0,_,hu,he=>cases hu; cases he; exact go _ "come" rfl rfl
  | 1,_,hu,he=>cases hu; cases he; exact go _ "done" rfl rfl
  | 2,_,hu,he=>cases hu; cases he; exact go _ "wait" rfl rfl
 ·cases cz Yz
  refine⟨Ql,_,rfl,hl2,fun l hl3=>?_⟩
  exact q l _ (s'.trans (s2.trans (aO hl3 _))) aC
theorem mj:∀ns ms:List Int,PyData.eqvAll (ns.map PyData.int) (ms.map PyData.int)=decide (ns=ms)
 | [],[]=>by simp[PyData.eqvAll]
 | [],_::_=>by simp[PyData.eqvAll]
 | _::_,[]=>by simp[PyData.eqvAll]
 | a::r,b::t=>by
  have ih:=mj r t
  simp only[rZ,PyData.eqvAll,PyData.eqv,ih]
  by_cases h1:a=b
  ·by_cases h2:r=t
   ·simp[h1,h2]
   ·simp[h1,h2]
  ·simp[h1]
def bQ (ws:List Int) (i:Nat) (u:List Int):List Int:=(List.range 3).map fun j=>if ws.getD j 0>i then u.getD j 0 else 0
def cM (ws:List Int) (us:List (List Int)):List (List Int):=(List.range 3).map fun i=>bQ ws i (us.getD i [])
def dZ (x:b8) (st:bZ):bZ:=⟨st.w,st.r,st.cs,if x.e-1<st.s then x.e-1 else st.s,st.t,cM (fB x) st.us⟩
theorem pM {x:b8} {st:bZ} (h:dY st):dY (dZ x st):=⟨h.c,rfl,fun y hy=>by
 obtain⟨i,_,rfl⟩:=iR.mp (show y∈cM (fB x) st.us from hy)
 rfl⟩
theorem Kr {α:Type} {l:List α} (h:l.length=3):∃a b c,l=[a,b,c]:=by
 match l,h with
 | [a,b,c],_=>exact⟨a,b,c,rfl⟩
def G7:Sp:=fun vs H Q _=>∃(t b:Addr) (i:Nat) (u ws:List Int),vs=[.ref t,.int i,.ref b]/\H t=some (.tup (u.map V.int))/\H b=some (.tup (ws.map V.int))/\u.length=3/\ws.length=3/\∀p H',aD H H'->H' p=some (.tup ((bQ ws i u).map V.int))->Q (.ref p) H'
theorem lG:aU ["triple","place","wants"] ["triple","place","wants"] (aH ji):=(by walk_at "c")
theorem uV (F:iV K "lean_triple" "lean_triple" ji f fd) (B:Bi mg):bM P w K mg base iz (k+1) f fd ["triple","place","wants"] G7:=by
 refine F.ok lG (by rintro vs H Q E ⟨t,b,i,u,ws,rfl,_⟩; rfl) (fun cdv A outer s H vs Q E hr h=>?_)
 obtain⟨t,b,i,u,ws,rfl,h1,h2,n1,n2,q⟩:=h
 have ND:=lG.nd
 refine⟨_,(aJ (aR (pt (cP) B.tuple dC (aj (iH (nt:=2) (N':=["number","want","place"]) (js:=[1]) rfl (zy (K:=K) rfl B.zip (aj (pv 0) (aj (pv 2) ak))) mQ.of (fun fp s' H'=>(bL (K:=K) (n:=2) rfl rfl (aF (aG (i:=0) (by show List.Nodup (["number","want","place"]:List Str); decide) rfl (.inl (dU rfl)) (.inr (dU rfl))) (aF (aG (i:=1) (by show List.Nodup (["number","want","place"]:List Str); decide) rfl (.inl (dU rfl)) (.inr (dU rfl))) bK)))) (fun fp s' H'=>j9) (fun fp s' H'=>(lW (aW lX (pv 1) (pv 2) (a_ _)) (pv 0) ao))) ak)))),?_⟩
 walk_at "rd"
 refine KQ (es:=(bQ ws i u).map PyData.int) (fun R hR=>?_) h1 h2 (by rw[cg,n1]; rfl) (by rw[cg,n2]; rfl) (by show 3<=sizeLine; decide) (cZ.mpr fun d hd=>by obtain⟨z,_,rfl⟩:=iR.mp hd; rfl) (fun j x y e H' hx hy he s' R hR=>?_) (fun acc zs H' s' hacc hl hA=>?_)
 ·walk_at "rd"; exact hR
 ·rw[il] at hx hy
  obtain⟨x',ex,rfl⟩:=m_.mp hx
  obtain⟨y',ey,rfl⟩:=m_.mp hy
  have ee:e=.int (if y'>i then x' else 0):=by
   rw[il] at he
   obtain⟨z,ez,rfl⟩:=m_.mp he
   unfold bQ at ez
   rw[il] at ez
   obtain⟨j',ej,rfl⟩:=m_.mp ez
   have:j'=j:=by
    obtain⟨hh,e2⟩:=nG.mp ej
    rw[Hm] at e2
    exact e2.symm
   subst this
   rw[iZ,iZ,ex,ey]
   rfl
  walk_at "cap"
  walk_at "rd"
  refine iM (fun c=>?_) (fun c=>?_)
  ·refine hR _ _ (aD.refl _) ?_
   rw[ee,aM (by have:=Fd c; omega)]
   exact At.int _
  ·refine hR _ _ (aD.refl _) ?_
   rw[ee,aK (by have:=JQ c; omega)]
   exact At.int _
 ·cases cz hA
  refine⟨acc,_,rfl,hl,fun l hl3=>?_⟩
  exact q l _ (s'.trans (aO hl3 _)) aC
def yX:Sp:=fun vs H Q _=>∃(v u:V) (x:b8) (st:bZ),vs=[v,u]/\At H (g8 x) v/\At H (jP st) u/\A_ x/\dY st/\∀u' H',aD H H'->At H' (jP (dZ x st)) u'->Q u' H'
theorem Lean.of {v u:V} {x:b8} {st:bZ} {H:Hp} {Q:VK} {E:XK} (a1:At H (g8 x) v) (a2:At H (jP st) u) (n:A_ x) (i:dY st) (q:∀u' H',aD H H'->At H' (jP (dZ x st)) u'->Q u' H'):yX ([v,u]++[]) H Q E:=⟨v,u,x,st,rfl,a1,a2,n,i,q⟩
theorem Hd:aU ["post","stand","wait","ready","called","since","rest","seen","wants","lean_seen"] ["post","stand"] (aH Ew):=(by walk_at "c")
theorem RB (F:iV K "lean" "lean" Ew f fd) (B:Bi mg) (vV:Ct P w K mg base k "needed" ["post"] Bj) (jt:Ct P w K mg base k "lean_triple" ["triple","place","wants"] G7):bM P w K mg base iz (k+1) f fd ["post","stand"] yX:=by
 refine F.ok Hd (by rintro vs H Q E ⟨v,u,x,st,rfl,_⟩; rfl) (fun cdv A outer s H vs Q E hr h=>?_)
 obtain⟨v,u,x,st,rfl,hv,hu,hN,hS,q⟩:=h
 have ND:=Hd.nd
 refine⟨_,(aq (cU (pv 1) (bL (K:=K) (n:=6) rfl rfl (aF (aG (i:=2) ND rfl (by walk_at "o")) (aF (aG (i:=3) ND rfl (by walk_at "o")) (aF (aG (i:=4) ND rfl (by walk_at "o")) (aF (aG (i:=5) ND rfl (by walk_at "o")) (aF (aG (i:=6) ND rfl (by walk_at "o")) (aF (aG (i:=7) ND rfl (by walk_at "o")) bK)))))))) (aq (bf (i:=8) ND rfl (by walk_at "o") (pf vV hr (aj (pv 0) ak))) (aq (bf (i:=9) ND rfl (by walk_at "o") (pt (cP) B.tuple dC (aj (iH (nt:=2) (N':=["place","triple","wants"]) (js:=[8]) rfl (NK (K:=K) rfl B.enumerate (aj (pv 7) ak)) mQ.of (fun fp s' H'=>(bL (K:=K) (n:=2) rfl rfl (aF (aG (i:=0) (by show List.Nodup (["place","triple","wants"]:List Str); decide) rfl (.inl (dU rfl)) (.inr (dU rfl))) (aF (aG (i:=1) (by show List.Nodup (["place","triple","wants"]:List Str); decide) rfl (.inl (dU rfl)) (.inr (dU rfl))) bK)))) (fun fp s' H'=>j9) (fun fp s' H'=>(pf jt hr (aj (pv 1) (aj (pv 0) (aj (pv 2) ak)))))) ak))) (aJ (aR (aX (aj (pv 2) (aj (pv 3) (aj (pv 4) (aj (pb (gD rfl) B.min mL (aj (pv 5) (aj (aY jm (bh aP (pv 0) ao (fun _ _=>rfl)) ao) ak))) (aj (pv 6) (aj (pv 9) ak)))))))))))),?_⟩
 obtain⟨a,b,c,rfl,h1,h2,h3⟩:=gk hu
 obtain⟨pa,pb,pc,pd,rfl,g1,_⟩:=jE hv
 walk_at "rd"
 refine⟨a,_,rfl,cD.of h1,rfl,?_⟩
 walk_at "rd"
 refine⟨_,x,rfl,hv,hN,fun p H1 s1 e1=>?_⟩
 walk_at "rd"
 obtain⟨c',zs,ec,h4,h5⟩:=bA h3
 cases ec
 have hzl:zs.length=3:=by rw[h5.length,cg,hS.u]
 refine Gn (es:=(cM (fB x) st.us).map jO) (fun R hR=>?_) (s1 _ _ h4) (by rw[hzl]; rfl) (by show 3<=sizeLine; decide) (cZ.mpr fun d hd=>by
   obtain⟨z,_,rfl⟩:=iR.mp hd
   exact cZ.mpr fun d hd=>by obtain⟨z,_,rfl⟩:=iR.mp hd; rfl) (fun j y e H' hy he s' R hR=>?_) (fun acc ZX H' s' hacc hl hA=>?_)
 ·walk_at "rd"; exact hR
 ·obtain⟨d,hd,ay⟩:=h5.get hy
  rw[il] at hd
  obtain⟨t,et,rfl⟩:=m_.mp hd
  have ht3:t.length=3:=hS.l t (lU et)
  obtain⟨ty,ts,rfl,k1,k2⟩:=bA ay
  cases cz k2
  have ee:e=jO (bQ (fB x) j t):=by
   rw[il] at he
   obtain⟨z,ez,rfl⟩:=m_.mp he
   unfold cM at ez
   rw[il] at ez
   obtain⟨j',ej,rfl⟩:=m_.mp ez
   have:j'=j:=by
    obtain⟨hh,e2⟩:=nG.mp ej
    rw[Hm] at e2
    exact e2.symm
   subst this
   rw[iZ,et]
   rfl
  walk_at "cap"
  walk_at "rd"
  refine⟨ty,p,j,t,fB x,rfl,s' _ _ (s1 _ _ k1),s' _ _ e1,ht3,rfl,fun r H2 s2 e2=>?_⟩
  refine hR _ _ s2 ?_
  rw[ee]
  exact At.tup e2 (bu _)
 ·refine⟨acc,ZX,rfl,hl,fun l hl3=>?_⟩
  have sl:=aO hl3 (HO.tup ZX)
  have A1:At (upd H' l (.tup ZX)) (.tuple ((cM (fB x) st.us).map jO)) (.ref l):=At.tup aC ((hA.mono dh).mono sl)
  refine Ix.tup (sl _ _ (s' _ _ (s1 _ _ g1))) (bx (j:=4) rfl) ?_
  walk_at "rd"
  refine⟨(by show 6<=sizeLine; decide),fun r H3 f3 s3 e3=>?_⟩
  have ss:aD H H3:=s1.trans (s'.trans (sl.trans s3))
  refine q _ _ ss (At.tup e3 ?_)
  exact aa.cons (At.int _) (aa.cons (At.int _) (aa.cons (At.tup (ss _ _ h2) (bu _)) (aa.cons (At.int _) (aa.cons (At.int _) (aa.cons (A1.mono s3) aa.nil)))))
def ie (x:b8) (st:bZ) (c:Int):bZ:=dw x (d_ x st c) (pX x st c 12)
def JF (x:b8) (st:bZ) (c:Int):List Int:=[ig x st c,c-cO x st c,pX x st c 12]
def jF (x:b8):bZ->List Int->List (List Int)
 | _,[]=>[]
 | st,c::cs=>JF x st c::jF x (ie x st c) cs
def cA (x:b8):bZ->List Int->bZ
 | st,[]=>st
 | st,c::cs=>cA x (ie x st c) cs
theorem eU (x:b8):∀(st:bZ) (l:List Int) (c:Int),cA x st (l++[c])=ie x (cA x st l) c
 | _,[],_=>rfl
 | st,d::l,c=>eU x (ie x st d) l c
theorem jX (x:b8):∀(st:bZ) (l:List Int) (c:Int),jF x st (l++[c])=jF x st l++[JF x (cA x st l) c]
 | _,[],_=>rfl
 | st,d::l,c=>by
  show JF x st d::jF x (ie x st d) (l++[c])=JF x st d::(jF x (ie x st d) l++[JF x (cA x (ie x st d) l) c])
  rw[jX]
theorem xU (x:b8):∀(st:bZ) (l:List Int),(jF x st l).length=l.length
 | _,[]=>rfl
 | st,d::l=>by show(jF x (ie x st d) l).length+1=l.length+1; rw[xU]
theorem QL {x:b8} {st:bZ} {ch:Int} (hx:h_ x) (hs:dY st):dY (dw x st ch):=by
 have hc:=hs.c
 have ha:=hx.a
 unfold dw
 split
 ·exact hs
 ·split
  ·refine⟨?_,hs.u,hs.l⟩
   simp only[fj,jC,uI,m8,List.length_nil]
   omega
  ·refine⟨?_,hs.u,hs.l⟩
   simp only[ou]
   exact hc
theorem tK {x:b8} {st:bZ} {c:Int} (hx:h_ x) (hs:dY st):dY (ie x st c):=QL hx (CV hs)
theorem iQ {x:b8} (hx:h_ x):∀{l:List Int} {st:bZ},dY st->dY (cA x st l)
 | [],_,hs=>hs
 | c::l,_,hs=>iQ hx (l:=l) (tK hx hs)
theorem Fj {H:Hp} {x:b8} {v:V} (h:At H (g8 x) v):∃a b c d,v=.ref a/\H a=some (.tup [.int x.p,.int x.m,.ref b,.int x.a,.int x.e,.ref c,.ref d])/\H b=some (.tup [.int x.lo,.int x.hi])/\H c=some (.tup [.int x.u,.int x.d])/\At H (Ez x.eO) (.ref d):=by
 obtain⟨a,xs,rfl,h1,h2⟩:=bA h
 obtain⟨x0,_,rfl,b0,h2⟩:=aa.aZ h2
 obtain⟨x1,_,rfl,b1,h2⟩:=aa.aZ h2
 obtain⟨x2,_,rfl,b2,h2⟩:=aa.aZ h2
 obtain⟨x3,_,rfl,b3,h2⟩:=aa.aZ h2
 obtain⟨x4,_,rfl,b4,h2⟩:=aa.aZ h2
 obtain⟨x5,_,rfl,b5,h2⟩:=aa.aZ h2
 obtain⟨x6,_,rfl,b6,h2⟩:=aa.aZ h2
 cases aa.nA h2
 unfold At at b0 b1 b3 b4
 subst b0 b1 b3 b4
 obtain⟨b,ys,rfl,g3,g4⟩:=bA b2
 obtain⟨c,zs,rfl,g1,g2⟩:=bA b5
 obtain⟨d,ws,rfl,_,_⟩:=bA b6
 cases cz (cs:=[x.u,x.d]) g2
 cases cz (cs:=[x.lo,x.hi]) g4
 exact⟨a,b,c,d,rfl,h1,g3,g1,b6⟩
theorem pQ:∀cs:List Int,bJ (cs.map PyData.int)=true
 | []=>rfl
 | c::cs=>by show(uZ (.int c)&&bJ (cs.map .int))=true; rw[pQ cs]; rfl
theorem Bd:∀us:List (List Int),bJ (us.map jO)=true
 | []=>rfl
 | u::us=>by
  show(bJ (u.map PyData.int)&&bJ (us.map jO))=true
  rw[Bd us,pQ u]; rfl
theorem yV (n:bZ):uZ (jP n)=true:=by
 simp only[jP,uZ,bJ,pQ,Bd,Bool.and_self]
def Bh:Sp:=fun vs H Q _=>∃(v u:V) (l:Addr) (x:b8) (st:bZ) (load:List Int),vs=[v,u,.ref l]/\At H (g8 x) v/\At H (jP st) u/\h_ x/\dY st/\H l=some (.lst (load.map V.int))/\load.length<=1000 /\
 ∀p xs H',aD H H'->H p=none->H' p=some (.lst xs)->aa H' ((jF x st load).map jO) xs->Q (.ref p) H'
theorem xu:aU ["post","stand","load","told","come","done","away","change"] ["post","stand","load"] (aH uw):=(by walk_at "c")
theorem J7 (F:iV K "played" "played" uw f fd) (B:Bi mg) (kE:U5 P w K mg base k "beat" ["post","stand","come","free"] 12 yZ):bM P w K mg base iz (k+1) f fd ["post","stand","load"] Bh:=by
 refine F.ok xu (by rintro vs H Q E ⟨v,u,l,x,st,load,rfl,_⟩; rfl) (fun cdv A outer s H vs Q E hr h=>?_)
 obtain⟨pA,sA,l,x,st,load,rfl,a1,a2,hx,hs,hl,hz,q⟩:=h
 have ND:=xu.nd
 refine⟨_,(aq (bf (i:=3) ND rfl (by walk_at "o") (bT ak)) (aq (jW PassesOwn.never rfl (lV (K:=K) rfl (pv 2)) (aG (i:=4) ND rfl (by walk_at "o")) (aq (cU (pfd kE hr (aj (pv 0) (aj (pv 1) (aj (pv 4) ak)))) (bL (K:=K) (n:=4) rfl rfl (aF (aG (i:=1) ND rfl (by walk_at "o")) (aF (aG (i:=5) ND rfl (by walk_at "o")) (aF (aG (i:=6) ND rfl (by walk_at "o")) (aF (aG (i:=7) ND rfl (by walk_at "o")) bK)))))) (aJ (jb (nU (K:=K) rfl PySem.F.plainAttrs_list PySem.F.slot_list_append PySem.F.type_list_append gA (pv 3) (aj (aX (aj (pv 5) (aj (pv 6) (aj (pv 7) ak)))) ak)))))) (aJ (aR (pv 3))))),?_⟩
 walk_at "rd"
 refine⟨(by decide),fun p H1 f1 s1 e1=>?_⟩
 rw[tZ]
 walk_at "rd"
 have pl:l≠p:=fun z=>by rw[z,f1] at hl; cases hl
 refine LK.of (s1 _ _ hl) (fun i σ H'=>∃(u:V) (o1 o2 o3 o4:Option V) (xs:List V),σ=[some pA,some u,some (.ref l),some (.ref p),o1,o2,o3,o4]/\At H' (jP (cA x st (load.take i))) u/\H' p=some (.lst xs)/\aa (hid p H') ((jF x st (load.take i)).map jO) xs/\SX p H H')
  ⟨_,_,_,_,_,_,rfl,a2.mono s1,e1,aa.nil,SX.of s1⟩ (fun i σ H' _ ⟨_,_,_,_,_,_,_,_,_,_,sx⟩=>sx.get pl hl) ?_ ?_
 ·rintro i y σ H2 hy ⟨u,o1,o2,o3,o4,xs,rfl,a3,e3,a4,sx⟩
  rw[il] at hy
  obtain⟨c,hc,rfl⟩:=m_.mp hy
  walk_at "rd"
  have sH:=SX.same f1 sx
  refine⟨pA,u,x,_,c,12,rfl,a1.mono sH,a3,hx,iQ hx hs,fun p5 u5 H5 s5 a5 e5=>?_⟩
  refine⟨p5,_,rfl,cD.of e5,rfl,?_⟩
  walk_at "rd"
  refine⟨.inl ⟨rfl,_,eV.of (s5 _ _ e3)⟩,(by decide),fun p6 H6 f6 s6 e6=>?_⟩
  have T9:=s5.trans s6
  have WL:=T9 _ _ e3
  have n6:p6≠p:=fun z=>by rw[<- z] at e3; rw[s5 _ _ e3] at f6; cases f6
  have hn:xs.length=(load.take i).length:=by rw[a4.length,cg,xU]
  have hi:i<load.length:=(nG.mp hc).1
  refine⟨p,xs,_,rfl,rfl,WL,bB (by rw[hn,jC]; omega),?_⟩
  have hg:=take_snoc hc
  rw[hg,eU,jX]
  refine⟨u5,_,_,_,_,_,rfl,?_,aC,?_,(sx.trans (SX.of T9)).trans SX.upd⟩
  ·exact((At.vy WL _ _ (yV _) (a5.mono s6)).mono (by rw[<- eX (o:=HO.lst (xs++[V.ref p6]))]; exact aD.refl _)).mono dh
  ·rw[eX,gY]
   exact aa.append (a4.mono (aD.hid T9)) (aa.cons (At.tup (by rw[bR n6]; exact e6) (bu _)) aa.nil)
 ·rintro σ H2 ⟨u,o1,o2,o3,o4,xs,rfl,a3,e3,a4,sx⟩
  walk_at "rd"
  rw[cg,su] at a4
  exact q p xs H2 (SX.same f1 sx) f1 e3 (a4.mono dh)
def y_:Sp:=fun vs H Q _=>∃(v u:V) (l:Addr) (x:b8) (st:bZ) (load:List Int),vs=[v,u,.ref l]/\At H (g8 x) v/\At H (jP st) u/\h_ x/\dY st/\H l=some (.lst (load.map V.int)) /\
 ∀u' H',aD H H'->At H' (jP (cA x st load)) u'->Q u' H'
theorem Bq:aU ["post","stand","load","come"] ["post","stand","load"] (aH zg):=(by walk_at "c")
theorem Oe (F:iV K "after" "after" zg f fd) (B:Bi mg) (kE:U5 P w K mg base k "beat" ["post","stand","come","free"] 12 yZ):bM P w K mg base iz (k+1) f fd ["post","stand","load"] y_:=by
 refine F.ok Bq (by rintro vs H Q E ⟨v,u,l,x,st,load,rfl,_⟩; rfl) (fun cdv A outer s H vs Q E hr h=>?_)
 obtain⟨pA,sA,l,x,st,load,rfl,a1,a2,hx,hs,hl,q⟩:=h
 have ND:=Bq.nd
 refine⟨_,(aq (jW PassesOwn.never rfl (lV (K:=K) rfl (pv 2)) (aG (i:=3) ND rfl (by walk_at "o")) (aJ (bf (i:=1) ND rfl (by walk_at "o") (bh aP (pfd kE hr (aj (pv 0) (aj (pv 1) (aj (pv 3) ak)))) ao (fun _ _=>rfl))))) (aJ (aR (pv 1)))),?_⟩
 walk_at "rd"
 rw[tZ]
 walk_at "rd"
 refine LK.of hl (fun i σ H'=>∃(u:V) (o1:Option V),σ=[some pA,some u,some (.ref l),o1]/\At H' (jP (cA x st (load.take i))) u/\aD H H')
  ⟨_,_,rfl,a2,aD.refl _⟩ (fun i σ H' _ ⟨_,_,_,_,sm⟩=>sm _ _ hl) ?_ ?_
 ·rintro i y σ H2 hy ⟨u,o1,rfl,a3,sm⟩
  rw[il] at hy
  obtain⟨c,hc,rfl⟩:=m_.mp hy
  walk_at "rd"
  refine⟨pA,u,x,_,c,12,rfl,a1.mono sm,a3,hx,iQ hx hs,fun p5 u5 H5 s5 a5 e5=>?_⟩
  refine Ix.tup e5 (v:=u5) rfl ?_
  have hg:=take_snoc hc
  rw[hg,eU]
  exact⟨u5,_,rfl,a5,sm.trans s5⟩
 ·rintro σ H2 ⟨u,o1,rfl,a3,sm⟩
  walk_at "rd"
  rw[cg,su] at a3
  exact q u H2 sm a3
def Mx (K:PySem.W.Frag):Sp:=fun vs H Q _=>∃(s:Addr) (ns:List Int) (i:Int),vs=[.ref s,.int i]/\eV K H s (ns.map V.int)/\0<=i/\i<=1000/\∀p H',H p=none->aD H H'->Tp H' p 0->Q (.ref p) H'
theorem xJ:aU ["_law_script","_law_k","_law_cell"] ["_law_script","_law_k"] (aH uD):=(by walk_at "c")
theorem Ka (F:iV K "_law_tape" "_law_tape" uD f fd) (B:Bi mg):bM P w K mg base iz (k+1) f fd ["_law_script","_law_k"] (Mx K):=by
 refine F.ok xJ (by rintro vs H Q E ⟨a,ns,i,rfl,_⟩; rfl) (fun cdv A outer s H vs Q E hr h=>?_)
 obtain⟨a,ns,i,rfl,hS,h0,h1,q⟩:=h
 have ND:=xJ.nd
 refine⟨_,(aq (bf (i:=2) ND rfl (by walk_at "o") (lW (aW Cu (pv 1) (pb (cQ (K:=K) rfl) B.len g_ (aj (pv 0) ak)) (a_ _)) (bh Ih (pv 0) (pv 1) (fun _ _=>rfl)) ao)) (aJ (aR (VB (aj (aY j0 (pb (Dy) B.abs Qg (aj (pv 2) ak)) (pt (q_) B.int GC (aj (fO Um (pb (Dy) B.abs Qg (aj (pv 2) ak)) (aY zL ao ao) (a_ _)) ak))) (aj (aY bI (aY bI (aY j4 (pv 2) ao) (aY j0 ao (pv 1))) ao) (aj ao ak))))))),?_⟩
 walk_at "rd"
 refine⟨a,_,rfl,.inl hS,?_⟩
 show ∃i_1 j,V.int i=V.int i_1/\V.int ((ns.map V.int).length:Int)=V.int j/\_
 walk_at "rd"
 have Wn:∀c:Int,0<=(if c<0 then -c else c):=fun c=>by split <;> omega
 have fin:∀(c x y:Int),x=(if c<0 then -c else c)*(if decide (10 ^ Int.toNat 18<=(if c<0 then -c else c))=true then 1 else 0)->y=c % 2305843009213693951+39373*i+17->∀p,H p=none->Q (.ref p) (upd H p (.lst [.int x,.int y,.int 0])):=fun c x y ex ey p hp=>by
  have hx:0<=x:=by
   rw[ex]
   have nn:=Wn c
   generalize (if c<0 then -c else c)=u at nn ⊢
   split
   ·rw[Int.mul_one]; exact nn
   ·rw[Int.mul_zero]; exact qH 0
  have h2:=Bv c (show(2305843009213693951:Int)≠0 by decide)
  have h3:=Bx c (show(0:Int)<2305843009213693951 by decide)
  exact q p _ hp (aO hp _) ⟨x,y,0,aC,hx,by omega,by omega,qH 0,qH 0⟩
 have cm:∀(c:Int) (b:Bool),Th c (if b=true then 1 else 0):=fun c b=>.inr (by cases b <;> decide)
 refine iM (fun c1=>?_) (fun c1=>?_)
 ·have c1':=Fd c1
  have hi:i.toNat<ns.length:=by rw[cg] at c1'; omega
  refine⟨a,_,i,.int (ns[i.toNat]),rfl,rfl,hS,?_,?_⟩
  ·have:=bx (xs:=ns.map V.int) (j:=i.toNat) (v:=.int (ns[i.toNat])) (by rw[il,gP hi]; rfl)
   rwa [show((i.toNat:Nat):Int)=i by omega] at this
  ·walk_at "rd"
   refine⟨⟨by decide,by decide,by decide⟩,cm _ _,by decide,.inl (by decide),(by show 3<=sizeLine; decide),fun p hp=>?_⟩
   exact fin _ _ _ rfl rfl p hp
 ·refine⟨⟨by decide,by decide,by decide⟩,cm _ _,by decide,.inl (by decide),(by show 3<=sizeLine; decide),fun p hp=>?_⟩
  exact fin 0 _ _ rfl rfl p hp
def qt:Sp:=fun vs H Q _=>∃(a:Addr) (m:Int) (n:Nat),vs=[.ref a,.int m]/\Tp H a n/\n<=1000000000/\0<m/\m<1000000000000000/\∀v H',0<=v->v<m->Tp H' a (n+1)->SX a H H'->Q (.int v) H'
theorem xK:aU ["_law_tape_here","_law_many","_law_found","_law_once","_law_twice"] ["_law_tape_here","_law_many"] (aH uE):=(by walk_at "c")
theorem Kc (F:iV K "_law_draw" "_law_draw" uE f fd) (B:Bi mg):bM P w K mg base iz (k+1) f fd ["_law_tape_here","_law_many"] qt:=by
 refine F.ok xK (by rintro vs H Q E ⟨a,m,n,rfl,_⟩; rfl) (fun cdv A outer s H vs Q E hr h=>?_)
 obtain⟨a,m,n,rfl,⟨x,y,z,hT,hx,hy,hy2,hz,hz2⟩,hn,hm,hm2,q⟩:=h
 have ND:=xK.nd
 refine⟨_,(aq (dz (aW lX (bh aP (pv 0) ao (fun _ _=>rfl)) ao (a_ _)) (aq (bf (i:=2) ND rfl (by walk_at "o") (aY j4 (bh aP (pv 0) ao (fun _ _=>rfl)) (pv 1))) (aq (cU (aY Cw (bh aP (pv 0) ao (fun _ _=>rfl)) (pv 1)) (Ft (pv 0) ao set_list)) (aJ (aR (pv 2))))) bO) (aq (cU (aY bI (bh aP (pv 0) ao (fun _ _=>rfl)) ao) (Ft (pv 0) ao set_list)) (aq (bf (i:=3) ND rfl (by walk_at "o") (aY j4 (aY zL (aY bI (bh aP (pv 0) ao (fun _ _=>rfl)) (aY j0 ao (bh aP (pv 0) ao (fun _ _=>rfl)))) ao) ao)) (aq (bf (i:=4) ND rfl (by walk_at "o") (aY j4 (aY j0 (aY bI (pv 3) (bh aP (pv 0) ao (fun _ _=>rfl))) (aY bI (aY bI (aY j4 (pv 3) ao) ao) (bh aP (pv 0) ao (fun _ _=>rfl)))) ao)) (aJ (aR (aY j4 (aY Rx (aY j4 (aY bI (aY j0 (pv 4) ao) (pv 3)) ao) ao) (pv 1)))))))),?_⟩
 walk_at "rd"
 refine Ix.lst hT (bx (j:=0) rfl) ?_
 walk_at "rd"
 refine iM (fun c1=>?_) (fun c1=>?_)
 ·refine Ix.lst hT (bx (j:=0) rfl) ?_
  walk_at "rd"
  refine⟨hm,Ix.lst hT (bx (j:=0) rfl) ?_⟩
  walk_at "rd"
  refine⟨⟨hm,Int.lt_trans hm2 (by decide)⟩,a,_,0,0,rfl,rfl,hT,rfl,?_⟩
  refine q _ _ (Bv _ (by omega)) (Bx _ hm) ⟨x / m,y,z,aC,Int.ediv_nonneg hx (by omega),hy,hy2,hz,by omega⟩ SX.upd
 ·refine Ix.lst hT (bx (j:=2) rfl) ?_
  walk_at "rd"
  refine⟨a,_,2,2,rfl,rfl,hT,rfl,?_⟩
  have hT2:upd H a (.lst [.int x,.int y,.int (z+1)]) a=some (.lst [.int x,.int y,.int (z+1)]):=aC
  show Rf (V.ref a) (V.int 1) (upd H a (.lst [.int x,.int y,.int (z+1)])) _
  generalize eH:upd H a (.lst [.int x,.int y,.int (z+1)])=H2 at hT2 ⊢
  have sx:SX a H H2:=by rw[<- eH]; exact SX.upd
  refine Ix.lst hT2 (bx (j:=1) rfl) (Ix.lst hT2 (bx (j:=2) rfl) ?_)
  walk_at "rd"
  refine⟨.inl (by decide),⟨by decide,by decide,by omega⟩,by decide,Ix.lst hT2 (bx (j:=2) rfl) ?_⟩
  generalize eo:(y+39373*(z+1)) ^ Int.toNat 5 % 2147483647=o
  have o1:0<=o:=by rw[<- eo]; exact Bv _ (by decide)
  have o2:o<2147483647:=by rw[<- eo]; exact Bx _ (by decide)
  walk_at "rd"
  refine⟨by decide,Ix.lst hT2 (bx (j:=2) rfl) ?_⟩
  walk_at "rd"
  have m1:=Bv o (show(40009:Int)≠0 by decide)
  have m2:=Bx o (show(0:Int)<40009 by decide)
  refine⟨.inl (by omega),by decide,?_⟩
  generalize et:(o+(z+1))*(o % 40009+7+(z+1)) % 2147483629=t
  have t1:0<=t:=by rw[<- et]; exact Bv _ (by decide)
  have t2:t<2147483629:=by rw[<- et]; exact Bx _ (by decide)
  refine⟨.inl (by omega),by decide,⟨by decide,by decide⟩,hm,?_⟩
  exact q _ _ (Bv _ (by omega)) (Bx _ hm) ⟨x,y,z+1,hT2,hx,hy,hy2,by omega,by omega⟩ sx
theorem fZ.of {a:Addr} {m:Int} {n:Nat} {H:Hp} {Q:VK} {E:XK} (t:Tp H a n) (hn:n<=1000000000) (h1:0<m) (h2:m<1000000000000000) (q:∀v H',0<=v->v<m->Tp H' a (n+1)->SX a H H'->Q (.int v) H'):qt ([.ref a,.int m]++[]) H Q E:=⟨a,m,n,rfl,t,hn,h1,h2,q⟩
def WR (i:Int):Prop:=0<=i/\i<=1000000000000
def Qn (u:List Int):Prop:=∃a b c,u=[a,b,c]/\WR a/\WR b/\WR c
abbrev Cv:=List (Int×Int)
def Zm (p:Int×Int):PyData:=.tuple [.int p.1,.int p.2]
def Dt (c:Cv):PyData:=.tuple (c.map Zm)
theorem Ny {H:Hp} {p:Int×Int} {v:V} (h:At H (Zm p) v):∃a,v=.ref a/\H a=some (.tup [.int p.1,.int p.2]):=by
 obtain⟨a,xs,rfl,h1,h2⟩:=bA h
 obtain⟨x1,_,rfl,a1,h2⟩:=aa.aZ h2
 obtain⟨x2,_,rfl,a2,h2⟩:=aa.aZ h2
 cases aa.nA h2
 unfold At at a1 a2
 subst a1 a2
 exact⟨a,rfl,h1⟩
theorem Gm {H:Hp} {c:Cv} {xs:List V} (hA:aa H (c.map Zm) xs) {i:Nat} {x:V} (hx:xs[i]?=some x):∃a,x=.ref a/\i<c.length/\H a=some (.tup [.int (c.getD i (0,0)).1,.int (c.getD i (0,0)).2]):=by
 obtain⟨d,hd,a⟩:=hA.get hx
 rw[il] at hd
 cases e:c[i]? with
 | none=>rw[e] at hd; simp at hd
 | some r=>
  rw[e] at hd; simp at hd
  subst hd
  obtain⟨b,rfl,hb⟩:=Ny a
  have eg:c.getD i (0,0)=r:=by rw[iZ,e]; rfl
  obtain⟨hi,_⟩:=nG.mp e
  rw[eg]
  exact⟨b,rfl,hi,hb⟩
theorem uY (l:List Int):bJ (l.map PyData.int)=true:=cZ.mpr fun d hd=>by obtain⟨z,_,rfl⟩:=iR.mp hd; rfl
theorem ints_get {l:List Int} {i:Nat} {x:V} (h:(l.map V.int)[i]?=some x):i<l.length/\x=.int (l.getD i 0):=by
 rw[il] at h
 cases e:l[i]? with
 | none=>rw[e] at h; simp at h
 | some r=>
  rw[e] at h; simp at h
  obtain⟨hi,_⟩:=nG.mp e
  exact⟨hi,by rw[iZ,e,<- h]; rfl⟩
theorem qU {l:List Int} {i:Nat} {x:PyData} (h:(l.map PyData.int)[i]?=some x):i<l.length/\x=.int (l.getD i 0):=by
 rw[il] at h
 cases e:l[i]? with
 | none=>rw[e] at h; simp at h
 | some r=>
  rw[e] at h; simp at h
  obtain⟨hi,_⟩:=nG.mp e
  exact⟨hi,by rw[iZ,e,<- h]; rfl⟩
def ue:Sp:=fun vs H Q _=>∃(v:V) (c:Cv),vs=[v]/\At H (Dt c) v/\c.length<=100/\∀p H',aD H H'->H' p=some (.tup ((c.map (·.1)).map V.int))->Q (.ref p) H'
theorem o_:aU ["curve"] ["curve"] (aH lO):=(by walk_at "c")
theorem zT (F:iV K "bursts_of" "bursts_of" lO f fd) (B:Bi mg):bM P w K mg base iz (k+1) f fd ["curve"] ue:=by
 refine F.ok o_ (by rintro vs H Q E ⟨v,c,rfl,_⟩; rfl) (fun cdv A outer s H vs Q E hr h=>?_)
 obtain⟨v,c,rfl,hv,hn,q⟩:=h
 have ND:=o_.nd
 refine⟨_,(aJ (aR (pt (cP) B.tuple dC (aj (iH (nt:=2) (N':=["burst","rate"]) (js:=[]) rfl (jY (K:=K) rfl (pv 0)) mQ.of (fun fp s' H'=>(bL (K:=K) (n:=2) rfl rfl (aF (aG (i:=0) (by show List.Nodup (["burst","rate"]:List Str); decide) rfl (.inl (dU rfl)) (.inr (dU rfl))) (aF (aG (i:=1) (by show List.Nodup (["burst","rate"]:List Str); decide) rfl (.inl (dU rfl)) (.inr (dU rfl))) bK)))) (fun fp s' H'=>j9) (fun fp s' H'=>(pv 0))) ak)))),?_⟩
 obtain⟨a,xs,rfl,h1,h2⟩:=bA hv
 walk_at "rd"
 have hlen:xs.length=c.length:=by rw[h2.length,cg]
 refine Sx (es:=(c.map (·.1)).map PyData.int) (fun i=>[some (.int (c.getD i (0,0)).1),some (.int (c.getD i (0,0)).2)]) (fun i=>rfl) (fun R hR=>?_) h1 (by rw[cg,cg,hlen]) (by rw[cg,cg]; exact lQ (bB (by omega))) (uY _) (fun i x H' hx s' R hR=>?_) (fun i e H' he s' R hR=>?_) (fun acc zs H' s' hacc hl hA=>?_)
 ·walk_at "rd"; exact hR
 ·obtain⟨b,rfl,hi,hb⟩:=Gm h2 hx
  refine⟨b,_,rfl,cD.of (s' _ _ hb),rfl,?_⟩
  walk_at "rd"
  exact hR
 ·obtain⟨hi,rfl⟩:=qU he
  walk_at "rd"
  refine hR _ _ (aD.refl _) ?_
  rw[cg] at hi
  have:(c.map (·.1)).getD i 0=(c.getD i (0,0)).1:=by rw[iZ,iZ,il,gP hi]; rfl
  rw[this]
  exact At.int _
 ·cases cz hA
  refine⟨acc,_,rfl,hl,fun l hl3=>?_⟩
  exact q l _ (s'.trans (aO hl3 _)) aC
def aaB:List Int->Int
 | []=>0
 | b::r=>jH b r
def bV (c:Cv) (sp:List Int):Int:=aaB (List.zipWith (fun p l=>p.2+l) c sp)
def jJ (c:Cv) (sp:List Int) (x:Int):List Int:=List.zipWith (fun p l=>if l+p.2-x<p.1 then l+p.2-x else p.1) c sp
theorem Lw {c:Cv} {sp:List Int} (g:Int×Int->Int->Int) {i:Nat} (h1:i<c.length) (h2:i<sp.length):(List.zipWith g c sp).getD i 0=g (c.getD i (0,0)) (sp.getD i 0):=by
 rw[iZ,iZ,iZ,gP h1,gP h2,gP (by rw[Fe]; omega),List.getElem_zipWith]
 rfl
def Et:Sp:=fun vs H Q _=>∃(v:V) (c:Cv) (q:Addr) (sp:List Int),vs=[v,.ref q]/\At H (Dt c) v/\H q=some (.tup (sp.map V.int))/\sp.length=c.length/\c≠[]/\c.length<=100/\∀H',aD H H'->Q (.int (bV c sp)) H'
theorem oY:aU ["curve","spare"] ["curve","spare"] (aH lM):=(by walk_at "c")
theorem zQ (F:iV K "most_next" "most_next" lM f fd) (B:Bi mg):bM P w K mg base iz (k+1) f fd ["curve","spare"] Et:=by
 refine F.ok oY (by rintro vs H Q E ⟨v,c,q,sp,rfl,_⟩; rfl) (fun cdv A outer s H vs Q E hr h=>?_)
 obtain⟨v,c,qa,sp,rfl,hv,hq,hsp,hne,hn,q⟩:=h
 have ND:=oY.nd
 refine⟨_,(aJ (aR (pb (K4 rfl) B.min mL (aj (iH (nt:=3) (N':=["burst","rate","left"]) (js:=[]) rfl (zy (K:=K) rfl B.zip (aj (pv 0) (aj (pv 1) ak))) mQ.of (fun fp s' H'=>(bL (K:=K) (n:=2) rfl rfl (aF (bL (K:=K) (n:=2) rfl rfl (aF (aG (i:=0) (by show List.Nodup (["burst","rate","left"]:List Str); decide) rfl (.inl (dU rfl)) (.inr (dU rfl))) (aF (aG (i:=1) (by show List.Nodup (["burst","rate","left"]:List Str); decide) rfl (.inl (dU rfl)) (.inr (dU rfl))) bK))) (aF (aG (i:=2) (by show List.Nodup (["burst","rate","left"]:List Str); decide) rfl (.inl (dU rfl)) (.inr (dU rfl))) bK)))) (fun fp s' H'=>j9) (fun fp s' H'=>(aY bI (pv 1) (pv 2)))) ak)))),?_⟩
 obtain⟨a,xs,rfl,h1,h2⟩:=bA hv
 walk_at "rd"
 have hlen:xs.length=c.length:=by rw[h2.length,cg]
 have zl:(List.zipWith (fun p l=>p.2+l) c sp).length=c.length:=by rw[Fe]; omega
 refine yp (es:=(List.zipWith (fun p l=>p.2+l) c sp).map PyData.int) (fun i=>[some (.int (c.getD i (0,0)).1),some (.int (c.getD i (0,0)).2),some (.int (sp.getD i 0))]) (fun i=>rfl) (fun R hR=>?_) h1 hq (by rw[cg,zl,hlen]) (by rw[cg,cg,zl,hsp]) (by rw[cg,zl]; exact lQ (bB (by omega))) (uY _) (fun i x y p H' hx hy s' hp R hR=>?_) (fun i e H' he s' R hR=>?_) (fun acc zs H' s' hacc hl hA=>?_)
 ·walk_at "rd"; exact hR
 ·obtain⟨b,rfl,hi,hb⟩:=Gm h2 hx
  obtain⟨hi2,rfl⟩:=ints_get hy
  refine⟨p,_,rfl,cD.of hp,rfl,?_⟩
  walk_at "rd"
  refine⟨b,_,rfl,cD.of (s' _ _ hb),rfl,?_⟩
  walk_at "rd"
  exact hR
 ·obtain⟨hi,rfl⟩:=qU he
  walk_at "rd"
  refine hR _ _ (aD.refl _) ?_
  rw[zl] at hi
  rw[Lw _ hi (by omega)]
  exact At.int _
 ·cases cz hA
  have zn:List.zipWith (fun p l=>p.2+l) c sp≠[]:=fun z=>by rw[z] at zl; exact hne (Hs.mp zl.symm)
  have qq:=q H' s'
  unfold bV at qq
  generalize List.zipWith (fun(p:Int×Int) (l:Int)=>p.2+l) c sp=zz at *
  match zz,zn with
  | b::r,_=>exact⟨acc,b,r,rfl,hl,qq⟩
def MK:Sp:=fun vs H Q _=>∃(v:V) (c:Cv) (q:Addr) (sp:List Int) (x:Int),vs=[v,.ref q,.int x]/\At H (Dt c) v/\H q=some (.tup (sp.map V.int))/\sp.length=c.length/\c.length<=100/\∀p H',aD H H'->H' p=some (.tup ((jJ c sp x).map V.int))->Q (.ref p) H'
theorem lE:aU ["curve","spare","come"] ["curve","spare","come"] (aH jg):=(by walk_at "c")
theorem uT (F:iV K "spares_left" "spares_left" jg f fd) (B:Bi mg):bM P w K mg base iz (k+1) f fd ["curve","spare","come"] MK:=by
 refine F.ok lE (by rintro vs H Q E ⟨v,c,q,sp,x,rfl,_⟩; rfl) (fun cdv A outer s H vs Q E hr h=>?_)
 obtain⟨v,c,qa,sp,x,rfl,hv,hq,hsp,hn,q⟩:=h
 have ND:=lE.nd
 refine⟨_,(aJ (aR (pt (cP) B.tuple dC (aj (iH (nt:=3) (N':=["burst","rate","left","come"]) (js:=[2]) rfl (zy (K:=K) rfl B.zip (aj (pv 0) (aj (pv 1) ak))) mQ.of (fun fp s' H'=>(bL (K:=K) (n:=2) rfl rfl (aF (bL (K:=K) (n:=2) rfl rfl (aF (aG (i:=0) (by show List.Nodup (["burst","rate","left","come"]:List Str); decide) rfl (.inl (dU rfl)) (.inr (dU rfl))) (aF (aG (i:=1) (by show List.Nodup (["burst","rate","left","come"]:List Str); decide) rfl (.inl (dU rfl)) (.inr (dU rfl))) bK))) (aF (aG (i:=2) (by show List.Nodup (["burst","rate","left","come"]:List Str); decide) rfl (.inl (dU rfl)) (.inr (dU rfl))) bK)))) (fun fp s' H'=>j9) (fun fp s' H'=>(pb (gD rfl) B.min mL (aj (pv 0) (aj (aY jm (aY bI (pv 2) (pv 1)) (pv 3)) ak))))) ak)))),?_⟩
 obtain⟨a,xs,rfl,h1,h2⟩:=bA hv
 walk_at "rd"
 have hlen:xs.length=c.length:=by rw[h2.length,cg]
 have zl:(jJ c sp x).length=c.length:=by unfold jJ; rw[Fe]; omega
 refine yp (es:=(jJ c sp x).map PyData.int) (fun i=>[some (.int (c.getD i (0,0)).1),some (.int (c.getD i (0,0)).2),some (.int (sp.getD i 0))]) (fun i=>rfl) (fun R hR=>?_) h1 hq (by rw[cg,zl,hlen]) (by rw[cg,cg,zl,hsp]) (by rw[cg,zl]; exact lQ (bB (by omega))) (uY _) (fun i x y p H' hx hy s' hp R hR=>?_) (fun i e H' he s' R hR=>?_) (fun acc zs H' s' hacc hl hA=>?_)
 ·walk_at "rd"; exact hR
 ·obtain⟨b,rfl,hi,hb⟩:=Gm h2 hx
  obtain⟨hi2,rfl⟩:=ints_get hy
  refine⟨p,_,rfl,cD.of hp,rfl,?_⟩
  walk_at "rd"
  refine⟨b,_,rfl,cD.of (s' _ _ hb),rfl,?_⟩
  walk_at "rd"
  exact hR
 ·obtain⟨hi,rfl⟩:=qU he
  walk_at "cap"
  walk_at "rd"
  refine hR _ _ (aD.refl _) ?_
  rw[zl] at hi
  unfold jJ
  rw[Lw _ hi (by omega)]
  exact At.int _
 ·cases cz hA
  refine⟨acc,_,rfl,hl,fun l hl3=>?_⟩
  exact q l _ (s'.trans (aO hl3 _)) aC
structure Tc (r:fV):Prop where
 is:nJ r
 g:r.g∈(["over","under","each"]:List Str)
theorem Q4 (r:fV):uZ (pq r)=true:=rfl
theorem M8 (rs:List fV):uZ (ph rs)=true:=by
 show bJ (rs.map pq)=true
 exact cZ.mpr fun d hd=>by obtain⟨r,_,rfl⟩:=iR.mp hd; rfl
structure Y4 (rs:List fV):Prop where
 lo:1<=rs.length
 hi:rs.length<=4
 g:∀r∈rs,Tc r
structure UL (x:b8):Prop where
 p:1<=x.p/\x.p<=1000000000000000000
 m:WR x.m
 lo:0<=x.lo/\x.lo<=x.hi
 hi:x.hi<=12
 a:x.a<=4
 e:1<=x.e/\x.e<=6
 u:0<=x.u/\x.u<=9
 d:0<=x.d/\x.d<=9
 n:x.eO.length<=3
 r:∀rs∈x.eO,Y4 rs
structure PsT (x:b8):Prop where
 l:UL x
 p:x.p<=1000000
 n:∀rs∈x.eO,∀r∈rs,r.n<=1000000000000
theorem UL.is {x:b8} (h:UL x):h_ x:=⟨h.a,by have:=h.p; omega,by have:=h.n; omega,fun rs hrs r hr=>((h.r rs hrs).g r hr).is⟩
def Er:Sp:=fun vs H Q _=>∃(a:Addr) (n:Nat),vs=[.ref a]/\Tp H a n/\n<=800000000/\∀v r H',(Tc r/\r.n<=1000000000000)->At (hid a H') (pq r) v->Tp H' a (n+12)->SX a H H'->Q v H'
theorem abw.of {a:Addr} {n:Nat} {H:Hp} {Q:VK} {E:XK} (t:Tp H a n) (hn:n<=800000000) (q:∀v r H',(Tc r/\r.n<=1000000000000)->At (hid a H') (pq r) v->Tp H' a (n+12)->SX a H H'->Q v H'):Er ([.ref a]++[]) H Q E:=⟨a,n,rfl,t,hn,q⟩
theorem Bp:aU ["_law_tape_here","_law_sign","_law_what","_law_span","_law_number","_law_step"] ["_law_tape_here"] (aH zf):=(by walk_at "c")
theorem Oc (F:iV K "_law_row" "_law_row" zf f fd) (B:Bi mg) (bj:Ct P w K mg base k "_law_draw" ["_law_tape_here","_law_many"] qt):bM P w K mg base iz (k+1) f fd ["_law_tape_here"] Er:=by
 refine F.ok Bp (by rintro vs H Q E ⟨a,n,rfl,_⟩; rfl) (fun cdv A outer s H vs Q E hr h=>?_)
 obtain⟨a,n,rfl,tp,hn,q⟩:=h
 have ND:=Bp.nd
 refine⟨_,(aq (bf (i:=1) ND rfl (by walk_at "o") (bh aP (bT (aj dD (aj dD (aj dD ak)))) (pf bj hr (aj (pv 0) (aj ao ak))) (fun _ _=>rfl))) (aq (bf (i:=2) ND rfl (by walk_at "o") (bh aP (bT (aj dD (aj dD (aj dD (aj dD ak))))) (pf bj hr (aj (pv 0) (aj ao ak))) (fun _ _=>rfl))) (aq (bf (i:=3) ND rfl (by walk_at "o") (bh aP (bT (aj ao (aj ao (aj ao (aj (aY bI ao (pf bj hr (aj (pv 0) (aj ao ak)))) ak))))) (pf bj hr (aj (pv 0) (aj ao ak))) (fun _ _=>rfl))) (aq (bf (i:=4) ND rfl (by walk_at "o") (pf bj hr (aj (pv 0) (aj ao ak)))) (aq (dz (aW kY (pv 1) dD (a_ _)) (aJ (aR (aX (aj (pv 2) (aj (pv 3) (aj (pv 1) (aj (pb (mX rfl) B.max rn (aj ao (aj (pv 4) ak))) (aj ao ak)))))))) bO) (aq (bf (i:=5) ND rfl (by walk_at "o") (aY bI ao (pf bj hr (aj (pv 0) (aj ao ak))))) (aJ (aR (aX (aj (pv 2) (aj (pv 3) (aj (pv 1) (aj (pv 4) (aj (lW (aW Cu (aY bI (pf bj hr (aj (pv 0) (aj ao ak))) (aY j0 (pt (q_) B.int GC (aj (fO kY (pv 1) dD (a_ _)) ak)) ao)) ao (a_ _)) (pv 5) (aY jm ao (pv 5))) ak)))))))))))))),?_⟩
 walk_at "rd"
 refine⟨(by decide),fun p1 H1 f1 s1 e1=>?_⟩
 refine fZ.of (tp.same s1) (by omega) (by decide) (by decide) fun y1 H2 l2 u2 t2 s2=>?_
 have n1:p1≠a:=tp.ne f1
 obtain⟨g,hg,eg⟩:=xV (ts:=["over","under","each"]) l2 u2
 refine Ix.lst (s2.get n1 e1) eg ?_
 refine⟨(by decide),fun p3 H3 f3 s3 e3=>?_⟩
 refine fZ.of (t2.same s3) (by omega) (by decide) (by decide) fun y4 H4 l4 u4 t4 s4=>?_
 have n3:p3≠a:=t2.ne f3
 obtain⟨w,hw,ew⟩:=xV (ts:=["come","done","wait","wait"]) l4 u4
 have hw':w∈(["come","done","wait"]:List Str):=by
  simp only[b_,pH,or_false] at hw ⊢
  rcases hw with z | z | z | z
  ·exact .inl z
  ·exact .inr (.inl z)
  ·exact .inr (.inr z)
  ·exact .inr (.inr z)
 refine Ix.lst (s4.get n3 e3) ew ?_
 have sx4:SX a H H4:=(SX.of s1).trans (s2.trans ((SX.of s3).trans s4))
 have fin:∀(sp:Nat) (nn tt:Int) (H8:Hp) (m:Nat),(1<=sp/\sp<=4)->Tp H8 a m->m<=n+12->SX a H H8->(0<=nn/\nn<=1000000000000)->(g = "each" -> 1<=nn)->∀p H',H8 p=none->aD H8 H'->H' p=some (.tup [.str w,.int sp,.str g,.int nn,.int tt])->Q (.ref p) H':=fun sp nn tt H8 m hsp t8 hm s8 hnn hge p H' fp sp' ep=>by
  have pa:p≠a:=t8.ne fp
  refine q _ ⟨w,sp,g,nn,tt⟩ H' ⟨⟨⟨hw',hsp,⟨hnn.1,Int.le_trans hnn.2 (by decide)⟩,hge⟩,hg⟩,hnn.2⟩ (At.tup (by rw[bR pa]; exact ep) ?_) ((t8.same sp').mono hm) (s8.trans (SX.of sp'))
  exact aa.cons (At.str _) (aa.cons (At.int _) (aa.cons (At.str _) (aa.cons (At.int _) (aa.cons (At.int _) aa.nil))))
 try walk_at "rd"
 refine fZ.of t4 (by omega) (by decide) (by decide) fun y5 H5 l5 u5 t5 s5=>?_
 walk_at "rd"
 refine⟨(by decide),fun p6 H6 f6 s6 e6=>?_⟩
 refine fZ.of (t5.same s6) (by omega) (by decide) (by decide) fun y7 H7 l7 u7 t7 s7=>?_
 have n6:p6≠a:=t5.ne f6
 obtain⟨x,hx,ex⟩:=ir (ts:=[1,1,1,1+y5]) l7 u7
 refine Ix.lst (s7.get n6 e6) ex ?_
 have hx':1<=x/\x<=4:=by
  simp only[b_,pH,or_false] at hx
  rcases hx with rfl | rfl | rfl | rfl <;> omega
 refine fZ.of t7 (by omega) (by decide) (by decide) fun num H8 l8 u8 t8 s8=>?_
 walk_at "rd"
 obtain⟨sp,rfl⟩:∃sp:Nat,x=(sp:Int):=⟨x.toNat,by omega⟩
 have sx:SX a H H8:=sx4.trans (s5.trans ((SX.of s6).trans (s7.trans s8)))
 refine iM (fun c1=>?_) (fun c1=>?_)
 ·exact⟨(by decide),fin _ _ _ H8 _ (by omega) t8 (by omega) sx (by split <;> omega) (fun _=>by split <;> omega)⟩
 ·have c1':=JQ c1
  refine fZ.of t8 (by omega) (by decide) (by decide) fun y8 H9 l9 u9 t9 s9=>?_
  walk_at "rd"
  refine fZ.of t9 (by omega) (by decide) (by decide) fun y9 Aw l10 u10 Xv rH=>?_
  walk_at "rd"
  refine⟨.inr (by decide),?_⟩
  refine iM (fun c2=>?_) (fun c2=>?_)
  ·exact⟨(by decide),fin _ _ _ Aw _ (by omega) Xv (by omega) (sx.trans (s9.trans rH)) (by omega) (fun z=>absurd z c1')⟩
  ·exact⟨(by decide),fin _ _ _ Aw _ (by omega) Xv (by omega) (sx.trans (s9.trans rH)) (by omega) (fun z=>absurd z c1')⟩
structure En where
 st:bZ
 sp:List Int
 fr:Option (Nat×Int)
def Dh (st:bZ) (sp:List Int):PyData:=.tuple [jP st,.tuple (sp.map .int)]
def En.key (e:En):PyData:=Dh e.st e.sp
def frD:Option (Nat×Int)->List PyData
 | none=>[.none,.none]
 | some (p,c)=>[.int p,.int c]
def nq (e:En):PyData:=.tuple ([jP e.st,.tuple (e.sp.map .int)]++frD e.fr)
def en0:En:=⟨⟨0,0,[],0,0,[]⟩,[],none⟩
def cC (es:List En) (p:Nat):En:=es.getD p en0
def qg (x:b8) (e:En) (c:Int):bZ:=dZ x (ie x e.st c)
def qi (x:b8) (e:En) (c:Int):Int:=c-cO x e.st c
def lZ (x:b8) (cv:Cv) (e:En) (p:Nat) (c:Int):En:=⟨qg x e c,jJ cv e.sp c,some (p,c)⟩
noncomputable def wu (x:b8) (cv:Cv) (e:En) (p:Nat) (es:List En) (c:Nat):List En:=if(lZ x cv e p c).key∈es.map En.key then es else es++[lZ x cv e p c]
noncomputable def Io (x:b8) (cv:Cv) (e:En) (p:Nat) (es:List En):Nat->List En
 | 0=>es
 | c+1=>wu x cv e p (Io x cv e p es c) c
def oH (cv:Cv) (e:En):Nat:=(bV cv e.sp+1).toNat
noncomputable def az (x:b8) (cv:Cv) (st:bZ):Nat->List En
 | 0=>[⟨dZ x st,cv.map (·.1),none⟩]
 | p+1=>if p<(az x cv st p).length then Io x cv (cC (az x cv st p) p) p (az x cv st p) (oH cv (cC (az x cv st p) p)) else az x cv st p
theorem dX (x:b8) (cv:Cv) (st:bZ) (p:Nat):az x cv st (p+1)=if p<(az x cv st p).length then Io x cv (cC (az x cv st p) p) p (az x cv st p) (oH cv (cC (az x cv st p) p)) else az x cv st p:=rfl
noncomputable def bF (x:b8) (cv:Cv) (st:bZ) (p c:Nat):List En:=Io x cv (cC (az x cv st p) p) p (az x cv st p) c
def mO (x:b8) (bd:Option Int) (e:En) (c:Int):Bool:=match bd with
 | none=>false
 | some b=>decide ((qg x e c).w>b) || decide (qi x e c>0)
theorem Jh {x:b8} {cv:Cv} {e:En} {p:Nat} {es:List En} {c:Nat}:∃r,wu x cv e p es c=es++r:=by
 unfold wu
 split
 ·exact⟨[],by simp⟩
 ·exact⟨_,rfl⟩
theorem vp {x:b8} {cv:Cv} {e:En} {p:Nat} {es:List En}:∀c,∃r,Io x cv e p es c=es++r
 | 0=>⟨[],by simp[Io]⟩
 | c+1=>by
  obtain⟨r,hr⟩:=vp (x:=x) (cv:=cv) (e:=e) (p:=p) (es:=es) c
  obtain⟨r',hr'⟩:=Jh (x:=x) (cv:=cv) (e:=e) (p:=p) (es:=Io x cv e p es c) (c:=c)
  exact⟨r++r',by show wu x cv e p (Io x cv e p es c) c=_; rw[hr',hr,zr]⟩
theorem OJ {x:b8} {cv:Cv} {st:bZ} (p:Nat):∃r,az x cv st (p+1)=az x cv st p++r:=by
 rw[dX]
 split
 ·exact vp _
 ·exact⟨[],by simp⟩
theorem gK {x:b8} {cv:Cv} {st:bZ} (p:Nat):∀d,∃r,az x cv st (p+d)=az x cv st p++r
 | 0=>⟨[],by simp⟩
 | d+1=>by
  obtain⟨r,hr⟩:=gK (x:=x) (cv:=cv) (st:=st) p d
  obtain⟨r',hr'⟩:=OJ (x:=x) (cv:=cv) (st:=st) (p+d)
  exact⟨r++r',by rw[<- Bt,hr',hr,zr]⟩
theorem z7 {x:b8} {cv:Cv} {st:bZ} (p:Nat):1<=(az x cv st p).length:=by
 obtain⟨r,hr⟩:=gK (x:=x) (cv:=cv) (st:=st) 0 p
 rw[wI] at hr
 rw[hr]
 simp[az]
theorem l_ {x:b8} {cv:Cv} {st:bZ} {p q:Nat} (h:p<=q):(az x cv st p).length<=(az x cv st q).length:=by
 obtain⟨r,hr⟩:=gK (x:=x) (cv:=cv) (st:=st) p (q-p)
 rw[show p+(q-p)=q by omega] at hr
 rw[hr,fj]; omega
theorem jK {x:b8} {cv:Cv} {st:bZ} {p:Nat} (h:p<(az x cv st p).length):az x cv st (p+1)=bF x cv st p (oH cv (cC (az x cv st p) p)):=by
 rw[dX,aM h]; rfl
theorem Ie {x:b8} {cv:Cv} {st:bZ} {n:Nat} (h:(az x cv st n).length=n):∀d,az x cv st (n+d)=az x cv st n
 | 0=>rfl
 | d+1=>by
  have ih:=Ie h d
  rw[<- Bt,dX,ih,aK (by rw[h]; omega)]
structure sZ (cv:Cv) (e:En):Prop where
 st:dY e.st
 sl:e.sp.length=cv.length
 sp:∀(i:Nat) (b s:Int),(cv.map (·.1))[i]?=some b->e.sp[i]?=some s->s<=b
 nn:∀s∈e.sp,0<=s
structure D_ (cv:Cv):Prop where
 ne:cv≠[]
 n:cv.length<=10
 u:∀p∈cv,0<=p.1/\0<=p.2
theorem HQ:∀(r:List Int) (b:Int),jH b r∈b::r/\∀y∈b::r,jH b r<=y
 | [],b=>⟨by simp[jH],fun y hy=>by rw[d8.mp hy]; exact qH _⟩
 | x::r,b=>by
  have e:jH b (x::r)=jH (if x<b then x else b) r:=rfl
  rw[e]
  obtain⟨m,hm,h4,h5,h6⟩:∃m,(if x<b then x else b)=m/\m<=b/\m<=x/\(m=b\/m=x):=⟨_,rfl,by split <;> omega,by split <;> omega,by split <;> simp⟩
  rw[hm]
  obtain⟨h1,h2⟩:=HQ r m
  have h3:=h2 _ (jl)
  refine⟨?_,fun y hy=>?_⟩
  ·rcases b_.mp h1 with z | z
   ·rw[z]; rcases h6 with q | q <;> simp[q]
   ·simp[z]
  ·simp only[b_] at hy
   rcases hy with z | z | z
   ·omega
   ·omega
   ·exact h2 y (iG _ z)
theorem zX {cv:Cv} {sp:List Int} (hn:cv≠[]) (hl:sp.length=cv.length):(∃(i:Nat) (p:Int×Int) (l:Int),cv[i]?=some p/\sp[i]?=some l/\bV cv sp=p.2+l)/\∀(i:Nat) (p:Int×Int) (l:Int),cv[i]?=some p->sp[i]?=some l->bV cv sp<=p.2+l:=by
 unfold bV
 have hlen:(List.zipWith (fun(p:Int×Int) l=>p.2+l) cv sp).length=cv.length:=by rw[Fe,hl,Nat.min_self]
 have get:∀i:Nat,(List.zipWith (fun(p:Int×Int) l=>p.2+l) cv sp)[i]?=match cv[i]?,sp[i]? with | some p,some l=>some (p.2+l) | _,_=>none:=fun i=>by rw[Hr]; cases cv[i]? <;> cases sp[i]? <;> rfl
 generalize List.zipWith (fun(p:Int×Int) l=>p.2+l) cv sp=zs at hlen get
 match zs,hlen with
 | [],hlen=>exact absurd (Hs.mp hlen.symm) hn
 | b::r,_=>
  obtain⟨h1,h2⟩:=HQ r b
  refine⟨?_,fun i p l e1 e2=>h2 _ (lU (i:=i) (by rw[get,e1,e2]))⟩
  obtain⟨i,hi⟩:=Ff.mp h1
  rw[get] at hi
  cases e1:cv[i]? with
  | none=>rw[e1] at hi; cases hi
  | some p=>
   cases e2:sp[i]? with
   | none=>rw[e1,e2] at hi; cases hi
   | some l=>rw[e1,e2] at hi; exact⟨i,p,l,e1,e2,(Option.some.inj hi).symm⟩
theorem RN {cv:Cv} {sp:List Int} (h:D_ cv) (hl:sp.length=cv.length) (hs:∀s∈sp,0<=s):0<=bV cv sp:=by
 obtain⟨⟨i,p,l,e1,e2,e⟩,_⟩:=zX h.ne hl
 have:=h.u p (lU e1)
 have:=hs l (lU e2)
 omega
theorem R1 {cv:Cv} {sp:List Int} {c:Int} (h:D_ cv) (hl:sp.length=cv.length) (hc:c<=bV cv sp):∀s∈jJ cv sp c,0<=s:=fun s hs=>by
 obtain⟨i,hi⟩:=Ff.mp hs
 unfold jJ at hi
 rw[Hr] at hi
 cases e1:cv[i]? with
 | none=>rw[e1] at hi; cases hi
 | some p=>
  cases e2:sp[i]? with
  | none=>rw[e1,e2] at hi; cases hi
  | some l=>
   rw[e1,e2] at hi
   cases hi
   have:=(zX h.ne hl).2 i p l e1 e2
   have:=h.u p (lU e1)
   show 0<=(if l+p.2-c<p.1 then l+p.2-c else p.1)
   split <;> omega
theorem Oz {cv:Cv} {sp:List Int} {c:Int} (h:sp.length=cv.length):(jJ cv sp c).length=cv.length:=by
 unfold jJ
 rw[Fe,h,Nat.min_self]
theorem R3 {cv:Cv} {sp:List Int} {c:Int} {i:Nat} {b s:Int} (h1:(cv.map (·.1))[i]?=some b) (h2:(jJ cv sp c)[i]?=some s):s<=b:=by
 unfold jJ at h2
 rw[Hr] at h2
 rw[il] at h1
 cases e1:cv[i]? with
 | none=>rw[e1] at h1; cases h1
 | some q=>
  rw[e1] at h1 h2
  cases h1
  cases e2:sp[i]? with
  | none=>rw[e2] at h2; cases h2
  | some l=>
   rw[e2] at h2
   cases h2
   show(if l+q.2-c<q.1 then l+q.2-c else q.1)<=q.1
   split <;> omega
theorem VN {x:b8} {cv:Cv} {e:En} {p:Nat} {c:Int} (hx:h_ x) (hv:D_ cv) (h:sZ cv e) (hc:c<=bV cv e.sp):sZ cv (lZ x cv e p c):=
 ⟨pM (tK hx h.st),Oz h.sl,fun i b s h1 h2=>R3 h1 h2,R1 hv h.sl hc⟩
theorem S8 {x:b8} {cv:Cv} {e:En} {p:Nat} {es:List En} {c:Nat} (hx:h_ x) (hv:D_ cv) (he:sZ cv e) (hc:c<oH cv e) (h:∀y∈es,sZ cv y):∀y∈wu x cv e p es c,sZ cv y:=by
 have hc':(c:Int)<=bV cv e.sp:=by unfold oH at hc; omega
 unfold wu
 split
 ·exact h
 ·intro y hy
  rcases m7.mp hy with z | z
  ·exact h y z
  ·rw[d8.mp z]; exact VN hx hv he hc'
theorem O7 {x:b8} {cv:Cv} {e:En} {p:Nat} {es:List En} (hx:h_ x) (hv:D_ cv) (he:sZ cv e) (h:∀y∈es,sZ cv y):∀c,c<=oH cv e->∀y∈Io x cv e p es c,sZ cv y
 | 0,_=>h
 | c+1,hc=>S8 hx hv he hc (O7 hx hv he h c (by omega))
theorem mZ {es:List En} {p:Nat} (h:p<es.length):cC es p∈es/\es[p]?=some (cC es p):=by
 have e:es[p]?=some (cC es p):=by unfold cC; rw[iZ,gP h]; rfl
 exact⟨lU e,e⟩
theorem Ig {x:b8} {cv:Cv} {st:bZ} (hx:h_ x) (hv:D_ cv) (hs:dY st):∀p,∀y∈az x cv st p,sZ cv y
 | 0=>fun y hy=>by
  rw[d8.mp hy]
  exact⟨pM hs,by rw[cg],fun i b s h1 h2=>by
   have h2:(cv.map (·.1))[i]?=some s:=h2
   rw[h1] at h2; cases h2; exact qH _,fun s hs'=>by
   obtain⟨p,hp,rfl⟩:=iR.mp (show s∈cv.map (·.1) from hs')
   exact(hv.u p hp).1⟩
 | p+1=>by
  have ih:=Ig (cv:=cv) hx hv hs p
  rw[dX]
  split
  ·rename_i h
   exact O7 hx hv (ih _ (mZ h).1) ih _ (cV _)
  ·exact ih
theorem xX:∀{l l':List Int} {b b':Int},b<=b'->l.length=l'.length->(∀(i:Nat) (x y:Int),l[i]?=some x->l'[i]?=some y->x<=y)->jH b l<=jH b' l'
 | [],[],b,b',h,_,_=>h
 | [],_::_,_,_,_,h,_=>by simp at h
 | _::_,[],_,_,_,h,_=>by simp at h
 | x::l,y::l',b,b',h,hl,ha=>by
  have h0:=ha 0 x y rfl rfl
  show jH (if x<b then x else b) l<=jH (if y<b' then y else b') l'
  refine xX ?_ (by simpa using hl) fun i x' y' h1 h2=>ha (i+1) x' y' h1 h2
  split <;> split <;> omega
theorem RP {cv:Cv} {sp:List Int} (hl:sp.length=cv.length) (h:∀(i:Nat) (b s:Int),(cv.map (·.1))[i]?=some b->sp[i]?=some s->s<=b):bV cv sp<=bV cv (cv.map (·.1)):=by
 unfold bV
 have key:∀(i:Nat) (x y:Int),(List.zipWith (fun(p:Int×Int) l=>p.2+l) cv sp)[i]?=some x->(List.zipWith (fun(p:Int×Int) l=>p.2+l) cv (cv.map (·.1)))[i]?=some y->x<=y:=fun i x y h1 h2=>by
  rw[Hr] at h1 h2
  cases e1:cv[i]? with
  | none=>rw[e1] at h1; cases h1
  | some q=>
   have e2:(cv.map (·.1))[i]?=some q.1:=by rw[il,e1]; rfl
   rw[e1,e2] at h2
   rw[e1] at h1
   cases e3:sp[i]? with
   | none=>rw[e3] at h1; cases h1
   | some l=>
    rw[e3] at h1
    cases h1; cases h2
    have:=h i q.1 l e2 e3
    show q.2+l<=q.2+q.1
    omega
 have l1:(List.zipWith (fun(p:Int×Int) l=>p.2+l) cv sp).length=cv.length:=by rw[Fe,hl,Nat.min_self]
 have l2:(List.zipWith (fun(p:Int×Int) l=>p.2+l) cv (cv.map (·.1))).length=cv.length:=by rw[Fe,cg,Nat.min_self]
 generalize List.zipWith (fun(p:Int×Int) l=>p.2+l) cv sp=a at key l1
 generalize List.zipWith (fun(p:Int×Int) l=>p.2+l) cv (cv.map (·.1))=b at key l2
 match a,b,l1,l2 with
 | [],[],_,_=>exact qH _
 | [],_::_,l1,l2=>rw[<- l1] at l2; simp at l2
 | _::_,[],l1,l2=>rw[<- l1] at l2; simp at l2
 | x::a,y::b,l1,l2=>
  exact xX (key 0 x y rfl rfl) (by simp at l1 l2; omega) fun i x' y' h1 h2=>key (i+1) x' y' h1 h2
theorem YS {cv:Cv} {e:En} (h:sZ cv e) (hw:bV cv (cv.map (·.1))<=23):oH cv e<=24:=by
 have:=RP h.sl h.sp
 unfold oH
 omega
theorem Ga (st:bZ) (sp:List Int):wz (Dh st sp):=by
 have hi:∀l:List Int,d9 (l.map .int)=true:=fun l=>u_.mpr fun d hd=>by obtain⟨x,_,rfl⟩:=iR.mp hd; rfl
 have ht:d9 (st.us.map jO)=true:=u_.mpr fun d hd=>by
  obtain⟨u,_,rfl⟩:=iR.mp hd
  exact hi u
 refine⟨⟨_,rfl⟩,?_,?_⟩
 ·show d9 _=true
  simp only[d9,nY,jP,hi,ht,Bool.and_self]
 ·have di:∀l:List Int,PyData.depthAll (l.map .int)<=0:=fun l=>by
   induction l with
   | nil=>exact cV _
   | cons x l ih=>show max 0 (PyData.depthAll (l.map .int))<=0; omega
  have dt:PyData.depthAll (st.us.map jO)<=1:=by
   generalize st.us=us
   induction us with
   | nil=>exact gr _
   | cons u us ih=>
    have:=di u
    show max (PyData.depthAll (u.map .int)+1) (PyData.depthAll (us.map jO))<=1
    omega
  have d1:=di st.cs
  have d2:=di sp
  unfold Dh jP
  simp only[PyData.depth,PyData.depthAll]
  omega
def yI (x:b8) (cv:Cv) (st:bZ) (bd:Option Int) (p c:Nat):Prop:=∀p' c':Nat,(p'<p\/p'=p/\c'<c)->p'<(az x cv st p').length->c'<oH cv (cC (az x cv st p') p')->mO x bd (cC (az x cv st p') p') c'=false
structure cH (x:b8) (cv:Cv) (st:bZ) (bd:Option Int) (lim:Int) (n:Nat):Prop where
 hn:(az x cv st n).length=n
 hb:yI x cv st bd n 0
 hl:n=1\/(n:Int)<=lim
structure d7 (x:b8) (cv:Cv) (st:bZ) (bd:Option Int) (lim:Int) (p c:Nat):Prop where
 hp:p<(az x cv st p).length
 hc:c<oH cv (cC (az x cv st p) p)
 hb:yI x cv st bd p c
 hk:mO x bd (cC (az x cv st p) p) c=true
 hl:(bF x cv st p c).length=1\/((bF x cv st p c).length:Int)<=lim
structure wy (x:b8) (cv:Cv) (st:bZ) (bd:Option Int) (lim:Int) (p c:Nat):Prop where
 hp:p<(az x cv st p).length
 hc:c<oH cv (cC (az x cv st p) p)
 hb:yI x cv st bd p (c+1)
 hk:(lZ x cv (cC (az x cv st p) p) p c).key∉(bF x cv st p c).map En.key
 hl:lim<=(bF x cv st p c).length
def bC (es:List En):Nat->Nat->List Int
 | 0,_=>[]
 | fuel+1,p=>match (cC es p).fr with
  | none=>[]
  | some (q,c)=>bC es fuel q++[c]
theorem fU {es r:List En} {p:Nat} (h:p<es.length):cC (es++r) p=cC es p:=by
 unfold cC
 rw[iZ,iZ,BP h]
theorem S5 {x:b8} {cv:Cv} {st:bZ} {p c:Nat} (h:p<(az x cv st p).length):cC (bF x cv st p c) p=cC (az x cv st p) p:=by
 obtain⟨r,hr⟩:=vp (x:=x) (cv:=cv) (e:=cC (az x cv st p) p) (p:=p) (es:=az x cv st p) c
 unfold bF
 rw[hr,fU h]
theorem mU {x:b8} {cv:Cv} {st:bZ} {p c:Nat}:(az x cv st p).length<=(bF x cv st p c).length:=by
 obtain⟨r,hr⟩:=vp (x:=x) (cv:=cv) (e:=cC (az x cv st p) p) (p:=p) (es:=az x cv st p) c
 unfold bF
 rw[hr,fj]; omega
theorem fP {x:b8} {cv:Cv} {st:bZ} {p c:Nat}:bF x cv st p (c+1)=if(lZ x cv (cC (az x cv st p) p) p c).key∈(bF x cv st p c).map En.key then bF x cv st p c else bF x cv st p c++[lZ x cv (cC (az x cv st p) p) p c]:=rfl
def w6 (es:List En):Prop:=∀(i q:Nat) (c:Int),i<es.length->(cC es i).fr=some (q,c)->q<i
theorem w6.snoc {es:List En} {e:En} (h:w6 es) (he:∀q c,e.fr=some (q,c)->q<es.length):w6 (es++[e]):=fun i q c hi hf=>by
 by_cases z:i<es.length
 ·rw[fU z] at hf; exact h i q c z hf
 ·have:i=es.length:=by rw[fj] at hi; simp at hi; omega
  subst this
  have ee:cC (es++[e]) es.length=e:=by unfold cC; rw[iZ,nj (cV _),qI]; rfl
  rw[ee] at hf
  exact he q c hf
theorem O6 {x:b8} {cv:Cv} {e:En} {p:Nat} {es:List En} (hp:p<es.length) (h:w6 es):∀c,w6 (Io x cv e p es c)
 | 0=>h
 | c+1=>by
  have ih:=O6 (x:=x) (cv:=cv) (e:=e) hp h c
  show w6 (wu x cv e p (Io x cv e p es c) c)
  unfold wu
  split
  ·exact ih
  ·refine ih.snoc fun q c' hf=>?_
   cases hf
   obtain⟨r,hr⟩:=vp (x:=x) (cv:=cv) (e:=e) (p:=p) (es:=es) c
   rw[hr,fj]; omega
theorem n_ {x:b8} {cv:Cv} {st:bZ}:∀p,w6 (az x cv st p)
 | 0=>fun i q c hi hf=>by
  have:i=0:=by simp[az] at hi; exact hi
  subst this
  cases hf
 | p+1=>by
  rw[dX]
  split
  ·rename_i h
   exact O6 h (n_ p) _
  ·exact n_ p
theorem Fw {x:b8} {cv:Cv} {st:bZ} {p c:Nat} (h:p<(az x cv st p).length):w6 (bF x cv st p c):=O6 h (n_ p) c
structure ZL (K:PySem.W.Frag) (mg:Str->Option Value) (aQ aV:Addr):Prop where
 Ji:mg "TooMany" = some (.ref aQ)
 S_:mg "TooWide" = some (.ref aV)
 FQ:PySem.W.excIn K aQ U_ "ValueError.__new__" = true
 FP:PySem.W.excIn K aV U_ "ValueError.__new__" = true
 Gj:PySem.W.exmOne K (.ref aQ) (.ref aQ)=some true
 Wd:PySem.W.exmOne K (.ref aV) (.ref aV)=some true
variable {aQ aV:Addr}
def Mw:Sp:=fun vs H Q _=>∃(v:V) (c:Cv),vs=[v]/\At H (Dt c) v/\c≠[]/\c.length<=100/\∀H',aD H H'->Q (.bl (decide (bV c (c.map (·.1))>23))) H'
theorem lH:aU ["curve"] ["curve"] (aH jj):=(by walk_at "c")
theorem uW (F:iV K "is_too_wide" "is_too_wide" jj f fd) (O:Co K mg) (fC:Ct P w K mg base k "most_next" ["curve","spare"] Et) (fD:Ct P w K mg base k "bursts_of" ["curve"] ue):bM P w K mg base iz (k+1) f fd ["curve"] Mw:=by
 refine F.ok lH (by rintro vs H Q E ⟨v,c,rfl,_⟩; rfl) (fun cdv A outer s H vs Q E hr h=>?_)
 obtain⟨v,c,rfl,a1,hc,hl,q⟩:=h
 have ND:=lH.nd
 refine⟨_,(aJ (aR (fO lX (pf fC hr (aj (pv 0) (aj (pf fD hr (aj (pv 0) ak)) ak))) (Fq O.yJ) (a_ _)))),?_⟩
 walk_at "rd"
 refine⟨v,c,rfl,a1,hl,fun p H1 s1 e1=>⟨v,c,p,c.map (·.1),rfl,a1.mono s1,e1,by rw[cg],hc,hl,fun H2 s2=>?_⟩⟩
 exact⟨_,_,rfl,rfl,q H2 (s1.trans s2)⟩
def Bl:Sp:=fun vs H Q _=>∃(v u cv:V) (x:b8) (st:bZ) (c:Cv),vs=[v,u,cv]/\At H (g8 x) v/\At H (jP st) u/\At H (Dt c) cv/\A_ x/\dY st/\c.length<=100/\∀p v1 p2 H',aD H H'->At H' (jP (dZ x st)) v1->H' p2=some (.tup ((c.map (·.1)).map V.int))->H' p=some (.tup [v1,.ref p2,.non,.non])->Q (.ref p) H'
theorem lJ:aU ["post","stand","curve"] ["post","stand","curve"] (aH jk):=(by walk_at "c")
theorem uX (F:iV K "first_entry" "first_entry" jk f fd) (rm:Ct P w K mg base k "lean" ["post","stand"] yX) (fD:Ct P w K mg base k "bursts_of" ["curve"] ue):bM P w K mg base iz (k+1) f fd ["post","stand","curve"] Bl:=by
 refine F.ok lJ (by rintro vs H Q E ⟨v,u,cv,x,st,c,rfl,_⟩; rfl) (fun cdv A outer s H vs Q E hr h=>?_)
 obtain⟨v,u,cv,x,st,c,rfl,a1,a2,a3,hn,hs,hl,q⟩:=h
 have ND:=lJ.nd
 refine⟨_,(aJ (aR (aX (aj (pf rm hr (aj (pv 0) (aj (pv 1) ak))) (aj (pf fD hr (aj (pv 2) ak)) (aj cY (aj cY ak))))))),?_⟩
 walk_at "rd"
 refine Lean.of a1 a2 hn hs fun u1 H1 s1 b1=>⟨cv,c,rfl,a3.mono s1,hl,fun p2 H2 s2 e2=>⟨(by decide),fun p3 H3 f3 s3 e3=>?_⟩⟩
 exact q p3 u1 p2 H3 (s1.trans (s2.trans s3)) (b1.mono (s2.trans s3)) (s3 _ _ e2) e3
theorem mG {H:Hp} {e:En} {v:V} (h:At H (nq e) v):∃a v1 p2 v3 v4,v=.ref a/\H a=some (.tup [v1,.ref p2,v3,v4])/\At H (jP e.st) v1/\H p2=some (.tup (e.sp.map V.int))/\(e.fr=none/\v3=.non/\v4=.non\/∃p c,e.fr=some (p,c)/\v3=.int (p:Nat)/\v4=.int c):=by
 obtain⟨st,sp,fr⟩:=e
 cases fr with
 | none=>
  obtain⟨a,xs,rfl,h1,k0⟩:=bA h
  obtain⟨v1,_,rfl,b1,k1⟩:=aa.aZ k0
  obtain⟨v2,_,rfl,b2,k2⟩:=aa.aZ k1
  obtain⟨p2,ys,rfl,g1,g2⟩:=bA b2
  cases cz g2
  have k2:aa H [.none,.none] _:=k2
  obtain⟨v3,_,rfl,b3,k3⟩:=aa.aZ k2
  obtain⟨v4,_,rfl,b4,k4⟩:=aa.aZ k3
  cases aa.nA k4
  unfold At at b3 b4
  subst b3 b4
  exact⟨a,v1,p2,_,_,rfl,h1,b1,g1,.inl ⟨rfl,rfl,rfl⟩⟩
 | some pc=>
  obtain⟨p,c⟩:=pc
  obtain⟨a,xs,rfl,h1,k0⟩:=bA h
  obtain⟨v1,_,rfl,b1,k1⟩:=aa.aZ k0
  obtain⟨v2,_,rfl,b2,k2⟩:=aa.aZ k1
  obtain⟨p2,ys,rfl,g1,g2⟩:=bA b2
  cases cz g2
  have k2:aa H [.int (p:Nat),.int c] _:=k2
  obtain⟨v3,_,rfl,b3,k3⟩:=aa.aZ k2
  obtain⟨v4,_,rfl,b4,k4⟩:=aa.aZ k3
  cases aa.nA k4
  unfold At at b3 b4
  subst b3 b4
  exact⟨a,v1,p2,_,_,rfl,h1,b1,g1,.inr ⟨p,c,rfl,rfl,rfl⟩⟩
def Ha:Sp:=fun vs H Q _=>∃(cv v:V) (c:Cv) (e:En),vs=[cv,v]/\At H (Dt c) cv/\At H (nq e) v/\D_ c/\sZ c e/\oH c e<=100/\∀p H',H p=none->aD H H'->H' p=some (.lst ((List.range (oH c e)).map fun(i:Nat)=>V.int i))->Q (.ref p) H'
theorem nD:aU ["curve","entry"] ["curve","entry"] (aH jR):=(by walk_at "c")
theorem wM (F:iV K "comes_next" "comes_next" jR f fd) (B:Bi mg) (fC:Ct P w K mg base k "most_next" ["curve","spare"] Et):bM P w K mg base iz (k+1) f fd ["curve","entry"] Ha:=by
 refine F.ok nD (by rintro vs H Q E ⟨cv,v,c,e,rfl,_⟩; rfl) (fun cdv A outer s H vs Q E hr h=>?_)
 obtain⟨cv,v,c,e,rfl,a1,a2,hv,he,hm,q⟩:=h
 have ND:=nD.nd
 refine⟨_,(aJ (aR (pt (K8 hr.hd) B.list tV (aj (pt (KZ) B.range DK (aj (aY bI (pf fC hr (aj (pv 0) (aj (bh aP (pv 1) ao (fun _ _=>rfl)) ak))) ao) ak)) ak)))),?_⟩
 obtain⟨a,v1,p2,v3,v4,rfl,g1,g2,g3,g4⟩:=mG a2
 walk_at "rd"
 refine Ix.tup g1 (v:=.ref p2) rfl ⟨cv,c,p2,e.sp,rfl,a1,g3,he.sl,hv.ne,(by have:=hv.n; omega),fun H1 s1=>?_⟩
 have hm0:=RN hv he.sl he.nn
 have hm':(bV c e.sp+1).toNat<=100:=hm
 refine⟨_,_,rfl,rfl,by omega,by omega,fun p3 H3 f3 s3 e3=>⟨p3,_,rfl,e3,by omega,by omega,by omega,fun l H4 f4 s4 e4=>?_⟩⟩
 have z:=s1.trans (s3.trans s4)
 exact q l H4 (aD.free (s1.trans s3) f4) z e4
def GX:Sp:=fun vs H Q _=>∃(v cv u:V) (x:b8) (c:Cv) (e:En) (cm:Int),vs=[v,cv,u,.int cm]/\At H (g8 x) v/\At H (Dt c) cv/\At H (nq e) u/\h_ x/\A_ x/\sZ c e/\c.length<=100/\∀p v1 p2 H',aD H H'->At H' (jP (qg x e cm)) v1->H' p2=some (.tup ((jJ c e.sp cm).map V.int))->H' p=some (.tup [v1,.ref p2,.int (qi x e cm)])->Q (.ref p) H'
theorem xH:aU ["post","curve","entry","come","behind","done","away","change"] ["post","curve","entry","come"] (aH uz):=(by walk_at "c")
theorem J_ (F:iV K "led_to" "led_to" uz f fd) (rm:Ct P w K mg base k "lean" ["post","stand"] yX) (kE:U5 P w K mg base k "beat" ["post","stand","come","free"] 12 yZ) (jq:Ct P w K mg base k "spares_left" ["curve","spare","come"] MK):bM P w K mg base iz (k+1) f fd ["post","curve","entry","come"] GX:=by
 refine F.ok xH (by rintro vs H Q E ⟨v,cv,u,x,c,e,cm,rfl,_⟩; rfl) (fun cdv A outer s H vs Q E hr h=>?_)
 obtain⟨v,cv,u,x,c,e,cm,rfl,a1,a2,a3,hx,hn,he,hl,q⟩:=h
 have ND:=xH.nd
 refine⟨_,(aq (cU (pfd kE hr (aj (pv 0) (aj (bh aP (pv 2) ao (fun _ _=>rfl)) (aj (pv 3) ak)))) (bL (K:=K) (n:=4) rfl rfl (aF (aG (i:=4) ND rfl (by walk_at "o")) (aF (aG (i:=5) ND rfl (by walk_at "o")) (aF (aG (i:=6) ND rfl (by walk_at "o")) (aF (aG (i:=7) ND rfl (by walk_at "o")) bK)))))) (aJ (aR (aX (aj (pf rm hr (aj (pv 0) (aj (pv 4) ak))) (aj (pf jq hr (aj (pv 1) (aj (bh aP (pv 2) ao (fun _ _=>rfl)) (aj (pv 3) ak)))) (aj (pv 6) ak))))))),?_⟩
 obtain⟨a,v1,p2,v3,v4,rfl,g1,g2,g3,g4⟩:=mG a3
 walk_at "rd"
 refine Ix.tup g1 (v:=v1) rfl ⟨v,v1,x,e.st,cm,12,rfl,a1,g2,hx,he.st,fun p5 u5 H5 s5 a5 e5=>⟨p5,_,rfl,cD.of e5,rfl,?_⟩⟩
 walk_at "rd"
 refine Lean.of (a1.mono s5) a5 hn (tK hx he.st) fun u6 H6 s6 a6=>?_
 have T9:=s5.trans s6
 refine Ix.tup (T9 _ _ g1) (v:=.ref p2) rfl ⟨cv,c,p2,e.sp,cm,rfl,a2.mono T9,T9 _ _ g3,he.sl,hl,fun p7 H7 s7 e7=>⟨(by decide),fun p8 H8 f8 s8 e8=>?_⟩⟩
 exact q p8 u6 p7 H8 (T9.trans (s7.trans s8)) (a6.mono (s7.trans s8)) (s8 _ _ e7) e8
def Bo:Sp:=fun vs H Q _=>∃(b:Int) (v:V) (aw:Int) (st:bZ),vs=[.int b,v,.int aw]/\At H (jP st) v/\∀H',aD H H'->Q (.bl (decide (st.w>b) || decide (aw>0))) H'
theorem xM:aU ["bound","behind","away"] ["bound","behind","away"] (aH uF):=(by walk_at "c")
theorem Kd (F:iV K "breaks" "breaks" uF f fd):bM P w K mg base iz (k+1) f fd ["bound","behind","away"] Bo:=by
 refine F.ok xM (by rintro vs H Q E ⟨b,v,aw,st,rfl,_⟩; rfl) (fun cdv A outer s H vs Q E hr h=>?_)
 obtain⟨b,v,aw,st,rfl,a1,q⟩:=h
 have ND:=xM.nd
 refine⟨_,(aJ (aR (Ui (fO lX (bh aP (pv 1) ao (fun _ _=>rfl)) (pv 0) (a_ _)) (NP (fO lX (pv 2) ao (a_ _)))))),?_⟩
 obtain⟨sa,sb,sc,rfl,g1,g2,g3⟩:=gk a1
 walk_at "rd"
 refine Ix.tup g1 (v:=.int st.w) rfl ⟨_,_,rfl,rfl,?_⟩
 have q1:Q (.bl (decide (b<st.w) || decide (0<aw))) H:=q H (aD.refl H)
 cases e1:decide (b<st.w) with
 | true=>rw[e1] at q1; rw[aM rfl]; exact q1
 | false=>rw[e1] at q1; rw[aK (by decide)]; exact q1
def Mz (C:Addr):Sp:=fun vs H Q E=>∃(l:Addr) (ys:List V) (lim:Int),vs=[.ref l,.int lim]/\H l=some (.lst ys)/\0<=lim/\lim<=1000/\((ys.length:Int)<lim->∀H',aD H H'->Q .non H')/\(lim<=(ys.length:Int)->∀H',aD H H'->E (.ref C) none H')
theorem nF:aU ["entries","limit"] ["entries","limit"] (aH jT):=(by walk_at "c")
theorem wN (F:iV K "check_room" "check_room" jT f fd) (B:Bi mg) (Z:ZL K mg aQ aV):bM P w K mg base (lA P w) (k+1) f fd ["entries","limit"] (Mz aQ):=by
 refine F.Wx nF (by rintro vs H Q E ⟨l,ys,lim,rfl,_⟩; rfl) (fun cdv A outer s H vs Q E KC hr h=>?_)
 obtain⟨l,ys,lim,rfl,hl,h1,h2,q1,q2⟩:=h
 have ND:=nF.nd
 refine⟨_,(aJ (dz (aW Um (pb (cQ (K:=K) rfl) B.len g_ (aj (pv 0) ak)) (pv 1) (a_ _)) (aJ (Ck ⟨Z.Ji,Z.FQ⟩ KC (aj (Uj (mR dD (mR (Uk (pv 1)) (mR dD Nz)))) ak))) bO)),?_⟩
 walk_at "rd"
 refine⟨l,ys,rfl,.inl (eV.of hl),⟨_,_,rfl,rfl,?_⟩⟩
 by_cases c1:lim<=(ys.length:Int)
 ·rw[aM (iT c1)]
  have hd:=PB (n:=lim) (k:=4) (by decide) (by omega)
  have l1:(Str.ofString "more than ").length=10:=rfl
  have l2:(Str.ofString " entries").length=8:=rfl
  have l0:Str.empty.length=0:=rfl
  have e3:(Str.empty++Str.ofString "more than " ++ tx (dg lim)++Str.ofString " entries").length<=sizeLine:=by
   simp only[Str.length_append,qm,l0,l1,l2,sizeLine_eq]; omega
  refine⟨_,rfl,?_,_,Pu (by omega) (by omega),?_,_,rfl,?_,_,rfl,e3,e3,by decide,fun H' s'=>q2 c1 H' s'⟩
  ·simp only[Str.length_append,l0,l1,sizeLine_eq]; omega
  ·rw[qm,sizeLine_eq]; omega
  ·simp only[Str.length_append,qm,l0,l1,sizeLine_eq]; omega
 ·rw[aK (by simpa using c1)]
  exact q1 (by omega) H (aD.refl H)
theorem qj {H:Hp} {es:List En} {ys:List V} (h:aa H (es.map nq) ys) {p:Nat} (hp:p<es.length):∃y,ys[p]?=some y/\At H (nq (cC es p)) y:=by
 have hl:ys.length=es.length:=by rw[h.length,cg]
 have hy:ys[p]?=some (ys[p]'(by omega)):=gP (by omega)
 obtain⟨d,e1,e2⟩:=h.get hy
 rw[il,(mZ hp).2] at e1
 cases e1
 exact⟨_,hy,e2⟩
theorem Ds (e:En):uZ (nq e)=true:=by
 have h1:=yV e.st
 have h2:=pQ e.sp
 unfold nq frD
 cases e.fr <;> simp[uZ,bJ,h1,h2]
theorem ym (es:List En):bJ (es.map nq)=true:=cZ.mpr fun d hd=>by obtain⟨e,_,rfl⟩:=iR.mp hd; exact Ds e
def FrV (fr:Option (Nat×Int)) (v3 v4:V):Prop:=fr=none/\v3=.non/\v4=.non\/∃p c,fr=some (p,c)/\v3=.int (p:Nat)/\v4=.int c
theorem qQ {es:List En} (hq:∀(i q:Nat) (c:Int),i<es.length->(cC es i).fr=some (q,c)->q<i):∀(i f g:Nat),i<es.length->i<f->i<g->bC es f i=bC es g i:=by
 intro i
 induction i using Nat.strongRecOn with
 | _ i ih=>
  intro f g hi hf hg
  obtain⟨f',rfl⟩:∃f',f=f'+1:=⟨f-1,by omega⟩
  obtain⟨g',rfl⟩:∃g',g=g'+1:=⟨g-1,by omega⟩
  unfold bC
  cases e:(cC es i).fr with
  | none=>rfl
  | some pc=>
   obtain⟨q,c⟩:=pc
   have hlt:=hq i q c hi e
   dsimp only
   rw[ih q hlt f' g' (by omega) (by omega) (by omega)]
def ud:Sp:=fun vs H Q _=>∃(l:Addr) (ys:List V) (es:List En) (p:Nat),vs=[.ref l,.int p]/\H l=some (.lst ys)/\aa H (es.map nq) ys/\p<es.length/\es.length<=1000/\(∀(i q:Nat) (c:Int),i<es.length->(cC es i).fr=some (q,c)->q<i)/\∀r H',H r=none->aD H H'->H' r=some (.lst ((bC es es.length p).map V.int))->Q (.ref r) H'
theorem uh:aU ["entries","place","load","came_from","come"] ["entries","place"] (aH qw):=(by walk_at "c")
theorem Fx (F:iV K "load_to" "load_to" qw f fd):bM P w K mg base iz (k+1) f fd ["entries","place"] ud:=by
 refine F.ok uh (by rintro vs H Q E ⟨l,ys,es,p,rfl,_⟩; rfl) (fun cdv A outer s H vs Q E hr h=>?_)
 obtain⟨l,ys,es,p,rfl,hl,ha,hp,hn,hq,q⟩:=h
 have ND:=uh.nd
 refine⟨_,(aq (bf (i:=2) ND rfl (by walk_at "o") (bT ak)) (aq (cU (dI ik (bh aP (pv 0) (pv 1) (fun _ _=>rfl)) (dW ao) gJ) (bL (K:=K) (n:=2) rfl rfl (aF (aG (i:=3) ND rfl (by walk_at "o")) (aF (aG (i:=4) ND rfl (by walk_at "o")) bK)))) (aq (Cj PassesOwn.never (aW tG (pv 4) cY (a_ _)) (aq (jb (nU (K:=K) rfl PySem.F.plainAttrs_list PySem.F.slot_list_append PySem.F.type_list_append gA (pv 2) (aj (pv 4) ak))) (aJ (cU (dI ik (bh aP (pv 0) (pv 3) (fun _ _=>rfl)) (dW ao) gJ) (bL (K:=K) (n:=2) rfl rfl (aF (aG (i:=3) ND rfl (by walk_at "o")) (aF (aG (i:=4) ND rfl (by walk_at "o")) bK))))))) (aJ (aR (Rq (K:=K) rfl (pv 2) (dW (nH je ao)))))))),?_⟩
 walk_at "rd"
 refine⟨gr _,fun r H1 f1 s1 e1=>?_⟩
 obtain⟨y,y1,y2⟩:=qj ha hp
 obtain⟨ea,v1,p2,v3,v4,rfl,g1,_,_,g4⟩:=mG y2
 refine Ix.lst (s1 _ _ hl) (bx y1) ⟨ea,_,rfl,s1 _ _ g1,fun p3 H3 s3 e3=>?_⟩
 rw[pW (by decide)] at e3
 have e3:H3 p3=some (.tup [v3,v4]):=e3
 refine⟨p3,_,rfl,cD.of e3,rfl,?_⟩
 walk_at "rd"
 have rl:r≠l:=fun z=>by rw[z,hl] at f1; cases f1
 have fuel:=qQ hq
 refine⟨fun m σ H'=>∃(i:Nat) (acc:List Int) (w3 w4:V),σ=[some (.ref l),some (.int p),some (.ref r),some w3,some w4]/\i<es.length/\m=i+(if(cC es i).fr=none then 0 else 1)/\FrV (cC es i).fr w3 w4/\bC es es.length p=bC es es.length i++acc.reverse/\acc.length+i<=es.length/\H' r=some (.lst (acc.map V.int))/\aD H H',⟨_,p,[],v3,v4,rfl,hp,rfl,g4,by simp,by simp; omega,s3 _ _ e1,s1.trans s3⟩,?_⟩
 rintro m σ H4 ⟨i,acc,w3,w4,rfl,hi,hm,hf,hpa,hal,e4,s4⟩
 walk_at "rd"
 refine⟨trivial,?_⟩
 rcases hf with⟨z1,rfl,rfl⟩ | ⟨q',c,z1,rfl,rfl⟩
 ·rw[aK (by decide)]
  have ep:bC es es.length i=[]:=by
   obtain⟨f',hf'⟩:∃f',es.length=f'+1:=⟨es.length-1,by omega⟩
   rw[hf']
   unfold bC
   rw[z1]
  rw[ep,xQ] at hpa
  unfold Tt
  walk_at "rd"
  refine⟨trivial,r,_,rfl,eV.of e4,fun p5 f5=>?_⟩
  refine q p5 _ (aD.free s4 f5) (s4.trans (aO f5 _)) ?_
  rw[aC,hpa,List.map_reverse]
 ·rw[aM (by simp)]
  have hlt:=hq i q' c hi z1
  refine⟨_,fun σ' H' z=>z,.inl ⟨rfl,_,eV.of e4⟩,r,_,_,rfl,rfl,e4,by rw[cg]; exact bB (by omega),?_⟩
  have s5:aD H (upd H4 r (.lst (acc.map V.int++[V.int c]))):=s4.dG (by exact f1)
  have e5:upd H4 r (.lst (acc.map V.int++[V.int c])) r=some (.lst ((acc++[c]).map V.int)):=by rw[aC,gY]; rfl
  generalize upd H4 r (.lst (acc.map V.int++[V.int c]))=H5 at s5 e5
  obtain⟨y',Z2,Xc⟩:=qj ha (show q'<es.length by omega)
  obtain⟨ea',v1',p2',v3',v4',rfl,g1',_,_,g4'⟩:=mG Xc
  refine Ix.lst (s5 _ _ hl) (bx Z2) ⟨ea',_,rfl,s5 _ _ g1',fun p6 H6 s6 e6=>?_⟩
  rw[pW (by decide)] at e6
  have e6:H6 p6=some (.tup [v3',v4']):=e6
  refine⟨p6,_,rfl,cD.of e6,rfl,?_⟩
  walk_at "rd"
  have ep:bC es es.length i=bC es es.length q'++[c]:=by
   obtain⟨f',hf'⟩:∃f',es.length=f'+1:=⟨es.length-1,by omega⟩
   rw[fuel q' es.length f' (by omega) (by omega) (by omega),hf']
   conv=>lhs; unfold bC
   rw[z1]
  refine⟨_,?_,q',acc++[c],v3',v4',rfl,by omega,rfl,g4',?_,by rw[fj]; simp; omega,s6 _ _ e5,s5.trans s6⟩
  ·have hm':m=i+1:=by rw[hm,z1]; rfl
   split <;> omega
  ·rw[hpa,ep,List.reverse_append,zr]; rfl
variable {aQ aV:Addr}
theorem JK.of {H:Hp} {l b:Addr} {xs zs:List V} {Q:VK} (h1:H l=some (.lst xs)) (h2:H b=some (.lst zs)) (hn:xs.length+zs.length<=sizeLine) (q:∀p H',H p=none->aD H H'->H' p=some (.lst (xs++zs))->Q (.ref p) H'):JK (.ref l) (.ref b) H Q:=
 ⟨l,b,xs,zs,rfl,rfl,h1,h2,hn,fun p fp=>q p _ fp (aO fp _) aC⟩
theorem V2 {xs ys:List V} (h:xs.length+ys.length<=1000):xs.length+ys.length<=sizeLine:=lQ (bB h)
theorem uP {es:List En} (hq:w6 es):∀(f i:Nat),(bC es f i).length<=f
 | 0,_=>cV _
 | f+1,i=>by
  unfold bC
  split
  ·exact gr _
  ·rw[fj]
   have:=uP hq f
   rename_i q c _
   have:=this q
   simp
   omega
def WN:Option Int->V
 | none=>.non
 | some b=>.int b
def UG (H H':Hp) (es:List En) (w:V) (v:V):Prop:=∃p l ys,v=.ref p/\H' p=some (.tup [.ref l,w])/\H l=none/\H' l=some (.lst ys)/\aa H' (es.map nq) ys
def uc (CM CW:Addr):Sp:=fun vs H Q E=>∃(v u cv:V) (x:b8) (st:bZ) (c:Cv) (bd:Option Int) (lim:Int),vs=[v,u,cv,WN bd,.int lim]/\At H (g8 x) v/\At H (jP st) u/\At H (Dt c) cv/\h_ x/\A_ x/\dY st/\D_ c/\0<=lim/\lim<=900 /\
 (23<bV c (c.map (·.1))->∀H',aD H H'->E (.ref CW) none H') /\
 (bV c (c.map (·.1))<=23->∀n,cH x c st bd lim n->∀v' H',aD H H'->UG H H' (az x c st n) .non v'->Q v' H') /\
 (bV c (c.map (·.1))<=23->∀p cc,d7 x c st bd lim p cc->∀v' r H',aD H H'->H r=none->H' r=some (.lst ((bC (bF x c st p cc) (bF x c st p cc).length p++[(cc:Int)]).map V.int))->UG H H' (bF x c st p cc) (.ref r) v'->Q v' H') /\
 (bV c (c.map (·.1))<=23->∀p cc,wy x c st bd lim p cc->∀H',aD H H'->E (.ref CM) none H')
theorem xr:aU ["post","stand","curve","bound","limit","entries","met","place","come","behind","spare","away"] ["post","stand","curve","bound","limit"] (aH uv):=(by walk_at "c")
theorem J6 (F:iV K "walked" "walked" uv f fd) (B:Bi mg) (O:Co K mg) (Z:ZL K mg aQ aV) (ju:Ct P w K mg base k "is_too_wide" ["curve"] Mw) (jw:Ct P w K mg base k "first_entry" ["post","stand","curve"] Bl) (kj:Ct P w K mg base k "comes_next" ["curve","entry"] Ha)
  (vW:Ct P w K mg base k "led_to" ["post","curve","entry","come"] GX) (vZ:Ct P w K mg base k "breaks" ["bound","behind","away"] Bo) (km:Lj P w K mg base k "check_room" ["entries","limit"] (Mz aQ)) (iy:Ct P w K mg base k "load_to" ["entries","place"] ud) :
  bM P w K mg base (lA P w) (k+1) f fd ["post","stand","curve","bound","limit"] (uc aQ aV):=by
 refine F.Wx xr (by rintro vs H Q E ⟨v,u,cv,x,st,c,bd,lim,rfl,_⟩; rfl) (fun cdv A outer s H vs Q E KC hr h=>?_)
 obtain⟨v,u,cv,x,st,c,bd,lim,rfl,a1,a2,a3,hx,hn,hs,hv,hl1,hl2,qW,qD,qB,qM⟩:=h
 have ND:=xr.nd
 refine⟨_,(aq (dz (qN (pf ju hr (aj (pv 2) ak))) (aJ (Ck ⟨Z.S_,Z.FP⟩ KC (aj (Uj (mR dD (mR (Uk (Fq O.yJ)) (mR dD Nz)))) ak))) bO) (aq (bf (i:=5) ND rfl (by walk_at "o") (bT (aj (pf jw hr (aj (pv 0) (aj (pv 1) (aj (pv 2) ak)))) ak))) (aq (bf (i:=6) ND rfl (by walk_at "o") (Fv K3 (by rfl) B.set Wk)) (aq (jb (Hw hr.units (pv 6) (aj (dI ik (bh aP (pv 5) ao (fun _ _=>rfl)) gJ (dW ao)) ak))) (aq (bf (i:=7) ND rfl (by walk_at "o") ao) (aq (Cj PassesOwn.leaving (aW Cu (pv 7) (pb (cQ (K:=K) rfl) B.len g_ (aj (pv 5) ak)) (a_ _)) (aq (jW PassesOwn.leaving rfl (lV (K:=K) rfl (pf kj hr (aj (pv 2) (aj (bh aP (pv 5) (pv 7) (fun _ _=>rfl)) ak)))) (aG (i:=8) ND rfl (by walk_at "o")) (aq (cU (pf vW hr (aj (pv 0) (aj (pv 2) (aj (bh aP (pv 5) (pv 7) (fun _ _=>rfl)) (aj (pv 8) ak))))) (bL (K:=K) (n:=3) rfl rfl (aF (aG (i:=9) ND rfl (by walk_at "o")) (aF (aG (i:=10) ND rfl (by walk_at "o")) (aF (aG (i:=11) ND rfl (by walk_at "o")) bK))))) (aq (dz (PW.pt (jV (aW tG (pv 3) cY (a_ _)) (i_ (qN (pf vZ hr (aj (pv 3) (aj (pv 9) (aj (pv 11) ak)))))))) (aJ (aR (aX (aj (pv 5) (aj (aY Ob (pf iy hr (aj (pv 5) (aj (pv 7) ak))) (bT (aj (pv 8) ak))) ak))))) bO) (aJ (dz (aW (J5 hr.units) (aX (aj (pv 9) (aj (pv 10) ak))) (pv 6) (by with_unfolding_all rfl)) (aq (jb (Yg km hr (aj (pv 5) (aj (pv 4) ak)))) (aq (jb (Hw hr.units (pv 6) (aj (aX (aj (pv 9) (aj (pv 10) ak))) ak))) (aJ (jb (nU (K:=K) rfl PySem.F.plainAttrs_list PySem.F.slot_list_append PySem.F.type_list_append gA (pv 5) (aj (aX (aj (pv 9) (aj (pv 10) (aj (pv 7) (aj (pv 8) ak))))) ak)))))) bO))))) (aJ (uN (i:=7) ND rfl (by walk_at "o") ao Gd)))) (aJ (aR (aX (aj (pv 5) (aj cY ak))))))))))),?_⟩
 simp only[M4]
 walk_at "rd"
 refine eN.of (fun σ' H'=>bV c (c.map (·.1))<=23/\aD H H'/\σ'=[some v,some u,some cv,some (WN bd),some (.int lim),none,none,none,none,none,none,none]) ?_ ?_
 rotate_left 1
 ·intro N Zx
  walk_at "rd"
  refine⟨cv,c,rfl,a3,hv.ne,(by have:=hv.n; omega),fun H1 s1=>⟨_,rfl,?_⟩⟩
  by_cases c1:bV c (c.map (·.1))>23
  ·rw[aM (iT c1)]
   have hd:=PB (n:=23) (k:=4) (by decide) (by decide)
   have l1:(Str.ofString "more than ").length=10:=rfl
   have l2:(Str.ofString " units may come in a beat").length=25:=rfl
   have l0:Str.empty.length=0:=rfl
   have e3:(Str.empty++Str.ofString "more than " ++ tx (dg 23)++Str.ofString " units may come in a beat").length<=sizeLine:=by
    simp only[Str.length_append,qm,l0,l1,l2,sizeLine_eq]; omega
   refine⟨_,rfl,?_,_,Pu (by decide) (by decide),?_,_,rfl,?_,_,rfl,e3,e3,by decide,fun H' s'=>qW (by omega) H' (s1.trans s')⟩
   ·simp only[Str.length_append,l0,l1,sizeLine_eq]; omega
   ·rw[qm,sizeLine_eq]; omega
   ·simp only[Str.length_append,qm,l0,l1,sizeLine_eq]; omega
  ·rw[aK (by simpa using c1)]
   exact Zx _ _ ⟨by omega,s1,rfl⟩
 rintro σ' H1 ⟨hW,s1,rfl⟩
 walk_at "rd"
 refine⟨v,u,cv,x,st,c,rfl,a1.mono s1,a2.mono s1,a3.mono s1,hn,hs,(by have:=hv.n; omega),fun pe v1 p2 H2 s2 b1 b2 b3=>⟨(by decide),fun l H3 f3 s3 e3=>⟨trivial,fun m H4 f4 s4 n4 hφ=>⟨⟨m,[],rfl,n4⟩,?_⟩⟩⟩⟩
 clear hφ
 have s34:=s3.trans s4
 have Ua:=s1.trans (s2.trans s34)
 refine Ix.lst (s4 _ _ e3) (v:=.ref pe) (bx (j:=0) rfl) ⟨pe,_,rfl,s34 _ _ b3,fun p5 H5 s5 e5=>?_⟩
 rw[qY (by decide)] at e5
 have e5:H5 p5=some (.tup [v1,.ref p2]):=e5
 have Qy:=s34.trans s5
 have k5:nM H5 (Dh (dZ x st) (c.map (·.1))) (.ref p5):=⟨Ga _ _,At.tup e5 (aa.cons (b1.mono Qy) (aa.cons (At.tup (Qy _ _ b2) (bu _)) aa.nil))⟩
 refine⟨m,[],.ref p5,_,rfl,rfl,n4.same s5,by decide,k5,fun H6 p6=>?_⟩
 have fl:H l=none:=aD.free (s1.trans s2) f3
 have fm:H m=none:=aD.free (s1.trans (s2.trans s3)) f4
 have lm:l≠m:=fun z=>by rw[z] at e3; rw[e3] at f4; cases f4
 have s6:aD H H6:=fG.same p6 (Ua.trans s5) fm
 have e6:H6 l=some (.lst [.ref pe]):=fG.lst (n4.same s5) p6 _ _ (s5 _ _ (s4 _ _ e3))
 have a6:aa H6 ((az x c st 0).map nq) [.ref pe]:=by
  refine aa.cons (fG.at (n4.same s5) p6 (Ds _) (At.tup (Qy _ _ b3) (aa.cons (b1.mono Qy) (aa.cons (At.tup (Qy _ _ b2) (bu _)) (aa.cons At.non (aa.cons At.non aa.nil)))))) aa.nil
 have n6:fY H6 m ((az x c st 0).map En.key):=p6.2
 clear p6 n4 k5 e5 b1 b2 b3 e3
 obtain⟨Wh,hWh⟩:∃Wh:Nat->St->Hp->Prop,∀mm σ H',Wh mm σ H'↔(∃(p:Nat) (ys:List V) (o8 o9 Wz Wy:Option V),σ=[some v,some u,some cv,some (WN bd),some (.int lim),some (.ref l),some (.ref m),some (.int p),o8,o9,Wz,Wy]/\mm=2000-p/\p<=(az x c st p).length/\((az x c st p).length=1\/((az x c st p).length:Int)<=lim)/\yI x c st bd p 0/\H' l=some (.lst ys)/\aa H' ((az x c st p).map nq) ys/\fY H' m ((az x c st p).map En.key)/\aD H H'):=⟨_,fun _ _ _=>Iff.rfl⟩
 refine⟨Wh,⟨_,(hWh _ _ _).mpr ⟨0,_,_,_,_,_,rfl,rfl,gr _,.inl rfl,fun p' c' h=>by omega,e6,a6,n6,s6⟩⟩,?_⟩
 clear e6 a6 n6 s6
 intro mm σ H7 hw7
 obtain⟨p,ys,o8,o9,Wz,Wy,rfl,hmm,hp,hlen,hnb,e7,a7,n7,s7⟩:=(hWh _ _ _).mp hw7
 walk_at "rd"
 refine⟨l,ys,rfl,.inl (eV.of e7),?_⟩
 have hyl:ys.length=(az x c st p).length:=by rw[a7.length,cg]
 have hlim:(az x c st p).length<=901:=by rcases hlen with z | z <;> omega
 refine⟨_,_,rfl,rfl,?_⟩
 by_cases c1:(p:Int)<ys.length
 ·rw[aM (iT c1)]
  have hp':p<(az x c st p).length:=by omega
  refine⟨_,fun σ' H' z=>z,?_⟩
  rw[tZ]
  walk_at "rd"
  obtain⟨y,y1,y2⟩:=qj a7 hp'
  have hE:=Ig hx hv hs p _ (mZ hp').1
  have hcm:=YS hE hW
  refine Ix.lst e7 (bx y1) ⟨cv,y,c,_,rfl,a3.mono s7,y2,hv,hE,by omega,fun lc H8 f8 s8 e8=>?_⟩
  have e8l:=s8 _ _ e7
  have lcl:lc≠l:=fun z=>by rw[z,e7] at f8; cases f8
  have flc:H lc=none:=aD.free s7 f8
  obtain⟨Pv,hPv⟩:∃Pv:Nat->St->Hp->Prop,∀i σ H',Pv i σ H'↔(∃(zs:List V) (o8 o9 Wz Wy:Option V),σ=[some v,some u,some cv,some (WN bd),some (.int lim),some (.ref l),some (.ref m),some (.int p),o8,o9,Wz,Wy]/\((bF x c st p i).length=1\/((bF x c st p i).length:Int)<=lim)/\yI x c st bd p i/\H' l=some (.lst zs)/\aa H' ((bF x c st p i).map nq) zs/\fY H' m ((bF x c st p i).map En.key)/\H' lc=some (.lst ((List.range (oH c (cC (az x c st p) p))).map fun i:Nat=>V.int i))/\aD H H'):=⟨_,fun _ _ _=>Iff.rfl⟩
  refine LK.of e8 Pv ((hPv _ _ _).mpr ⟨_,_,_,_,_,rfl,hlen,hnb,e8l,a7.mono s8,n7.same s8,e8,s7.trans s8⟩) (fun i σ H' _ hh=>by obtain⟨_,_,_,_,_,_,_,_,_,_,_,z,_⟩:=(hPv _ _ _).mp hh; exact z) ?_ ?_
  ·intro i w σ H9 hw hw9
   obtain⟨zs,o8,o9,Wz,Wy,rfl,hl9,hb9,e9,a9,n9,c9,s9⟩:=(hPv _ _ _).mp hw9
   have hi:i<oH c (cC (az x c st p) p):=by
    have:=(nG.mp hw).1
    simpa using this
   have ew:w=.int (i:Nat):=by
    rw[il,List.getElem?_range hi] at hw
    exact(Option.some.inj hw).symm
   subst ew
   have hlz:zs.length=(bF x c st p i).length:=by rw[a9.length,cg]
   have pp:p<(bF x c st p i).length:=jU hp' mU
   have adl:(bF x c st p i).length<=901:=by rcases hl9 with z | z <;> omega
   obtain⟨y',Z2,Xc⟩:=qj a9 pp
   rw[S5 hp'] at Xc
   walk_at "rd"
   refine Ix.lst e9 (bx Z2) ⟨v,cv,y',x,c,_,i,rfl,a1.mono s9,a3.mono s9,Xc,hx,hn,hE,(by have:=hv.n; omega),fun pt v1 p2 Aw rH b1 b2 b3=>⟨pt,_,rfl,cD.of b3,rfl,?_⟩⟩
   walk_at "rd"
   have hi':=hi
   generalize Wa:cC (az x c st p) p=e at hE hcm e8 c9 hi y2 Xc b1 b2 b3
   have ac9:=s9.trans rH
   refine eN.of (fun σ' H'=>mO x bd e i=false/\aD Aw H'/\σ'=[some v,some u,some cv,some (WN bd),some (.int lim),some (.ref l),some (.ref m),some (.int p),some (.int i),some v1,some (.ref p2),some (.int (qi x e i))]) ?_ ?_
   rotate_left 1
   ·intro N Zx
    walk_at "rd"
    refine⟨trivial,?_⟩
    cases bd with
    | none=>
     rw[aK (by decide)]
     exact Zx _ _ ⟨rfl,aD.refl _,rfl⟩
    | some b=>
     rw[aM (by simp[WN])]
     refine⟨b,v1,_,_,rfl,b1,fun Lh DX=>⟨_,rfl,?_⟩⟩
     have eb:(decide ((qg x e i).w>b) || decide (qi x e i>0))=mO x (some b) e i:=rfl
     rw[eb]
     cases Zv:mO x (some b) e i with
     | false=>
      rw[aK (by decide)]
      exact Zx _ _ ⟨Zv,DX,rfl⟩
     | true=>
      rw[aM rfl]
      have Lz:=rH.trans DX
      refine⟨l,zs,_,p,rfl,Lz _ _ e9,a9.mono Lz,pp,by omega,Fw hp',fun r ZW f12 s12 Wf=>⟨(by decide),fun p13 U4 YG Az Sw=>?_⟩⟩
      have hpl:=uP (Fw (x:=x) (cv:=c) (st:=st) (c:=i) hp') (bF x c st p i).length p
      refine JK.of (Az _ _ Wf) Sw (V2 (by rw[cg]; show _+1<=1000; omega)) fun p14 W2 ZC JD Sv=>⟨(by decide),fun Ru U3 f15 Ww Su=>?_⟩
      have Ly:=Lz.trans s12
      have Xb:=Ly.trans Az
      have Z0:=Xb.trans (JD.trans Ww)
      refine qB hW p i ⟨hp',hi',hb9,by rw[Wa]; exact Zv,hl9⟩ _ p14 U3 (s9.trans Z0) (aD.free (s9.trans Xb) ZC) ?_ ⟨Ru,l,zs,rfl,Su,fl,Z0 _ _ e9,a9.mono Z0⟩
      rw[gY]
      exact Ww _ _ Sv
   rintro σ' Lh ⟨Zv,DX,rfl⟩
   walk_at "rd"
   have hb':yI x c st bd p (i+1):=fun p' c' h1 h2 h3=>by
    by_cases z:p'=p/\c'=i
    ·obtain⟨rfl,rfl⟩:=z
     rw[Wa]; exact Zv
    ·exact hb9 p' c' (by omega) h2 h3
   refine⟨(by decide),fun p12 ZW f12 s12 Wf=>?_⟩
   have Ly:=rH.trans (DX.trans s12)
   have Lz:=DX.trans s12
   have k12:nM ZW (lZ x c e p i).key (.ref p12):=⟨Ga _ _,At.tup Wf (aa.cons (b1.mono Lz) (aa.cons (At.tup (Lz _ _ b2) (bu _)) aa.nil))⟩
   refine⟨m,_,_,rfl,n9.same Ly,k12,?_⟩
   by_cases hk:(lZ x c e p i).key∈(bF x c st p i).map En.key
   ·rw[iT hk,aK (by decide)]
    have ep:bF x c st p (i+1)=bF x c st p i:=by rw[fP,Wa,aM hk]
    refine(hPv _ _ _).mpr ?_
    rw[ep]
    exact⟨zs,_,_,_,_,rfl,hl9,hb',Ly _ _ e9,a9.mono Ly,n9.same Ly,(by rw[Wa]; exact Ly _ _ c9),s9.trans Ly⟩
   ·rw[fX hk,aM (by decide)]
    have ep:bF x c st p (i+1)=bF x c st p i++[lZ x c e p i]:=by rw[fP,Wa,aK hk]
    refine⟨l,zs,lim,rfl,Ly _ _ e9,hl1,by omega,fun hroom U4 Az=>?_,fun hroom U4 Az W2 JD=>?_⟩
    ·have Xb:=Ly.trans Az
     have n13:=n9.same Xb
     refine⟨⟨m,_,rfl,n13⟩,(by decide),fun p14 W2 ZC JD Sv=>?_⟩
     have Xa:=Xb.trans JD
     have QH:=Lz.trans (Az.trans JD)
     have n14:=n9.same Xa
     have k14:nM W2 (lZ x c e p i).key (.ref p14):=⟨Ga _ _,At.tup Sv (aa.cons (b1.mono QH) (aa.cons (At.tup (QH _ _ b2) (bu _)) aa.nil))⟩
     refine⟨m,_,_,_,rfl,rfl,n14,by rw[cg]; omega,k14,fun U3 Ru=>?_⟩
     have Su:=fG.lst n14 Ru _ _ (Xa _ _ e9)
     have c15:=fG.lst n14 Ru _ _ (Xa _ _ c9)
     have a15:aa U3 ((bF x c st p i).map nq) zs:=aa.tupS (fG.tup n14 Ru) _ _ (ym _) (a9.mono Xa)
     have b15:At U3 (jP (qg x e i)) v1:=fG.at n14 Ru (yV _) (b1.mono QH)
     have d15:=fG.tup n14 Ru _ _ (QH _ _ b2)
     have Ww:aD H U3:=fG.same Ru (s9.trans Xa) fm
     have n15:=Ru.2
     refine⟨.inl ⟨rfl,_,eV.of Su⟩,(by decide),fun p16 H16 f16 Lk We=>⟨l,zs,_,rfl,rfl,Lk _ _ Su,by rw[hlz]; exact bB (by omega),?_⟩⟩
     have YM:=Lk _ _ Su
     have tk:∀b xs,H16 b=some (.tup xs)->upd H16 l (.lst (zs++[.ref p16])) b=some (.tup xs):=fun b xs hb=>by
      rw[aL (fun z=>by rw[z,YM] at hb; cases hb)]; exact hb
     refine(hPv _ _ _).mpr ⟨zs++[.ref p16],_,_,_,_,rfl,.inr ?_,hb',aC,?_,?_,?_,(Ww.trans Lk).dG fl⟩
     ·rw[ep,fj]
      show((_+1:Nat):Int)<=lim
      omega
     ·rw[ep,gY]
      refine aa.tupS tk _ _ (by rw[<- List.map_singleton,<- gY]; exact ym _) ((a15.mono Lk).append (aa.cons ?_ aa.nil))
      exact At.tup We (aa.cons (b15.mono Lk) (aa.cons (At.tup (Lk _ _ d15) (bu _)) (aa.cons (At.int _) (aa.cons (At.int _) aa.nil))))
     ·rw[ep,gY]
      exact(n15.same Lk).Z5 YM
     ·rw[aL lcl,Wa]; exact Lk _ _ c15
    ·exact qM hW p i ⟨hp',hi',hb',by rw[Wa]; exact hk,by omega⟩ W2 (s9.trans (Ly.trans (JD Az)))
  ·intro σ H9 hw9
   obtain⟨zs,o8,o9,Wz,Wy,rfl,hl9,hb9,e9,a9,n9,c9,s9⟩:=(hPv _ _ _).mp hw9
   rw[cg,Hj] at hl9 hb9 a9 n9
   rw[<- jK hp'] at hl9 a9 n9
   walk_at "rd"
   refine⟨_,rfl,_,_,rfl,rfl,_,?_,(hWh _ _ _).mpr ⟨p+1,zs,_,_,_,_,rfl,rfl,?_,hl9,fun p' c' h1 h2 h3=>?_,e9,a9,n9,s9⟩⟩
   ·omega
   ·have:=l_ (x:=x) (cv:=c) (st:=st) (show p<=p+1 by omega); omega
   ·by_cases z:p'=p
    ·subst z; exact hb9 _ c' (.inr ⟨rfl,h3⟩) h2 h3
    ·exact hb9 p' c' (.inl (by omega)) h2 h3
 ·rw[aK (by simpa using c1)]
  refine⟨(by decide),fun p8 H8 f8 s8 e8=>?_⟩
  have ep:(az x c st p).length=p:=by omega
  refine qD hW p ⟨ep,hnb,by rcases hlen with z | z <;> omega⟩ _ H8 (s7.trans s8) ⟨p8,l,ys,rfl,e8,fl,s8 _ _ e7,a7.mono s8⟩
variable {aQ aV:Addr}
def T4 (CM CW:Addr):Sp:=fun vs H Q E=>∃(v u cv:V) (x:b8) (st:bZ) (c:Cv) (lim:Int),vs=[v,u,cv,.int lim]/\At H (g8 x) v/\At H (jP st) u/\At H (Dt c) cv/\h_ x/\A_ x/\dY st/\D_ c/\0<=lim/\lim<=900 /\
 (23<bV c (c.map (·.1))->∀H',aD H H'->E (.ref CW) none H') /\
 (bV c (c.map (·.1))<=23->∀n,cH x c st none lim n->∀l ys H',aD H H'->H l=none->H' l=some (.lst ys)->aa H' ((az x c st n).map nq) ys->Q (.ref l) H') /\
 (bV c (c.map (·.1))<=23->∀p cc,wy x c st none lim p cc->∀H',aD H H'->E (.ref CM) none H')
theorem M5:aU ["post","stand","curve","limit"] ["post","stand","curve","limit"] (aH M7):=(by walk_at "c")
theorem VG {T:Addr} {tk:Tok} (F:sY K "led" "led" M7 f fd T 300 tk) (jN:Lj P w K mg base k "walked" ["post","stand","curve","bound","limit"] (uc aQ aV)) :
  bM P w K mg base (lA P w) (k+1) f fd ["post","stand","curve","limit"] (T4 aQ aV):=by
 refine F.Wx M5 (by rintro vs H Q E ⟨v,u,cv,x,st,c,lim,rfl,_⟩; rfl) (fun cdv A outer s H vs Q E KC hr h=>?_)
 obtain⟨v,u,cv,x,st,c,lim,rfl,a1,a2,a3,hx,hn,hs,hv,hl1,hl2,qW,qD,qM⟩:=h
 have ND:=M5.nd
 refine⟨_,(aJ (aR (bh aP (Yg jN hr (aj (pv 0) (aj (pv 1) (aj (pv 2) (aj cY (aj (pv 3) ak)))))) ao (fun _ _=>rfl)))),?_⟩
 walk_at "rd"
 refine⟨v,u,cv,x,st,c,none,lim,rfl,a1,a2,a3,hx,hn,hs,hv,hl1,hl2,fun h H' s' H3 s3=>qW h H3 (s3 s'),fun h n D v' H' s' ⟨p,l,ys,e1,e2,e3,e4,e5⟩=>?_,fun h p cc Bk=>?_,fun h p cc M H' s' H3 s3=>qM h p cc M H3 (s3 s')⟩
 ·subst e1
  exact Ix.tup e2 (v:=.ref l) rfl (qD h n D l ys H' s' e3 e4 e5)
 ·exact absurd Bk.hk (by show ¬false=true; decide)
def GQ:Sp:=fun vs H Q _=>∃(a:Addr) (n:Nat),vs=[.ref a]/\Tp H a n/\n<=100000000/\∀p x H',PsT x->x.m<=10->At (hid a H') (g8 x) (.ref p)->Tp H' a (n+400)->SX a H H'->Q (.ref p) H'
theorem kO:aU ["_law_tape_here","_law_least_here","_law_rules","_law_hands","_law_rests","_law_late","_law_every","_law_k"] ["_law_tape_here"] (aH iB):=(by walk_at "c")
theorem sS (F:iV K "_law_small_post" "_law_small_post" iB f fd) (B:Bi mg) (bj:Ct P w K mg base k "_law_draw" ["_law_tape_here","_law_many"] qt) (SQ:Ct P w K mg base k "_law_row" ["_law_tape_here"] Er) :
  bM P w K mg base iz (k+1) f fd ["_law_tape_here"] GQ:=by
 refine F.ok kO (by rintro vs H Q E ⟨a,n,rfl,_⟩; rfl) (fun cdv A outer s H vs Q E hr h=>?_)
 obtain⟨a,n,rfl,tp,hn,q⟩:=h
 have ND:=kO.nd
 refine⟨_,(aq (zu (i:=1) (j:=2) rfl ND rfl rfl (by decide) rfl rfl (aj (pf bj hr (aj (pv 0) (aj ao ak))) (aj (bT ak) ak)) (by rfl)) (aq (bf (i:=3) ND rfl (by walk_at "o") (aX (aj (pv 1) (aj (aY bI (aY bI (pv 1) ao) (pf bj hr (aj (pv 0) (aj ao ak)))) ak)))) (aq (bf (i:=4) ND rfl (by walk_at "o") (bh aP (bT (aj (aX (aj ao (aj ao ak))) (aj (aX (aj ao (aj ao ak))) (aj (aX (aj ao (aj ao ak))) (aj (aX (aj ao (aj ao ak))) ak))))) (pf bj hr (aj (pv 0) (aj ao ak))) (fun _ _=>rfl))) (aq (zu (i:=5) (j:=6) rfl ND rfl rfl (by decide) rfl rfl (aj (bh aP (bT (aj ao (aj ao (aj ao (aj ao ak))))) (pf bj hr (aj (pv 0) (aj ao ak))) (fun _ _=>rfl)) (aj (bh aP (bT (aj ao (aj ao (aj ao (aj ao ak))))) (pf bj hr (aj (pv 0) (aj ao ak))) (fun _ _=>rfl)) ak)) (by rfl)) (aq (jW PassesOwn.never rfl (fu (by rfl) B.range (aj (pf bj hr (aj (pv 0) (aj ao ak))) ak)) (aG (i:=7) ND rfl (by walk_at "o")) (aJ (jb (nU (K:=K) rfl PySem.F.plainAttrs_list PySem.F.slot_list_append PySem.F.type_list_append gA (pv 2) (aj (pt (cP) B.tuple dC (aj (jZ (N':=["_law_j","_law_tape_here"]) (js:=[0]) rfl (fu (by rfl) B.range (aj (aY bI ao (pf bj hr (aj (pv 0) (aj ao ak)))) ak)) Ax.mk1 rfl (by decide) rfl (fun fp s' H'=>(pf SQ hr (aj (pv 1) ak)))) ak)) ak))))) (aJ (aR (aX (aj (aY bI ao (pf bj hr (aj (pv 0) (aj ao ak)))) (aj (aY bI ao (pf bj hr (aj (pv 0) (aj ao ak)))) (aj (pv 3) (aj (pv 5) (aj (pv 6) (aj (pv 4) (aj (pt (cP) B.tuple dC (aj (pv 2) ak)) ak))))))))))))))),?_⟩
 walk_at "rd"
 refine fZ.of tp (by omega) (by decide) (by decide) fun lo H1 l1 u1 t1 s1=>⟨gr _,fun p H6 f6 s6 e6'=>⟨_,_,rfl,?_⟩⟩
 have pa:p≠a:=t1.ne f6
 have t6:=t1.same s6
 try walk_at "rd"
 refine fZ.of t6 (by omega) (by decide) (by decide) fun y8 H8 l8 u8 t8 s8=>⟨_,_,rfl,rfl,(by decide),fun p9 H9 f9 s9 e9=>?_⟩
 have n9:=t8.ne f9
 have t9:=t8.same s9
 refine⟨(by decide),fun q1 G1 g1 r1 d1=>⟨(by decide),fun q2 G2 g2 r2 d2=>⟨(by decide),fun q3 G3 g3 r3 d3=>⟨(by decide),fun q4 G4 g4 r4 d4=>⟨(by decide),fun q5 G5 g5 r5 d5=>?_⟩⟩⟩⟩⟩
 have m1:=t9.ne g1
 have m2:=(t9.same r1).ne g2
 have m3:=((t9.same r1).same r2).ne g3
 have m4:=(((t9.same r1).same r2).same r3).ne g4
 have m5:=((((t9.same r1).same r2).same r3).same r4).ne g5
 have r15:=r1.trans (r2.trans (r3.trans (r4.trans r5)))
 have hp9:H9 p=some (.lst []):=(s8.trans (SX.of s9)).get pa e6'
 refine fZ.of (t9.same r15) (by omega) (by decide) (by decide) fun y10 Aw l10 u10 Xv rH=>?_
 have pk:∃(qq:Addr) (u d:Int),yG [V.ref q1,V.ref q2,V.ref q3,V.ref q4] y10=some (.ref qq)/\qq≠a/\Aw qq=some (.tup [.int u,.int d])/\(0<=u/\u<=9)/\(0<=d/\d<=9):=by
  have hy:y10=0\/y10=1\/y10=2\/y10=3:=by omega
  rcases hy with rfl | rfl | rfl | rfl
  ·exact⟨q1,0,0,rfl,m1,rH.get m1 ((r2.trans (r3.trans (r4.trans r5))) _ _ d1),by decide,by decide⟩
  ·exact⟨q2,1,0,rfl,m2,rH.get m2 ((r3.trans (r4.trans r5)) _ _ d2),by decide,by decide⟩
  ·exact⟨q3,0,1,rfl,m3,rH.get m3 ((r4.trans r5) _ _ d3),by decide,by decide⟩
  ·exact⟨q4,2,1,rfl,m4,rH.get m4 (r5 _ _ d4),by decide,by decide⟩
 obtain⟨qq,ru,rd,hq1,hq2,hq3,hq4,hq5⟩:=pk
 have mq:qq≠p:=fun z=>by
  rw[z,((SX.of r15).trans rH).get pa hp9] at hq3
  cases hq3
 have m9:p9≠p:=fun z=>by rw[z] at e9; rw[e9] at hp9; cases hp9
 refine Ix.lst (rH.get m5 d5) hq1 ?_
 refine⟨(by decide),fun p11 Lh f11 DX YQ=>fZ.of (Xv.same DX) (by omega) (by decide) (by decide) fun y12 ZW l12 u12 t12 s12=>?_⟩
 have n11:=Xv.ne f11
 obtain⟨la,hla,ela⟩:=ir (ts:=[0,1,0,2]) l12 u12
 have hla':0<=la/\la<=4:=by
  simp only[b_,pH,or_false] at hla
  rcases hla with rfl | rfl | rfl | rfl <;> decide
 refine Ix.lst (s12.get n11 YQ) ela ?_
 refine⟨(by decide),fun p13 U4 YG Az Sw=>fZ.of (t12.same Az) (by omega) (by decide) (by decide) fun y14 W2 l14 u14 t14 Ua=>?_⟩
 have n13:=t12.ne YG
 obtain⟨ev,hev,eev⟩:=ir (ts:=[1,2,1,3]) l14 u14
 have aaO:1<=ev/\ev<=6:=by
  simp only[b_,pH,or_false] at hev
  rcases hev with rfl | rfl | rfl | rfl <;> decide
 refine Ix.lst (Ua.get n13 Sw) eev ⟨_,_,rfl,?_⟩
 try walk_at "rd"
 show Be _ _ _ _ _ _
 rw[Mq]
 walk_at "rd"
 refine fZ.of t14 (by omega) (by decide) (by decide) fun m H20 l20 u20 t20 s20=>?_
 have z10:SX a Aw H20:=(SX.of DX).trans (s12.trans ((SX.of Az).trans (Ua.trans s20)))
 have z9:SX a H9 H20:=(SX.of r15).trans (rH.trans z10)
 have z6:SX a H6 H20:=s8.trans ((SX.of s9).trans z9)
 have xx:SX a H H6:=s1.trans (SX.of s6)
 have fp:H p=none:=by
  cases e:H p with
  | none=>rfl
  | some o=>exact absurd (s1.get pa e) (by rw[f6]; simp)
 refine FK.of (n:=m.toNat) (by omega) (by omega) (fun i σ H'=>∃(eO:List (List fV)) (ys:List V) (o3:Option V),σ=[some (.ref a),some (.int lo),some (.ref p),some (.ref p9),some (.ref qq),some (.int la),some (.int ev),o3]/\eO.length=i/\ys.length=i/\(∀rs∈eO,Y4 rs/\∀r∈rs,r.n<=1000000000000)/\H' p=some (.lst ys)/\aa (hid p (hid a H')) (eO.map ph) ys/\Tp H' a (n+20+60*i)/\SX a H H'/\H' p9=some (.tup [.int lo,.int (lo+1+y8)])/\H' qq=some (.tup [.int ru,.int rd]))
  ⟨[],[],_,rfl,rfl,rfl,fun d h=>by simp at h,z6.get pa e6',aa.nil,t20.mono (by omega),xx.trans z6,z9.get n9 e9,z10.get hq2 hq3⟩ ?_ ?_
 ·rintro i σ H3 hi ⟨eO,ys,o3,rfl,ld,ly,od,h3,a3,t3,s3,z8,Lz⟩
  walk_at "rd"
  refine⟨.inl ⟨rfl,_,eV.of h3⟩,?_⟩
  rw[jy]
  walk_at "rd"
  refine fZ.of t3 (by omega) (by decide) (by decide) fun r H4 l4 u4 t4 s4=>?_
  have h4:=s4.get pa h3
  walk_at "rd"
  refine CK.of (n:=(1+r).toNat) (by omega) (by omega) fun acc hacc=>?_
  have ca:acc≠a:=t4.ne hacc
  have cp:acc≠p:=fun z=>by subst z; rw[hacc] at h4; cases h4
  refine⟨fun j zs H'=>∃es:List fV,es.length=j/\zs.length=j/\(∀d∈es,Tc d/\d.n<=1000000000000)/\aa (hid acc (hid a H')) (es.map pq) zs/\H' acc=some (.lst zs)/\Tp H' a (n+20+60*i+1+12*j)/\SX a H4 H',?_,?_,?_⟩
  ·exact⟨[],rfl,rfl,fun d h=>by simp at h,aa.nil,aC,t4.dG ca,(SX.refl a H4).dG hacc ca⟩
  ·rintro j zs H5 hj ⟨es,le,lz,oe,a5,c5,t5,s5⟩
   show rD _ _ _ _ [some _,some (.ref a)] H5 _
   walk_at "rd"
   refine abw.of t5 (by omega) fun v d H6 rk a6 t6 s6=>?_
   have c6:=s6.get ca c5
   have c6':hid a H6 acc=some (.lst zs):=by rw[bR ca]; exact c6
   refine⟨c6,(by rw[lz]; exact bB (by omega)),es++[d],by rw[fj,le]; rfl,by rw[fj,lz]; rfl,fun x hx=>?_,?_,aC,?_,?_⟩
   ·rcases m7.mp hx with z | z
    ·exact oe x z
    ·rw[d8.mp z]; exact rk
   ·rw[cT ca,eX,gY]
    exact(a5.mono (aD.hid s6)).append (aa.cons (At.vy c6' _ v (Q4 d) a6) aa.nil)
   ·exact(t6.dG ca).mono (by omega)
   ·exact(s5.trans s6).dG hacc ca
  ·rintro zs H6 ⟨es,le,lz,oe,a6,c6,t6,s6⟩
   have h6:=s6.get pa h4
   refine⟨acc,zs,rfl,c6,fun l hl=>?_⟩
   have la:l≠a:=t6.ne hl
   have lp:l≠p:=fun z=>by subst z; rw[hl] at h6; cases h6
   refine⟨p,ys,_,rfl,rfl,by rw[aL (Ne.symm lp)]; exact h6,by rw[ly]; exact bB (by omega),?_⟩
   have A1:At (hid a (upd H6 l (.tup zs))) (ph es) (.ref l):=by
    rw[cT la]
    have fr:hid a H6 l=none:=by rw[bR la]; exact hl
    exact At.tup aC ((a6.mono dh).mono (aO fr _))
   have h7:hid a (upd H6 l (.tup zs)) p=some (.lst ys):=by rw[bR pa,aL (Ne.symm lp)]; exact h6
   have Q0:SX a H3 (upd H6 l (.tup zs)):=(s4.trans s6).trans (SX.of (aO hl _))
   refine⟨eO++[es],ys++[.ref l],_,rfl,by rw[fj,ld]; rfl,by rw[fj,ly]; rfl,fun x hx=>?_,aC,?_,?_,?_,?_,?_⟩
   ·rcases m7.mp hx with z | z
    ·exact od x z
    ·rw[d8.mp z]; exact⟨⟨by omega,by omega,fun r hr=>(oe r hr).1⟩,fun r hr=>(oe r hr).2⟩
   ·rw[cT pa,eX,gY]
    exact(a3.mono (aD.hid Q0)).append (aa.cons (At.vy h7 _ _ (M8 es) A1) aa.nil)
   ·exact((t6.dG la).dG pa).mono (by omega)
   ·exact(s3.trans Q0).dG fp pa
   ·rw[aL m9]; exact Q0.get n9 z8
   ·rw[aL mq]; exact Q0.get hq2 Lz
 ·rintro σ H3 ⟨eO,ys,o3,rfl,ld,ly,od,h3,a3,t3,s3,z8,Lz⟩
  walk_at "rd"
  refine fZ.of t3 (by omega) (by decide) (by decide) fun y1 G1 l1' u1' t1' Zj=>⟨_,_,rfl,rfl,fZ.of t1' (by omega) (by decide) (by decide) fun y2 G2 l2 u2 t2 s2=>⟨_,_,rfl,rfl,?_⟩⟩
  have x32:=Zj.trans s2
  have h2:=x32.get pa h3
  have a2:aa (hid p (hid a G2)) (eO.map ph) ys:=a3.mono (aD.hid x32)
  have z8':=x32.get n9 z8
  have Z1:=x32.get hq2 Lz
  refine⟨p,ys,rfl,h2,fun l hl=>?_⟩
  have Uq:l≠a:=t2.ne hl
  have A1:At (hid a (upd G2 l (.tup ys))) (Ez eO) (.ref l):=by
   rw[cT Uq]
   have fr:hid a G2 l=none:=by rw[bR Uq]; exact hl
   exact At.tup aC ((a2.mono dh).mono (aO fr _))
  have s4:=aO hl (HO.tup ys)
  have t4:=t2.dG (o:=.tup ys) Uq
  generalize upd G2 l (.tup ys)=H4 at A1 s4 t4 ⊢
  refine⟨(by decide),fun p5 H5 f5 s5 e5=>?_⟩
  have n5:=t4.ne f5
  have ZZ:=s4.trans s5
  obtain⟨Uq,rfl⟩:∃Uq:Nat,la=(Uq:Int):=⟨la.toNat,by omega⟩
  refine q p5 ⟨1+y1,3+y2,lo,lo+1+y8,Uq,ev,ru,rd,eO⟩ H5 ⟨⟨by show 1<=1+y1/\1+y1<=1000000000000000000; omega,by show 0<=3+y2/\3+y2<=1000000000000; omega,by show 0<=lo/\lo<=lo+1+y8; omega,by show lo+1+y8<=12; omega,by show Uq<=4; omega,aaO,hq4,hq5,by show eO.length<=3; omega,fun rs hrs=>(od rs hrs).1⟩,by show 1+y1<=1000000; omega,fun rs hrs=>(od rs hrs).2⟩ (by show 3+y2<=10; omega) ?_ ((t4.same s5).mono (by omega)) (s3.trans (x32.trans (SX.of ZZ)))
  exact At.tup (by rw[bR n5]; exact e5) (aa.cons (At.int _) (aa.cons (At.int _) (aa.cons (At.tup (by rw[bR n9]; exact ZZ _ _ z8') (bu [lo,lo+1+y8])) (aa.cons (At.int _) (aa.cons (At.int _) (aa.cons (At.tup (by rw[bR hq2]; exact ZZ _ _ Z1) (bu [ru,rd])) (aa.cons (A1.mono (SX.of s5)) aa.nil)))))))
structure YZ (x:bZ):Prop where
 w:WR x.w
 r:0<=x.r
 c:x.cs.length=5
 cn:∀y∈x.cs,0<=y
 sm:x.r+x.cs.sum<=12
 s:0<=x.s/\x.s<=5
 t:0<=x.t/\x.t<=9
 u:x.us.length=3
 ul:∀y∈x.us,Qn y
theorem YZ.is {x:bZ} (h:YZ x):dY x:=⟨h.c,h.u,fun y hy=>by obtain⟨a,b,c,rfl,_⟩:=h.ul y hy; rfl⟩
def Bg:Sp:=fun vs H Q _=>∃(a:Addr) (n:Nat) (v:V) (x:b8),vs=[.ref a,v]/\At H (g8 x) v/\UL x/\Tp H a n/\n<=100000000/\∀p y H',YZ y->y.w<=14->At (hid a H') (jP y) (.ref p)->Tp H' a (n+60)->SX a H H'->Q (.ref p) H'
theorem jB:aU ["_law_tape_here","_law_post","_law_called","_law_seen","_law_wait"] ["_law_tape_here","_law_post"] (aH gU):=(by walk_at "c")
theorem qT (F:iV K "_law_small_stand" "_law_small_stand" gU f fd) (B:Bi mg) (bj:Ct P w K mg base k "_law_draw" ["_law_tape_here","_law_many"] qt):bM P w K mg base iz (k+1) f fd ["_law_tape_here","_law_post"] Bg:=by
 refine F.ok jB (by rintro vs H Q E ⟨a,n,v,x,rfl,_⟩; rfl) (fun cdv A outer s H vs Q E hr h=>?_)
 obtain⟨a,n,pA,x,rfl,aA,hx,tp,hn,q⟩:=h
 have ND:=jB.nd
 refine⟨_,(aq (dz (aW kY (pf bj hr (aj (pv 0) (aj ao ak))) ao (a_ _)) (aJ (aR (aX (aj ao (aj (bh aP (bh aP (pv 1) ao (fun _ _=>rfl)) ao (fun _ _=>rfl)) (aj (aX (aj ao (aj ao (aj ao (aj ao (aj ao ak)))))) (aj ao (aj ao (aj (aX (aj (aX (aj ao (aj ao (aj ao ak)))) (aj (aX (aj ao (aj ao (aj ao ak)))) (aj (aX (aj ao (aj ao (aj ao ak)))) ak)))) ak))))))))) bO) (aq (bf (i:=2) ND rfl (by walk_at "o") (pt (cP) B.tuple dC (aj (jZ (N':=["_law_k","_law_tape_here"]) (js:=[0]) rfl (fu (by rfl) B.range (aj ao ak)) Ax.mk1 rfl (by decide) rfl (fun fp s' H'=>(bh aP (bT (aj ao (aj ao (aj ao (aj ao (aj ao ak)))))) (pf bj hr (aj (pv 1) (aj ao ak))) (fun _ _=>rfl)))) ak))) (aq (bf (i:=3) ND rfl (by walk_at "o") (pt (cP) B.tuple dC (aj (jZ (N':=["_law_j","_law_tape_here"]) (js:=[0]) rfl (fu (by rfl) B.range (aj ao ak)) Ax.mk1 rfl (by decide) rfl (fun fp s' H'=>(pt (cP) B.tuple dC (aj (jZ (N':=["_law_k","_law_tape_here"]) (js:=[1]) rfl (fu (by rfl) B.range (aj ao ak)) Ax.mk1 rfl (by decide) rfl (fun fp s' H'=>(pf bj hr (aj (pv 1) (aj ao ak))))) ak)))) ak))) (aq (bf (i:=4) ND rfl (by walk_at "o") (pf bj hr (aj (pv 0) (aj (bh aP (bT (aj ao (aj ao (aj ao ak)))) (pf bj hr (aj (pv 0) (aj ao ak))) (fun _ _=>rfl)) ak)))) (aJ (aR (aX (aj (pv 4) (aj (pf bj hr (aj (pv 0) (aj ao ak))) (aj (pv 2) (aj (pf bj hr (aj (pv 0) (aj ao ak))) (aj (pf bj hr (aj (pv 0) (aj ao ak))) (aj (pv 3) ak))))))))))))),?_⟩
 walk_at "rd"
 refine fZ.of tp (by omega) (by decide) (by decide) fun y1 H1 l1 u1 t1 s1=>?_
 walk_at "rd"
 refine iM (fun c1=>?_) (fun c1=>?_)
 ·obtain⟨pa,pb,pc,pd,rfl,p1,p2,_,_⟩:=Fj aA
  have na:=tp.neT p1
  have nb:=tp.neT p2
  refine Ix.tup (s1.get na p1) (v:=.ref pb) rfl (Ix.tup (s1.get nb p2) (v:=.int x.lo) rfl ⟨(by decide),fun q1 G1 g1 r1 d1=>⟨(by decide),fun q2 G2 g2 r2 d2=>⟨(by decide),fun q3 G3 g3 r3 d3=>⟨(by decide),fun q4 G4 g4 r4 d4=>⟨(by decide),fun q5 G5 g5 r5 d5=>⟨(by decide),fun q6 G6 g6 r6 d6=>?_⟩⟩⟩⟩⟩⟩)
  have m1:=t1.ne g1
  have m2:=(t1.same r1).ne g2
  have m3:=((t1.same r1).same r2).ne g3
  have m4:=(((t1.same r1).same r2).same r3).ne g4
  have m5:=((((t1.same r1).same r2).same r3).same r4).ne g5
  have m6:=(((((t1.same r1).same r2).same r3).same r4).same r5).ne g6
  have r16:=r1.trans (r2.trans (r3.trans (r4.trans (r5.trans r6))))
  have T0:∀qq:Addr,qq≠a->G6 qq=some (.tup [.int 0,.int 0,.int 0])->At (hid a G6) (jO [0,0,0]) (.ref qq):=fun qq mq dq=>At.tup (by rw[bR mq]; exact dq) (bu [0,0,0])
  have hlo:=hx.lo
  have hhi:=hx.hi
  refine q q6 ⟨0,x.lo,[0,0,0,0,0],0,0,[[0,0,0],[0,0,0],[0,0,0]]⟩ G6 ⟨by show WR 0; exact⟨by decide,by decide⟩,hlo.1,rfl,fun y hy=>?_,by show x.lo+0<=12; omega,by show(0:Int)<=0/\(0:Int)<=5; decide,by show(0:Int)<=0/\(0:Int)<=9; decide,rfl,fun y hy=>?_⟩ (by show(0:Int)<=14; decide) ?_ ((t1.same r16).mono (by omega)) (s1.trans (SX.of r16))
  ·simp only[b_,pH,or_false,or_self] at hy
   rw[hy]; decide
  ·simp only[b_,pH,or_false,or_self] at hy
   rw[hy]; exact⟨0,0,0,rfl,⟨by decide,by decide⟩,⟨by decide,by decide⟩,⟨by decide,by decide⟩⟩
  ·exact At.tup (by rw[bR m6]; exact d6) (aa.cons (At.int _) (aa.cons (At.int _) (aa.cons (At.tup (by rw[bR m1]; exact r6 _ _ (r5 _ _ (r4 _ _ (r3 _ _ (r2 _ _ d1))))) (bu [0,0,0,0,0])) (aa.cons (At.int _) (aa.cons (At.int _) (aa.cons (At.tup (by rw[bR m5]; exact r6 _ _ d5) (aa.cons (T0 q2 m2 (r6 _ _ (r5 _ _ (r4 _ _ (r3 _ _ d2))))) (aa.cons (T0 q3 m3 (r6 _ _ (r5 _ _ (r4 _ _ d3)))) (aa.cons (T0 q4 m4 (r6 _ _ (r5 _ _ d4))) aa.nil)))) aa.nil))))))
 ·rw[jy]
  walk_at "rd"
  refine CK.of (n:=5) rfl (by decide) fun Ql Ir=>?_
  have YW:Ql≠a:=t1.ne Ir
  refine⟨fun i zs H'=>∃cs:List Int,zs=cs.map V.int/\cs.length=i/\(∀c∈cs,0<=c/\c<=2)/\H' Ql=some (.lst zs)/\Tp H' a (n+1+i)/\SX a H1 H',⟨[],rfl,rfl,fun c h=>by simp at h,aC,t1.dG YW,(SX.refl a H1).dG Ir YW⟩,?_,?_⟩
  ·rintro i zs H4 hi ⟨cs,rfl,lc,hc,c4,t4,s4⟩
   show Vc _ _ _ [some _,some (.ref a)] H4 _
   walk_at "rd"
   refine⟨(by decide),fun p5 H5 f5 r5 e5=>fZ.of (t4.same r5) (by omega) (by decide) (by decide) fun y6 H6 l6 u6 t6 s6=>?_⟩
   have n5:=t4.ne f5
   obtain⟨v,hv,ev⟩:=ir (ts:=[0,0,0,1,2]) l6 u6
   have hv':0<=v/\v<=2:=by
    simp only[b_,pH,or_false] at hv
    rcases hv with rfl | rfl | rfl | rfl | rfl <;> decide
   refine Ix.lst (s6.get n5 e5) ev ⟨s6.get YW (r5 _ _ c4),by rw[cg]; exact bB (by omega),cs++[v],by rw[gY]; rfl,by rw[fj,lc]; rfl,fun c hc'=>?_,aC,(t6.dG YW).mono (by omega),(s4.trans ((SX.of r5).trans s6)).dG Ir YW⟩
   rcases m7.mp hc' with z | z
   ·exact hc c z
   ·rw[d8.mp z]; exact hv'
  ·rintro zs H4 ⟨cs,rfl,lc,hc,c4,t4,s4⟩
   refine⟨Ql,_,rfl,c4,fun WK hl2=>?_⟩
   have la2:WK≠a:=t4.ne hl2
   have A2:At (hid a (upd H4 WK (.tup (cs.map V.int)))) (.tuple (cs.map .int)) (.ref WK):=by
    rw[cT la2]
    exact At.tup aC (bu cs)
   have t5:Tp (upd H4 WK (.tup (cs.map V.int))) a (n+6):=t4.dG la2
   have x5:SX a H1 (upd H4 WK (.tup (cs.map V.int))):=s4.trans (SX.of (aO hl2 _))
   generalize upd H4 WK (.tup (cs.map V.int))=H5 at *
   show iW _ _ _ _ _ _
   rw[jy]
   walk_at "rd"
   refine CK.of (n:=3) rfl (by decide) fun acc hacc=>?_
   have ca:acc≠a:=t5.ne hacc
   refine⟨fun i ys H'=>∃us:List (List Int),us.length=i/\(∀u∈us,Qn u)/\aa (hid acc (hid a H')) (us.map jO) ys/\ys.length=i/\H' acc=some (.lst ys)/\Tp H' a (n+6+3*i)/\SX a H5 H',⟨[],rfl,fun u h=>by simp at h,aa.nil,rfl,aC,t5.dG ca,(SX.refl a H5).dG hacc ca⟩,?_,?_⟩
   ·rintro i ys H2 hi ⟨us,l2,u2,a2,y2,c2,t2,s2⟩
    show Vf _ _ [some _,some (.ref a)] H2 _
    walk_at "rd"
    rw[jy]
    walk_at "rd"
    refine CK.of (n:=3) rfl (by decide) fun S9 Dn=>?_
    have YT:S9≠a:=t2.ne Dn
    have c23:acc≠S9:=fun z=>by rw[<- z,c2] at Dn; cases Dn
    refine⟨fun j zs H'=>∃es:List Int,zs=es.map V.int/\es.length=j/\(∀c∈es,0<=c/\c<7)/\H' S9=some (.lst zs)/\Tp H' a (n+6+3*i+j)/\SX a H2 H',⟨[],rfl,rfl,fun c h=>by simp at h,aC,t2.dG YT,(SX.refl a H2).dG Dn YT⟩,?_,?_⟩
    ·rintro j zs H6 hj ⟨es,rfl,le,he,c6,t6,s6⟩
     show rD _ _ _ _ [some _,some (.ref a)] H6 _
     walk_at "rd"
     refine fZ.of t6 (by omega) (by decide) (by decide) fun v H7 l7 u7 t7 s7=>⟨s7.get YT c6,by rw[cg]; exact bB (by omega),es++[v],by rw[gY]; rfl,by rw[fj,le]; rfl,fun c hc'=>?_,aC,(t7.dG YT).mono (by omega),(s6.trans s7).dG Dn YT⟩
     rcases m7.mp hc' with z | z
     ·exact he c z
     ·rw[d8.mp z]; exact⟨l7,u7⟩
    ·rintro zs H6 ⟨es,rfl,le,he,c6,t6,s6⟩
     refine⟨S9,_,rfl,c6,fun t ht=>?_⟩
     have ta:t≠a:=t6.ne ht
     have c26:=s6.get ca c2
     have tc:t≠acc:=fun z=>by subst z; rw[ht] at c26; cases c26
     have Q0:=aO ht (HO.tup (es.map V.int))
     have e7:upd H6 t (.tup (es.map V.int)) t=some (.tup (es.map V.int)):=aC
     generalize upd H6 t (.tup (es.map V.int))=H7 at Q0 e7 ⊢
     have s27:=s6.trans (SX.of (a:=a) Q0)
     have tri:Qn es:=by
      obtain⟨v1,v2,v3,rfl⟩:=Kr le
      have h1:=he v1 (by simp)
      have h2:=he v2 (by simp)
      have h3:=he v3 (by simp)
      exact⟨v1,v2,v3,rfl,⟨h1.1,by omega⟩,⟨h2.1,by omega⟩,⟨h3.1,by omega⟩⟩
     refine⟨Q0 _ _ c26,bB (by omega),us++[es],by rw[fj,l2]; rfl,fun u hu=>?_,?_,by rw[fj,y2]; rfl,aC,?_,?_⟩
     ·rcases m7.mp hu with z | z
      ·exact u2 u z
      ·rw[d8.mp z]; exact tri
     ·rw[cT ca,eX,gY]
      refine aa.append (a2.mono (aD.hid s27)) (aa.cons (At.tup (by rw[bR tc,bR ta]; exact e7) (bu es)) aa.nil)
     ·exact((t6.same Q0).dG ca).mono (by omega)
     ·exact(s2.trans s27).dG hacc ca
   ·rintro ys H2 ⟨us,l2,u2,a2,y2,c2,t2,s2⟩
    refine⟨acc,ys,rfl,c2,fun l hl=>?_⟩
    have la:l≠a:=t2.ne hl
    have A1:At (hid a (upd H2 l (.tup ys))) (.tuple (us.map jO)) (.ref l):=by
     rw[cT la]
     have fr:hid a H2 l=none:=by rw[bR la]; exact hl
     exact At.tup aC ((a2.mono dh).mono (aO fr _))
    have t3:Tp (upd H2 l (.tup ys)) a (n+6+9):=t2.dG la
    have x3:SX a H5 (upd H2 l (.tup ys)):=s2.trans (SX.of (aO hl _))
    generalize upd H2 l (.tup ys)=H3 at *
    try walk_at "rd"
    refine⟨(by decide),fun p5 G5 f5 r5 e5=>fZ.of (t3.same r5) (by omega) (by decide) (by decide) fun y6 G6 l6 u6 t6 s6=>?_⟩
    have n5:=t3.ne f5
    obtain⟨mm,hmm,emm⟩:=ir (ts:=[3,9,15]) l6 u6
    have aaM:3<=mm/\mm<=15:=by
     simp only[b_,pH,or_false] at hmm
     rcases hmm with rfl | rfl | rfl <;> decide
    refine Ix.lst (s6.get n5 e5) emm ?_
    refine fZ.of t6 (by omega) (by omega) (by omega) fun v6 H6 l6' u6' t6' s6'=>?_
    refine fZ.of t6' (by omega) (by decide) (by decide) fun v7 H7 l7 u7 t7 s7=>?_
    refine fZ.of t7 (by omega) (by decide) (by decide) fun v8 H8 l8 u8 t8 s8=>?_
    refine fZ.of t8 (by omega) (by decide) (by decide) fun v9 H9 l9 u9 t9 s9=>⟨(by decide),fun z Aw hz rH e10=>?_⟩
    have za:z≠a:=t9.ne hz
    have x10:SX a H3 Aw:=(SX.of r5).trans (s6.trans (s6'.trans (s7.trans (s8.trans (s9.trans (SX.of rH))))))
    have hsum:cs.sum<=10:=by
     obtain⟨e0,e1,e2,e3,e4,rfl⟩:=R0 lc
     have h0:=hc e0 (by simp)
     have h1:=hc e1 (by simp)
     have h2:=hc e2 (by simp)
     have h3:=hc e3 (by simp)
     have h4:=hc e4 (by simp)
     simp only[BW,List.sum_nil]
     omega
    refine q z ⟨v6,v7,cs,v8,v9,us⟩ Aw ⟨by show 0<=v6/\v6<=1000000000000; omega,l7,lc,fun y hy=>(hc y hy).1,by show v7+cs.sum<=12; omega,⟨l8,by show v8<=5; omega⟩,⟨l9,by show v9<=9; omega⟩,l2,u2⟩ (by show v6<=14; omega) ?_ ((t9.same rH).mono (by omega)) (s1.trans (x5.trans (x3.trans x10)))
    exact At.tup (by rw[bR za]; exact e10) (aa.cons (At.int _) (aa.cons (At.int _) (aa.cons ((A2.mono x3).mono x10) (aa.cons (At.int _) (aa.cons (At.int _) (aa.cons (A1.mono x10) aa.nil))))))
def G_:Sp:=fun vs H Q _=>∃(a:Addr) (n:Nat),vs=[.ref a]/\Tp H a n/\n<=100000000/\∀p c H',D_ c->(∀q∈c,q.1<=4/\q.2<=3)->At (hid a H') (Dt c) (.ref p)->Tp H' a (n+20)->SX a H H'->Q (.ref p) H'
theorem ur:aU ["_law_tape_here","_law_many"] ["_law_tape_here"] (aH qF):=(by walk_at "c")
theorem FN (F:iV K "_law_curve" "_law_curve" qF f fd) (B:Bi mg) (bj:Ct P w K mg base k "_law_draw" ["_law_tape_here","_law_many"] qt):bM P w K mg base iz (k+1) f fd ["_law_tape_here"] G_:=by
 refine F.ok ur (by rintro vs H Q E ⟨a,n,rfl,_⟩; rfl) (fun cdv A outer s H vs Q E hr h=>?_)
 obtain⟨a,n,rfl,tp,hn,q⟩:=h
 have ND:=ur.nd
 refine⟨_,(aq (bf (i:=1) ND rfl (by walk_at "o") (bh aP (bT (aj ao (aj ao (aj ao (aj (aY bI ao (pf bj hr (aj (pv 0) (aj ao ak)))) ak))))) (pf bj hr (aj (pv 0) (aj ao ak))) (fun _ _=>rfl))) (aJ (aR (pt (cP) B.tuple dC (aj (jZ (N':=["_law_k","_law_tape_here"]) (js:=[0]) rfl (fu (by rfl) B.range (aj (pv 1) ak)) Ax.mk1 rfl (by decide) rfl (fun fp s' H'=>(aX (aj (pf bj hr (aj (pv 1) (aj ao ak))) (aj (pf bj hr (aj (pv 1) (aj ao ak))) ak))))) ak))))),?_⟩
 walk_at "rd"
 refine fZ.of tp (by omega) (by decide) (by decide) fun y1 H1 l1 u1 t1 s1=>⟨_,_,rfl,rfl,(by decide),fun p2 H2 f2 r2 e2=>fZ.of (t1.same r2) (by omega) (by decide) (by decide) fun y3 H3 l3 u3 t3 s3=>?_⟩
 have n2:=t1.ne f2
 obtain⟨mm,hmm,emm⟩:=ir (ts:=[1,1,1,2+y1]) l3 u3
 have aaM:1<=mm/\mm<=3:=by
  simp only[b_,pH,or_false] at hmm
  rcases hmm with rfl | rfl | rfl | rfl <;> omega
 refine Ix.lst (s3.get n2 e2) emm ?_
 have x3:SX a H H3:=s1.trans ((SX.of r2).trans s3)
 rw[jy]
 walk_at "rd"
 refine CK.of (n:=mm.toNat) (by omega) (by omega) fun acc hacc=>?_
 have ca:acc≠a:=t3.ne hacc
 refine⟨fun i ys H'=>∃c:Cv,c.length=i/\(∀q∈c,(0<=q.1/\q.1<=4)/\0<=q.2/\q.2<=3)/\aa (hid acc (hid a H')) (c.map Zm) ys/\ys.length=i/\H' acc=some (.lst ys)/\Tp H' a (n+2+2*i)/\SX a H3 H',⟨[],rfl,fun u h=>by simp at h,aa.nil,rfl,aC,t3.dG ca,(SX.refl a H3).dG hacc ca⟩,?_,?_⟩
 ·rintro i ys H4 hi ⟨c,lc,hc,a4,y4,c4,t4,s4⟩
  show Mj _ [some _,some (.ref a)] H4 _
  walk_at "rd"
  refine fZ.of t4 (by omega) (by decide) (by decide) fun v1 H5 l5 u5 t5 s5=>fZ.of t5 (by omega) (by decide) (by decide) fun v2 H6 l6 u6 t6 s6=>⟨(by decide),fun t H7 ht s7 e7=>?_⟩
  have T_:=s5.trans s6
  have s47:=T_.trans (SX.of s7)
  have ta:t≠a:=t6.ne ht
  have c6:=T_.get ca c4
  have tc:t≠acc:=fun z=>by subst z; rw[ht] at c6; cases c6
  refine⟨s7 _ _ c6,bB (by omega),c++[(v1,v2)],by rw[fj,lc]; rfl,fun u hu=>?_,?_,by rw[fj,y4]; rfl,aC,?_,?_⟩
  ·rcases m7.mp hu with z | z
   ·exact hc u z
   ·rw[d8.mp z]; exact⟨⟨l5,by show v1<=4; omega⟩,l6,by show v2<=3; omega⟩
  ·rw[cT ca,eX,gY]
   refine aa.append (a4.mono (aD.hid s47)) (aa.cons (At.tup (by rw[bR tc,bR ta]; exact e7) (bu [v1,v2])) aa.nil)
  ·exact((t6.same s7).dG ca).mono (by omega)
  ·exact(s4.trans s47).dG hacc ca
 ·rintro ys H4 ⟨c,lc,hc,a4,y4,c4,t4,s4⟩
  refine⟨acc,ys,rfl,c4,fun l hl=>?_⟩
  have la:l≠a:=t4.ne hl
  have A1:At (hid a (upd H4 l (.tup ys))) (Dt c) (.ref l):=by
   rw[cT la]
   have fr:hid a H4 l=none:=by rw[bR la]; exact hl
   exact At.tup aC ((a4.mono dh).mono (aO fr _))
  exact q l c _ ⟨fun z=>by rw[z] at lc; simp at lc; omega,by omega,fun q hq=>⟨(hc q hq).1.1,(hc q hq).2.1⟩⟩ (fun q hq=>⟨(hc q hq).1.2,(hc q hq).2.2⟩) A1 ((t4.dG la).mono (by omega)) (x3.trans (s4.trans (SX.of (aO hl _))))
theorem iu (is:List Int):PyData.hasDict (.list (is.map .int))=false/\PyData.canLay0 (.list (is.map .int))=true/\PyData.depth (.list (is.map .int))<=60:=by
 obtain⟨d1,d2,d3⟩:=iw is
 exact⟨by simpa[PyData.hasDict] using d1,by simpa[PyData.canLay0] using d2,by show PyData.depthAll _+1<=60; rw[d3]; decide⟩
theorem KN (ns:List Int) (h:ns.length<=63):oG (ns.map V.int) (some 2) (some 63)=(ns.drop 2).map V.int:=by
 have e:oG (ns.map V.int) (some ((2:Nat):Int)) (some ((63:Nat):Int))=(ns.drop 2).map V.int:=by
  unfold oG
  rw[HT.tE,HT.tE,cg,List.map_drop]
  by_cases q:2<=ns.length
  ·rw[Nat.min_eq_left q,Hh h,Np (by rw[uI,cg]; omega)]
  ·rw[Hh (by omega),JV (by rw[cg]; omega),JV (by rw[cg]; omega),List.take_nil]
 exact e
theorem tX {ls:List Int} {i:Nat} {j:Int} (e:j=(i:Int)) (h:i<ls.length):yG (ls.map V.int) j=some (.int (ls.getD i 0)):=by
 rw[e]
 exact bx (by rw[il,iZ,gP h]; rfl)
def MN (K:PySem.W.Frag):Sp:=fun vs H Q _=>∃(p:Addr) (ns:List Int),vs=[.ref p,(.int 2)]/\Qz K H p (ns.map V.int)/\ns.length<=63/\∀(r:Addr) (cs:List Int) H',aD H H'->H' r=some (.lst (cs.map V.int))->1<=cs.length->cs.length<=2->Q (.ref r) H'
theorem rF:aU ["_law_script","_law_many","_law_cells","_law_k","_law_cell"] ["_law_script","_law_many"] (aH nQ):=(by walk_at "c")
theorem Cz (F:iV K "_law_folded" "_law_folded" nQ f fd) (B:Bi mg):bM P w K mg base iz (k+1) f fd ["_law_script","_law_many"] (MN K):=by
 refine F.ok rF (by rintro vs H Q E ⟨p,ns,rfl,_⟩; rfl) (fun cdv A outer s H vs Q E hr h=>?_)
 obtain⟨p,ns,rfl,hS,hn,q⟩:=h
 have ND:=rF.nd
 refine⟨_,(aq (bf (i:=2) ND rfl (by walk_at "o") (pt (K9) B.list tV (aj (dI Hb (pv 0) gJ (dW (pv 1))) ak))) (aq (jW PassesOwn.never rfl (Ro (K:=K) rfl B.enumerate (aj (dI Hb (pv 0) (dW (pv 1)) (dW ao)) ak)) (bL (K:=K) (n:=2) rfl rfl (aF (aG (i:=3) ND rfl (by walk_at "o")) (aF (aG (i:=4) ND rfl (by walk_at "o")) bK))) (aJ (cU (aY bI (bh aP (pv 2) (aY j4 (pv 3) (pv 1)) (fun _ _=>rfl)) (aY j0 (pv 4) (aY bI (pv 3) ao))) (Ft (pv 2) (aY j4 (pv 3) (pv 1)) set_list)))) (aJ (aR (aY Ob (pv 2) (aY VD (bT (aj ao ak)) (pt (q_) B.int GC (aj (fO (zN hr.units) (pv 2) (bT ak) (a_ _)) ak)))))))),?_⟩
 walk_at "rd"
 refine⟨p,_,rfl,hS.sq,fun p1 f1=>?_⟩
 rw[qY (by decide),<- List.map_take]
 have s1:=aO f1 (HO.lst ((ns.take (Int.toNat 2)).map V.int))
 have e1:upd H p1 (HO.lst ((ns.take (Int.toNat 2)).map V.int)) p1=some (.lst ((ns.take (Int.toNat 2)).map V.int)):=aC
 generalize upd H p1 (HO.lst ((ns.take (Int.toNat 2)).map V.int))=H1 at s1 e1 ⊢
 refine⟨p1,_,rfl,e1,fun pc fc=>?_⟩
 have s2:=aO fc (HO.lst ((ns.take (Int.toNat 2)).map V.int))
 have e2:upd H1 pc (HO.lst ((ns.take (Int.toNat 2)).map V.int)) pc=some (.lst ((ns.take (Int.toNat 2)).map V.int)):=aC
 generalize upd H1 pc (HO.lst ((ns.take (Int.toNat 2)).map V.int))=H2 at s2 e2 ⊢
 have s02:=s1.trans s2
 have hS2:=hS.same s02
 have zc:H pc=none:=by
  cases e:H pc with
  | none=>rfl
  | some o=>rw[s1 _ _ e] at fc; cases fc
 rw[Jw]
 walk_at "rd"
 refine⟨p,_,rfl,hS2.sq,fun p3 f3=>?_⟩
 rw[KN ns hn]
 have s3:=aO f3 (HO.lst ((ns.drop 2).map V.int))
 have e3:upd H2 p3 (HO.lst ((ns.drop 2).map V.int)) p3=some (.lst ((ns.drop 2).map V.int)):=aC
 generalize upd H2 p3 (HO.lst ((ns.drop 2).map V.int))=H3 at s3 e3 ⊢
 have n3:p3≠pc:=fun z=>by rw[z,e2] at f3; cases f3
 refine EK.of e3 (fun i σ H'=>∃(cs:List Int) (o3 o4:Option V),σ=[some (.ref p),some (.int 2),some (.ref pc),o3,o4]/\H' pc=some (.lst (cs.map V.int))/\cs.length=(ns.take (Int.toNat 2)).length/\H' p3=some (.lst ((ns.drop 2).map V.int))/\aD H H') ⟨_,_,_,rfl,s3 _ _ e2,rfl,e3,s02.trans s3⟩ (fun i σ H' _ ⟨_,_,_,_,_,_,z,_⟩=>z) ?_ ?_
 ·rintro i x σ H4 p4 hx ⟨cs,o3,o4,rfl,e4,l4,g4,s4⟩ f4
  obtain⟨hi,rfl⟩:=ints_get hx
  have hl8:cs.length=2:=by
   rw[l4,jC]
   rw[uI] at hi
   exact Nat.min_eq_left (by show 2<=ns.length; omega)
  have adK:i<63:=by rw[uI] at hi; omega
  refine⟨p4,_,rfl,cD.of aC,rfl,?_⟩
  have s5:=aO f4 (HO.tup [V.int (i:Nat),V.int ((ns.drop 2).getD i 0)])
  generalize upd H4 p4 (HO.tup [V.int (i:Nat),V.int ((ns.drop 2).getD i 0)])=H5 at s5 ⊢
  walk_at "rd"
  refine⟨by decide,?_⟩
  have em:((i:Nat):Int) % 2=((i % 2:Nat):Int):=by omega
  have lt:i % 2<cs.length:=by rw[hl8]; exact Nat.mod_lt _ (by decide)
  refine Ix.lst (s5 _ _ e4) (tX em lt) ?_
  walk_at "rd"
  refine⟨.inr ⟨by omega,by omega⟩,by decide,?_⟩
  refine⟨pc,_,_,i % 2,rfl,rfl,s5 _ _ e4,by rw[em,cg]; exact Ij lt,?_⟩
  rw[<- List.map_set]
  exact⟨_,_,_,rfl,aC,by rw[List.length_set]; exact l4,by rw[aL n3]; exact s5 _ _ g4,aD.dG (s4.trans s5) zc⟩
 ·rintro σ H4 ⟨cs,o3,o4,rfl,e4,l4,g4,s4⟩
  walk_at "rd"
  have lc:cs.length<=2:=by rw[l4,jC]; exact B_ _ _
  refine⟨(by decide),fun p5 H5 f5 s5 e5=>⟨gr _,fun p6 H6 f6 s6 e6=>?_⟩⟩
  have z:=iu cs
  have T_:=s5.trans s6
  refine⟨.list (cs.map .int),.list [],At.lst (T_ _ _ e4) (bu _),At.lst e6 aa.nil,z.1,rfl,z.2.1,rfl,z.2.2,?_⟩
  cases cs with
  | nil=>
   have eq:PyData.eqv (.list (([]:List Int).map .int)) (.list [])=true:=rfl
   rw[eq,aM rfl]
   refine⟨p5,1,_,rfl,rfl,s6 _ _ e5,by decide,by decide,(by show 1*1<=sizeLine; decide),fun p7 f7=>?_⟩
   have s7:=aO f7 (HO.lst [V.int 0])
   refine JK.of (s7 _ _ (T_ _ _ e4)) aC (V2 (by show 0+1<=1000; decide)) fun p8 H8 f8 s8 e8=>q p8 [0] H8 (s4.trans (T_.trans (s7.trans s8))) e8 (by decide) (by decide)
  | cons c0 cs=>
   have eq:PyData.eqv (.list ((c0::cs).map .int)) (.list [])=false:=rfl
   rw[eq,aK (by decide)]
   refine⟨p5,0,_,rfl,rfl,s6 _ _ e5,by decide,by decide,(by show 1*0<=sizeLine; decide),fun p7 f7=>?_⟩
   have s7:=aO f7 (HO.lst [])
   refine JK.of (s7 _ _ (T_ _ _ e4)) aC (V2 (by rw[cg]; show(c0::cs).length+0<=1000; omega)) fun p8 H8 f8 s8 e8=>?_
   have e8:H8 p8=some (.lst ((c0::cs).map V.int++[])):=e8
   rw[kZ] at e8
   exact q p8 (c0::cs) H8 (s4.trans (T_.trans (s7.trans s8))) e8 (by simp) lc
theorem nZ {ws:List Int} {i:Nat} {u v:List Int} (h:∀j,j<3->ws.getD j 0>(i:Int)->u.getD j 0=v.getD j 0):bQ ws i u=bQ ws i v:=by
 unfold bQ
 refine List.map_congr_left fun j hj=>?_
 have hj:=zp.mp hj
 by_cases c:ws.getD j 0>(i:Int)
 ·rw[aM c,aM c,h j hj c]
 ·rw[aK c,aK c]
theorem j7 (ws:List Int) (i:Nat) (u:List Int):bQ ws i (bQ ws i u)=bQ ws i u:=by
 refine nZ fun j hj hg=>?_
 match j,hj,hg with
 | 0,_,hg=>show(if ws.getD 0 0>(i:Int) then u.getD 0 0 else 0)=_; rw[aM hg]
 | 1,_,hg=>show(if ws.getD 1 0>(i:Int) then u.getD 1 0 else 0)=_; rw[aM hg]
 | 2,_,hg=>show(if ws.getD 2 0>(i:Int) then u.getD 2 0 else 0)=_; rw[aM hg]
theorem De (ws:List Int) (us:List (List Int)):cM ws (cM ws us)=cM ws us:=by
 show[bQ ws 0 (bQ ws 0 _),bQ ws 1 (bQ ws 1 _),bQ ws 2 (bQ ws 2 _)]=[bQ ws 0 _,bQ ws 1 _,bQ ws 2 _]
 rw[j7,j7,j7]
theorem x_ (x:b8) (st:bZ):dZ x (dZ x st)=dZ x st:=by
 show bZ.mk st.w st.r st.cs (if x.e-1<(if x.e-1<st.s then x.e-1 else st.s) then x.e-1 else(if x.e-1<st.s then x.e-1 else st.s)) st.t (cM (fB x) (cM (fB x) st.us))=_
 rw[De]
 have:(if x.e-1<(if x.e-1<st.s then x.e-1 else st.s) then x.e-1 else(if x.e-1<st.s then x.e-1 else st.s))=if x.e-1<st.s then x.e-1 else st.s:=by
  by_cases h:x.e-1<st.s
  ·rw[aM h,aK (by omega)]
  ·rw[aK h,aK h]
 rw[this]
 rfl
theorem fQ {x:b8} {c:Cv} {st:bZ} {n:Nat} (h:(az x c st n).length=n) (q:Nat):(az x c st q).length<=n:=by
 by_cases z:q<=n
 ·have:=l_ (x:=x) (cv:=c) (st:=st) z; omega
 ·have:=Ie h (q-n)
  rw[show n+(q-n)=q by omega] at this
  rw[this]; omega
theorem done_one {x:b8} {c:Cv} {st:bZ} {n n':Nat} (h:(az x c st n).length=n) (h':(az x c st n').length=n'):n=n':=by
 have h1:=fQ h n'
 have h2:=fQ h' n
 omega
theorem jc {x:b8} {c:Cv} {st:bZ} (p i:Nat):∀d,∃r,bF x c st p (i+d)=bF x c st p i++r
 | 0=>⟨[],by simp⟩
 | d+1=>by
  obtain⟨r,hr⟩:=jc (x:=x) (c:=c) (st:=st) p i d
  obtain⟨r',hr'⟩:=Jh (x:=x) (cv:=c) (e:=cC (az x c st p) p) (p:=p) (es:=bF x c st p (i+d)) (c:=i+d)
  refine⟨r++r',?_⟩
  show wu x c (cC (az x c st p) p) p (bF x c st p (i+d)) (i+d)=_
  rw[hr',hr,zr]
theorem zH {x:b8} {c:Cv} {st:bZ} {p i:Nat} (hp:p<(az x c st p).length) (hi:i<=oH c (cC (az x c st p) p)):(bF x c st p i).length<=(az x c st (p+1)).length:=by
 obtain⟨r,hr⟩:=jc (x:=x) (c:=c) (st:=st) p i (oH c (cC (az x c st p) p)-i)
 rw[show i+(oH c (cC (az x c st p) p)-i)=oH c (cC (az x c st p) p) by omega] at hr
 rw[jK hp,hr,fj]; omega
theorem lY {x:b8} {c:Cv} {st:bZ} {bd bd':Option Int} {lim lg:Int} {n p i:Nat} (D:cH x c st bd lim n) (M:wy x c st bd' lg p i) (h:lim<=lg\/n=1):False:=by
 have h1:(bF x c st p (i+1)).length=(bF x c st p i).length+1:=by rw[fP,aK M.hk,fj]; rfl
 have h2:=zH M.hp (show i+1<=_ from M.hc)
 have h3:=fQ D.hn (p+1)
 have h4:=mU (x:=x) (cv:=c) (st:=st) (p:=p) (c:=i)
 have h5:=z7 (x:=x) (cv:=c) (st:=st) p
 have h6:=M.hl
 have h7:=D.hl
 omega
variable {aQ aV:Addr}
variable {aQ aV:Addr}
def oV (CM CW:Addr):Sp:=fun vs H Q E=>∃(v u cv:V) (x:b8) (st:bZ) (c:Cv) (bd lim:Int),vs=[v,u,cv,.int bd,.int lim]/\At H (g8 x) v/\At H (jP st) u/\At H (Dt c) cv/\h_ x/\A_ x/\dY st/\D_ c/\0<=lim/\lim<=900 /\
 (23<bV c (c.map (·.1))->∀H',aD H H'->E (.ref CW) none H') /\
 (bV c (c.map (·.1))<=23->∀n,cH x c st (some bd) lim n->∀p l ys H',aD H H'->H l=none->H' p=some (.tup [.str "kept",.ref l])->H' l=some (.lst ys)->aa H' ((az x c st n).map nq) ys->Q (.ref p) H') /\
 (bV c (c.map (·.1))<=23->∀p cc,d7 x c st (some bd) lim p cc->∀q r H',aD H H'->H r=none->H' q=some (.tup [.str "broken",.ref r])->H' r=some (.lst ((bC (bF x c st p cc) (bF x c st p cc).length p++[(cc:Int)]).map V.int))->Q (.ref q) H') /\
 (bV c (c.map (·.1))<=23->∀p cc,wy x c st (some bd) lim p cc->∀H',aD H H'->E (.ref CM) none H')
theorem xF:aU ["post","stand","curve","bound","limit","entries","load"] ["post","stand","curve","bound","limit"] (aH ux):=(by walk_at "c")
theorem J8 {T:Addr} {tk:Tok} (F:sY K "opened" "opened" ux f fd T 300 tk) (O:Co K mg) (jN:Lj P w K mg base k "walked" ["post","stand","curve","bound","limit"] (uc aQ aV)) :
  bM P w K mg base (lA P w) (k+1) f fd ["post","stand","curve","bound","limit"] (oV aQ aV):=by
 refine F.Wx xF (by rintro vs H Q E ⟨v,u,cv,x,st,c,bd,lim,rfl,_⟩; rfl) (fun cdv A outer s H vs Q E KC hr h=>?_)
 obtain⟨v,u,cv,x,st,c,bd,lim,rfl,a1,a2,a3,hx,hn,hs,hv,hl1,hl2,qW,qD,qB,qM⟩:=h
 have ND:=xF.nd
 refine⟨_,(aq (cU (Yg jN hr (aj (pv 0) (aj (pv 1) (aj (pv 2) (aj (pv 3) (aj (pv 4) ak)))))) (bL (K:=K) (n:=2) rfl rfl (aF (aG (i:=5) ND rfl (by walk_at "o")) (aF (aG (i:=6) ND rfl (by walk_at "o")) bK)))) (aJ (aR (lW (aW zM (pv 6) cY (a_ _)) (aX (aj (qO O.KEPT) (aj (pv 5) ak))) (aX (aj (qO O.BROKEN) (aj (pv 6) ak))))))),?_⟩
 walk_at "rd"
 refine⟨v,u,cv,x,st,c,some bd,lim,rfl,a1,a2,a3,hx,hn,hs,hv,hl1,hl2,fun h H' s' H3 s3=>qW h H3 (s3 s'),fun h n D v' H' s' ⟨p,l,ys,e1,e2,e3,e4,e5⟩=>?_,fun h p cc Bk v' r H' s' f' e' ⟨p',l,ys,e1,e2,e3,e4,e5⟩=>?_,fun h p cc M H' s' H3 s3=>qM h p cc M H3 (s3 s')⟩
 ·subst e1
  refine⟨p,_,rfl,cD.of e2,rfl,?_⟩
  walk_at "rd"
  refine⟨trivial,?_⟩
  rw[aM (by simp)]
  refine⟨(by decide),fun p2 H2 f2 s2 e6=>?_⟩
  exact qD h n D p2 l ys H2 (s'.trans s2) e3 e6 (s2 _ _ e4) (e5.mono s2)
 ·subst e1
  refine⟨p',_,rfl,cD.of e2,rfl,?_⟩
  walk_at "rd"
  refine⟨trivial,?_⟩
  rw[aK (by simp)]
  refine⟨(by decide),fun p2 H2 f2 s2 e6=>?_⟩
  exact qB h p cc Bk p2 r H2 (s'.trans s2) f' e6 (s2 _ _ e')
def cu (es:List En):List Int:=es.map fun e=>e.st.w
def mW (es:List En):Int:=match cu es with
 | []=>0
 | b::r=>dJ b r
theorem HR {es:List En} (h:es≠[]):mW es∈cu es/\∀y∈cu es,y<=mW es:=by
 unfold mW
 cases e:cu es with
 | nil=>exact absurd (List.map_eq_nil_iff.mp e) h
 | cons b r=>exact⟨(tM r b).2,(tM r b).1⟩
theorem Dr:∀{ns:List Int} {i:Int},i∈ns->∃j,oA ns i j
 | n::ns,i,h=>by
  by_cases z:n=i
  ·exact⟨0,by rw[z]; rfl,fun m hm=>by omega⟩
  ·obtain⟨j,h1,h2⟩:=Dr (ns:=ns) (i:=i) (by rcases b_.mp h with q | q; exact absurd q.symm z; exact q)
   refine⟨j+1,by simpa using h1,fun m hm=>?_⟩
   cases m with
   | zero=>simpa using z
   | succ m=>simpa using h2 m (by omega)
def GZ (CM CW:Addr):Sp:=fun vs H Q E=>∃(v u cv:V) (x:b8) (st:bZ) (c:Cv) (lim:Int),vs=[v,u,cv,.int lim]/\At H (g8 x) v/\At H (jP st) u/\At H (Dt c) cv/\h_ x/\A_ x/\dY st/\D_ c/\0<=lim/\lim<=900 /\
 (23<bV c (c.map (·.1))->∀H',aD H H'->E (.ref CW) none H') /\
 (bV c (c.map (·.1))<=23->∀n,cH x c st none lim n->cH x c st (some (mW (az x c st n))) lim n->∀j q r H',oA (cu (az x c st n)) (mW (az x c st n)) j->aD H H'->H r=none->H' q=some (.tup [.int (mW (az x c st n)),.ref r])->H' r=some (.lst ((bC (az x c st n) (az x c st n).length j).map V.int))->Q (.ref q) H') /\
 (bV c (c.map (·.1))<=23->∀n p cc,cH x c st none lim n->d7 x c st (some (mW (az x c st n))) lim p cc->∀q r H',aD H H'->H r=none->H' q=some (.tup [.non,.ref r])->H' r=some (.lst ((bC (bF x c st p cc) (bF x c st p cc).length p++[(cc:Int)]).map V.int))->Q (.ref q) H') /\
 (bV c (c.map (·.1))<=23->∀p cc,wy x c st none lim p cc->∀H',aD H H'->E (.ref CM) none H')
theorem lF:aU ["post","stand","curve","limit","entries","waits","bound","how","shown"] ["post","stand","curve","limit"] (aH jh):=(by walk_at "c")
theorem uU {T:Addr} {tk:Tok} (F:sY K "least_bound" "least_bound" jh f fd T 300 tk) (B:Bi mg) (O:Co K mg) (Qd:Qu P w K mg base k "led" ["post","stand","curve","limit"] 300 (T4 aQ aV)) (dM:Qu P w K mg base k "opened" ["post","stand","curve","bound","limit"] 300 (oV aQ aV)) (iy:Ct P w K mg base k "load_to" ["entries","place"] ud) :
  bM P w K mg base (lA P w) (k+1) f fd ["post","stand","curve","limit"] (GZ aQ aV):=by
 refine F.Wx lF (by rintro vs H Q E ⟨v,u,cv,x,st,c,lim,rfl,_⟩; rfl) (fun cdv A outer s H vs Q E KC hr h=>?_)
 obtain⟨v,u,cv,x,st,c,lim,rfl,a1,a2,a3,hx,hn,hs,hv,hl1,hl2,qW,qD,qB,qM⟩:=h
 have ND:=lF.nd
 refine⟨_,(aq (bf (i:=4) ND rfl (by walk_at "o") (Yg Qd.all hr (aj (pv 0) (aj (pv 1) (aj (pv 2) (aj (pv 3) ak)))))) (aq (Ht (i:=5) ND rfl (by walk_at "o") (N':=["entry"]) (js:=[]) rfl (lV (K:=K) rfl (pv 4)) Ax.mk0 rfl (by decide) rfl (fun fp s' H'=>(bh aP (bh aP (pv 0) ao (fun _ _=>rfl)) ao (fun _ _=>rfl)))) (aq (bf (i:=6) ND rfl (by walk_at "o") (pb (K5 rfl) B.max rn (aj (pv 5) ak))) (aq (cU (Yg dM.all hr (aj (pv 0) (aj (pv 1) (aj (pv 2) (aj (pv 6) (aj (pv 3) ak)))))) (bL (K:=K) (n:=2) rfl rfl (aF (aG (i:=7) ND rfl (by walk_at "o")) (aF (aG (i:=8) ND rfl (by walk_at "o")) bK)))) (aq (dz (aW kY (pv 7) (qO O.BROKEN) (a_ _)) (aJ (aR (aX (aj cY (aj (pv 8) ak))))) bO) (aJ (aR (aX (aj (pv 6) (aj (pf iy hr (aj (pv 4) (aj (nU (K:=K) rfl PySem.F.plainAttrs_list PySem.F.slot_list_index PySem.F.type_list_index FW (pv 5) (aj (pv 6) ak)) ak))) ak)))))))))),?_⟩
 walk_at "rd"
 refine⟨v,u,cv,x,st,c,lim,rfl,a1,a2,a3,hx,hn,hs,hv,hl1,hl2,fun h H' s' H3 s3=>qW h H3 (s3 s'),fun h n D l ys H1 s1 f1 e1 A1=>?_,fun h p cc M H' s' H3 s3=>qM h p cc M H3 (s3 s')⟩
 have hyl:ys.length=n:=by rw[A1.length,cg,D.hn]
 have hn9:n<=900:=by have:=D.hl; omega
 have hne:az x c st n≠[]:=fun z=>by have:=z7 (x:=x) (cv:=c) (st:=st) n; rw[z] at this; simp at this
 show iW _ _ _ _ _ _
 refine Sy (es:=(cu (az x c st n)).map PyData.int) (fun R hR=>by walk_at "rd"; exact hR) e1 (by rw[cg,cu,cg,D.hn,hyl]) (lQ (bB (by rw[cg,cu,cg,D.hn]; omega))) (cZ.mpr fun d hd=>by obtain⟨i,_,rfl⟩:=iR.mp hd; rfl) (fun i y e H2 hi he s2 R hR=>?_) (fun acc zs H2 s2 f2 e2 A2=>?_)
 ·have hil:i<(az x c st n).length:=by rw[D.hn,<- hyl]; exact(nG.mp hi).1
  obtain⟨y',y1,y2⟩:=qj A1 hil
  rw[hi] at y1
  cases y1
  obtain⟨ea,v1,p2,v3,v4,rfl,g1,g2,_,_⟩:=mG y2
  obtain⟨sa,sb,sc,rfl,k1,_⟩:=gk g2
  walk_at "rd"
  refine Ix.tup (s2 _ _ g1) (v:=.ref sa) rfl (Ix.tup (s2 _ _ k1) (v:=.int (cC (az x c st n) i).st.w) rfl (hR _ _ (aD.refl _) ?_))
  have:e=.int (cC (az x c st n) i).st.w:=by
   rw[il,cu,il,gP hil] at he
   cases he
   unfold cC
   rw[iZ,gP hil]
   rfl
  rw[this]
  exact At.int _
 have A2':=A2
 cases cz A2
 have hm:∃b r,cu (az x c st n)=b::r/\dJ b r=mW (az x c st n):=by
  unfold mW
  cases e:cu (az x c st n) with
  | nil=>exact absurd (List.map_eq_nil_iff.mp e) hne
  | cons b r=>exact⟨b,r,rfl,rfl⟩
 obtain⟨b,r,h1,h2⟩:=hm
 refine⟨acc,b,r,rfl,by rw[e2,h1]; rfl,?_⟩
 rw[h2]
 have s12:=s1.trans s2
 refine⟨v,u,cv,x,st,c,mW (az x c st n),lim,rfl,a1.mono s12,a2.mono s12,a3.mono s12,hx,hn,hs,hv,hl1,hl2,fun h'=>by omega,fun _ n' D' p l' ys' H3 s3 f3 e3 e4 A4=>?_,fun _ p cc Bk q r' H3 s3 f3 e3 e4=>?_,fun _ p cc M=>absurd (lY D M (.inl (qH _))) id⟩
 ·have hnn:n'=n:=done_one D'.hn D.hn
  subst hnn
  refine⟨p,_,rfl,cD.of e3,rfl,?_⟩
  walk_at "rd"
  rw[aK (by decide)]
  obtain⟨j,hj⟩:=Dr (HR hne).1
  have hjl:j<(az x c st n').length:=by
   have:=(nG.mp hj.1).1
   rw[cu,cg] at this
   exact this
  have e2':=s3 _ _ e2
  refine⟨.inl ⟨rfl,_,eV.of e2'⟩,acc,_,_,j,rfl,e2',rfl,(by rw[cu,cg,D.hn]; omega),hj,?_⟩
  refine⟨l,ys,az x c st n',j,rfl,s3 _ _ (s2 _ _ e1),A1.mono (s2.trans s3),hjl,(by rw[D.hn]; omega),n_ n',fun r2 H4 f4 s4 e5=>⟨(by decide),fun p3 H5 f5 s5 e6=>?_⟩⟩
  have Az:=s12.trans s3
  exact qD h n' D D' j p3 r2 H5 hj (Az.trans (s4.trans s5)) (aD.free Az f4) e6 (s5 _ _ e5)
 ·refine⟨q,_,rfl,cD.of e3,rfl,?_⟩
  walk_at "rd"
  rw[aM (by decide)]
  refine⟨(by decide),fun p3 H5 f5 s5 e6=>?_⟩
  exact qB h n p cc D Bk p3 r' H5 (s12.trans (s3.trans s5)) (aD.free s12 f3) e6 (s5 _ _ e4)
theorem Iz {m:Nat}:∀{ls:List (List fV)},(∀l∈ls,l.length<=m)->ls.flatten.length<=ls.length*m
 | [],_=>by simp
 | l::ls,h=>by
  have h1:=h l (by simp)
  have h2:=Iz (ls:=ls) fun l' hl'=>h l' (by simp[hl'])
  rw[Ce,fj,m8,Nat.succ_mul]
  omega
theorem Vs {x:b8} (h:UL x):A_ x:=⟨by
 have h1:=Iz (m:=4) (ls:=x.eO) fun l hl=>(h.r l hl).hi
 have h2:=h.n
 have h3:x.eO.length*4<=3*4:=Nat.mul_le_mul_right 4 h2
 omega,fun r hr=>by
 obtain⟨l,hl,hr'⟩:=List.mem_flatten.mp hr
 exact((h.r l hl).g r hr').is⟩
theorem Om {c:Cv} {m:Int} (hv:D_ c) (h:∀q∈c,q.2+q.1<=m):bV c (c.map (·.1))<=m:=by
 obtain⟨⟨i,p,l,e1,e2,e⟩,_⟩:=zX hv.ne (show(c.map (·.1)).length=c.length by rw[cg])
 rw[il,e1] at e2
 cases e2
 have:p.2+p.1<=m:=h p (lU e1)
 rw[e]; exact this
end
theorem vC:∀(cs:List Int) (g:Int),(bz cs g).1.sum=cs.sum-g+(bz cs g).2
 | [],g=>by simp[bz]; omega
 | c::cs,g=>by
  have:=vC cs g
  rw[bz,BW,BW,this]
  simp only
  generalize (if(bz cs g).2<c then(bz cs g).2 else c)=z
  omega
theorem yg:∀(cs:List Int) (g:Int),(∀c∈cs,0<=c)->0<=g->(∀c∈(bz cs g).1,0<=c)/\0<=(bz cs g).2/\((bz cs g).2=0\/(bz cs g).1.sum=0)
 | [],g,_,hg=>⟨by simp[bz],by simpa[bz] using hg,.inr (by simp[bz])⟩
 | c::cs,g,h,hg=>by
  obtain⟨h1,h2,h3⟩:=yg cs g (fun y hy=>h y (iG _ hy)) hg
  have hc:=h c jl
  rw[bz]
  simp only
  generalize hG:(bz cs g).2=G at *
  refine⟨fun y hy=>?_,?_,?_⟩
  ·rcases b_.mp hy with z | z
   ·rw[z]; split <;> omega
   ·exact h1 y z
  ·split <;> omega
  ·rw[BW]
   split <;> omega
structure Wth (x:b8) (st n:bZ) (ch:Int):Prop where
 w:n.w=st.w
 s:n.s=st.s
 u:n.us=st.us
 r:0<=n.r
 c:n.cs.length=5
 cn:∀y∈n.cs,0<=y
 sm:n.r+n.cs.sum=st.r+st.cs.sum+ch
 t:n.t=if ch=0 then st.t else if 0<ch then x.u else x.d
theorem Eb {x:b8} {st:bZ} {ch:Int} (ha:x.a<=4) (hr:0<=st.r) (hl:st.cs.length=5) (hc:∀y∈st.cs,0<=y) (hz:0<=st.r+st.cs.sum+ch):Wth x st (dw x st ch) ch:=by
 by_cases c1:ch=0
 ·subst c1
  have e:dw x st 0=st:=rfl
  rw[e]
  exact⟨rfl,rfl,rfl,hr,hl,hc,by omega,rfl⟩
 ·by_cases c2:0<ch
  ·have e:dw x st ch={ st with cs:=st.cs.take x.a++[st.cs.getD x.a 0+ch]++st.cs.drop (x.a+1),t:=x.u }:=by unfold dw; rw[aK c1,aM c2]
   rw[e]
   refine⟨rfl,rfl,rfl,hr,?_,?_,?_,?_⟩
   ·simp only[fj,jC,uI,m8,List.length_nil]
    omega
   ·intro y hy
    rcases m7.mp hy with z | z
    ·rcases m7.mp z with z | z
     ·exact hc y (List.mem_of_mem_take z)
     ·rw[d8.mp z]
      have hlt:x.a<st.cs.length:=by omega
      have:0<=st.cs.getD x.a 0:=by
       rw[iZ,gP hlt]
       exact hc _ (JM hlt)
      omega
    ·exact hc y (List.mem_of_mem_drop z)
   ·show st.r+(st.cs.take x.a++[st.cs.getD x.a 0+ch]++st.cs.drop (x.a+1)).sum=_
    obtain⟨y0,y1,y2,y3,y4,ey⟩:=R0 hl
    rw[ey]
    have:x.a=0\/x.a=1\/x.a=2\/x.a=3\/x.a=4:=by omega
    rcases this with e | e | e | e | e <;> rw[e] <;> simp <;> omega
   ·show x.u=_
    rw[aK c1,aM c2]
  ·have e:dw x st ch={ st with r:=st.r-(bz st.cs (-ch)).2,cs:=(bz st.cs (-ch)).1,t:=x.d }:=by unfold dw; rw[aK c1,aK c2]
   rw[e]
   obtain⟨k1,k2,k3⟩:=yg st.cs (-ch) hc (by omega)
   have k4:=vC st.cs (-ch)
   have k5:=Ek _ k1
   refine⟨rfl,rfl,rfl,?_,?_,k1,?_,?_⟩
   ·show 0<=st.r-(bz st.cs (-ch)).2
    omega
   ·show(bz st.cs (-ch)).1.length=5
    rw[ou]; exact hl
   ·show st.r-(bz st.cs (-ch)).2+(bz st.cs (-ch)).1.sum=_
    omega
   ·show x.d=_
    rw[aK c1,aK c2]
theorem mD {st:bZ} (h:st.cs.length=5):fK st+(st.cs.drop 1++[0]).sum=st.r+st.cs.sum:=by
 obtain⟨a,b,c,d,e,hc⟩:=R0 h
 unfold fK
 rw[hc]
 simp
 omega
theorem Bs {st:bZ} (h:st.cs.length=5) (hr:0<=st.r) (hc:∀y∈st.cs,0<=y):0<=fK st:=by
 obtain⟨a,b,c,d,e,ec⟩:=R0 h
 have:=hc a (by rw[ec]; exact jl)
 unfold fK; rw[ec]; show 0<=st.r+a; omega
theorem Ol {st:bZ} (hc:∀y∈st.cs,0<=y):∀y∈st.cs.drop 1++[0],0<=y:=fun y hy=>by
 rcases m7.mp hy with z | z
 ·exact hc y (List.mem_of_mem_drop z)
 ·rw[d8.mp z]; exact qH 0
section
variable {P:Program} {w:World} {K:PySem.W.Frag} {mg:Str->Option Value} {base:Heap} {f:Addr} {fd:FuncData} {k:Nat}
structure Qp (st:bZ):Prop where
 is:dY st
 r:0<=st.r
 cn:∀y∈st.cs,0<=y
 sm:st.r+st.cs.sum<=12
 t:0<=st.t
theorem YZ.toW {x:bZ} (h:YZ x):Qp x:=⟨h.is,h.r,h.cn,h.sm,h.t.1⟩
theorem Qp.next {x:b8} {st:bZ} {c:Int} (hx:UL x) (hs:Qp st):Qp (ie x st c):=by
 have hc5:=hs.is.c
 have h0:=Ek _ hs.cn
 have h1:=hs.r
 have h2:=hs.sm
 have hlo:=hx.lo
 have hhi:=hx.hi
 have hwb:0<=kJ x.eO x.lo x.hi (st.r+st.cs.sum) (c7 x st c)/\kJ x.eO x.lo x.hi (st.r+st.cs.sum) (c7 x st c)<=12:=by
  unfold kJ
  simp only
  repeat' split <;> try omega
 have hbd:0<=st.r+st.cs.sum+pX x st c 12/\st.r+st.cs.sum+pX x st c 12<=12:=by
  unfold pX
  rw[mD hc5]
  split
  ·unfold tU
   split <;> omega
  ·omega
 have hml:(st.cs.drop 1++[0]).length=5:=by simp[hc5]
 have hW:=Eb (x:=x) (st:=d_ x st c) (ch:=pX x st c 12) hx.a (Bs hc5 hs.r hs.cn) hml (Ol hs.cn) (by show 0<=fK st+(st.cs.drop 1++[0]).sum+pX x st c 12; rw[mD hc5]; exact hbd.1)
 refine⟨tK hx.is hs.is,hW.r,hW.cn,?_,?_⟩
 ·show(dw x (d_ x st c) (pX x st c 12)).r+_<=12
  have:=hW.sm
  have e:(d_ x st c).r+(d_ x st c).cs.sum=st.r+st.cs.sum:=mD hc5
  rw[e] at this
  show(dw x (d_ x st c) (pX x st c 12)).r+(dw x (d_ x st c) (pX x st c 12)).cs.sum<=12
  omega
 ·show 0<=(dw x (d_ x st c) (pX x st c 12)).t
  rw[hW.t]
  have:=hx.u
  have:=hx.d
  have:=hs.t
  show 0<=(if pX x st c 12=0 then(if 0>st.t-1 then 0 else st.t-1) else if 0<pX x st c 12 then x.u else x.d)
  repeat' split <;> try omega
theorem Ib {x:b8} {cv:Cv} {st:bZ} {Pr:En->Prop} (h0:Pr ⟨dZ x st,cv.map (·.1),none⟩) (hs:∀e q (c:Nat),Pr e->Pr (lZ x cv e q c)):∀p,∀y∈az x cv st p,Pr y
 | 0=>fun y hy=>by rw[d8.mp hy]; exact h0
 | p+1=>by
  have ih:=Ib (cv:=cv) (st:=st) h0 hs p
  rw[dX]
  split
  ·rename_i h
   have he:=ih _ (mZ h).1
   have all:∀c,∀y∈Io x cv (cC (az x cv st p) p) p (az x cv st p) c,Pr y:=fun c=>by
    induction c with
    | zero=>exact ih
    | succ c hc=>
     intro y hy
     have e:Io x cv (cC (az x cv st p) p) p (az x cv st p) (c+1)=wu x cv (cC (az x cv st p) p) p (Io x cv (cC (az x cv st p) p) p (az x cv st p) c) c:=rfl
     rw[e] at hy
     unfold wu at hy
     split at hy
     ·exact hc y hy
     ·rcases m7.mp hy with z | z
      ·exact hc y z
      ·rw[d8.mp z]; exact hs _ _ _ he
   exact all _
  ·exact ih
theorem Qp.lean {x:b8} {st:bZ} (h:Qp st):Qp (dZ x st):=⟨pM h.is,h.r,h.cn,h.sm,h.t⟩
theorem VM {x:b8} {st:bZ} {c:Int} {b:Int} (hx:UL x) (hs:Qp st) (h1:st.w<=b) (h2:x.m<=b) (h3:0<=b):(ie x st c).w<=b:=by
 have hc5:=hs.is.c
 have hml:(st.cs.drop 1++[0]).length=5:=by simp[hc5]
 have hr:=Bs hc5 hs.r hs.cn
 have e:(ie x st c).w=st.w+cO x st c-ig x st c:=by
  show(dw x (d_ x st c) (pX x st c 12)).w=_
  unfold dw
  repeat' split
  all_goals rfl
 have hp:=hx.p
 have hm:0<=fK st*x.p:=Int.mul_nonneg hr (by omega)
 rw[e]
 unfold ig
 have ht:st.w+cO x st c<=b:=by
  unfold cO
  repeat' split
  all_goals omega
 split <;> omega
theorem Yu {x:b8} {cv:Cv} {st:bZ} {b:Int} (hx:UL x) (hs:Qp st) (h1:st.w<=b) (h2:x.m<=b) (h3:0<=b) (p:Nat):∀y∈az x cv st p,Qp y.st/\y.st.w<=b:=
 Ib (Pr:=fun e=>Qp e.st/\e.st.w<=b) ⟨hs.lean,h1⟩ (fun e q c ⟨k1,k2⟩=>⟨(k1.next hx).lean,VM hx k1 k2 h2 h3⟩) p
section
variable {x:b8} {c:Cv} {st st':bZ} {bd:Option Int} {lim:Int}
theorem vI {n p cc:Nat} {lg:Int} (D:cH x c st bd lim n) (Bk:d7 x c st bd lg p cc):False:=by
 have h1:=fQ D.hn p
 have h2:=D.hb p cc (.inl (by have:=Bk.hp; omega)) Bk.hp Bk.hc
 rw[Bk.hk] at h2
 cases h2
theorem uQ {p i i':Nat} (h:i<=i'):(bF x c st p i).length<=(bF x c st p i').length:=by
 obtain⟨r,hr⟩:=jc (x:=x) (c:=c) (st:=st) p i (i'-i)
 rw[show i+(i'-i)=i' by omega] at hr
 rw[hr,fj]; omega
def cW (ns:List Int):PyData:=.list (ns.map .int)
noncomputable def dN (x:b8) (c:Cv) (st:bZ) (p cc:Nat):List Int:=bC (bF x c st p cc) (bF x c st p cc).length p++[(cc:Int)]
end
theorem Ku {ws:List Int} {us vs:List (List Int)} (h:∀i,i<3->bQ ws i (us.getD i [])=bQ ws i (vs.getD i [])):cM ws us=cM ws vs:=by
 unfold cM
 refine List.map_congr_left fun i hi=>?_
 rw[zp] at hi
 exact h i hi
theorem vm {ws:List Int} {us vs:List (List Int)} (h:cM ws us=cM ws vs) {i j:Nat} (hi:i<3) (hj:j<3) (hg:ws.getD j 0>(i:Int)):(us.getD i []).getD j 0=(vs.getD i []).getD j 0:=by
 have h1:bQ ws i (us.getD i [])=bQ ws i (vs.getD i []):=by
  have:=gW (fun l=>l.getD i []) h
  match i,hi,this with
  | 0,_,z=>exact z
  | 1,_,z=>exact z
  | 2,_,z=>exact z
 have h2:(if ws.getD j 0>(i:Int) then(us.getD i []).getD j 0 else 0)=(if ws.getD j 0>(i:Int) then(vs.getD i []).getD j 0 else 0):=by
  have:=gW (fun l=>l.getD j 0) h1
  match j,hj,this with
  | 0,_,z=>exact z
  | 1,_,z=>exact z
  | 2,_,z=>exact z
 rw[aM hg,aM hg] at h2
 exact h2
theorem Oh {x:b8} {w:Str} (hw:w∈(["come","done","wait"]:List Str)):(fB x).getD (eY w) 0=eG x.eO.flatten w:=by
 simp only[b_,pH,or_false] at hw
 rcases hw with rfl | rfl | rfl <;> rfl
theorem Jv {x:b8} {us vs:List (List Int)} {hd:List Int} {r:fV} (hr:r∈x.eO.flatten) (hR:nJ r) (lu:us.length=3) (lv:vs.length=3) (h:cM (fB x) us=cM (fB x) vs):lC r.w r.s (hd::us)=lC r.w r.s (hd::vs):=by
 have hs:=hR.s
 have hn:(fB x).getD (eY r.w) 0≥(r.s:Int)-1:=by
  rw[Oh hR.w]
  exact(ql x.eO.flatten r.w).le r hr rfl
 have Uv:=xg r.w
 have g:∀i,i<3->i+1<r.s->(us.getD i []).getD (eY r.w) 0=(vs.getD i []).getD (eY r.w) 0:=fun i hi hl=>vm h hi Uv (by omega)
 obtain⟨u0,u1,u2,rfl⟩:=Kr lu
 obtain⟨v0,v1,v2,rfl⟩:=Kr lv
 unfold lC
 generalize eY r.w=ix at *
 have:r.s=1\/r.s=2\/r.s=3\/r.s=4:=by omega
 rcases this with e | e | e | e
 ·rw[e]; rfl
 ·have g0:u0.getD ix 0=v0.getD ix 0:=g 0 (by omega) (by omega)
  rw[e]
  show[hd.getD ix 0,u0.getD ix 0].sum=[hd.getD ix 0,v0.getD ix 0].sum
  rw[g0]
 ·have g0:u0.getD ix 0=v0.getD ix 0:=g 0 (by omega) (by omega)
  have g1:u1.getD ix 0=v1.getD ix 0:=g 1 (by omega) (by omega)
  rw[e]
  show[hd.getD ix 0,u0.getD ix 0,u1.getD ix 0].sum=[hd.getD ix 0,v0.getD ix 0,v1.getD ix 0].sum
  rw[g0,g1]
 ·have g0:u0.getD ix 0=v0.getD ix 0:=g 0 (by omega) (by omega)
  have g1:u1.getD ix 0=v1.getD ix 0:=g 1 (by omega) (by omega)
  have g2:u2.getD ix 0=v2.getD ix 0:=g 2 (by omega) (by omega)
  rw[e]
  show[hd.getD ix 0,u0.getD ix 0,u1.getD ix 0,u2.getD ix 0].sum=[hd.getD ix 0,v0.getD ix 0,v1.getD ix 0,v2.getD ix 0].sum
  rw[g0,g1,g2]
theorem rJ {h:Int} {t t':List (List Int)}:∀{rs:List fV},(∀r∈rs,lC r.w r.s t=lC r.w r.s t')->gb h t rs=gb h t' rs
 | [],_=>rfl
 | r::rs,hh=>by
  have ih:=rJ (h:=h) (rs:=rs) fun z hz=>hh z (iG _ hz)
  have e:says r h t=says r h t':=by
   unfold says
   rw[hh r jl]
  show(match says r h t with | some i=>i | none=>gb h t rs)=(match says r h t' with | some i=>i | none=>gb h t' rs)
  rw[e,ih]
theorem Ec {x:b8} {h:Int} {us vs:List (List Int)} {hd:List Int} (hN:A_ x) (lu:us.length=3) (lv:vs.length=3) (hl:cM (fB x) us=cM (fB x) vs):kJ x.eO x.lo x.hi h (hd::us)=kJ x.eO x.lo x.hi h (hd::vs):=by
 have e:x.eO.map (gb h (hd::us))=x.eO.map (gb h (hd::vs)):=List.map_congr_left fun rs hrs=>rJ fun r hr=>
  have hm:r∈x.eO.flatten:=List.mem_flatten.mpr ⟨rs,hrs,hr⟩
  Jv hm (hN.r r hm) lu lv hl
 unfold kJ
 rw[e]
theorem Ks {x:b8} {w r s t:Int} {cs:List Int} {us vs:List (List Int)} (h:cM (fB x) us=cM (fB x) vs) (ch:Int):dZ x (dw x ⟨w,r,cs,s,t,us⟩ ch)=dZ x (dw x ⟨w,r,cs,s,t,vs⟩ ch):=by
 unfold dw
 by_cases c1:ch=0
 ·rw[aM c1,aM c1]
  show bZ.mk _ _ _ _ _ _=bZ.mk _ _ _ _ _ _
  rw[h]
 ·rw[aK c1,aK c1]
  by_cases c2:0<ch
  ·rw[aM c2,aM c2]
   show bZ.mk _ _ _ _ _ _=bZ.mk _ _ _ _ _ _
   rw[h]
  ·rw[aK c2,aK c2]
   show bZ.mk _ _ _ _ _ _=bZ.mk _ _ _ _ _ _
   rw[h]
theorem P_ {x:b8} {A B:bZ} {c fr:Int} (k1:∀hh,kJ x.eO x.lo x.hi hh (c7 x A c)=kJ x.eO x.lo x.hi hh (c7 x B c)) (k2:j6 x.e A.s A.t=j6 x.e B.s B.t) (k3:fK A=fK B) (k4:A.cs=B.cs):pX x A c fr=pX x B c fr:=by
 unfold pX tU
 rw[k2,k3,k4,k1]
theorem Dp {x:b8} {a b:bZ} (hN:A_ x) (ha:dY a) (hb:dY b) (h:dZ x a=dZ x b) (c fr:Int) :
  cO x a c=cO x b c/\ig x a c=ig x b c/\pX x a c fr=pX x b c fr/\dZ x (dw x (d_ x a c) (pX x a c fr))=dZ x (dw x (d_ x b c) (pX x b c fr)):=by
 obtain⟨w,r,cs,s,t,us⟩:=a
 obtain⟨w',r',cs',s',t',us'⟩:=b
 have e1:w=w':=gW bZ.w h
 have e2:r=r':=gW bZ.r h
 have e3:cs=cs':=gW bZ.cs h
 have e4:(if x.e-1<s then x.e-1 else s)=(if x.e-1<s' then x.e-1 else s'):=gW bZ.s h
 have e5:t=t':=gW bZ.t h
 have e6:cM (fB x) us=cM (fB x) us':=gW bZ.us h
 subst e1 e2 e3 e5
 have f1:cO x ⟨w,r,cs,s,t,us⟩ c=cO x ⟨w,r,cs,s',t,us'⟩ c:=rfl
 have f2:ig x ⟨w,r,cs,s,t,us⟩ c=ig x ⟨w,r,cs,s',t,us'⟩ c:=rfl
 have f3:nO x.e s=nO x.e s':=by unfold nO; split at e4 <;> split at e4 <;> split <;> split <;> omega
 have f4:j6 x.e s t=j6 x.e s' t:=by
  unfold j6
  have:(s+1<x.e)↔(s'+1<x.e):=by split at e4 <;> split at e4 <;> omega
  by_cases z:s+1<x.e
  ·rw[aM z,aM (this.mp z)]
  ·rw[aK z,aK (fun y=>z (this.mpr y))]
 have f5:pX x ⟨w,r,cs,s,t,us⟩ c fr=pX x ⟨w,r,cs,s',t,us'⟩ c fr:=by
  refine P_ (fun hh=>?_) f4 rfl rfl
  unfold c7
  rw[f1,f2]
  exact Ec hN ha.u hb.u e6
 refine⟨f1,f2,f5,?_⟩
 rw[f5]
 generalize pX x ⟨w,r,cs,s',t,us'⟩ c fr=ch
 obtain⟨u0,u1,u2,rfl⟩:=Kr ha.u
 obtain⟨v0,v1,v2,rfl⟩:=Kr hb.u
 simp only[d_,fK,c7,f1,f2,f3,List.take_succ_cons,List.take_zero]
 refine Ks (Ku fun i hi=>?_) ch
 match i,hi with
 | 0,_=>rfl
 | 1,_=>
  refine nZ fun j hj hg=>?_
  exact vm e6 (i:=0) (by omega) hj (by have:((1:Nat):Int)=1:=rfl; omega)
 | 2,_=>
  refine nZ fun j hj hg=>?_
  exact vm e6 (i:=1) (by omega) hj (by have:((2:Nat):Int)=2:=rfl; omega)
section
variable {x:b8} {c:Cv} {st:bZ}
theorem HB (p:Nat):∀k i,i<(bF x c st p k).length->i<(az x c st p).length\/∃cc:Nat,cc<k/\(cC (bF x c st p k) i).fr=some (p,(cc:Int))/\i=(bF x c st p cc).length/\(bF x c st p (cc+1)).length=i+1
 | 0,i,h=>.inl h
 | k+1,i,h=>by
  by_cases hk:i<(bF x c st p k).length
  ·rcases HB p k i hk with z | ⟨cc,h1,h2,h3,h4⟩
   ·exact .inl z
   ·refine .inr ⟨cc,by omega,?_,h3,h4⟩
    obtain⟨r,hr⟩:=jc (x:=x) (c:=c) (st:=st) p k 1
    rw[hr,fU hk]
    exact h2
  ·rw[fP] at h
   by_cases hin:(lZ x c (cC (az x c st p) p) p k).key∈(bF x c st p k).map En.key
   ·rw[aM hin] at h; exact absurd h hk
   ·rw[aK hin,fj] at h
    have h:i<(bF x c st p k).length+1:=h
    have hi:i=(bF x c st p k).length:=by omega
    refine .inr ⟨k,by omega,?_,hi,?_⟩
    ·rw[fP,aK hin]
     unfold cC
     rw[iZ,nj (by omega),hi,qI]
     rfl
    ·rw[fP,aK hin,fj,hi]; rfl
theorem mV:∀p i,1<=i->i<(az x c st p).length->∃q cc:Nat,q<(az x c st q).length/\cc<oH c (cC (az x c st q) q)/\(cC (az x c st p) i).fr=some (q,(cc:Int))/\i=(bF x c st q cc).length/\(bF x c st q (cc+1)).length=i+1
 | 0,i,h1,h=>by simp[az] at h; omega
 | p+1,i,h1,h=>by
  by_cases hp:p<(az x c st p).length
  ·have e:=jK hp
   rw[e] at h ⊢
   rcases HB p _ i h with z | ⟨cc,g1,g2,g3,g4⟩
   ·obtain⟨q,cc,k1,k2,k3,k4,k5⟩:=mV p i h1 z
    refine⟨q,cc,k1,k2,?_,k4,k5⟩
    obtain⟨r,hr⟩:=jc (x:=x) (c:=c) (st:=st) p 0 (oH c (cC (az x c st p) p))
    rw[wI] at hr
    have e0:bF x c st p 0=az x c st p:=rfl
    rw[hr,e0,fU z]
    exact k3
   ·exact⟨p,cc,hp,g1,g2,g3,g4⟩
  ·have e:az x c st (p+1)=az x c st p:=by rw[dX,aK hp]
   rw[e] at h ⊢
   exact mV p i h1 h
theorem OD (p:Nat):(cC (az x c st p) 0).fr=none:=by
 obtain⟨r,hr⟩:=gK (x:=x) (cv:=c) (st:=st) 0 p
 rw[wI] at hr
 rw[hr,fU (by simp[az])]
 rfl
def nu (q cc p c':Nat):Prop:=q<p\/q=p/\cc<c'
theorem S6 {q cc p c' i:Nat} (h1:q<(az x c st q).length) (h2:cc<oH c (cC (az x c st q) q)) (h3:i=(bF x c st q cc).length) (h4:(bF x c st q (cc+1)).length=i+1) (g1:p<(az x c st p).length) (g2:c'<=oH c (cC (az x c st p) p)):nu q cc p c'↔i<(bF x c st p c').length:=by
 constructor
 ·rintro(h | ⟨rfl,h⟩)
  ·have k1:=zH h1 (show cc+1<=_ from h2)
   have k2:=l_ (x:=x) (cv:=c) (st:=st) (show q+1<=p from h)
   have k3:=mU (x:=x) (cv:=c) (st:=st) (p:=p) (c:=c')
   omega
  ·have:=uQ (x:=x) (c:=c) (st:=st) (p:=q) (show cc+1<=c' from h)
   omega
 ·intro h
  by_cases z:nu q cc p c'
  ·exact z
  ·unfold nu at z
   by_cases w:p=q
   ·subst w
    have:=uQ (x:=x) (c:=c) (st:=st) (p:=p) (show c'<=cc by omega)
    omega
   ·have k1:=zH g1 g2
    have k2:=l_ (x:=x) (cv:=c) (st:=st) (show p+1<=q by omega)
    have k3:=mU (x:=x) (cv:=c) (st:=st) (p:=q) (c:=cc)
    omega
theorem Cq {es r:List En} (hq:w6 es):∀f p,p<es.length->bC (es++r) f p=bC es f p
 | 0,_,_=>rfl
 | f+1,p,hp=>by
  unfold bC
  rw[fU hp]
  cases e:(cC es p).fr with
  | none=>rfl
  | some qc=>
   obtain⟨q,cc⟩:=qc
   show bC (es++r) f q++[cc]=bC es f q++[cc]
   rw[Cq hq f q (by have:=hq p q cc hp e; omega)]
theorem N8 {n p cc:Nat} (hn:(az x c st n).length=n) (hp:p<(az x c st p).length) (hc:cc<=oH c (cC (az x c st p) p)):∃r,az x c st n=bF x c st p cc++r:=by
 have hpn:p<n:=by have:=fQ hn p; omega
 obtain⟨r1,h1⟩:=jc (x:=x) (c:=c) (st:=st) p cc (oH c (cC (az x c st p) p)-cc)
 rw[show cc+(oH c (cC (az x c st p) p)-cc)=oH c (cC (az x c st p) p) by omega,<- jK hp] at h1
 obtain⟨r2,h2⟩:=gK (x:=x) (cv:=c) (st:=st) (p+1) (n-(p+1))
 rw[show p+1+(n-(p+1))=n by omega,h1,zr] at h2
 exact⟨_,h2⟩
theorem qd {b:Option Int} {lim:Int} {n p cc:Nat} (hn:(az x c st n).length=n) (Bk:d7 x c st b lim p cc):dN x c st p cc=bC (az x c st n) n p++[(cc:Int)]:=by
 unfold dN
 obtain⟨r,hr⟩:=N8 hn Bk.hp (lQ Bk.hc)
 have hf:=Fw (c:=cc) Bk.hp
 have hpl:p<(bF x c st p cc).length:=by have:=mU (x:=x) (cv:=c) (st:=st) (p:=p) (c:=cc); have:=Bk.hp; omega
 have hl:(bF x c st p cc).length<=n:=by
  have:=gW List.length hr
  rw[hn,fj] at this
  omega
 rw[hr,Cq hf _ _ hpl,qQ hf p _ n hpl hpl (by omega)]
end
def Vu (a b:List Int):Bool:=if a.length=b.length then lq a b else decide (a.length<b.length)
theorem Oq:∀a:List Int,lq a a=false
 | []=>rfl
 | a::as=>by unfold lq; rw[aM rfl]; exact Oq as
theorem HY:∀a b:List Int,lq a b=true->lq b a=false
 | [],[],_=>rfl
 | [],_::_,_=>rfl
 | _::_,[],h=>by simp[lq] at h
 | a::as,b::bs,h=>by
  unfold lq at h ⊢
  by_cases e:a=b
  ·rw[aM e] at h
   rw[aM e.symm]
   exact HY as bs h
  ·rw[aK e] at h
   rw[aK (Ne.symm e)]
   have:=Fd h
   exact fX (by omega)
theorem HS:∀(a b:List Int) (x y:Int),a.length=b.length->lq a b=true->lq (a++[x]) (b++[y])=true
 | [],[],_,_,_,h=>by simp[lq] at h
 | [],_::_,_,_,h,_=>by simp at h
 | _::_,[],_,_,h,_=>by simp at h
 | a::as,b::bs,x,y,hl,h=>by
  unfold lq at h
  show lq (a::(as++[x])) (b::(bs++[y]))=true
  unfold lq
  by_cases e:a=b
  ·rw[aM e] at h ⊢
   exact HS as bs x y (by simpa using hl) h
  ·rw[aK e] at h ⊢
   exact h
theorem HX:∀(a:List Int) (x y:Int),x<y->lq (a++[x]) (a++[y])=true
 | [],x,y,h=>by
  show lq [x] [y]=true
  unfold lq
  rw[aK (by omega)]
  exact iT h
 | a::as,x,y,h=>by
  show lq (a::(as++[x])) (a::(as++[y]))=true
  unfold lq
  rw[aM rfl]
  exact HX as x y h
def Qw (a b:List Int):Prop:=a.length<b.length\/a.length=b.length/\lq a b=true
theorem Qw.no {a b:List Int} (h:Qw a b):Vu b a=false:=by
 unfold Vu
 rcases h with h | ⟨h,e⟩
 ·rw[aK (by omega)]; exact fX (by omega)
 ·rw[aM h.symm]; exact HY _ _ e
theorem Vt (a:List Int):Vu a a=false:=by unfold Vu; rw[aM rfl]; exact Oq a
theorem Qw.snoc {a b:List Int} (h:Qw a b) (x y:Int):Qw (a++[x]) (b++[y]):=by
 rcases h with h | ⟨h,e⟩
 ·exact .inl (by simp; omega)
 ·exact .inr ⟨by simp; omega,HS _ _ _ _ h e⟩
theorem Qw.last (a:List Int) {x y:Int} (h:x<y):Qw (a++[x]) (a++[y]):=.inr ⟨by simp,HX a x y h⟩
section
variable {x:b8} {c:Cv} {st:bZ}
theorem qP {n fuel:Nat}:bC (az x c st n) fuel 0=[]:=by
 cases fuel with
 | zero=>rfl
 | succ f=>unfold bC; rw[OD]
theorem jG {n p q:Nat} {cc:Int} (hn:(az x c st n).length=n) (hp:p<n) (e:(cC (az x c st n) p).fr=some (q,cc)):q<p/\bC (az x c st n) n p=bC (az x c st n) n q++[cc]:=by
 have hq:q<p:=n_ n p q cc (by omega) e
 refine⟨hq,?_⟩
 obtain⟨m,rfl⟩:∃m,n=m+1:=⟨n-1,by omega⟩
 conv=>lhs; unfold bC
 rw[e]
 show bC (az x c st (m+1)) m q++[cc]=_
 rw[qQ (n_ (m+1)) q m (m+1) (by omega) (by omega) (by omega)]
theorem N7 {n:Nat} (hn:(az x c st n).length=n):∀j,j<n->∀i,i<j->Qw (bC (az x c st n) n i) (bC (az x c st n) n j):=by
 intro j
 induction j using Nat.strongRecOn with
 | _ j ih=>
  intro hj i hi
  obtain⟨q',c',a1,a2,a3,a4,a5⟩:=mV (x:=x) (c:=c) (st:=st) n j (by omega) (by omega)
  obtain⟨b1,b2⟩:=jG hn hj a3
  rw[b2]
  by_cases i0:i=0
  ·subst i0
   rw[qP]
   exact .inl (by simp)
  ·obtain⟨q,cc,k1,k2,k3,k4,k5⟩:=mV (x:=x) (c:=c) (st:=st) n i (by omega) (by omega)
   obtain⟨d1,d2⟩:=jG hn (by omega) k3
   rw[d2]
   have hl:nu q cc q' c':=(S6 k1 k2 k4 k5 a1 (by omega)).mpr (by omega)
   rcases hl with h | ⟨rfl,h⟩
   ·exact(ih q' b1 (by omega) q h).snoc _ _
   ·exact Qw.last _ (by omega)
theorem Ow {n p cc p' qZ:Nat} (hn:(az x c st n).length=n) (hp:p'<n) (h:nu p cc p' qZ):Qw (bC (az x c st n) n p++[(cc:Int)]) (bC (az x c st n) n p'++[(qZ:Int)]):=by
 rcases h with h | ⟨rfl,h⟩
 ·exact(N7 hn p' hp p h).snoc _ _
 ·exact Qw.last _ (by omega)
end
section
variable {x:b8} {c:Cv} {st:bZ}
theorem zK (p:Nat):∀k cc,cc<k->(lZ x c (cC (az x c st p) p) p cc).key∈(bF x c st p k).map En.key
 | 0,cc,h=>by omega
 | k+1,cc,h=>by
  rw[fP]
  by_cases e:cc=k
  ·subst e
   split
   ·assumption
   ·rw[gY]; exact gZ _ (by simp)
  ·have ih:=zK p k cc (by omega)
   split
   ·exact ih
   ·rw[gY]; exact Ho _ ih
theorem V3 {n p:Nat} (hn:(az x c st n).length=n) (hp:p<n):p<(az x c st p).length/\cC (az x c st n) p=cC (az x c st p) p:=by
 have h1:p<(az x c st p).length:=by
  by_cases z:p<(az x c st p).length
  ·exact z
  ·have e1:∀d,az x c st (p+d)=az x c st p:=fun d=>by
    induction d with
    | zero=>rfl
    | succ d ih=>rw[<- Bt,dX,ih,aK (by omega)]
   have:=e1 (n-p)
   rw[show p+(n-p)=n by omega] at this
   rw[this] at hn
   omega
 refine⟨h1,?_⟩
 obtain⟨r,hr⟩:=gK (x:=x) (cv:=c) (st:=st) p (n-p)
 rw[show p+(n-p)=n by omega] at hr
 rw[hr,fU h1]
theorem Gk {n p cc q:Nat} (hn:(az x c st n).length=n) (hp:p<n) (hc:cc<oH c (cC (az x c st n) p)):(lZ x c (cC (az x c st n) p) q cc).key∈(az x c st n).map En.key:=by
 obtain⟨h1,h2⟩:=V3 hn hp
 rw[h2] at hc ⊢
 have h3:=zK (x:=x) (c:=c) (st:=st) p _ cc hc
 rw[<- jK h1] at h3
 obtain⟨r,hr⟩:=gK (x:=x) (cv:=c) (st:=st) (p+1) (n-(p+1))
 rw[show p+1+(n-(p+1))=n by omega] at hr
 rw[hr,gY]
 exact Ho _ h3
theorem Hz (p:Nat):∀k i,i<(bF x c st p k).length->i<(az x c st p).length\/∃cc:Nat,cc<k/\cC (bF x c st p k) i=lZ x c (cC (az x c st p) p) p cc
 | 0,i,h=>.inl h
 | k+1,i,h=>by
  by_cases hk:i<(bF x c st p k).length
  ·rcases Hz p k i hk with z | ⟨cc,h1,h2⟩
   ·exact .inl z
   ·refine .inr ⟨cc,by omega,?_⟩
    obtain⟨r,hr⟩:=jc (x:=x) (c:=c) (st:=st) p k 1
    rw[hr,fU hk]
    exact h2
  ·rw[fP] at h
   by_cases hin:(lZ x c (cC (az x c st p) p) p k).key∈(bF x c st p k).map En.key
   ·rw[aM hin] at h; exact absurd h hk
   ·rw[aK hin,fj] at h
    have h:i<(bF x c st p k).length+1:=h
    have hi:i=(bF x c st p k).length:=by omega
    refine .inr ⟨k,by omega,?_⟩
    rw[fP,aK hin]
    unfold cC
    rw[iZ,nj (by omega),hi,qI]
    rfl
theorem pO:∀p i,1<=i->i<(az x c st p).length->∃q cc:Nat,q<(az x c st q).length/\cc<oH c (cC (az x c st q) q)/\cC (az x c st p) i=lZ x c (cC (az x c st q) q) q cc
 | 0,i,h1,h=>by simp[az] at h; omega
 | p+1,i,h1,h=>by
  by_cases hp:p<(az x c st p).length
  ·have e:=jK hp
   rw[e] at h ⊢
   rcases Hz p _ i h with z | ⟨cc,g1,g2⟩
   ·obtain⟨q,cc,k1,k2,k3⟩:=pO p i h1 z
    refine⟨q,cc,k1,k2,?_⟩
    obtain⟨r,hr⟩:=jc (x:=x) (c:=c) (st:=st) p 0 (oH c (cC (az x c st p) p))
    rw[wI] at hr
    have e0:bF x c st p 0=az x c st p:=rfl
    rw[hr,e0,fU z]
    exact k3
   ·exact⟨p,cc,hp,g1,g2⟩
  ·have e:az x c st (p+1)=az x c st p:=by rw[dX,aK hp]
   rw[e] at h ⊢
   exact pO p i h1 h
theorem tW {n p:Nat} (hn:(az x c st n).length=n) (hp:p<(az x c st p).length):p<n/\cC (az x c st n) p=cC (az x c st p) p:=by
 have hpn:p<n:=by have:=fQ hn p; omega
 refine⟨hpn,?_⟩
 obtain⟨r,hr⟩:=gK (x:=x) (cv:=c) (st:=st) p (n-p)
 rw[show p+(n-p)=n by omega] at hr
 rw[hr,fU hp]
theorem J3 {n:Nat} (hx:h_ x) (hN:A_ x) (hs:dY st) (hn:(az x c st n).length=n):∀p,p<n->dZ x (cA x st (bC (az x c st n) n p))=(cC (az x c st n) p).st:=by
 intro p
 induction p using Nat.strongRecOn with
 | _ p ih=>
  intro hp
  by_cases p0:p=0
  ·subst p0
   rw[qP]
   obtain⟨r,hr⟩:=gK (x:=x) (cv:=c) (st:=st) 0 n
   rw[wI] at hr
   rw[hr,fU (by simp[az])]
   rfl
  ·obtain⟨q,cc,k1,k2,k3⟩:=pO (x:=x) (c:=c) (st:=st) n p (by omega) (by omega)
   obtain⟨b1,b2⟩:=jG hn hp (by rw[k3]; rfl)
   obtain⟨qn,qe⟩:=tW hn k1
   rw[b2,eU,k3]
   have g:=Dp hN (iQ hx hs) (pM (iQ hx hs)) (x_ x (cA x st (bC (az x c st n) n q))).symm cc 12
   show dZ x (ie x _ _)=dZ x (ie x (cC (az x c st q) q).st cc)
   rw[<- qe,<- ih q b1 (by omega)]
   exact g.2.2.2
theorem Kp {n p cc:Nat} (hx:h_ x) (hN:A_ x) (hs:dY st) (hn:(az x c st n).length=n) (hp:p<n) :
  (cA x st (bC (az x c st n) n p++[(cc:Int)])).w=(qg x (cC (az x c st n) p) cc).w/\(cc:Int)-cO x (cA x st (bC (az x c st n) n p)) cc=qi x (cC (az x c st n) p) cc:=by
 have e:=J3 (c:=c) hx hN hs hn p hp
 have g:=Dp hN (iQ hx hs) (pM (iQ hx hs)) (x_ x (cA x st (bC (az x c st n) n p))).symm cc 12
 refine⟨?_,?_⟩
 ·rw[eU]
  show _=(dZ x (ie x (cC (az x c st n) p).st cc)).w
  rw[<- e]
  have h:=gW bZ.w g.2.2.2
  exact h
 ·show _=(cc:Int)-cO x (cC (az x c st n) p).st cc
  rw[<- e,<- g.1]
end
variable {aQ aV:Addr}
def MF:Sp:=fun vs H Q _=>∃(v u cv:V) (x:b8) (st:bZ) (c:Cv),vs=[v,u,cv]/\At H (g8 x) v/\At H (jP st) u/\At H (Dt c) cv/\h_ x/\A_ x/\dY st/\D_ c/\bV c (c.map (·.1))<=23 /\
 (∀n j q r H',cH x c st none 150 n->cH x c st (some (mW (az x c st n))) 150 n->oA (cu (az x c st n)) (mW (az x c st n)) j->aD H H'->H' q=some (.tup [.int (mW (az x c st n)),.ref r])->H' r=some (.lst ((bC (az x c st n) (az x c st n).length j).map V.int))->Q (.ref q) H') /\
 (∀n p cc q r H',cH x c st none 150 n->d7 x c st (some (mW (az x c st n))) 150 p cc->aD H H'->H' q=some (.tup [.non,.ref r])->H' r=some (.lst ((dN x c st p cc).map V.int))->Q (.ref q) H') /\
 (∀H',aD H H'->Q .non H')
theorem uq:aU ["_law_post","_law_stand","_law_curve_here","_law_found"] ["_law_post","_law_stand","_law_curve_here"] (aH qC):=(by walk_at "c")
theorem FJ (F:iV K "_law_least" "_law_least" qC f fd) (B:Bi mg) (Z:ZL K mg aQ aV) (jr:Qu P w K mg base k "least_bound" ["post","stand","curve","limit"] 300 (GZ aQ aV)):bM P w K mg base iz (k+1) f fd ["_law_post","_law_stand","_law_curve_here"] MF:=by
 refine F.ok uq (by rintro vs H Q E ⟨v,u,cv,x,st,c,rfl,_⟩; rfl) (fun cdv A outer s H vs Q E hr h=>?_)
 obtain⟨v,u,cv,x,st,c,rfl,a1,a2,a3,hx,hn,hs,hv,hW,q1,q2,q3⟩:=h
 have ND:=uq.nd
 refine⟨_,(aq (bf (i:=3) ND rfl (by walk_at "o") cY) (aq (Rj (K:=K) rfl (Nu (Ri (i:=3) ND (Rh jr.all hr (aj (pv 0) (aj (pv 1) (aj (pv 2) (aj ao ak))))))) (fun e=>(aJ (bf (i:=3) ND rfl (by walk_at "o") cY))) Z.Ji) (aJ (aR (pv 3))))),?_⟩
 walk_at "rd"
 unfold Tu
 walk_at "rd"
 refine⟨v,u,cv,x,st,c,150,rfl,a1,a2,a3,hx,hn,hs,hv,by decide,by decide,fun hW'=>absurd hW (by omega),fun _ n D D2 j q r H' hj s' f' e1 e'=>?_,fun _ n p cc D Bk q r H' s' f' e1 e'=>?_,fun _ p cc M H' sE=>⟨Z.Gj,fun a H3 s3 hX=>?_⟩⟩
 ·exact q1 n j q r H' D D2 hj s' e1 e'
 ·exact q2 n p cc q r H' D Bk s' e1 e'
 ·exact q3 H3 (s3 sE)
def XH:Sp:=fun vs H Q _=>∃(v u:V) (l:Addr) (x:b8) (st:bZ) (L:List Int) (cc bd:Int),vs=[v,u,.ref l,.int bd]/\At H (g8 x) v/\At H (jP st) u/\h_ x/\dY st/\H l=some (.lst ((L++[cc]).map V.int))/\L.length<=900 /\
 ∀H',aD H H'->Q (.bl (decide ((cA x st (L++[cc])).w>bd) || decide (cc-cO x (cA x st L) cc>0))) H'
theorem kW:aU ["_law_post","_law_stand","_law_load","_law_bound"] ["_law_post","_law_stand","_law_load","_law_bound"] (aH iC):=(by walk_at "c")
theorem sU (F:iV K "_law_load_right" "_law_load_right" iC f fd) (B:Bi mg) (mY:Ct P w K mg base k "after" ["post","stand","load"] y_) (vU:Ct P w K mg base k "played" ["post","stand","load"] Bh):bM P w K mg base iz (k+1) f fd ["_law_post","_law_stand","_law_load","_law_bound"] XH:=by
 refine F.ok kW (by rintro vs H Q E ⟨v,u,l,x,st,L,cc,bd,rfl,_⟩; rfl) (fun cdv A outer s H vs Q E hr h=>?_)
 obtain⟨v,u,l,x,st,L,cc,bd,rfl,a1,a2,hx,hs,hl,hz,q⟩:=h
 have ND:=kW.nd
 refine⟨_,(aq (dz (PW.pt (rO (Fi (qN (pb R9 B.isinstance wV (aj (pv 2) (aj (pty (by rfl) B.list tV) ak))))) (qL (aW (zN hr.units) (pv 2) (bT ak) (a_ _))))) (aJ (aR rP)) bO) (aJ (aR (Ui (fO lX (bh aP (pf mY hr (aj (pv 0) (aj (pv 1) (aj (pv 2) ak)))) ao (fun _ _=>rfl)) (pv 3) (a_ _)) (NP (fO lX (bh aP (bh aP (pf vU hr (aj (pv 0) (aj (pv 1) (aj (pv 2) ak)))) (nH je ao) (fun _ _=>rfl)) ao (fun _ _=>rfl)) ao (a_ _))))))),?_⟩
 walk_at "rd"
 have A0:∀H',aD H H'->At H' (cW (L++[cc])) (.ref l):=fun H' s'=>At.lst (s' _ _ hl) (bu _)
 obtain⟨d1,d2,d3⟩:=iu (L++[cc])
 refine⟨_,_,rfl,A0 H (aD.refl _),_,rfl,?_⟩
 rw[aK (by show ¬(!true)=true; decide)]
 refine⟨(by decide),fun p1 H1 f1 s1 e1=>⟨_,_,A0 H1 s1,At.lst e1 aa.nil,d1,(by decide),d2,(by decide),d3,?_⟩⟩
 have hne:PyData.eqv (cW (L++[cc])) (.list [])=false:=by
  show PyData.eqvAll ((L++[cc]).map .int) (([]:List Int).map .int)=false
  rw[mj]; simp
 rw[aK (by rw[hne]; decide)]
 refine⟨v,u,l,x,st,L++[cc],rfl,a1.mono s1,a2.mono s1,hx,hs,s1 _ _ hl,fun u2 H2 s2 b2=>?_⟩
 have s12:=s1.trans s2
 obtain⟨sa,sb,sc,rfl,k1,_⟩:=gk b2
 refine Ix.tup k1 (v:=.int (cA x st (L++[cc])).w) rfl ⟨_,_,rfl,rfl,?_⟩
 by_cases z:bd<(cA x st (L++[cc])).w
 ·rw[aM (iT z)]
  have:=q H2 s12
  rw[iT (show(cA x st (L++[cc])).w>bd from z),Bool.true_or] at this
  exact this
 ·rw[aK (by rw[fX z]; decide)]
  refine⟨v,u,l,x,st,L++[cc],rfl,a1.mono s12,a2.mono s12,hx,hs,s12 _ _ hl,by rw[fj]; show _+1<=_; omega,fun p xs H3 s3 f3 e3 A3=>?_⟩
  rw[jX,gY] at A3
  obtain⟨y,y1,y2⟩:=aa.getD (i:=(jF x st L).length) (d:=jO (JF x (cA x st L) cc)) A3 (by rw[nj (by rw[cg]; omega),cg,qI]; rfl)
  have Yw:xs.length=(jF x st L).length+1:=by rw[A3.length,fj,cg]; rfl
  have ey:yG xs (-1)=some y:=by
   obtain⟨r,y',rfl⟩:∃r y',xs=r++[y']:=⟨xs.dropLast,xs.getLast (fun z=>by rw[z] at Yw; simp at Yw),(Nm _).symm⟩
   rw[fj] at Yw
   have Yw:r.length+1=(jF x st L).length+1:=Yw
   rw[wg]
   rw[nj (by omega),show(jF x st L).length-r.length=0 by omega] at y1
   exact y1
  obtain⟨ra,zs,rfl,r1,r2⟩:=bA y2
  cases cz r2
  refine Ix.lst e3 ey (Ix.tup r1 (v:=.int (cc-cO x (cA x st L) cc)) rfl ⟨_,_,rfl,rfl,?_⟩)
  have:=q H3 (s12.trans s3)
  rw[fX (show ¬(cA x st (L++[cc])).w>bd from z),Bool.false_or] at this
  exact this
variable {aQ aV:Addr}
section
variable {x:b8} {c:Cv} {st:bZ}
theorem Qi {b b':Int} {e:En} {cc:Int} (h:b<=b') (k:mO x (some b') e cc=true):mO x (some b) e cc=true:=by
 unfold mO at k ⊢
 simp only[BX,decide_eq_true_eq] at k ⊢
 rcases k with k | k
 ·exact .inl (by omega)
 ·exact .inr k
theorem yx {b b' lim lg:Int} {p cc p' qZ:Nat} (h:b<=b') (B1:d7 x c st (some b) lim p cc) (B2:d7 x c st (some b') lg p' qZ):¬nu p' qZ p cc:=fun l=>by
 have h1:=B1.hb p' qZ l B2.hp B2.hc
 rw[Qi h B2.hk] at h1
 cases h1
theorem H_ {b b':Option Int} {lim lg:Int} {n p cc p' qZ:Nat} (hn:(az x c st n).length=n) (B1:d7 x c st b lim p cc) (B2:d7 x c st b' lg p' qZ) (h:¬nu p' qZ p cc):Vu (dN x c st p' qZ) (dN x c st p cc)=false:=by
 by_cases z:nu p cc p' qZ
 ·rw[qd hn B1,qd hn B2]
  exact(Ow hn (tW hn B2.hp).1 z).no
 ·have e:p=p'/\cc=qZ:=by unfold nu at h z; omega
  rw[e.1,e.2]
  exact Vt _
theorem HD (a b:List Int):Cr ((a.map V.int).length:Int) ((b.map V.int).length:Int) a b=Vu a b:=by
 unfold Cr Vu
 rw[cg,cg]
 by_cases h:a.length=b.length
 ·rw[aM (by omega),aM h]
 ·rw[aK (by omega),aK h]
  by_cases z:a.length<b.length
  ·rw[iT (by omega),iT z]
  ·rw[fX (by omega),fX z]
theorem yw {b lim:Int} {n p cc:Nat} (hx:h_ x) (hN:A_ x) (hs:dY st) (hn:(az x c st n).length=n) (Bk:d7 x c st (some b) lim p cc) :
  dN x c st p cc=bC (az x c st n) n p++[(cc:Int)]/\(decide ((cA x st (bC (az x c st n) n p++[(cc:Int)])).w>b) || decide ((cc:Int)-cO x (cA x st (bC (az x c st n) n p)) cc>0))=true/\(cA x st (bC (az x c st n) n p++[(cc:Int)])).w=(qg x (cC (az x c st p) p) cc).w:=by
 obtain⟨h1,h2⟩:=tW hn Bk.hp
 obtain⟨g1,g2⟩:=Kp (cc:=cc) hx hN hs hn h1
 refine⟨qd hn Bk,?_,by rw[g1,h2]⟩
 rw[g1,g2,h2]
 exact Bk.hk
theorem Qj {b b' lim lg:Int} {p cc p' qZ:Nat} (h:b<=b') (B1:d7 x c st (some b) lim p cc) (B2:d7 x c st (some b') lg p' qZ) (hw:(qg x (cC (az x c st p) p) cc).w>b'):p'=p/\qZ=cc:=by
 have h1:=yx h B1 B2
 by_cases z:nu p cc p' qZ
 ·have h2:=B2.hb p cc z B1.hp B1.hc
  unfold mO at h2
  simp only[Bool.or_eq_false_iff,decide_eq_false_iff_not] at h2
  exact absurd hw h2.1
 ·unfold nu at h1 z; omega
end
theorem eN.open {a b:TS} {D:Ends} {σ:St} {H:Hp} (h:a { D with nx:=b D } σ H):eN a b D σ H:=h
def F_ (ds:List (List Int)):PyData:=.list (ds.map cW)
theorem xZ:∀ds:List (List Int),PyData.hasDictAll (ds.map cW)=false/\PyData.canLayAll0 (ds.map cW)=true/\PyData.depthAll (ds.map cW)<=1
 | []=>⟨rfl,rfl,by decide⟩
 | d::ds=>by
  obtain⟨h1,h2,h3⟩:=xZ ds
  obtain⟨g1,g2,_⟩:=iu d
  refine⟨?_,?_,?_⟩
  ·simp only[rZ,PyData.hasDictAll,h1,Bool.or_false]; exact g1
  ·simp only[rZ,PyData.canLayAll0,h2,Bool.and_true]; exact g2
  ·have:PyData.depth (cW d)=1:=by show PyData.depthAll _+1=1; rw[(iw d).2.2]
   simp only[rZ,PyData.depthAll]
   omega
theorem C_ (ds:List (List Int)):PyData.hasDict (F_ ds)=false/\PyData.canLay0 (F_ ds)=true/\PyData.depth (F_ ds)<=60:=by
 obtain⟨h1,h2,h3⟩:=xZ ds
 exact⟨by simpa[F_,PyData.hasDict] using h1,by simpa[F_,PyData.canLay0] using h2,by show PyData.depthAll _+1<=60; omega⟩
theorem zZ (ds:List (List Int)):PyData.eqv (F_ ds) (.list [])=decide (ds=[]):=by
 cases ds with
 | nil=>rfl
 | cons d ds=>rfl
structure Qs (x:b8) (c:Cv) (st:bZ) (H:Hp) (ds:List (List Int)) (ys:List V):Prop where
 at':aa H (ds.map cW) ys
 last:∀d,ds.getLast?=some d->∃p cc,d7 x c st (some ((ds.length:Int)-1)) 150 p cc/\d=dN x c st p cc
def MJ:Sp:=fun vs H Q _=>∃(v u cv:V) (x:b8) (st:bZ) (c:Cv) (most:Nat) (n:Nat),vs=[v,u,cv,.int most]/\At H (g8 x) v/\At H (jP st) u/\At H (Dt c) cv/\h_ x/\A_ x/\dY st/\D_ c/\bV c (c.map (·.1))<=23/\cH x c st none 150 n/\most<=900 /\
 ∀l ds ys H',aD H H'->H' l=some (.lst ys)->Qs x c st H' ds ys->(ds.length=most+1\/cH x c st (some (ds.length:Int)) 150 n/\ds.length<=most)->Q (.ref l) H'
theorem uo:aU ["_law_post","_law_stand","_law_curve_here","_law_most","_law_loads_here","_law_bound","_law_word","_law_told"] ["_law_post","_law_stand","_law_curve_here","_law_most"] (aH qz):=(by walk_at "c")
theorem Fz (F:iV K "_law_loads" "_law_loads" qz f fd) (B:Bi mg) (dM:Qu P w K mg base k "opened" ["post","stand","curve","bound","limit"] 300 (oV aQ aV)) (mY:Ct P w K mg base k "after" ["post","stand","load"] y_) (vY:Ct P w K mg base k "_law_load_right" ["_law_post","_law_stand","_law_load","_law_bound"] XH):bM P w K mg base iz (k+1) f fd ["_law_post","_law_stand","_law_curve_here","_law_most"] MJ:=by
 refine F.ok uo (by rintro vs H Q E ⟨v,u,cv,x,st,c,most,n,rfl,_⟩; rfl) (fun cdv A outer s H vs Q E hr h=>?_)
 obtain⟨v,u,cv,x,st,c,most,n,rfl,a1,a2,a3,hx,hn,hs,hv,hW,D,hm,q⟩:=h
 have ND:=uo.nd
 refine⟨_,(aq (bf (i:=4) ND rfl (by walk_at "o") (bT ak)) (aq (jW PassesOwn.never rfl (fu (by rfl) B.range (aj (aY bI (pv 3) ao) ak)) (aG (i:=5) ND rfl (by walk_at "o")) (aq (cU (pf dM.all.calm hr (aj (pv 0) (aj (pv 1) (aj (pv 2) (aj (pv 5) (aj ao ak)))))) (bL (K:=K) (n:=2) rfl rfl (aF (aG (i:=6) ND rfl (by walk_at "o")) (aF (aG (i:=7) ND rfl (by walk_at "o")) bK)))) (aq (dz (aW kY (pv 6) dD (a_ _)) (aJ (aR (pv 4))) bO) (aq (dz (PW.pt (rO (aW HF (pv 6) dD (a_ _)) (qL (Fi (qN (pf vY hr (aj (pv 0) (aj (pv 1) (aj (pv 7) (aj (pv 5) ak)))))))))) (aJ (aR cY)) bO) (aq (dz (PW.pt (jV (aW (qR hr.units) (pv 4) (bT ak) (a_ _)) (i_ (aW (Oa hr.units) (aX (aj (pb (cQ (K:=K) rfl) B.len g_ (aj (pv 7) ak)) (aj (pv 7) ak))) (aX (aj (pb (cQ (K:=K) rfl) B.len g_ (aj (bh aP (pv 4) (nH je ao) (fun _ _=>rfl)) ak)) (aj (bh aP (pv 4) (nH je ao) (fun _ _=>rfl)) ak))) (a_ _))))) (aJ (aR cY)) bO) (aq (dz (PW.pt (jV (aW (qR hr.units) (pv 4) (bT ak) (a_ _)) (jV (aW lX (bh aP (pf mY hr (aj (pv 0) (aj (pv 1) (aj (bh aP (pv 4) (nH je ao) (fun _ _=>rfl)) ak)))) ao (fun _ _=>rfl)) (pv 5) (a_ _)) (i_ (aW (qR hr.units) (pv 7) (bh aP (pv 4) (nH je ao) (fun _ _=>rfl)) (a_ _)))))) (aJ (aR cY)) bO) (aJ (jb (nU (K:=K) rfl PySem.F.plainAttrs_list PySem.F.slot_list_append PySem.F.type_list_append gA (pv 4) (aj (pv 7) ak)))))))))) (aJ (aR (pv 4))))),?_⟩
 simp only[M4,T6 15]
 walk_at "rd"
 refine⟨(by decide),fun p H1 f1 s1 e1=>?_⟩
 obtain⟨Pv,hPv⟩:∃Pv:Nat->St->Hp->Prop,∀i σ H',Pv i σ H'↔∃(o5 o6 o7:Option V) (ds:List (List Int)) (ys:List V),σ=[some v,some u,some cv,some (.int most),some (.ref p),o5,o6,o7]/\H' p=some (.lst ys)/\SX p H H'/\ds.length=i/\Qs x c st (hid p H') ds ys:=⟨_,fun _ _ _=>Iff.rfl⟩
 refine Ux (n:=most+1) (fun R hR=>by walk_at "rd"; exact hR) (by omega) Pv ((hPv _ _ _).mpr ⟨_,_,_,[],[],rfl,e1,SX.of s1,rfl,aa.nil,fun d hd=>by simp at hd⟩) ?_ ?_
 ·intro i σ H2 hi hh
  obtain⟨o5,o6,o7,ds,ys,rfl,e2,sx,hlen,L⟩:=(hPv _ _ _).mp hh
  have sH:=SX.same f1 sx
  have hyl:ys.length=i:=by rw[L.at'.length,cg,hlen]
  walk_at "rd"
  refine⟨v,u,cv,x,st,c,0+(i:Nat),150,rfl,a1.mono sH,a2.mono sH,a3.mono sH,hx,hn,hs,hv,by decide,by decide,fun hW'=>absurd hW (by omega),fun _ n' D' p3 l ws H3 s3 f3 e3 _ _=>?_,fun _ bp bc Bk p3 r H3 s3 f3 e3 er=>?_,fun _ p' cc M=>absurd (lY D M (.inl (by decide))) id⟩
  ·refine⟨p3,_,rfl,cD.of e3,rfl,?_⟩
   walk_at "rd"
   refine eN.open ?_
   walk_at "rd"
   rw[aM (by decide)]
   cases done_one D'.hn D.hn
   refine q p ds ys H3 (sH.trans s3) (s3 _ _ e2) ⟨(L.at'.mono dh).mono s3,L.last⟩ (.inr ⟨?_,by omega⟩)
   rw[hlen,show((i:Nat):Int)=0+(i:Nat) by omega]
   exact D'
  ·refine⟨p3,_,rfl,cD.of e3,rfl,?_⟩
   walk_at "rd"
   refine eN.open ?_
   walk_at "rd"
   rw[aK (by decide)]
   have Zh:=sH.trans s3
   have rp:r≠p:=fun z=>by rw[z,e2] at f3; cases f3
   obtain⟨b1,b2,b3⟩:=yw hx hn hs D.hn Bk
   have hpl:(bC (az x c st n) n bp).length<=900:=by
    have h1:=uP (n_ (x:=x) (cv:=c) (st:=st) n) n bp
    have h2:=D.hl
    omega
   have er:H3 r=some (.lst ((dN x c st bp bc).map V.int)):=er
   have L3:∀H',aD H3 H'->Qs x c st (hid p H') ds ys:=fun H' s'=>⟨L.at'.mono (aD.hid (s3.trans s')),L.last⟩
   have A3:∀H',aD H3 H'->At H' (F_ ds) (.ref p):=fun H' s'=>At.lst (s' _ _ (s3 _ _ e2)) ((L3 H' s').at'.mono dh)
   obtain⟨m1,m2,m3⟩:=C_ ds
   have lst:∀H',aD H3 H'->ds≠[]->∃(r':Addr) (wW yF:Nat),yG ys (-1)=some (.ref r')/\H' r'=some (.lst ((dN x c st wW yF).map V.int))/\d7 x c st (some ((i:Int)-1)) 150 wW yF:=fun H' s' hne=>by
    obtain⟨d0,d,rfl⟩:∃d0 d,ds=d0++[d]:=⟨ds.dropLast,ds.getLast hne,(Nm hne).symm⟩
    obtain⟨wW,yF,B',rfl⟩:=L.last d (by simp)
    rw[hlen] at B'
    have A':=(L3 H' s').at'.mono dh
    rw[gY] at A'
    obtain⟨y,y1,y2⟩:=aa.getD (i:=d0.length) (d:=cW (dN x c st wW yF)) A' (by rw[nj (by rw[cg]; omega),cg,qI]; rfl)
    have vq:ys.length=d0.length+1:=by rw[hyl,<- hlen,fj]; rfl
    have ey:yG ys (-1)=some y:=by
     obtain⟨r0,y',rfl⟩:∃r0 y',ys=r0++[y']:=⟨ys.dropLast,ys.getLast (fun z=>by rw[z] at vq; simp at vq),(Nm _).symm⟩
     rw[fj] at vq
     have vq:r0.length+1=d0.length+1:=vq
     rw[wg]
     rw[nj (by omega),show d0.length-r0.length=0 by omega] at y1
     exact y1
    unfold cW At at y2
    obtain⟨ra,zs,rfl,r1,r2⟩:=y2
    cases cz r2
    exact⟨ra,wW,yF,ey,r1,B'⟩
   refine eN.on (fun H4 s4=>?_) fun N hN=>?_
   ·refine eN.on (fun H5 s5=>?_) fun N hN=>?_
    ·refine eN.on (fun H6 s6=>?_) fun N hN=>?_
     ·walk_at "rd"
      have Ey:=s4.trans (s5.trans s6)
      have e6:=Ey _ _ (s3 _ _ e2)
      refine⟨.inl ⟨rfl,_,eV.of e6⟩,p,ys,_,rfl,rfl,e6,bB (by omega),?_⟩
      refine(hPv _ _ _).mpr ⟨_,_,_,ds++[dN x c st bp bc],ys++[.ref r],rfl,aC,(sx.trans (SX.of (s3.trans Ey))).trans SX.upd,by rw[fj,hlen]; rfl,?_,fun d hd=>?_⟩
      ·rw[eX,gY]
       exact aa.append (L3 H6 Ey).at' (aa.cons (At.lst (by rw[bR rp]; exact Ey _ _ er) (bu _)) aa.nil)
      ·rw[List.getLast?_append] at hd
       cases hd
       refine⟨bp,bc,?_,rfl⟩
       rw[fj,hlen,show(((i+[dN x c st bp bc].length:Nat):Int)-1)=0+(i:Nat) by simp]
       exact Bk
     ·walk_at "rd"
      have XN:=s4.trans s5
      refine⟨(by decide),fun p6 H6 f6 s6 e6=>⟨_,_,A3 H6 (XN.trans s6),At.lst e6 aa.nil,m1,(by decide),m2,(by decide),m3,?_⟩⟩
      have Ey:=XN.trans s6
      rw[zZ]
      by_cases hne:ds=[]
      ·rw[aK (by simp[hne])]
       exact hN H6 s6
      ·rw[aM (by simp[hne])]
       obtain⟨r',wW,yF,ey,YK,B'⟩:=lst H6 Ey hne
       have YL:=Ey _ _ (s3 _ _ e2)
       obtain⟨g1,g2,g3⟩:=yw hx hn hs D.hn B'
       refine Ix.lst YL ey ⟨v,u,r',x,st,dN x c st wW yF,rfl,a1.mono (Zh.trans Ey),a2.mono (Zh.trans Ey),hx,hs,YK,fun u7 H7 s7 b7=>?_⟩
       obtain⟨sa,sb,sc,rfl,k1,_⟩:=gk b7
       refine Ix.tup k1 (v:=.int (cA x st (dN x c st wW yF)).w) rfl ⟨_,_,rfl,rfl,?_⟩
       rw[g1,g3]
       by_cases z:0+(i:Int)<(qg x (cC (az x c st wW) wW) yF).w
       ·rw[aM (iT z)]
        obtain⟨w1,w2⟩:=Qj (by omega) B' Bk z
        rw[w1,w2] at er
        obtain⟨d1,d2,d3⟩:=iu (dN x c st wW yF)
        refine Ix.lst (s7 _ _ YL) ey ⟨_,_,At.lst ((Ey.trans s7) _ _ er) (bu _),At.lst (s7 _ _ YK) (bu _),d1,d1,d2,d2,d3,?_⟩
        rw[aK (by
         have:PyData.eqv (.list ((dN x c st wW yF).map .int)) (.list ((dN x c st wW yF).map .int))=true:=by
          show PyData.eqvAll _ _=true
          rw[mj]; simp
         rw[this]; decide)]
        exact hN H7 (s6.trans s7)
       ·rw[aK (by rw[fX z]; decide)]
        exact hN H7 (s6.trans s7)
    ·walk_at "rd"
     refine⟨(by decide),fun p6 H6 f6 s6 e6=>⟨_,_,A3 H6 (s4.trans s6),At.lst e6 aa.nil,m1,(by decide),m2,(by decide),m3,?_⟩⟩
     have Ey:=s4.trans s6
     rw[zZ]
     by_cases hne:ds=[]
     ·rw[aK (by simp[hne])]
      exact hN H6 s6
     ·rw[aM (by simp[hne])]
      obtain⟨r',wW,yF,ey,YK,B'⟩:=lst H6 Ey hne
      have YL:=Ey _ _ (s3 _ _ e2)
      refine⟨r,_,rfl,.inl (eV.of (Ey _ _ er)),(by decide),fun p7 H7 f7 s7 e7=>?_⟩
      refine Ix.lst (s7 _ _ YL) ey ⟨r',_,rfl,.inl (eV.of (s7 _ _ YK)),Ix.lst (s7 _ _ YL) ey ⟨(by decide),fun p8 H8 f8 s8 e8=>?_⟩⟩
      refine⟨p7,p8,r,r',_,_,dN x c st bp bc,dN x c st wW yF,rfl,rfl,s8 _ _ e7,e8,s8 _ _ (s7 _ _ (Ey _ _ er)),s8 _ _ (s7 _ _ YK),_,rfl,?_⟩
      rw[HD,H_ D.hn B' Bk (yx (by omega) B' Bk),aK (by decide)]
      exact hN H8 (s6.trans (s7.trans s8))
   ·walk_at "rd"
    rw[aK (by decide)]
    refine⟨v,u,r,x,st,bC (az x c st n) n bp,(bc:Int),0+(i:Nat),rfl,a1.mono Zh,a2.mono Zh,hx,hs,by rw[<- b1]; exact er,hpl,fun H4 s4=>⟨_,rfl,?_⟩⟩
    rw[b2,aK (by decide)]
    exact hN H4 s4
 ·intro σ H2 hh
  obtain⟨o5,o6,o7,ds,ys,rfl,e2,sx,hlen,L⟩:=(hPv _ _ _).mp hh
  walk_at "rd"
  exact q p ds ys H2 (SX.same f1 sx) e2 ⟨L.at'.mono dh,L.last⟩ (.inl hlen)
variable {aQ aV:Addr}
section
variable {x:b8} {c:Cv} {st:bZ}
theorem Qk {n p cc:Nat} (hn:(az x c st n).length=n) (hp:p<(az x c st p).length) (hc:cc<oH c (cC (az x c st p) p)):(qg x (cC (az x c st p) p) cc).w<=mW (az x c st n):=by
 obtain⟨h1,h2⟩:=tW hn hp
 have h3:=Gk (q:=p) hn h1 (by rw[h2]; exact hc)
 obtain⟨e,he,hk⟩:=iR.mp h3
 have hne:az x c st n≠[]:=fun z=>by rw[z] at he; cases he
 have h4:=(HR hne).2 e.st.w (iR.mpr ⟨e,he,rfl⟩)
 have h5:e.st.w=(qg x (cC (az x c st n) p) cc).w:=by
  unfold En.key Dh jP at hk
  simp only[PyData.tuple.injEq,List.cons.injEq,PyData.int.injEq] at hk
  exact hk.1.1
 rw[h2] at h5
 omega
theorem DN {lim:Int} {n p cc:Nat} {b:Int} (hn:(az x c st n).length=n) (hb:mW (az x c st n)<=b) (Bk:d7 x c st (some b) lim p cc):qi x (cC (az x c st p) p) cc>0:=by
 have h1:=Qk hn Bk.hp Bk.hc
 have h2:=Bk.hk
 unfold mO at h2
 simp only[BX,decide_eq_true_eq] at h2
 omega
theorem DQ {b:Int} {e:En} {cc:Int} (h:qi x e cc>0):mO x (some b) e cc=true:=by
 unfold mO
 simp only[BX,decide_eq_true_eq]
 exact .inr h
theorem rA {lim lg b b':Int} {p cc p' qZ:Nat} (h:qi x (cC (az x c st p) p) cc>0) (B1:d7 x c st (some b) lim p cc) (B2:d7 x c st (some b') lg p' qZ):¬nu p cc p' qZ:=fun l=>by
 have h1:=B2.hb p cc l B1.hp B1.hc
 rw[DQ h] at h1
 cases h1
theorem Je {lim b b':Int} {n n' p cc:Nat} (h:qi x (cC (az x c st p) p) cc>0) {lg:Int} (B1:d7 x c st (some b) lim p cc) (D:cH x c st (some b') lg n):False:=by
 have h1:=fQ D.hn p
 have h2:=D.hb p cc (.inl (by have:=B1.hp; omega)) B1.hp B1.hc
 rw[DQ h] at h2
 cases h2
theorem Ad {b b' lim:Int} {n:Nat} (D:cH x c st (some b) lim n) (h:b<=b'):cH x c st (some b') lim n:=by
 refine⟨D.hn,fun p' c' h1 h2 h3=>?_,D.hl⟩
 cases e:mO x (some b') (cC (az x c st p') p') c' with
 | false=>rfl
 | true=>
  have:=D.hb p' c' h1 h2 h3
  rw[Qi h e] at this
  cases this
theorem CZ {n:Nat} (hs:0<=st.w):st.w<=mW (az x c st n)/\(cu (az x c st n))[0]?=some st.w:=by
 obtain⟨r,hr⟩:=gK (x:=x) (cv:=c) (st:=st) 0 n
 rw[wI] at hr
 have e:(cu (az x c st n))[0]?=some st.w:=by
  rw[hr]
  rfl
 refine⟨?_,e⟩
 exact(HR (fun z=>by rw[z] at e; simp[cu] at e)).2 _ (lU e)
theorem KH {b lim lg:Int} {n j p cc:Nat} (D:cH x c st (some (mW (az x c st n))) lim n) (hj:oA (cu (az x c st n)) (mW (az x c st n)) j) (j1:1<=j) (hb:b=mW (az x c st n)-1) (Bk:d7 x c st (some b) lg p cc):dN x c st p cc=bC (az x c st n) n j:=by
 have hn:=D.hn
 have hjn:j<(az x c st n).length:=by
  have:=(nG.mp hj.1).1
  rw[cu,cg] at this
  exact this
 obtain⟨q,c',a1,a2,a3,a4,a5⟩:=mV n j j1 hjn
 obtain⟨q2,c2,b1,b2,b3⟩:=pO n j j1 hjn
 have e0:=a3
 rw[b3] at e0
 have e1:q2=q/\(c2:Int)=c':=by
  have:some (q2,(c2:Int))=some (q,(c':Int)):=e0
  injection this with this
  injection this with z1 z2
  exact⟨z1,z2⟩
 have e2:c2=c':=by have:=e1.2; omega
 rw[e1.1,e2] at b3
 obtain⟨r1,r2⟩:=jG hn (by omega) a3
 rw[qd hn Bk,r2]
 have hw:(qg x (cC (az x c st q) q) c').w=mW (az x c st n):=by
  have h1:=hj.1
  rw[cu,il,(mZ hjn).2,b3] at h1
  injection h1
 have aaQ:mO x (some b) (cC (az x c st q) q) c'=true:=by
  unfold mO
  simp only[BX,decide_eq_true_eq]
  exact .inl (by omega)
 have no1:¬nu q c' p cc:=fun l=>by
  have:=Bk.hb q c' l a1 a2
  rw[aaQ] at this
  cases this
 have no2:¬nu p cc q c':=fun l=>by
  have Zu:(qg x (cC (az x c st p) p) cc).w=mW (az x c st n):=by
   have h1:=Qk hn Bk.hp Bk.hc
   have h2:=Bk.hk
   have h3:=D.hb p cc (.inl (by have:=fQ hn p; have:=Bk.hp; omega)) Bk.hp Bk.hc
   unfold mO at h2 h3
   simp only[BX,decide_eq_true_eq,Bool.or_eq_false_iff,decide_eq_false_iff_not] at h2 h3
   omega
  have hin:=zK (x:=x) (c:=c) (st:=st) p (cc+1) cc (by omega)
  obtain⟨e,he,hk⟩:=iR.mp hin
  obtain⟨i,hi⟩:=Ff.mp he
  have hil:i<(bF x c st p (cc+1)).length:=(nG.mp hi).1
  have hlt:(bF x c st p (cc+1)).length<=j:=by
   rw[a4]
   rcases l with l | ⟨rfl,l⟩
   ·have k1:=zH Bk.hp (show cc+1<=_ from Bk.hc)
    have k2:=l_ (x:=x) (cv:=c) (st:=st) (show p+1<=q from l)
    have k3:=mU (x:=x) (cv:=c) (st:=st) (p:=q) (c:=c')
    omega
   ·exact uQ (by omega)
  obtain⟨r,hr⟩:=N8 hn Bk.hp (show cc+1<=_ from Bk.hc)
  have h5:e.st.w=mW (az x c st n):=by
   rw[<- Zu]
   unfold En.key Dh jP at hk
   simp only[PyData.tuple.injEq,List.cons.injEq,PyData.int.injEq] at hk
   exact hk.1.1
  refine hj.2 i (by omega) ?_
  have h6:(az x c st n)[i]?=some e:=by rw[hr,BP hil,hi]
  rw[cu,il,h6]
  exact gW some h5
 have e:p=q/\cc=c':=by unfold nu at no1 no2; omega
 rw[e.1,e.2]
theorem Py {b lim lg:Int} {n j:Nat} (hn:(az x c st n).length=n) (hj:oA (cu (az x c st n)) (mW (az x c st n)) j) (j1:1<=j) (hb:b<mW (az x c st n)) (D:cH x c st (some b) lg n):False:=by
 have hjn:j<(az x c st n).length:=by
  have:=(nG.mp hj.1).1
  rw[cu,cg] at this
  exact this
 obtain⟨q2,c2,b1,b2,b3⟩:=pO n j j1 hjn
 have hw:(qg x (cC (az x c st q2) q2) c2).w=mW (az x c st n):=by
  have h1:=hj.1
  rw[cu,il,(mZ hjn).2,b3] at h1
  injection h1
 have:=D.hb q2 c2 (.inl (by have:=fQ hn q2; omega)) b1 b2
 unfold mO at this
 simp only[Bool.or_eq_false_iff,decide_eq_false_iff_not] at this
 omega
end
variable {aQ aV:Addr}
inductive ZR (x:b8) (c:Cv) (st:bZ):Nat->V->List Int->Prop
 | lbD (n j:Nat):cH x c st none 150 n->cH x c st (some (mW (az x c st n))) 150 n->oA (cu (az x c st n)) (mW (az x c st n)) j->ZR x c st n (.int (mW (az x c st n))) (bC (az x c st n) n j)
 | lbB (n p cc:Nat):cH x c st none 150 n->d7 x c st (some (mW (az x c st n))) 150 p cc->ZR x c st n .non (dN x c st p cc)
theorem Qs.ref {x:b8} {c:Cv} {st:bZ} {H:Hp} {ds:List (List Int)} {ys:List V} (L:Qs x c st H ds ys) (hne:ds≠[]):∃(r':Addr) (wW yF:Nat),yG ys (-1)=some (.ref r')/\H r'=some (.lst ((dN x c st wW yF).map V.int))/\d7 x c st (some ((ds.length:Int)-1)) 150 wW yF:=by
 obtain⟨d0,d,rfl⟩:∃d0 d,ds=d0++[d]:=⟨ds.dropLast,ds.getLast hne,(Nm hne).symm⟩
 obtain⟨wW,yF,B',rfl⟩:=L.last d (by simp)
 have A':=L.at'
 have vq:ys.length=d0.length+1:=by rw[A'.length,cg,fj]; rfl
 rw[gY] at A'
 obtain⟨y,y1,y2⟩:=aa.getD (i:=d0.length) (d:=cW (dN x c st wW yF)) A' (by rw[nj (by rw[cg]; omega),cg,qI]; rfl)
 have ey:yG ys (-1)=some y:=by
  obtain⟨r0,y',rfl⟩:∃r0 y',ys=r0++[y']:=⟨ys.dropLast,ys.getLast (fun z=>by rw[z] at vq; simp at vq),(Nm _).symm⟩
  rw[fj] at vq
  have vq:r0.length+1=d0.length+1:=vq
  rw[wg]
  rw[nj (by omega),show d0.length-r0.length=0 by omega] at y1
  exact y1
 unfold cW At at y2
 obtain⟨ra,zs,rfl,r1,r2⟩:=y2
 cases cz r2
 exact⟨ra,wW,yF,ey,r1,B'⟩
theorem N6 {x:b8} {c:Cv} {st:bZ} {n j:Nat} (hn:(az x c st n).length=n) (hj:j<n):bC (az x c st n) n j=[]↔j=0:=by
 constructor
 ·intro e
  by_cases z:j=0
  ·exact z
  ·exfalso
   obtain⟨q,cc,_,_,k3,_,_⟩:=mV (x:=x) (c:=c) (st:=st) n j (by omega) (by omega)
   rw[(jG hn hj k3).2] at e
   simp at e
 ·rintro rfl; exact qP
theorem Di (L:List Int):PyData.eqv (cW L) (.list [])=decide (L=[]):=by
 cases L with
 | nil=>rfl
 | cons a L=>rfl
theorem cl5 {L:List Int} (d2:PyData.canLay0 (.list (L.map .int))=true):PyData.canLay0 (.tuple [.str "broken",cW L])=true:=by
 have d2:PyData.canLay0 (cW L)=true:=d2
 generalize cW L=d at d2
 simp only[PyData.canLay0,PyData.canLayAll0,d2]
 decide +kernel
def Es:Sp:=fun vs H Q _=>∃(v u cv bv:V) (t l:Addr) (x:b8) (st:bZ) (c:Cv) (n:Nat) (L:List Int),vs=[v,u,cv,.ref t]/\At H (g8 x) v/\At H (jP st) u/\At H (Dt c) cv/\h_ x/\A_ x/\dY st/\D_ c/\bV c (c.map (·.1))<=23/\0<=st.w/\mW (az x c st n)<=800/\H t=some (.tup [bv,.ref l])/\H l=some (.lst (L.map V.int))/\ZR x c st n bv L /\
 ∀H',aD H H'->Q (.bl true) H'
theorem um:aU ["_law_post","_law_stand","_law_curve_here","_law_least_here","_law_bound","_law_load","_law_loads_here"] ["_law_post","_law_stand","_law_curve_here","_law_least_here"] (aH qy):=(by walk_at "c")
theorem Fy (F:iV K "_law_right" "_law_right" qy f fd) (B:Bi mg) (dM:Qu P w K mg base k "opened" ["post","stand","curve","bound","limit"] 300 (oV aQ aV)) (yt:Ct P w K mg base k "_law_loads" ["_law_post","_law_stand","_law_curve_here","_law_most"] MJ):bM P w K mg base iz (k+1) f fd ["_law_post","_law_stand","_law_curve_here","_law_least_here"] Es:=by
 refine F.ok um (by rintro vs H Q E ⟨v,u,cv,bv,t,l,x,st,c,n,L,rfl,_⟩; rfl) (fun cdv A outer s H vs Q E hr h=>?_)
 obtain⟨v,u,cv,bv,t,l,x,st,c,n,L,rfl,a1,a2,a3,hx,hn,hs,hv,hW,Zt,hm8,ht,hl,T,q⟩:=h
 have ND:=um.nd
 refine⟨_,(aq (cU (pv 3) (bL (K:=K) (n:=2) rfl rfl (aF (aG (i:=4) ND rfl (by walk_at "o")) (aF (aG (i:=5) ND rfl (by walk_at "o")) bK)))) (aq (dz (aW zM (pv 4) cY (a_ _)) (aq (bf (i:=6) ND rfl (by walk_at "o") (pf yt hr (aj (pv 0) (aj (pv 1) (aj (pv 2) (aj ao ak)))))) (aq (dz (PW.pt (rO (aW zM (pv 6) cY (a_ _)) (rO (aW HF (pb (cQ (K:=K) rfl) B.len g_ (aj (pv 6) ak)) ao (a_ _)) (qL (aW (Oa hr.units) (aX (aj (pb (cQ (K:=K) rfl) B.len g_ (aj (pv 5) ak)) (aj (pv 5) ak))) (aX (aj (pb (cQ (K:=K) rfl) B.len g_ (aj (bh aP (pv 6) (nH je ao) (fun _ _=>rfl)) ak)) (aj (bh aP (pv 6) (nH je ao) (fun _ _=>rfl)) ak))) (a_ _)))))) (aJ (aR rP)) bO) (aJ (aR (fO (zN hr.units) (pf dM.all.calm hr (aj (pv 0) (aj (pv 1) (aj (pv 2) (aj (aY zL ao ao) (aj ao ak)))))) (aX (aj dD (aj (pv 5) ak))) (a_ _)))))) bO) (aq (bf (i:=6) ND rfl (by walk_at "o") (pf yt hr (aj (pv 0) (aj (pv 1) (aj (pv 2) (aj (aY bI (pv 4) ao) ak)))))) (aq (dz (PW.pt (rO (aW zM (pv 6) cY (a_ _)) (rO (aW lX (pb (cQ (K:=K) rfl) B.len g_ (aj (pv 6) ak)) (pv 4) (a_ _)) (qL (PW.pt (jV (aW (qR hr.units) (pv 5) (bT ak) (a_ _)) (i_ (aW HF (pb (cQ (K:=K) rfl) B.len g_ (aj (pv 6) ak)) (pv 4) (a_ _))))))))) (aJ (aR rP)) bO) (aq (dz (PW.pt (jV (aW (qR hr.units) (pv 5) (bT ak) (a_ _)) (i_ (PW.pt (rO (aW (zN hr.units) (pv 6) (bT ak) (a_ _)) (qL (aW (qR hr.units) (bh aP (pv 6) (nH je ao) (fun _ _=>rfl)) (pv 5) (a_ _)))))))) (aJ (aR rP)) bO) (aq (dz (aW HF (bh aP (pf dM.all.calm hr (aj (pv 0) (aj (pv 1) (aj (pv 2) (aj (aY bI (pv 4) ao) (aj ao ak)))))) ao (fun _ _=>rfl)) dD (a_ _)) (aJ (aR rP)) bO) (aJ (aR (fO kY (bh aP (pf dM.all.calm hr (aj (pv 0) (aj (pv 1) (aj (pv 2) (aj (aY zL ao ao) (aj ao ak)))))) ao (fun _ _=>rfl)) dD (a_ _)))))))))),?_⟩
 simp only[M4,T6 15]
 walk_at "rd"
 refine⟨t,_,rfl,cD.of ht,rfl,?_⟩
 walk_at "rd"
 have D:cH x c st none 150 n:=by cases T with
  | lbD j D D2 hj=>exact D
  | lbB p cc D Bk=>exact D
 have c12:(10:Int) ^ Int.toNat 12=1000000000000:=by decide +kernel
 refine eN.open ?_
 cases T with
 | lbB p cc D0 Bk=>
  have haw:=DN D.hn (qH _) Bk
  walk_at "rd"
  refine⟨trivial,?_⟩
  rw[aM (by decide)]
  refine⟨v,u,cv,x,st,c,8,n,rfl,a1,a2,a3,hx,hn,hs,hv,hW,D,by decide,fun l2 ds ys H2 s2 e2 L2 hd=>?_⟩
  have h9:ds.length=9:=by
   rcases hd with hd | ⟨hd,_⟩
   ·exact hd
   ·exact absurd (Je (n':=n) haw Bk hd) id
  have hne:ds≠[]:=fun z=>by rw[z] at h9; cases h9
  obtain⟨r',bp,bc,ey,er,B'⟩:=L2.ref hne
  have hyl:ys.length=9:=by rw[L2.at'.length,cg,h9]
  have Zz:=s2 _ _ hl
  refine eN.on (fun H3 s3=>?_) fun N hN=>?_
  ·walk_at "rd"
   refine⟨⟨by decide,by decide,by decide⟩,v,u,cv,x,st,c,_,150,rfl,a1.mono (s2.trans s3),a2.mono (s2.trans s3),a3.mono (s2.trans s3),hx,hn,hs,hv,by decide,by decide,fun hW'=>absurd hW (by omega),fun _ n' D'=>absurd (Je (n':=n) haw Bk D') id,fun _ p' qZ B2 q4 r4 H4 s4 f4 e4 ZD=>?_,fun _ p' qZ M=>absurd (lY D M (.inl (by decide))) id⟩
   rw[c12] at B2
   have aaR:=DN D.hn (by omega) B2
   have g1:=rA aaR B2 Bk
   have g2:=rA haw Bk B2
   have g3:p'=p/\qZ=cc:=by unfold nu at g1 g2; omega
   have ZD:H4 r4=some (.lst ((dN x c st p' qZ).map V.int)):=ZD
   rw[g3.1,g3.2] at ZD
   obtain⟨d1,d2,d3⟩:=iu (dN x c st p cc)
   have dep:PyData.depth (.list ((dN x c st p cc).map .int))=1:=by show PyData.depthAll _+1=1; rw[(iw _).2.2]
   refine⟨(by decide),fun p5 H5 f5 s5 e5=>⟨.tuple [.str "broken",cW (dN x c st p cc)],.tuple [.str "broken",cW (dN x c st p cc)],At.tup (s5 _ _ e4) (aa.cons (At.str _) (aa.cons (At.lst (s5 _ _ ZD) (bu _)) aa.nil)),At.tup e5 (aa.cons (At.str _) (aa.cons (At.lst ((s2.trans (s3.trans (s4.trans s5))) _ _ hl) (bu _)) aa.nil)),?_,?_,?_,?_,?_,?_⟩⟩
   ·simp only[PyData.hasDict,PyData.hasDictAll,Bool.or_false,Bool.false_or]; exact d1
   ·simp only[PyData.hasDict,PyData.hasDictAll,Bool.or_false,Bool.false_or]; exact d1
   ·exact cl5 d2
   ·exact cl5 d2
   ·simp only[PyData.depth,PyData.depthAll]
    have:PyData.depth (cW (dN x c st p cc))=1:=dep
    omega
   ·have e:PyData.eqv (.tuple [.str "broken",cW (dN x c st p cc)]) (.tuple [.str "broken",cW (dN x c st p cc)])=true:=by
     have e1:PyData.eqv (cW (dN x c st p cc)) (cW (dN x c st p cc))=true:=by show PyData.eqvAll _ _=true; rw[mj]; simp
     simp only[PyData.eqv,PyData.eqvAll,e1,Bool.and_true]
     decide
    rw[e]
    exact q H5 (s2.trans (s3.trans (s4.trans s5)))
  ·walk_at "rd"
   refine⟨trivial,?_⟩
   rw[aK (by simp)]
   refine⟨l2,_,rfl,.inl (eV.of e2),?_⟩
   rw[hyl]
   simp only[EY]
   refine⟨_,rfl,?_⟩
   rw[aK (by decide)]
   refine⟨l,_,rfl,.inl (eV.of Zz),(by decide),fun p7 H7 f7 s7 e7=>?_⟩
   refine Ix.lst (s7 _ _ e2) ey ⟨r',_,rfl,.inl (eV.of (s7 _ _ er)),Ix.lst (s7 _ _ e2) ey ⟨(by decide),fun p8 H8 f8 s8 e8=>?_⟩⟩
   refine⟨p7,p8,l,r',_,_,dN x c st p cc,dN x c st bp bc,rfl,rfl,s8 _ _ e7,e8,s8 _ _ (s7 _ _ Zz),s8 _ _ (s7 _ _ er),_,rfl,?_⟩
   rw[HD,H_ D.hn B' Bk (rA haw Bk B'),aK (by decide)]
   exact hN H8 (s7.trans s8)
 | lbD j D0 D2 hj=>
  have hjn:j<n:=by
   have:=(nG.mp hj.1).1
   rw[cu,cg,D.hn] at this
   exact this
  have hm0:=(CZ (x:=x) (c:=c) (n:=n) Zt).1
  have hf0:=(CZ (x:=x) (c:=c) (n:=n) Zt).2
  have hp0:=N6 (x:=x) (c:=c) (st:=st) D.hn hjn
  obtain⟨mN,hmN⟩:∃mN:Nat,mW (az x c st n)=mN:=⟨(mW (az x c st n)).toNat,by omega⟩
  walk_at "rd"
  refine⟨trivial,?_⟩
  rw[aK (by simp)]
  refine⟨v,u,cv,x,st,c,mN+2,n,by rw[hmN]; rfl,a1,a2,a3,hx,hn,hs,hv,hW,D,by omega,fun l2 ds ys H2 s2 e2 L2 hd=>?_⟩
  have hyl:ys.length=ds.length:=by rw[L2.at'.length,cg]
  have Zz:=s2 _ _ hl
  have hle:ds.length<=mN:=by
   by_cases z:ds.length<=mN
   ·exact z
   ·exfalso
    have hne:ds≠[]:=fun y=>by rw[y] at z; simp at z
    obtain⟨r',bp,bc,ey,er,B'⟩:=L2.ref hne
    exact vI (Ad D2 (by omega)) B'
  have hgt:1<=j->ds.length=mN:=fun j1=>by
   rcases hd with hd | ⟨hd,_⟩
   ·omega
   ·by_cases z:ds.length=mN
    ·exact z
    ·exact absurd (Py (lim:=0) D.hn hj j1 (by omega) hd) id
  have hm1:1<=j->1<=mN:=fun j1=>by
   by_cases z:mN=0
   ·exfalso
    refine hj.2 0 (by omega) ?_
    rw[hf0]
    congr 1
    omega
   ·omega
  obtain⟨d1,d2,d3⟩:=iu (bC (az x c st n) n j)
  obtain⟨m1,m2,m3⟩:=C_ ds
  have D1:cH x c st (some (mW (az x c st n)+2)) 150 n:=Ad D2 (by omega)
  have D3:cH x c st (some 1000000000000) 150 n:=Ad D2 (by omega)
  have AL:∀H',aD H2 H'->At H' (cW (bC (az x c st n) n j)) (.ref l):=fun H' s'=>At.lst (s' _ _ Zz) (bu _)
  refine eN.on (fun H3 s3=>?_) fun N hN=>?_
  ·refine eN.on (fun H4 s4=>?_) fun N hN=>?_
   ·have Zi:=s2.trans (s3.trans s4)
    refine eN.on (fun H5 s5=>?_) fun N hN=>?_
    ·walk_at "rd"
     have Qy:=Zi.trans s5
     refine⟨⟨by decide,by decide,by decide⟩,v,u,cv,x,st,c,_,150,rfl,a1.mono Qy,a2.mono Qy,a3.mono Qy,hx,hn,hs,hv,by decide,by decide,fun hW'=>absurd hW (by omega),fun _ n' D' p3 l ws H3 s3 f3 e3 _ _=>?_,fun _ p' qZ B2=>?_,fun _ p' qZ M=>absurd (lY D M (.inl (by decide))) id⟩
     ·refine Ix.tup e3 (v:=.str "kept") rfl ?_
      simp only[Nf]
      exact q H3 (Qy.trans s3)
     ·rw[c12] at B2
      exact absurd (vI D3 B2) id
    ·walk_at "rd"
     refine⟨v,u,cv,x,st,c,_,150,rfl,a1.mono Zi,a2.mono Zi,a3.mono Zi,hx,hn,hs,hv,by decide,by decide,fun hW'=>absurd hW (by omega),fun _ n' D' p3 l ws H3 s3 f3 e3 _ _=>?_,fun _ p' qZ B2=>absurd (vI D1 B2) id,fun _ p' qZ M=>absurd (lY D M (.inl (by decide))) id⟩
     refine Ix.tup e3 (v:=.str "kept") rfl ?_
     simp only[M9]
     refine⟨_,rfl,?_⟩
     rw[aK (by decide)]
     exact hN H3 s3
   ·walk_at "rd"
    refine⟨(by decide),fun p6 H6 f6 s6 e6=>⟨_,_,AL H6 (s3.trans s6),At.lst e6 aa.nil,d1,(by decide),d2,(by decide),d3,?_⟩⟩
    rw[Di]
    by_cases hj0:j=0
    ·rw[aK (by simp[hp0.mpr hj0])]
     exact hN H6 s6
    ·rw[aM (by simp[mt hp0.mp hj0])]
     have hdl:=hgt (by omega)
     have hml:=hm1 (by omega)
     have hne:ds≠[]:=fun y=>by rw[y] at hdl; simp at hdl; omega
     obtain⟨r',bp,bc,ey,er,B'⟩:=L2.ref hne
     have eL:=KH D2 hj (by omega) (by omega) B'
     have XQ:=s3.trans s6
     refine⟨(by decide),fun p7 H7 f7 s7 e7=>⟨_,_,At.lst ((XQ.trans s7) _ _ e2) (L2.at'.mono (XQ.trans s7)),At.lst e7 aa.nil,m1,(by decide),m2,(by decide),m3,?_⟩⟩
     rw[show PyData.eqv (.list (ds.map cW)) (.list [])=decide (ds=[]) from zZ ds,aK (by simp[hne])]
     refine Ix.lst ((XQ.trans s7) _ _ e2) ey ⟨_,_,At.lst ((XQ.trans s7) _ _ er) (bu _),AL H7 (XQ.trans s7),?_,d1,?_,d2,?_,?_⟩
     ·rw[eL]; exact d1
     ·rw[eL]; exact d2
     ·rw[eL]; exact d3
     ·rw[eL,aK (by
       have:PyData.eqv (.list ((bC (az x c st n) n j).map .int)) (cW (bC (az x c st n) n j))=true:=by
        show PyData.eqvAll _ _=true
        rw[mj]; simp
       rw[this]; decide)]
      exact hN H7 (s6.trans s7)
  ·walk_at "rd"
   refine⟨trivial,?_⟩
   rw[aK (by simp)]
   refine⟨l2,_,rfl,.inl (eV.of e2),_,_,rfl,rfl,?_⟩
   rw[aK (by rw[fX (by omega)]; decide)]
   refine⟨(by decide),fun p6 H6 f6 s6 e6=>⟨_,_,AL H6 s6,At.lst e6 aa.nil,d1,(by decide),d2,(by decide),d3,?_⟩⟩
   rw[Di]
   by_cases hj0:j=0
   ·rw[aK (by simp[hp0.mpr hj0])]
    exact hN H6 s6
   ·rw[aM (by simp[mt hp0.mp hj0])]
    refine⟨l2,_,rfl,.inl (eV.of (s6 _ _ e2)),?_⟩
    simp only[EY]
    refine⟨_,rfl,?_⟩
    have hdl:=hgt (by omega)
    rw[aK (by simp; omega)]
    exact hN H6 s6
def G8 (K:PySem.W.Frag):Sp:=fun vs H Q _=>∃(p:Addr) (ns:List Int),vs=[.ref p]/\Qz K H p (ns.map V.int)/\ns.length<=63/\∀H',Q (.bl true) H'
theorem M6:aU ["_law_script","_law_cells","_law_k","_law_tape_here","_law_post","_law_stand","_law_curve_here","_law_least_here"] ["_law_script"] (aH uA):=(by walk_at "c")
theorem VH (F:iV K "law" "law" uA f fd) (B:Bi mg) (Gy:Ct P w K mg base k "_law_folded" ["_law_script","_law_many"] (MN K)) (Qe:Ct P w K mg base k "_law_tape" ["_law_script","_law_k"] (Mx K)) (vX:Ct P w K mg base k "_law_small_post" ["_law_tape_here"] GQ) (sX:Ct P w K mg base k "_law_small_stand" ["_law_tape_here","_law_post"] Bg) (Lb:Ct P w K mg base k "_law_curve" ["_law_tape_here"] G_) (La:Ct P w K mg base k "_law_least" ["_law_post","_law_stand","_law_curve_here"] MF) (K_:Ct P w K mg base k "_law_right" ["_law_post","_law_stand","_law_curve_here","_law_least_here"] Es):bM P w K mg base iz (k+1) f fd ["_law_script"] (G8 K):=by
 refine F.ok M6 (by rintro vs H Q E ⟨p,ns,rfl,_⟩; rfl) (fun cdv A outer s H vs Q E hr h=>?_)
 obtain⟨p,ns,rfl,hS,hl,q⟩:=h
 have ND:=M6.nd
 refine⟨_,(aq (bf (i:=1) ND rfl (by walk_at "o") (pf Gy hr (aj (pv 0) (aj ao ak)))) (aq (jW PassesOwn.never rfl (fu (by rfl) B.range (aj (pb (cQ (K:=K) rfl) B.len g_ (aj (pv 1) ak)) ak)) (aG (i:=2) ND rfl (by walk_at "o")) (aq (bf (i:=3) ND rfl (by walk_at "o") (pf Qe hr (aj (pv 1) (aj (pv 2) ak)))) (aq (bf (i:=4) ND rfl (by walk_at "o") (pf vX hr (aj (pv 3) ak))) (aq (zu (i:=5) (j:=6) rfl ND rfl rfl (by decide) rfl rfl (aj (pf sX hr (aj (pv 3) (aj (pv 4) ak))) (aj (pf Lb hr (aj (pv 3) ak)) ak)) (by rfl)) (aq (bf (i:=7) ND rfl (by walk_at "o") (pf La hr (aj (pv 4) (aj (pv 5) (aj (pv 6) ak))))) (aJ (dz (PW.pt (jV (aW tG (pv 7) cY (a_ _)) (i_ (Fi (qN (pf K_ hr (aj (pv 4) (aj (pv 5) (aj (pv 6) (aj (pv 7) ak)))))))))) (aJ (aR rP)) bO))))))) (aJ (aR rP)))),?_⟩
 walk_at "rd"
 refine⟨p,ns,rfl,hS,hl,fun pc cs H1 s1 e1 l1 l2=>?_⟩
 refine Ux (n:=cs.length) (fun R hR=>?_) (by omega) (fun i σ H'=>∃o2 o3 o4 o5 o6 o7:Option V,σ=[some (.ref p),some (.ref pc),o2,o3,o4,o5,o6,o7]/\H' pc=some (.lst (cs.map V.int))) ⟨_,_,_,_,_,_,rfl,e1⟩ ?_ ?_
 ·walk_at "rd"
  refine⟨pc,_,rfl,.inl (eV.of e1),?_⟩
  rw[cg]
  exact hR
 ·rintro i σ H2 hi ⟨o2,o3,o4,o5,o6,o7,rfl,e2⟩
  walk_at "rd"
  refine⟨pc,cs,_,rfl,eV.of e2,by omega,by omega,fun a H3 f3 s3 t3=>?_⟩
  have npc:pc≠a:=bN e2 f3
  refine⟨a,_,rfl,t3,by omega,fun p4 x H4 hx hxm b1 t4 s4=>⟨a,_,.ref p4,x,rfl,b1.mono dh,hx.l,t4,by omega,fun p5 st H5 hs hsw b2 t5 s5=>⟨a,_,rfl,t5,by omega,fun p6 c H6 hc hcb b3 t6 s6=>?_⟩⟩⟩
  have hW:bV c (c.map (·.1))<=23:=by
   have:=Om (m:=7) hc fun q hq=>by have:=hcb q hq; omega
   omega
  have g1:At H6 (g8 x) (.ref p4):=(b1.mono (s5.trans s6)).mono dh
  have g2:At H6 (jP st) (.ref p5):=(b2.mono s6).mono dh
  have g3:At H6 (Dt c) (.ref p6):=b3.mono dh
  have p7:H6 pc=some (.lst (cs.map V.int)):=s6.get npc (s5.get npc (s4.get npc (s3 _ _ e2)))
  have hxi:=hx.l.is
  have hxn:=Vs hx.l
  have Zt:0<=st.w:=hs.w.1
  have hm8:∀n,(az x c st n).length=n->mW (az x c st n)<=800:=fun n hn=>by
   have hne:az x c st n≠[]:=fun z=>by have:=z7 (x:=x) (cv:=c) (st:=st) n; rw[z] at this; simp at this
   obtain⟨e,he,hh⟩:=iR.mp (HR hne).1
   have:=(Yu (b:=14) hx.l hs.toW hsw (by omega) (by decide) n e he).2
   omega
  clear b1 b2 b3 t3 t4 t5 t6 s3 s4 s5 s6 e2
  walk_at "rd"
  have fin:∀(bv:V) (L:List Int) (n:Nat) (q' r:Addr) (H7:Hp),ZR x c st n bv L->(az x c st n).length=n->aD H6 H7->H7 q'=some (.tup [bv,.ref r])->H7 r=some (.lst (L.map V.int))->Es [V.ref p4,V.ref p5,V.ref p6,V.ref q'] H7
        (fun x_1 H1=>
         ∃c,
          x_1=V.bl c /\
           if(!c)=true then Q (V.bl false) H1
           else
            ∃o2 o3 o4 o5 o6 o7,
             [some (V.ref p),some (V.ref pc),some (V.int (0 + ↑i)),some (V.ref a),some (V.ref p4),
                some (V.ref p5),some (V.ref p6),some (V.ref q')] =
               [some (V.ref p),some (V.ref pc),o2,o3,o4,o5,o6,o7] /\
              H1 pc=some (HO.lst (List.map V.int cs))) E0:=fun bv L n q' r H7 T hn s7 e7 er=>by
   refine⟨_,_,_,bv,q',r,x,st,c,n,L,rfl,g1.mono s7,g2.mono s7,g3.mono s7,hxi,hxn,hs.is,hc,hW,Zt,hm8 n hn,e7,er,T,fun H8 s8=>⟨_,rfl,?_⟩⟩
   rw[aK (by decide)]
   exact⟨_,_,_,_,_,_,rfl,(s7.trans s8) _ _ p7⟩
  refine⟨_,_,rfl,_,_,_,x,st,c,rfl,g1,g2,g3,hxi,hxn,hs.is,hc,hW,fun n j q' r H7 D D2 hj s7 e7 er=>⟨trivial,?_⟩,fun n bp bc q' r H7 D Bk s7 e7 er=>⟨trivial,?_⟩,fun H7 s7=>⟨trivial,?_⟩⟩
  ·rw[aM (by simp)]
   rw[D.hn] at er
   exact fin _ _ n q' r H7 (.lbD n j D D2 hj) D.hn s7 e7 er
  ·rw[aM (by simp)]
   exact fin _ _ n q' r H7 (.lbB n bp bc D Bk) D.hn s7 e7 er
  ·rw[aK (by simp)]
   exact⟨_,_,_,_,_,_,rfl,s7 _ _ p7⟩
 ·rintro σ H2 ⟨o2,o3,o4,o5,o6,o7,rfl,e2⟩
  exact q H2
end
theorem Xf {us:List Value} {n:Nat} (h:us.length=n+1):∃a r,us=a::r/\r.length=n:=by
 cases us with
 | nil=>cases h
 | cons a r=>exact⟨a,r,rfl,Nat.succ.inj h⟩
theorem Tn {us:List Value} (h:us.length=1):∃a,us=[a]:=by
 obtain⟨a,r,rfl,g⟩:=Xf h
 cases Hs.mp g
 exact⟨a,rfl⟩
theorem LR {us:List Value} (h:us.length=2):∃a a0,us=[a,a0]:=by
 obtain⟨a,r,rfl,g⟩:=Xf h
 obtain⟨a0,rfl⟩:=Tn g
 exact⟨a,a0,rfl⟩
theorem Bb {us:List Value} (h:us.length=3):∃a a0 a1,us=[a,a0,a1]:=by
 obtain⟨a,r,rfl,g⟩:=Xf h
 obtain⟨a0,a1,rfl⟩:=LR g
 exact⟨a,a0,a1,rfl⟩
theorem Qx {us:List Value} (h:us.length=4):∃a a0 a1 a2,us=[a,a0,a1,a2]:=by
 obtain⟨a,r,rfl,g⟩:=Xf h
 obtain⟨a0,a1,a2,rfl⟩:=Bb g
 exact⟨a,a0,a1,a2,rfl⟩
theorem un5 {us:List Value} (h:us.length=5):∃a a0 a1 a2 a3,us=[a,a0,a1,a2,a3]:=by
 obtain⟨a,r,rfl,g⟩:=Xf h
 obtain⟨a0,a1,a2,a3,rfl⟩:=Qx g
 exact⟨a,a0,a1,a2,a3,rfl⟩
theorem all_mk {l:PySem.W.OpenLaw} {w:World} {K:PySem.W.Frag} {h:Heap} {mg:Str->Option Value} {fa:Addr} (X:K.In h) (G:h.Ns mainGlobals mg) (hfa:mg "law" = some (.ref fa))
  {f0:Addr} (e0:jx K "needed" uy f0)
  {f1:Addr} (e1:jx K "most_ahead" jQ f1)
  {f2:Addr} (e2:jx K "lean" Ew f2)
  {f3:Addr} (e3:jx K "lean_triple" ji f3)
  {f4:Addr} (e4:jx K "wish" Eu f4)
  {f5:Addr} (e5:jx K "rule_wish" lL f5)
  {f6:Addr} (e6:jx K "row_says" nP f6)
  {f7:Addr} (e7:jx K "hands_of" nR f7)
  {f8 T8:Addr} (e8:Tf K "beat" Ex f8 T8 12)
  {f9:Addr} (e9:jx K "since_and_look" gm f9)
  {YH:Addr} (e10:jx K "change_of" lN YH)
  {f11:Addr} (YQ:jx K "with_change" jf f11)
  {f12:Addr} (Wf:jx K "sent_home" lK f12)
  {YG:Addr} (Sw:jx K "bursts_of" lO YG)
  {ZC:Addr} (Sv:jx K "most_next" lM ZC)
  {f15:Addr} (Su:jx K "spares_left" jg f15)
  {f16 T16:Addr} (We:Tf K "led" M7 f16 T16 300)
  {f17 T17:Addr} (e17:Tf K "opened" ux f17 T17 300)
  {f18 T18:Addr} (e18:Tf K "least_bound" jh f18 T18 300)
  {f19:Addr} (e19:jx K "walked" uv f19)
  {f20:Addr} (e20:jx K "is_too_wide" jj f20)
  {f21:Addr} (e21:jx K "first_entry" jk f21)
  {f22:Addr} (e22:jx K "comes_next" jR f22)
  {f23:Addr} (e23:jx K "led_to" uz f23)
  {f24:Addr} (e24:jx K "breaks" uF f24)
  {f25:Addr} (e25:jx K "check_room" jT f25)
  {f26:Addr} (e26:jx K "load_to" qw f26)
  {f27:Addr} (e27:jx K "played" uw f27)
  {f28:Addr} (e28:jx K "after" zg f28)
  {f29:Addr} (e29:jx K "_law_tape" uD f29)
  {f30:Addr} (e30:jx K "_law_draw" uE f30)
  {f31:Addr} (e31:jx K "_law_folded" nQ f31)
  {f32:Addr} (e32:jx K "_law_row" zf f32)
  {f33:Addr} (e33:jx K "_law_small_post" iB f33)
  {f34:Addr} (e34:jx K "_law_small_stand" gU f34)
  {f35:Addr} (e35:jx K "_law_curve" qF f35)
  {f36:Addr} (WL:jx K "_law_least" qC f36)
  {f37:Addr} (e37:jx K "_law_load_right" iC f37)
  {f38:Addr} (e38:jx K "_law_loads" qz f38)
  {f39:Addr} (e39:jx K "_law_right" qy f39)
  {f40:Addr} (e40:jx K "law" uA f40)
  {aQ:Addr} (Jp:PySem.W.nsIn K mainGlobals "TooMany" = some (some (.ref aQ)))
  {aV:Addr} (Jo:PySem.W.nsIn K mainGlobals "TooWide" = some (some (.ref aV)))
  (yN:PySem.W.excIn K aQ U_ "ValueError.__new__" = true)
  (yM:PySem.W.excIn K aV U_ "ValueError.__new__" = true)
  (yP:PySem.W.exmOne K (.ref aQ) (.ref aQ)=some true)
  (yO:PySem.W.exmOne K (.ref aV) (.ref aV)=some true)
  (QF:Nb K "tuple")
  (W7:Nb K "max")
  (W6:Nb K "min")
  (Ba:Nb K "enumerate")
  (W3:Nb K "zip")
  (W4:Nb K "sum")
  (U7:Nb K "list")
  (Ea:Nb K "reversed")
  (QG:Nb K "range")
  (W8:Nb K "len")
  (W5:Nb K "set")
  (W_:Nb K "abs")
  (W9:Nb K "int")
  (yL:Nb K "isinstance")
  {Mf Ma L_:Tok} (RK:NT K "WHATS" [.str "come" Mf,.str "done" Ma,.str "wait" L_])
  (VP:wZ K "OVER" "over")
  (RL:wZ K "UNDER" "under")
  (VV:wZ K "EACH" "each")
  (zW:Ni K "MOST_HANDS" 12)
  (vd:Ni K "TRIPLES_SEEN" 3)
  (RM:Ni K "LIMIT" 300)
  (CQ:Ni K "MOST_COME" 23)
  (VR:wZ K "KEPT" "kept")
  (Oi:wZ K "BROKEN" "broken") :
  ∃fd:FuncData,(∀(s:Shared) (v:Value),BindsTo s fd ⟨[v],[]⟩ [("_law_script",v)])/\∀base:Heap,K.In base->base.Ns mainGlobals mg->bM l.prog w K mg base iz 11 fa fd ["_law_script"] (G8 K):=by
 obtain⟨h0⟩:=e0.has X G (ps:=["post"]) fun _ _ _ _ _ _ us hl=>by obtain⟨_,rfl⟩:=Tn hl; rfl
 obtain⟨h1⟩:=e1.has X G (ps:=["rows","what"]) fun _ _ _ _ _ _ us hl=>by obtain⟨_,_,rfl⟩:=LR hl; rfl
 obtain⟨h2⟩:=e2.has X G (ps:=["post","stand"]) fun _ _ _ _ _ _ us hl=>by obtain⟨_,_,rfl⟩:=LR hl; rfl
 obtain⟨h3⟩:=e3.has X G (ps:=["triple","place","wants"]) fun _ _ _ _ _ _ us hl=>by obtain⟨_,_,_,rfl⟩:=Bb hl; rfl
 obtain⟨h4⟩:=e4.has X G (ps:=["post","hands","newest"]) fun _ _ _ _ _ _ us hl=>by obtain⟨_,_,_,rfl⟩:=Bb hl; rfl
 obtain⟨h5⟩:=e5.has X G (ps:=["rule","hands","newest"]) fun _ _ _ _ _ _ us hl=>by obtain⟨_,_,_,rfl⟩:=Bb hl; rfl
 obtain⟨h6⟩:=e6.has X G (ps:=["row","hands","newest"]) fun _ _ _ _ _ _ us hl=>by obtain⟨_,_,_,rfl⟩:=Bb hl; rfl
 obtain⟨h7⟩:=e7.has X G (ps:=["stand"]) fun _ _ _ _ _ _ us hl=>by obtain⟨_,rfl⟩:=Tn hl; rfl
 obtain⟨h8⟩:=e8.has X G (ps:=["post","stand","come","free"]) (fun _ _ _ _ _ _ _ us hl=>by
  rw[kZ] at hl
  obtain⟨_,_,_,_,rfl⟩:=Qx hl
  exact⟨_,rfl,rfl⟩) fun _ _ _ _ _ _ _ us hl=>by
  obtain⟨_,_,_,rfl⟩:=Bb (Nat.succ.inj ((fj).symm.trans hl))
  exact⟨_,rfl,rfl⟩
 obtain⟨h9⟩:=e9.has X G (ps:=["post","since","rest"]) fun _ _ _ _ _ _ us hl=>by obtain⟨_,_,_,rfl⟩:=Bb hl; rfl
 obtain⟨h10⟩:=e10.has X G (ps:=["post","hands","newest","free"]) fun _ _ _ _ _ _ us hl=>by obtain⟨_,_,_,_,rfl⟩:=Qx hl; rfl
 obtain⟨h11⟩:=YQ.has X G (ps:=["post","stand","change"]) fun _ _ _ _ _ _ us hl=>by obtain⟨_,_,_,rfl⟩:=Bb hl; rfl
 obtain⟨h12⟩:=Wf.has X G (ps:=["ready","called","many"]) fun _ _ _ _ _ _ us hl=>by obtain⟨_,_,_,rfl⟩:=Bb hl; rfl
 obtain⟨h13⟩:=Sw.has X G (ps:=["curve"]) fun _ _ _ _ _ _ us hl=>by obtain⟨_,rfl⟩:=Tn hl; rfl
 obtain⟨h14⟩:=Sv.has X G (ps:=["curve","spare"]) fun _ _ _ _ _ _ us hl=>by obtain⟨_,_,rfl⟩:=LR hl; rfl
 obtain⟨h15⟩:=Su.has X G (ps:=["curve","spare","come"]) fun _ _ _ _ _ _ us hl=>by obtain⟨_,_,_,rfl⟩:=Bb hl; rfl
 obtain⟨h16⟩:=We.has X G (ps:=["post","stand","curve","limit"]) (fun _ _ _ _ _ _ _ us hl=>by
  rw[kZ] at hl
  obtain⟨_,_,_,_,rfl⟩:=Qx hl
  exact⟨_,rfl,rfl⟩) fun _ _ _ _ _ _ _ us hl=>by
  obtain⟨_,_,_,rfl⟩:=Bb (Nat.succ.inj ((fj).symm.trans hl))
  exact⟨_,rfl,rfl⟩
 obtain⟨h17⟩:=e17.has X G (ps:=["post","stand","curve","bound","limit"]) (fun _ _ _ _ _ _ _ us hl=>by
  rw[kZ] at hl
  obtain⟨_,_,_,_,_,rfl⟩:=un5 hl
  exact⟨_,rfl,rfl⟩) fun _ _ _ _ _ _ _ us hl=>by
  obtain⟨_,_,_,_,rfl⟩:=Qx (Nat.succ.inj ((fj).symm.trans hl))
  exact⟨_,rfl,rfl⟩
 obtain⟨h18⟩:=e18.has X G (ps:=["post","stand","curve","limit"]) (fun _ _ _ _ _ _ _ us hl=>by
  rw[kZ] at hl
  obtain⟨_,_,_,_,rfl⟩:=Qx hl
  exact⟨_,rfl,rfl⟩) fun _ _ _ _ _ _ _ us hl=>by
  obtain⟨_,_,_,rfl⟩:=Bb (Nat.succ.inj ((fj).symm.trans hl))
  exact⟨_,rfl,rfl⟩
 obtain⟨h19⟩:=e19.has X G (ps:=["post","stand","curve","bound","limit"]) fun _ _ _ _ _ _ us hl=>by obtain⟨_,_,_,_,_,rfl⟩:=un5 hl; rfl
 obtain⟨h20⟩:=e20.has X G (ps:=["curve"]) fun _ _ _ _ _ _ us hl=>by obtain⟨_,rfl⟩:=Tn hl; rfl
 obtain⟨h21⟩:=e21.has X G (ps:=["post","stand","curve"]) fun _ _ _ _ _ _ us hl=>by obtain⟨_,_,_,rfl⟩:=Bb hl; rfl
 obtain⟨h22⟩:=e22.has X G (ps:=["curve","entry"]) fun _ _ _ _ _ _ us hl=>by obtain⟨_,_,rfl⟩:=LR hl; rfl
 obtain⟨h23⟩:=e23.has X G (ps:=["post","curve","entry","come"]) fun _ _ _ _ _ _ us hl=>by obtain⟨_,_,_,_,rfl⟩:=Qx hl; rfl
 obtain⟨h24⟩:=e24.has X G (ps:=["bound","behind","away"]) fun _ _ _ _ _ _ us hl=>by obtain⟨_,_,_,rfl⟩:=Bb hl; rfl
 obtain⟨h25⟩:=e25.has X G (ps:=["entries","limit"]) fun _ _ _ _ _ _ us hl=>by obtain⟨_,_,rfl⟩:=LR hl; rfl
 obtain⟨h26⟩:=e26.has X G (ps:=["entries","place"]) fun _ _ _ _ _ _ us hl=>by obtain⟨_,_,rfl⟩:=LR hl; rfl
 obtain⟨h27⟩:=e27.has X G (ps:=["post","stand","load"]) fun _ _ _ _ _ _ us hl=>by obtain⟨_,_,_,rfl⟩:=Bb hl; rfl
 obtain⟨h28⟩:=e28.has X G (ps:=["post","stand","load"]) fun _ _ _ _ _ _ us hl=>by obtain⟨_,_,_,rfl⟩:=Bb hl; rfl
 obtain⟨h29⟩:=e29.has X G (ps:=["_law_script","_law_k"]) fun _ _ _ _ _ _ us hl=>by obtain⟨_,_,rfl⟩:=LR hl; rfl
 obtain⟨h30⟩:=e30.has X G (ps:=["_law_tape_here","_law_many"]) fun _ _ _ _ _ _ us hl=>by obtain⟨_,_,rfl⟩:=LR hl; rfl
 obtain⟨h31⟩:=e31.has X G (ps:=["_law_script","_law_many"]) fun _ _ _ _ _ _ us hl=>by obtain⟨_,_,rfl⟩:=LR hl; rfl
 obtain⟨h32⟩:=e32.has X G (ps:=["_law_tape_here"]) fun _ _ _ _ _ _ us hl=>by obtain⟨_,rfl⟩:=Tn hl; rfl
 obtain⟨h33⟩:=e33.has X G (ps:=["_law_tape_here"]) fun _ _ _ _ _ _ us hl=>by obtain⟨_,rfl⟩:=Tn hl; rfl
 obtain⟨h34⟩:=e34.has X G (ps:=["_law_tape_here","_law_post"]) fun _ _ _ _ _ _ us hl=>by obtain⟨_,_,rfl⟩:=LR hl; rfl
 obtain⟨h35⟩:=e35.has X G (ps:=["_law_tape_here"]) fun _ _ _ _ _ _ us hl=>by obtain⟨_,rfl⟩:=Tn hl; rfl
 obtain⟨h36⟩:=WL.has X G (ps:=["_law_post","_law_stand","_law_curve_here"]) fun _ _ _ _ _ _ us hl=>by obtain⟨_,_,_,rfl⟩:=Bb hl; rfl
 obtain⟨h37⟩:=e37.has X G (ps:=["_law_post","_law_stand","_law_load","_law_bound"]) fun _ _ _ _ _ _ us hl=>by obtain⟨_,_,_,_,rfl⟩:=Qx hl; rfl
 obtain⟨h38⟩:=e38.has X G (ps:=["_law_post","_law_stand","_law_curve_here","_law_most"]) fun _ _ _ _ _ _ us hl=>by obtain⟨_,_,_,_,rfl⟩:=Qx hl; rfl
 obtain⟨h39⟩:=e39.has X G (ps:=["_law_post","_law_stand","_law_curve_here","_law_least_here"]) fun _ _ _ _ _ _ us hl=>by obtain⟨_,_,_,_,rfl⟩:=Qx hl; rfl
 have B:Bi mg:=⟨PySem.W.mg_none_of X G QF,PySem.W.mg_none_of X G W7,PySem.W.mg_none_of X G W6,PySem.W.mg_none_of X G Ba,PySem.W.mg_none_of X G W3,PySem.W.mg_none_of X G W4,PySem.W.mg_none_of X G U7,PySem.W.mg_none_of X G Ea,PySem.W.mg_none_of X G QG,PySem.W.mg_none_of X G W8,PySem.W.mg_none_of X G W5,PySem.W.mg_none_of X G W_,PySem.W.mg_none_of X G W9,PySem.W.mg_none_of X G yL⟩
 have O:Co K mg:=⟨(let ⟨a,n,_,z,m⟩:=RK; ⟨a,PySem.W.mg_of X G z,⟨_,m,rfl,rfl⟩,fun H=>.inr ⟨_,_,n,m,rfl,rfl,(by show 3<=sizeLine; decide),(.cons ⟨_,rfl⟩ (.cons ⟨_,rfl⟩ (.cons ⟨_,rfl⟩ .nil)))⟩⟩),VP.gs X G,RL.gs X G,VV.gs X G,zW.gi X G,vd.gi X G,RM.gi X G,CQ.gi X G,VR.gs X G,Oi.gs X G⟩
 have Z:ZL K mg aQ aV:=⟨PySem.W.mg_of X G Jp,PySem.W.mg_of X G Jo,yN,yM,yP,yO⟩
 obtain⟨oc,od,an,sl,kV,dc,pm,cd,ct,ea,el,ec,ek0⟩:=e40
 have e:=hfa.symm.trans (PySem.W.mg_of X G ea)
 cases e
 refine⟨PySem.W.fnOf "law" "law" (dF uA) (cN uA) (aH uA) .none kV dc pm an cd ct,fun s v=>.of_eq rfl,fun base _ _=>?_⟩
 have F:=Pk (st:=uA) el ec ek0
 have wU:=h31.ct l.prog w base (Cz (k:=0) h31.F B)
 have Dz:=h29.ct l.prog w base (Ka (k:=0) h29.F B)
 have jd:=h30.ct l.prog w base (Kc (k:=0) h30.F B)
 have Gz:=h32.ct l.prog w base (Oc (k:=1) h32.F B (jd.mono (by decide)))
 have pZ:=h33.ct l.prog w base (sS (k:=2) h33.F B (jd.mono (by decide)) (Gz.mono (by decide)))
 have oN:=h34.ct l.prog w base (qT (k:=1) h34.F B (jd.mono (by decide)))
 have An:=h35.ct l.prog w base (FN (k:=1) h35.F B (jd.mono (by decide)))
 have fC:=h14.ct l.prog w base (zQ (k:=0) h14.F B)
 have fD:=h13.ct l.prog w base (zT (k:=0) h13.F B)
 have ju:=h20.ct l.prog w base (uW (k:=1) h20.F O (fC.mono (by decide)) (fD.mono (by decide)))
 have kh:=h1.ct l.prog w base (wL (k:=0) h1.F B)
 have vV:=h0.ct l.prog w base (J9 (k:=1) h0.F B O (kh.mono (by decide)))
 have jt:=h3.ct l.prog w base (uV (k:=0) h3.F B)
 have rm:=h2.ct l.prog w base (RB (k:=2) h2.F B (vV.mono (by decide)) (jt.mono (by decide)))
 have jw:=h21.ct l.prog w base (uX (k:=3) h21.F (rm.mono (by decide)) (fD.mono (by decide)))
 have kj:=h22.ct l.prog w base (wM (k:=1) h22.F B (fC.mono (by decide)))
 have gF:=h9.ct l.prog w base (pJ (k:=0) h9.F)
 have oK:=h6.ct l.prog w base (Cy (k:=0) h6.F B O)
 have mJ:=h5.ct l.prog w base (zP (k:=1) h5.F (oK.mono (by decide)))
 have Gx:=h4.ct l.prog w base (Rz (k:=2) h4.F B (mJ.mono (by decide)))
 have mK:=h10.ct l.prog w base (zR (k:=3) h10.F B (Gx.mono (by decide)))
 have oM:=h7.ct l.prog w base (CG (k:=0) h7.F B)
 have mH:=h12.ct l.prog w base (zO (k:=0) h12.F B)
 have jo:=h11.ct l.prog w base (uR (k:=1) h11.F B (mH.mono (by decide)))
 have kE:=h8.ct l.prog w base (RC (k:=4) h8.F B O (gF.mono (by decide)) (mK.mono (by decide)) (oM.mono (by decide)) (jo.mono (by decide)))
 have jq:=h15.ct l.prog w base (uT (k:=0) h15.F B)
 have vW:=h23.ct l.prog w base (J_ (k:=5) h23.F (rm.mono (by decide)) (kE.mono (by decide)) (jq.mono (by decide)))
 have vZ:=h24.ct l.prog w base (Kd (k:=0) h24.F)
 have km:=h25.ctE l.prog w base (wN (k:=0) h25.F B Z)
 have iy:=h26.ct l.prog w base (Fx (k:=0) h26.F)
 have jN:=h19.ctE l.prog w base (J6 (k:=6) h19.F B O Z (ju.mono (by decide)) (jw.mono (by decide)) (kj.mono (by decide)) (vW.mono (by decide)) (vZ.mono (by decide)) (km.mono (by decide)) (iy.mono (by decide)))
 have Qd:=h16.ctF l.prog w base (VG (k:=7) h16.F (jN.mono (by decide)))
 have dM:=h17.ctF l.prog w base (J8 (k:=7) h17.F O (jN.mono (by decide)))
 have jr:=h18.ctF l.prog w base (uU (k:=8) h18.F B O (Qd.mono (by decide)) (dM.mono (by decide)) (iy.mono (by decide)))
 have Am:=h36.ct l.prog w base (FJ (k:=9) h36.F B Z (jr.mono (by decide)))
 have mY:=h28.ct l.prog w base (Oe (k:=5) h28.F B (kE.mono (by decide)))
 have vU:=h27.ct l.prog w base (J7 (k:=5) h27.F B (kE.mono (by decide)))
 have p_:=h37.ct l.prog w base (sU (k:=6) h37.F B (mY.mono (by decide)) (vU.mono (by decide)))
 have Al:=h38.ct l.prog w base (Fz (k:=8) h38.F B (dM.mono (by decide)) (mY.mono (by decide)) (p_.mono (by decide)))
 have Ak:=h39.ct l.prog w base (Fy (k:=9) h39.F B (dM.mono (by decide)) (Al.mono (by decide)))
 exact VH (k:=10) F B (wU.mono (by decide)) (Dz.mono (by decide)) (pZ.mono (by decide)) (oN.mono (by decide)) (An.mono (by decide)) (Am.mono (by decide)) (Ak.mono (by decide))
theorem walk {l:PySem.W.OpenLaw} {q:Program} {loose:List Str} {XP:(Str->Option Value)->Heap->Prop} {YP:World->Heap->Prop} {d:DefRec} {K:Params->PySem.W.Frag} (hn:l.most=some 63) (hdf:d.params.defaults=[])
  (hY:∀(w:World) (h:Heap),YP w h->(K w.params).In h)
  (F:∀(w:World) (mg:Str->Option Value) (fa:Addr) (h:Heap),(K w.params).In h->h.Ns mainGlobals mg->mg d.name=some (.ref fa) ->
   ∃fd:FuncData,(∀(s:Shared) (u:Value),BindsTo s fd ⟨[u],[]⟩ [("_law_script",u)])/\∀base:Heap,(K w.params).In base->base.Ns mainGlobals mg->bM l.prog w (K w.params) mg base iz 11 fa fd ["_law_script"] (G8 (K w.params))) :
  PySem.W.WalkO q loose XP YP l.row.toRowW d [] (fun f vs=>PySem.call f vs):=
 L2.QM (n:=63) (k:=11) (x:="_law_script") (CX:=fun _=>iz) (sp:=fun w=>G8 (K w.params)) hn (by decide) hdf ⟨rfl,by decide,by decide,rfl⟩ hY F (fun _ _ a ns hl hO hS=>⟨a,ns,rfl,Qz.of hS hO,hl,fun _=>rfl⟩) fun _ _ _ _ _ z=>z
end K47
structure PySem.W.Fast:Prop where(tw7837898592685920577 tw18387412831719122952 tw8232335510713560999 tw2915751153439708665 tw3739055041081990122 tw4958414435053087905 tw15262553042986034874 tw13565138135546712283 tw621724710486826810 tw13510330001388669078 tw5832289406735569515 tw3550743902701183650 tw9784795621510590025 tw3166604401707075378 tw15744210021234611506 tw11116782196510254760 tw7082749871307468522 tw4133344845990203755 tw1881634325290100401 tw3639360549293605992 tw8774542597681795900 tw9269580634036535958 tw16458987706325347 tw2067276579653644312 tw15039158265548269458 tw15041025466789693339 tw8032332130062214403 tw10704634943567677326 tw17675267950348302813 tw5666661027940928000 tw900504221762449235 tw4664670031028681647 tw6609358598231468047 tw1682235056770746744 tw11117935692523023462 tw9205792586965648539 tw9431216761227695053 tw10056759643739264752 tw6638049181371081650 tw15469618914163769143 tw2411819503432380498 tw5344331584779326977 tw15467913059657780784 tw3979672237091044513 tw12717559439504903520 tw3271950072648079006 tw1427737451039065437 tw14830333383401696787 tw16577142473724616659 tw13853080488296864387 tw15412024537830692615 tw4364662685252193822 tw14469287579387141627 tw10406348582815481357 tw15356355153851738201 tw11786320179869197338 tw5931857407576878594 tw10368297334712396023 tw6619345813339227881 tw6546617969746322786 tw11247878405803351646 tw4783901880593809438 tw2501894221193675752 tw6416718676552929027 tw10394961019807917334 tw14069298654460681497 tw6082482415242837369 tw10483599776672520360 tw9476442169707774609 tw5831007069648563742 tw15438104855198669306 tw10925023631459911112 tw6952626716633520281 tw15400015004424266489 tw12582229299394912032 tw4945650382180834714 tw5673607104253187785 tw16412571482600449803 tw16712315864998383567 tw6360135005671497626 tw7193521979586918792 tw14730029414250985216 tw1900120654815733764 tw1761541965356633267 tw5978916656698292239 tw6487563025631555662 tw10515852099730037325 tw2616627353795034512 tw5398169137302249671 tw17233814374362251660 tw3321957716945120976 tw3175123321533815104 tw15461528832284569117 tw8911618654204992755 tw10738748682759501957 tw18310209076551815389 tw1962188338227394281 tw10027389995699769113 tw9404703809734599351 tw11792777697332720678 tw1492382139535882566 tw8521576152980923405 tw6160556758126419998 tw4461210182146145866 tw9291582136309892243 tw944137290256103914 tw7461834518142848172 tw14732368182789871473 tw6254839986810529485 tw5018272101802272455 tw7562367294855156825 tw5117675824767586648 tw9626064660683455592 tw8973408958547793855 tw3207037271890023616 tw2721970662815009834 tw1737008471879150496 tw4093509715347555634 tw11043757881641490771 tw536812544082607192 tw14804064949986614971 tw4021059632747362969 tw5617008182408555723 tw3648330849389503751 tw6846605188948188787 tw12705804899033092845 tw6206832463023880347 tw16995994108557877098 tw15214063701135912333 tw16015394495349438113 tw6833017787453585314 tw8853492260869259880 tw1205584899443239154 tw14038452760677709857 tw17203282251152936136 tw6174960729403623312 tw18181209141296912022 tw9601330190879907541 tw10534981400670829425 tw15265665165228254335 tw17294232791829846971 tw6711893147711431185 tw16570315217635764740 tw14040237407711602202 tw8076745785948298496 tw7912963273320652680 tw14551369556076466728 tw16863986909228833645 tw4866694227505206971 tw7446330339480830375 tw6504388014845404331 tw16552228941192962599 tw16217503933602527433 tw5425147541151127784 tw7829449389433989439 tw2713935933165022260 tw3784925499251600327 tw6301083667246517625 tw135452380956705478 tw3997847814221199606 tw17530643349316088393 tw14932116401975272693 tw3105539998207491296 tw17987100891490058923 tw11382438957186874506 tw6688484961408410535 tw9390301856629165625 tw2852150807643815435 tw4128513042016552539 tw17614474298697769085 tw17165883766391954860 tw3903960841779987362 tw7976044595711477187 tw3660678502901007804 tw9540031062767706326 tw4215290238239942582 tw11029174521386044492 tw10598133700223726491 tw7343491718004464208 tw13934029058714657774 tw3721461411339853642 tw14118439612305705453 tw11347780239536443106 tw4426101455291301949 tw14222613072191879821 tw10514385429214261619 tw1868887232790762110 tw8730890393183324964 tw16562054929951660954 tw16501763414056100285 tw13046037432602165308 tw15802513813180315460 tw1819967512374448463 tw17132880679044382057 tw11284187853815914555 tw7612374151554103413 tw9807082006387155339 tw9168389153807464375 tw13685033919986742338 tw6038329596158632083 tw3295973570983201578 tw5752277130235060429 tw634532106996077798 tw4741886544232104434 tw5025454633296915508 tw18344469721996772840 tw5613485117207163966 tw11612467952828110301 tw17230554005162552093 tw16516207604594255944 tw18202813531657828633 tw11297479932761359437 tw3238620993769362158 tw17109854064323988804 tw18427472449716239271 tw6090213055115219062 tw17867819437268915309 tw15483259664689309653 tw10377254037366224059 tw10287169128059853600 tw8478901363986014379 tw742802406148468711 tw7349884362847295845 tw3668837672737901970 tw9328056770832514230 tw1617159877981666854 tw608753549266193985 tw6747774255141056467 tw13047603621764969891 tw7539728037464304082 tw13927828957718129377 tw9133737828841357943 tw9644105598537496530 tw7758117509697202970 tw4784768662712354540 tw5084974998175552740 tw12824539840943386011 tw11842798977724057238 tw8194777290075986636 tw16396700662878716088 tw17615064580601482085 tw10032180006346685450 tw4347359802834776611 tw8973243771725147652 tw257167813493932208 tw7124388021024613366 tw3894271131127461083 tw335640361490646750 tw10966836609445705679 tw15371339875118281244 tw17877376561957061887 tw13394422998427345627 tw7293497323477400574 tw3259135577265801150 tw9894334524350821774 tw11012630631071064839 tw15548445808211871171 tw8955818378048135271 tw14934638721811975224 tw5258732644279156800 tw12556333177431753302 tw11991032238110614363 tw10051277105651258447 tw1033448312531008746 tw2845998337985286158 tw8792745200909299649 tw6283694272341551550 tw7689443442064674637 tw17414460927358393166 tw9770799972981529154 tw6247159053887380517 tw16216644709804597129 tw11713870918701951556 tw15793259216253542299 tw12549008459786051395 tw16348574475648454252 tw3150074889975026418 tw9349153901479189785 tw12825306010554153101 tw11236580902568506395 tw6036958785211039580 tw9659690902431012069 tw6308583542752723645 tw11734440123133691109 tw586545745314805477 tw15098895909516060058 tw16649725699978541756 tw8723689527759021218 tw6899530732269051391 tw12254032462287542375 tw14109569854587722361 tw13155129096274188 tw10445499328845175580:True)
open PySem PySem.W PyProof.Rows
local macro_rules | `(tactic| walk_at "fd")=>`(tactic| (refine' L2.Tf.mk ?a ?b ?c ?d ?e; (case a=>k_is); (case b=>k_is); (case c=>k_is); (case d=>k_is); (case e=>k_is)))
local macro_rules | `(tactic| walk_at "fn")=>`(tactic| (refine' L2.jx.mk ?a ?b ?c ?d; (case a=>k_is); (case b=>k_is); (case c=>k_is); (case d=>k_is)))
local macro_rules | `(tactic| walk_at "nb")=>`(tactic| (unfold L2.Nb; k_is))
local macro_rules | `(tactic| walk_at "ni")=>`(tactic| (refine' L2.Ni.mk ?a; (case a=>k_is)))
local macro_rules | `(tactic| walk_at "ns")=>`(tactic| (refine' L2.wZ.mk ?a; (case a=>k_is)))
local macro_rules | `(tactic| walk_at "nt")=>`(tactic| (refine' L2.NT.mk ?a ?b; (case a=>k_is); (case b=>k_is)))
set_option maxRecDepth 100000 in
set_option maxHeartbeats 0 in
theorem PySem.Challenge.cw_waithands_k47_loads_that_break_rise_holds : PySem.Challenge.rw_waithands_k47_loads_that_break_rise.Holds := by
 w_on; o_law; k_head; (case hw=>w_witness2)
 k_fill
 refine K47.walk (l:=PySem.Challenge.rw_waithands_k47_loads_that_break_rise) rfl rfl (fun w h Y=>PySem.W.kIn_of Y) ?F
 case F=>
  intro w mg fa h KX G hmg
  refine' K47.all_mk KX G hmg ?e0 ?e1 ?e2 ?e3 ?e4 ?e5 ?e6 ?e7 ?e8 ?e9 ?e10 ?YQ ?Wf ?Sw ?Sv ?Su ?We ?e17 ?e18 ?e19 ?e20 ?e21 ?e22 ?e23 ?e24 ?e25 ?e26 ?e27 ?e28 ?e29 ?e30 ?e31 ?e32 ?e33 ?e34 ?e35 ?WL ?e37 ?e38 ?e39 ?e40 ?e41 ?e42 ?e43 ?e44 ?e45 ?e46 ?e47 ?e48 ?e49 ?e50 ?e51 ?e52 ?e53 ?e54 ?e55 ?e56 ?e57 ?e58 ?e59 ?e60 ?e61 ?e62 ?e63 ?e64 ?e65 ?e66 ?e67 ?e68 ?e69 ?e70
  case e0 | e1 | e2 | e3 | e4 | e5 | e6 | e7=>walk_at "fn"
  case e8=>walk_at "fd"
  case e9 | e10 | YQ | Wf | Sw | Sv | Su=>walk_at "fn"
  case We | e17 | e18=>walk_at "fd"
  case e19 | e20 | e21 | e22 | e23 | e24 | e25 | e26 | e27 | e28 | e29 | e30 | e31 | e32 | e33 | e34 | e35 | WL | e37 | e38 | e39 | e40=>walk_at "fn"
  case e41 | e42=>k_is
  case e43 | e44=>k_exc
  case e45 | e46=>kts_exm
  case e47 | e48 | e49 | e50 | e51 | e52 | e53 | e54 | e55 | e56 | e57 | e58 | e59 | e60=>walk_at "nb"
  case e61=>walk_at "nt"
  case e62 | e63 | e64=>walk_at "ns"
  case e65 | e66 | e67 | e68=>walk_at "ni"
  case e69 | e70=>walk_at "ns"
